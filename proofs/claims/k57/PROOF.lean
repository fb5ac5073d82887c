import PyProof.Rows.All
import Wide.All
import OpenK.AllK
import Wide.FinOn
import Lean
import PyProof.EqAt
import PyProof.EqKinds
import PyProof.TupleCall
import PyProof.NeKinds
import PySem.Challenge.RW_pressluck_k57_whole_all_states
set_option Elab.async false
set_option linter.all false
set_option maxRecDepth 100000
set_option compiler.extract_closed false
local macro_rules | `(∅) => `(by exact of_decide_eq_true (by kernel_rfl))
open List renaming length_map->aak,getElem?_map->aal,map_cons->aan,length_append->aaq,mem_of_getElem?->aar,getElem?_eq_getElem->aat,mem_cons_of_mem->aau,map_append->aaw,size_toArray->aax,mem_cons_self->aaz,take_of_length_le->aaA,length_cons->aaB,take_add_one->aaG,length_singleton->aaH,lookup_cons->aaL,map_map->aaM,append_nil->aaN,map_nil->aaO,length_set->aaP,find?_cons->aaQ,mem_cons->aaR,mem_append_right->aaV,length_nil->aaW,length_take->aa1,getElem?_eq_none->aa3,foldl_append->aa4,getElem?_append_left->aa5,getD_eq_getElem?_getD->aa6,sum_cons->aa7,lookup_cons_self->aa8,not_mem_nil->aa9,getElem?_append_right->aba,set_cons_zero->abb,set_cons_succ->abc,filterMap_cons->abd,length_replicate->abe,replicate_succ->abf,getElem?_eq_some_iff->abn,mem_map->abo,mem_singleton->abp,replicate->abu
open Nat renaming le_refl->aam,zero_le->aap,ne_of_lt->aas,le_trans->aay,lt_of_lt_of_le->aaC,lt_irrefl->aaK,lt_trans->aaT,zero_add->aaY,lt_succ_self->aaZ
open PySem.W renaming mg_of->aao,mg_none_of->aaU,kia_one->aa0,Frag->abg,keepIn->abh,codeIn->abi,fnOf->abj,nsIn->abk,findIn->abl
open PySem renaming boot_len->aav,mem_of_lookup->aa2,Str.ofString->aaj,Heap.get?_push_of_some->abq,Heap.get?_push_size->abr,Heap.lt_size->abt
open PySem.F renaming plainAttrs_list->aaD,slot_list_append->aaI,type_list_append->aaJ
open Option.some renaming inj->aaE
open Bool renaming false_ne_true->aaF,and_eq_true->aaX
open Int renaming toNat_natCast->aaS
open Option renaming map_eq_some_iff->abm
namespace Hd
open PySem PySem.W PyProof.Rows
noncomputable def Ah (ok:Thread->Bool) (st:SharedT->Thread->Option (SharedT×Thread)) (n:Nat):SharedT->Thread->Option SharedT:=
 @Nat.rec (λ_=>SharedT->Thread->Option SharedT) (λ_ _=>none)
  (λ_ ih s t=>@Bool.rec (λ_=>Option SharedT) (@Bool.rec (λ_=>Option SharedT) none (@Option.rec (SharedT×Thread) (λ_=>Option SharedT) none (λr=>@Prod.rec _ _ (λ_=>Option SharedT) (λa b=>ih a b) r) (st s t)) (ok t)) (some s) (through t)) n
theorem rG {tb:String->Option Builtin} {p:Program} {w:World} {n₀:Nat} {ann:Option Value}:∀(n:Nat) (s:SharedT) (t:Thread) (s':SharedT),Ah (stepOk n₀ ann) (stepT (denote tb) p w) n s t=some s'->topRun tb p w n₀ ann n s.abs t=some s'.abs
 | 0,_,_,_,h=>by cases h
 | n+1,s,t,s',h=>by
  unfold topRun
  replace h:@Bool.rec (λ_=>Option SharedT) (@Bool.rec (λ_=>Option SharedT) none (@Option.rec (SharedT×Thread) (λ_=>Option SharedT) none (λr=>@Prod.rec _ _ (λ_=>Option SharedT) (λa b=>Ah (stepOk n₀ ann) (stepT (denote tb) p w) n a b) r) (stepT (denote tb) p w s t)) (stepOk n₀ ann t)) (some s) (through t)=some s':=h
  cases ht:through t with
  | true=>rw[ht] at h;cases h;rfl
  | false=>
   rw[ht] at h;cases hk:stepOk n₀ ann t with
   | false=>rw[hk] at h;cases h
   | true=>
    rw[hk] at h;cases hs:stepT (denote tb) p w s t with
    | none=>rw[hs] at h;cases h
    | some r=>obtain⟨s₂,t₂⟩:=r;rw[hs] at h;rw[stepT_spec hs];exact rG n s₂ t₂ s' h
noncomputable def bt (P:Params):BT:=((boot_heap P).objs.toList.foldl (fun(x:BT×Nat) o=>(x.1.ins x.2 o,x.2+1)) (.nil,0)).1
noncomputable def CJ (w:World) (os:OsState):SharedT:=⟨bt w.params,11,{},Array.mk [],boot_drawn,boot_toks,os⟩
theorem Bl (w:World) (os:OsState):(CJ w os).abs=⟨boot_heap w.params,Array.mk [],boot_drawn,boot_toks,os⟩:=by kernel_rfl
theorem yH (w:World):((boot_heap w.params).isNs mainGlobals && (Array.mk []:Array GenState).size==0,(boot_heap w.params).objs.size,(boot_heap w.params).nsMap mainGlobals "__annotations__")=(true,11,some (.ref 6)):=by kernel_rfl
theorem CK {p q:Program} {loose:List Str} {Xt:Shared->Bool} {α:Type} {Yf:Shared->α} {Ya:World->α} {N:Nat} {g0:Bool}
  (LI:∀w:World,(fencedOpening treeTable p w N).map (λs=>(s.heap,s.gens,s.drawn,s.toks))=some (boot_heap w.params,Array.mk [],boot_drawn,boot_toks))
  (run:∀(w:World) (os:OsState),(Ah (stepOk 11 (some (.ref 6))) (stepT (denote treeTable) p w) N (CJ w os) (topStub p)).map (λs=>((staticsOk (importedModules p.main.body) (boot_heap w.params) s.abs.heap && namesBound p s.abs.heap && gensDone s.abs && laidKept (boot_heap w.params) s.abs.heap),openSeen q loose (importedModules p.main.body) Xt g0 s.abs,Yf s.abs))=some (true,openGood q loose,Ya w)):
  LeftO p q loose Xt Yf Ya N g0:=λw=>by
 obtain⟨⟨h,gs,d,k,os⟩,e,e'⟩:=abm.mp (LI w);obtain⟨rfl,rfl,rfl,rfl⟩:h=boot_heap w.params/\gs=Array.mk []/\d=boot_drawn/\k=boot_toks:=by simpa using e'
 obtain⟨z1,z2,z3⟩:_/\_/\_:=by simpa only[Prod.mk.injEq] using yH w
 obtain⟨s,r,l⟩:=abm.mp (run w os);obtain⟨l1,l2,l3⟩:_/\_/\_:=by simpa only[Prod.mk.injEq] using l
 have r:=rG _ _ _ _ r;rw[Bl] at r;have t:topFrom treeTable p w N ⟨boot_heap w.params,Array.mk [],boot_drawn,boot_toks,os⟩=some s.abs:=by
  unfold topFrom;dsimp only;rw[z1,z2,z3,r]
  show(match staticsOk (importedModules p.main.body) (boot_heap w.params) s.abs.heap && namesBound p s.abs.heap && gensDone s.abs && laidKept (boot_heap w.params) s.abs.heap with | true=>_ | false=>_)=_
  rw[l1]
 unfold openEnds;rw[e]
 show((topFrom treeTable p w N ⟨boot_heap w.params,Array.mk [],boot_drawn,boot_toks,os⟩)).map _=_
 rw[t];show some (_,_)=_;rw[l2,l3]
noncomputable def Runs (p q:Program) (loose:List Str) (Xt:Shared->Bool) {α:Type} (Yf:Shared->α) (Ya:World->α) (N:Nat) (g0:Bool) (w:World):Prop:=
 ∀os:OsState,(Ah (PySem.W.Fast.tw6613529449190102663 11 (some (.ref 6))) (PySem.W.Fast.tw10156331382660048174 (PySem.W.Fast.tw11892475500146522536 PySem.W.Fast.tw14364793385576792824) p w) N (CJ w os) (topStub p)).map (λs=>((staticsOk (importedModules p.main.body) (boot_heap w.params) s.abs.heap && namesBound p s.abs.heap && gensDone s.abs && laidKept (boot_heap w.params) s.abs.heap),PySem.W.Fast.tw4187177175401517315 q loose (importedModules p.main.body) Xt g0 s.abs,Yf s.abs))=some (true,openGood q loose,Ya w)
theorem Bm {p q:Program} {loose:List Str} {Xt:Shared->Bool} {α:Type} {Yf:Shared->α} {Ya:World->α} {N:Nat} {g0:Bool}
  (e:opening p=plainProg p.main.scope.names) (hN:Nat.ble 600 N=true) (f:∀s,fenceModules? p s=some s)
  (run:∀w:World,Runs p q loose Xt Yf Ya N g0 w):
  LeftO p q loose Xt Yf Ya N g0:=by
 refine CK (boot_open e hN f) ?_;unfold Runs at run;rw[PySem.W.Fast.te6613529449190102663,PySem.W.Fast.te10156331382660048174,PySem.W.Fast.te11892475500146522536,PySem.W.Fast.te14364793385576792824,PySem.W.Fast.te4187177175401517315];exact run
end Hd
namespace K57
open PySem PySem.Spec PyProof.Rows
noncomputable def top (i:Nat):Stmt:=PySem.Challenge.pw_pressluck_k57_whole_all_states.main.body.getD i (.Pass ⟨0,0,0,0⟩)
end K57
section PU
open PySem PySem.W PyProof.Rows
local macro_rules | `(tactic| o_head $H) => `(tactic| (refine (fun (_ : PySem.W.Hook) => ?_) $H; assumption))
theorem K57.pre (h:PySem.W.OpenRow.Holds (PySem.W.OpenLaw.row PySem.Challenge.rw_pressluck_k57_whole_all_states)):PySem.W.OpenRow.Holds (PySem.W.OpenLaw.row PySem.Challenge.rw_pressluck_k57_whole_all_states):=by
 k_head
noncomputable def K57.Hz:List Addr:=[2,3,15,22,23,24,25,28,35,36,37,40,47,48,49,52,59,60,61,64,71,72,73,76,78,79,81,82,83,85,86,88,89,90,92,93,95,96,97,100,101,102,104,105,107,108,109,112,113,114,117,118,119,121,122,124,125,126,128,129,131,132,133,135,136,138,139,140,142,143,145,146,147,149,150,152,153,154,157,158,159,162,163,164,167,168,169,171,172,174,175,176,179,180,181,183,184,186,187,188,191,192,193,196,197,198,201,202,203,206,207,208,210,211,213,214,222,224,225,227,228,229,231,232,234,235,236,238,239,241,242,243,245,246,248,249,250,252,253,255,256,257,259,260,262,263,264,266,267,269,270,271,274,275,276,278,279,281,282,283,285,286,288,289,290,293,294,295,298,299,300,302,303,305,306,307,308,309,310,311,321,323,324,326,327,328,330,331,333,334,335,336,337,338,339,342,344,345,347,348,349,352,353,354,356,357,359,360,361,364,365,366,368,369,371,372,373,375,376,378,379,380,383,384,385,387,388,390,391,392,395,396,397,400,401,402,405,406,407,410,411,412,415,416,417,420,421,422,424,425,427,428,429,431,432,434,435]
theorem K57.IL (P:PySem.Params):K57.Hz=(K57.pre.heap_1 P).map (·.1):=by kernel_rfl
noncomputable def K57.vw:PySem.Program:={PySem.Challenge.pw_pressluck_k57_whole_all_states with main:={PySem.Challenge.pw_pressluck_k57_whole_all_states.main with body:=[K57.top 1,K57.top 2,K57.top 3,K57.top 4,K57.top 5,K57.top 7,K57.top 8,K57.top 9,K57.top 11,K57.top 12,K57.top 13,K57.top 14,K57.top 16,K57.top 17,K57.top 18,K57.top 19,K57.top 20,K57.top 21,K57.top 22,K57.top 23,K57.top 24,K57.top 25,K57.top 26,K57.top 27,K57.top 28,K57.top 29,K57.top 30,K57.top 31,K57.top 33,K57.top 34,K57.top 35,K57.top 36,K57.top 37,K57.top 38,K57.top 39,K57.top 40,K57.top 41,K57.top 43,K57.top 44,K57.top 45,K57.top 46,K57.top 47,K57.top 48,K57.top 49,K57.top 50,K57.top 51,K57.top 52,K57.top 53,K57.top 54]}}
theorem K57.run (w:World):Hd.Runs (RowW.prog (OpenRow.toRowW (PySem.W.OpenLaw.row PySem.Challenge.rw_pressluck_k57_whole_all_states))) K57.vw [] (λs=>xlAt K57.vw [] s && recOk (RowW.records (OpenRow.toRowW (PySem.W.OpenLaw.row PySem.Challenge.rw_pressluck_k57_whole_all_states))) s) (Hook.obs (kHook K57.pre.heap_1 K57.Hz K57.IL)) (Hook.val (kHook K57.pre.heap_1 K57.Hz K57.IL)) 6354 true w:=λos=>by kernel_rfl
end PU
set_option tactic.hygienic false
set_option hygiene false in
local macro_rules | `(tactic| symm) => `(tactic| (refine (?_ : let G_ : Prop := _; G_); intro G_))
set_option hygiene false in
local macro_rules | `(tactic| nofun) => `(tactic| dsimp only [G_])
namespace L2
open PySem PySem.Spec PyProof.Rows
abbrev Key:=Sum Int Str
noncomputable def rH:Key->Value->Bool
 | .inl k,v=>Value.isInt k v
 | .inr x,v=>Value.isStrOf x v
noncomputable def IM (w:World):Key->Int
 | .inl k=>hashInt k
 | .inr x=>hashStr w x
theorem c5:∀{k:Key} {v:Value},rH k v=true->(∃i t,k=Sum.inl i/\v=Value.int i t)\/(∃x t,k=Sum.inr x/\v=Value.str x t)
 | .inl i,v,h=>by
  obtain⟨t,e⟩:=Value.isInt_shape (k:=i) (v:=v) h;exact .inl ⟨i,t,rfl,e⟩
 | .inr x,v,h=>by
  obtain⟨t,e⟩:=Value.isStrOf_shape (x:=x) (v:=v) h;exact .inr ⟨x,t,rfl,e⟩
theorem Bn (i:Int) (t:Tok):rH (.inl i) (.int i t)=true:=by simp [rH,Value.isInt]
theorem Bo (x:Str) (t:Tok):rH (.inr x) (.str x t)=true:=by simp [rH,Value.isStrOf]
theorem IP (a b:Int):decide ((Sum.inl a:Key)=Sum.inl b)=(a==b):=by
 by_cases e:a=b
 ·subst e;simp
 ·have h:¬(Sum.inl a:Key)=Sum.inl b:=λq=>e (Sum.inl.inj q);rw[decide_eq_false h];exact(beq_eq_false_iff_ne.mpr e).symm
theorem IQ (a b:Str):decide ((Sum.inr a:Key)=Sum.inr b)=decide (a=b):=by
 by_cases e:a=b
 ·subst e;simp
 ·have h:¬(Sum.inr a:Key)=Sum.inr b:=λq=>e (Sum.inr.inj q);rw[decide_eq_false h,decide_eq_false e]
theorem IS (a:Int) (b:Str):decide ((Sum.inl a:Key)=Sum.inr b)=false:=decide_eq_false (λq=>nomatch q)
theorem IT (a:Str) (b:Int):decide ((Sum.inr a:Key)=Sum.inl b)=false:=decide_eq_false (λq=>nomatch q)
noncomputable def cK (prog:Program) (w:World):PySem.KeyKind prog w Key where
 is:=rH
 hash:=IM w
 inj:=λv a b ha hb=>by
  rcases c5 ha with ⟨i,t,rfl,rfl⟩ | ⟨x,t,rfl,rfl⟩
  ·rcases c5 hb with ⟨j,u,rfl,e⟩ | ⟨y,u,rfl,e⟩
   ·injection e with e1 _;rw[e1]
   ·exact nomatch e
  ·rcases c5 hb with ⟨j,u,rfl,e⟩ | ⟨y,u,rfl,e⟩
   ·exact nomatch e
   ·injection e with e1 _;rw[e1]
 byValue:=λk v h=>by
  rcases c5 h with ⟨i,t,rfl,rfl⟩ | ⟨x,t,rfl,rfl⟩ <;>rfl
 pyHash:=λhv h=>by
  rcases c5 hv with ⟨i,t,rfl,rfl⟩ | ⟨x,t,rfl,rfl⟩
  ·exact wpAny_pyHash_int h
  ·exact wpAny_pyHash_str h
 eqBool:=λhu hv h=>by
  rcases c5 hu with ⟨i,t,rfl,rfl⟩ | ⟨x,t,rfl,rfl⟩
  ·rcases c5 hv with ⟨j,u,rfl,rfl⟩ | ⟨y,u,rfl,rfl⟩
   ·rw[IP] at h;exact wpAny_eqBool_int h
   ·rw[IS] at h;exact SeqAt.EqAt.int_str i t y u _ _ _ _ h
  ·rcases c5 hv with ⟨j,u,rfl,rfl⟩ | ⟨y,u,rfl,rfl⟩
   ·rw[IT] at h;exact SeqAt.EqAt.str_int x t j u _ _ _ _ h
   ·rw[IQ] at h;exact wpAny_eqBool_str h
 «strs»:=λk x t v h=>by
  rcases c5 h with ⟨i,u,rfl,e⟩ | ⟨y,u,rfl,e⟩
  ·exact nomatch e
  ·injection e with e1 _;subst e1;cases v <;>rfl
theorem wX (prog:Program) (w:World) (i:Int) (t:Tok):(cK prog w).is (.inl i) (.int i t)=true:=Bn i t
theorem wY (prog:Program) (w:World) (x:Str) (t:Tok):(cK prog w).is (.inr x) (.str x t)=true:=Bo x t
end L2
namespace L2
open PySem PySem.Spec PyProof.Rows
inductive V where
 | dI | bl (b:Bool) | int (i:Int) | str (x:Str) | CB (b:Array UInt8) | IU (b:UInt64) | ref (a:Addr) | ty (n:String)
 deriving DecidableEq
noncomputable def RelV:V->Value->Prop
 | .dI,u=>u=Value.none
 | .bl b,u=>u=Value.bool b
 | .int i,u=>∃t,u=Value.int i t
 | .str x,u=>∃t,u=Value.str x t
 | .CB b,u=>∃t,u=Value.bytes b t
 | .IU b,u=>∃t,u=Value.float b t
 | .ref a,u=>u=Value.ref a
 | .ty n,u=>u=Value.type n
abbrev bJ:List V->List Value->Prop:=Paired RelV
theorem bJ.length {xs:List V} {us:List Value} (r:bJ xs us):xs.length=us.length:=Paired.length r
theorem bJ.get:∀{xs:List V} {us:List Value} {i:Nat} {x:V},bJ xs us->xs[i]?=some x->∃u,us[i]?=some u/\RelV x u
 | _,_,_,_,.nil,e=>by simp at e
 | _,_,0,_,.cons r _,e=>by simp at e;subst e;exact⟨_,rfl,r⟩
 | _,_,i+1,x,.cons _ t,e=>by
  obtain⟨u,h1,h2⟩:=bJ.get (i:=i) (x:=x) t (by simpa using e);exact⟨u,by simpa using h1,h2⟩
theorem bJ.set {x:V} {u:Value} (r:RelV x u):∀{xs:List V} {us:List Value} (i:Nat),bJ xs us->bJ (xs.set i x) (us.set i u)
 | _,_,_,.nil=>.nil
 | _,_,0,.cons _ t=>.cons r t
 | _,_,i+1,.cons q t=>.cons q (bJ.set r i t)
theorem bJ.append:∀{xs ys:List V} {us ws:List Value},bJ xs us->bJ ys ws->bJ (xs++ys) (us++ws)
 | _,_,_,_,.nil,s=>s
 | _,_,_,_,.cons r t,s=>.cons r (bJ.append t s)
theorem bJ.take:∀{xs:List V} {us:List Value} (n:Nat),bJ xs us->bJ (xs.take n) (us.take n)
 | _,_,0,_=>.nil
 | _,_,_+1,.nil=>.nil
 | _,_,n+1,.cons r t=>.cons r (bJ.take n t)
theorem bJ.drop:∀{xs:List V} {us:List Value} (n:Nat),bJ xs us->bJ (xs.drop n) (us.drop n)
 | _,_,0,r=>r
 | _,_,_+1,.nil=>.nil
 | _,_,n+1,.cons _ t=>bJ.drop n t
noncomputable def je:Option V->Option Value->Prop
 | some v,some u=>RelV v u
 | none,none=>True
 | _,_=>False
noncomputable def KV {κ:Type}:List (κ×V)->List (κ×Value)->Prop:=Paired fun(p:κ×V) (q:κ×Value)=>p.1=q.1/\RelV p.2 q.2
noncomputable def kV:Key->V
 | .inl i=>.int i
 | .inr x=>.str x
inductive HO where
 | lst (xs:List V)
 | tup (xs:List V)
 | dK (kvs:List (Key×V)) | dT (kvs:List (List Key×V))
 | set (S:Int->Bool) (n:Nat)
 | ins (C dx:Addr) (fs:List (Str×V))
 | own (x:Addr)
 | xd (fs:List (Str×V))
 | met (f x:Addr)
 | OH (lo hi:Int)
 | wM (o:Obj) (u:HO)
 | Ai (ps:Array Value)
 | ext (φ:Heap->Prop)
abbrev Hp:=Addr->Option HO
noncomputable def upd (H:Hp) (a:Addr) (o:HO):Hp:=λb=>if b=a then some o else H b
theorem aj {H:Hp} {a:Addr} {o:HO}:upd H a o a=some o:=by unfold upd;rw[if_pos rfl]
theorem aA {H:Hp} {a b:Addr} {o:HO} (h:b≠a):upd H a o b=H b:=by unfold upd;rw[if_neg h]
theorem vp {H:Hp} {a:Addr} {o u:HO}:upd (upd H a o) a u=upd H a u:=by
 funext b;unfold upd;split <;>rfl
theorem LJ {H:Hp} {a b:Addr} {o u:HO} (h:H a=some o) (h':H b=some u) (d:o≠u):a≠b:=by
 intro e;subst e;rw[h] at h';exact d (aaE h')
theorem fC {H:Hp} {a b:Addr} {o:HO} (h:H a=some o) (h':H b=none):a≠b:=by
 intro e;subst e;rw[h] at h';cases h'
noncomputable def TabAt (H:Hp) (h:Heap) (a:Addr) (ps:Array Value):Prop:=∃mo:Array Value,h.get? a=some {cls:=.none,data:=.fields mo}/\
 (mo=#[]\/∃(l c:Value) (c1:Addr) (q:Str) (t:Tok),ps=#[l,c,.str q t]/\mo=#[l,c,.ref c1]/\H c1=some (.own a)/\h.CodeRec (.ref c1) q)
section
variable (P : Program) (w : World)
noncomputable def cS (H:Hp) (h:Heap) (a:Addr):HO->Prop
 | .lst xs=>xs.length<=sizeLine/\∃(bE:List Value) (n:Nat),bJ xs bE/\h.get? a=some {cls:=.type "list",data:=.seq bE.toArray n}
 | .tup xs=>xs.length<=sizeLine/\∃bE:List Value,bJ xs bE/\IsTup h a bE.toArray
 | .dK kvs=>kvs.length<=sizeLine/\(a==sysModules)=false/\∃vs,KV kvs vs/\h.DictOf (cK P w) a vs
 | .dT kvs=>kvs.length<=sizeLine/\(a==sysModules)=false/\∃xs:List (List Key×Addr×Value),
   Paired (fun(p:List Key×V) (q:List Key×Addr×Value)=>p.1=q.1/\H q.2.1=some (.tup (p.1.map kV))/\RelV p.2 q.2.2) kvs xs/\
   ∃o es ep,h.get? a=some o/\o.ExactDict/\o.data=.dict es ep/\es.toList=xs.map (entryOfKey (tupleKind (cK P w)))/\(xs.map (·.1)).Nodup
 | .set S n=>h.SetOf (intKind P w) a S n
 | .ins C dx fs=>H dx=some (.own a)/\fs.length<=1000/\dx≠a/\h.get? a=some (PySem.W.instObj C dx)/\
   ∃mA,h.Ns1 dx mA/\(∀f,je (fs.lookup f) (mA f))/\PySem.Within mA (fs.map (·.1))
 | .own _=>∃o,h.get? a=some o
 | .xd fs=>∃mA,h.Ns1 a mA/\∀f,je (fs.lookup f) (mA f)
 | .OH lo hi=>∃t u v,h.get? a=some {cls:=.type "range",data:=.fields #[.int lo t,.int hi u,.int 1 v]}
 | .wM o u=>h.get? a=some o/\cS H h a u
 | .Ai ps=>TabAt H h a ps
 | .met f x=>h.get? a=some (PySem.W.methodObj (.ref f) (.ref x))
 | .ext φ=>φ h/\(∃o,h.get? a=some o)/\∀h1 h2:Heap,φ h1->(∀o,h1.get? a=some o->h2.get? a=some o)->φ h2
noncomputable def hJ (H:Hp) (h:Heap):Prop:=∀a o,H a=some o->cS P w H h a o
end
section
variable {P : Program} {w : World} {H H' : Hp} {h h' : Heap} {a : Addr} {o : HO}
theorem cS.lt (x:cS P w H h a o):a<h.objs.size:=by
 cases o with
 | lst xs=>obtain⟨_,_,_,_,e⟩:=x;exact abt e
 | tup xs=>obtain⟨_,_,_,p⟩:=x;exact p.lt
 | dK kvs=>obtain⟨_,_,_,_,o,_,_,e,_⟩:=x;exact abt e
 | dT kvs=>obtain⟨_,_,_,_,o,_,_,e,_⟩:=x;exact abt e
 | set S n=>obtain⟨o,_,_,_,e,_⟩:=x;exact abt e
 | ins C dx fs=>obtain⟨_,_,_,e,_⟩:=x;exact abt e
 | own y=>obtain⟨_,e⟩:=x;exact abt e
 | xd fs=>obtain⟨_,⟨_,_,_,e,_⟩,_⟩:=x;exact abt e
 | OH lo hi=>obtain⟨_,_,_,e⟩:=x;exact abt e
 | wM ob u=>obtain⟨e,_⟩:=x;exact abt e
 | Ai ps=>obtain⟨_,e,_⟩:=x;exact abt e
 | met f y=>exact abt (show h.get? a=some _ from x)
 | ext φ=>obtain⟨_,⟨_,e⟩,_⟩:=x;exact abt e
theorem Paired.IV {α β:Type} {F G:α->β->Prop}:∀{l₁:List α} {l₂:List β},Paired F l₁ l₂->(∀a b,F a b->G a b)->Paired G l₁ l₂
 | _,_,.nil,_=>.nil
 | _,_,.cons r t,f=>.cons (f _ _ r) (Paired.IV t f)
theorem cS.rJ (x:cS P w H h a o) (k:∀b u,(b=a\/H b=some (.own a))->h.get? b=some u->h'.get? b=some u)
  (ho:∀b,H b=some (.own a)->H' b=some (.own a)) (ht:∀b xs,H b=some (.tup xs)->H' b=some (.tup xs)):cS P w H' h' a o:=by
 induction o with
 | lst xs=>obtain⟨z,bE,n,r,e⟩:=x;exact⟨z,bE,n,r,k _ _ (.inl rfl) e⟩
 | tup xs=>obtain⟨z,bE,r,ob,e,c⟩:=x;exact⟨z,bE,r,ob,k _ _ (.inl rfl) e,c⟩
 | dK kvs=>obtain⟨z,y,vs,r,ob,es,ep,e,c⟩:=x;exact⟨z,y,vs,r,ob,es,ep,k _ _ (.inl rfl) e,c⟩
 | dT kvs=>
  obtain⟨z,y,xs,r,ob,es,ep,e,c⟩:=x;exact⟨z,y,xs,Paired.IV r λp q z=>⟨z.1,ht _ _ z.2.1,z.2.2⟩,ob,es,ep,k _ _ (.inl rfl) e,c⟩
 | set S n=>obtain⟨ob,es,ep,t,e,c⟩:=x;exact⟨ob,es,ep,t,k _ _ (.inl rfl) e,c⟩
 | ins C dx fs=>
  obtain⟨d,z,ne,e,mA,⟨od,es,ep,e2,c⟩,r⟩:=x;exact⟨ho _ d,z,ne,k _ _ (.inl rfl) e,mA,⟨od,es,ep,k _ _ (.inr d) e2,c⟩,r⟩
 | own y=>obtain⟨ob,e⟩:=x;exact⟨ob,k _ _ (.inl rfl) e⟩
 | xd fs=>obtain⟨mA,⟨od,es,ep,e,c⟩,r⟩:=x;exact⟨mA,⟨od,es,ep,k _ _ (.inl rfl) e,c⟩,r⟩
 | OH lo hi=>obtain⟨t,u,v,e⟩:=x;exact⟨t,u,v,k _ _ (.inl rfl) e⟩
 | wM ob u ih=>obtain⟨e,q⟩:=x;exact⟨k _ _ (.inl rfl) e,ih q⟩
 | Ai ps=>
  obtain⟨mo,e,q⟩:=x;refine⟨mo,k _ _ (.inl rfl) e,?_⟩;rcases q with q | ⟨l,c,c1,qn,t,e1,e2,e3,c2,o2,ZC,t2,f1,f2,f3,f4⟩
  ·exact .inl q
  ·cases f1;exact .inr ⟨l,c,c1,qn,t,e1,e2,ho _ e3,c1,o2,ZC,t2,rfl,k _ _ (.inr e3) f2,f3,f4⟩
 | met f y=>
  have e:h.get? a=some (PySem.W.methodObj (.ref f) (.ref y)):=x;show h'.get? a=some (PySem.W.methodObj (.ref f) (.ref y));exact k a _ (.inl rfl) e
 | ext φ=>obtain⟨p,⟨o,e⟩,st⟩:=x;exact⟨st _ _ p λo q=>k _ _ (.inl rfl) q,⟨o,k _ _ (.inl rfl) e⟩,st⟩
theorem hJ.lt (x:hJ P w H h) (e:H a=some o):a<h.objs.size:=(x a o e).lt
theorem hJ.fresh (x:hJ P w H h) (e:h.objs.size<=a):H a=none:=by
 cases q:H a with
 | none=>rfl
 | some u=>exact absurd (aaC (x.lt q) e) (aaK _)
theorem hJ.kept (x:hJ P w H h) (k:∀b u,h.get? b=some u->h'.get? b=some u):hJ P w H h':=λa o e=>
 (x a o e).rJ (λb u _ q=>k b u q) (λ_ q=>q) λ_ _ q=>q
theorem hJ.laid (x:hJ P w H h) (k:∀b u,h.get? b=some u->h'.get? b=some u) (hp:h.objs.size<=a) (new:cS P w (upd H a o) h' a o):hJ P w (upd H a o) h':=λb u e=>by
 have hn:=x.fresh hp;by_cases hb:b=a
 ·subst hb;rw[aj] at e;cases e;exact new
 ·rw[aA hb] at e;exact(x b u e).rJ (λc v _ q=>k c v q) (λc q=>by rw[aA (fC q hn)];exact q) λc xs q=>by rw[aA (fC q hn)];exact q
end
noncomputable def Rd (H:Hp) (a:Addr) (u:HO):Prop:=H a=some u\/∃o,H a=some (.wM o u)
theorem Rd.ok {P:Program} {w:World} {H:Hp} {h:Heap} {a:Addr} {u:HO} (r:Rd H a u) (x:hJ P w H h):cS P w H h a u:=by
 rcases r with r | ⟨o,r⟩
 ·exact x a u r
 ·obtain⟨_,q⟩:=x a _ r;exact q
noncomputable def LK:Option HO->Prop
 | some (.lst _)=>True
 | some (.dK _)=>True
 | some (.dT _)=>True
 | some (.set _ _)=>True
 | some (.ins _ _ _)=>True
 | some (.ext _)=>True
 | _=>False
section
variable {P : Program} {w : World} {H : Hp} {h h' : Heap} {x e : Addr} {o' : HO}
theorem hJ.write (ok:hJ P w H h) (mu:LK (H x)) (he:e=x\/H e=some (.own x)) (k:∀b u,b≠e->h.get? b=some u->h'.get? b=some u) (K4:∃u,h'.get? e=some u)
  (new:cS P w (upd H x o') h' x o'):hJ P w (upd H x o') h':=λb u q=>by
 have LL:∀c y,H c=some (.own y)->c≠x:=λc y r z=>by subst z;rw[r] at mu;exact mu
 have PV:∀c xs,H c=some (.tup xs)->c≠x:=λc xs r z=>by subst z;rw[r] at mu;exact mu
 by_cases hb:b=x
 ·subst hb;rw[aj] at q;cases q;exact new
 ·rw[aA hb] at q;by_cases IW:b=e
  ·have q':H b=some (.own x):=by
    rcases he with z | z
    ·exact absurd (IW.trans z) hb
    ·rw[IW];exact z
   rw[q] at q';cases q';obtain⟨v,hv⟩:=K4;exact⟨v,by rw[IW];exact hv⟩
  ·refine(ok b u q).rJ (λc v hc r=>k c v ?_ r) (λc r=>by rw[aA (LL c b r)];exact r) λc xs r=>by rw[aA (PV c xs r)];exact r
   rcases hc with rfl | hc
   ·exact IW
   ·rintro rfl;rcases he with z | z
    ·exact LL c b hc z
    ·rw[hc] at z;cases z;exact hb rfl
end
structure Un (fs ex:List Addr) (H H':Hp) (h h':Heap):Prop where
 keep:∀b o,h.get? b=some o->H b=none->b∉fs->b∉ex->h'.get? b=some o
 slot:∀b o,h.get? b=some o->H b=none->b∈fs->b∉ex->∃sl,h'.get? b=some {o with slots:=sl}
 free:∀b o,h.get? b=some o->H b=none->b∉ex->H' b=none
 there:∀b o,h.get? b=some o->b∉ex->∃o',h'.get? b=some o'
 ij:∀b xs,H b=some (.tup xs)->H' b=some (.tup xs)
 hU:∀b o u,H b=some (.wM o u)->H' b=some (.wM o u)
 iN:∀b ps,H b=some (.Ai ps)->∃more,H' b=some (.Ai (ps++more))
section
variable {fs ZD ex LM : List Addr} {H H1 H2 : Hp} {h h1 h2 h' : Heap} {a x e : Addr} {o : HO}
theorem Un.any (u:Un fs ex H H1 h h1) {b:Addr} {ob:Obj} (q:h.get? b=some ob) (n:H b=none) (hx:b∉ex):∃sl,h1.get? b=some {ob with slots:=sl}:=by
 by_cases hb:b∈fs
 ·exact u.slot b ob q n hb hx
 ·exact⟨ob.slots,u.keep b ob q n hb hx⟩
theorem Un.kept (k:∀b u,h.get? b=some u->h'.get? b=some u):Un fs ex H H h h':=
 ⟨λb ob q _ _ _=>k b ob q,λb ob q _ _ _=>⟨ob.slots,k b ob q⟩,λ_ _ _ n _=>n,λb ob q _=>⟨ob,k b ob q⟩,λ_ _ q=>q,λ_ _ _ q=>q,λ_ ps q=>⟨#[],by rw[q];simp⟩⟩
theorem Un.refl:Un fs ex H H h h:=Un.kept λ_ _ q=>q
theorem Un.laid (k:∀b u,h.get? b=some u->h'.get? b=some u) (hp:h.objs.size<=a) (hn:H a=none):Un fs ex H (upd H a o) h h' where
 keep:=λb u q _ _ _=>k b u q
 slot:=λb u q _ _ _=>⟨u.slots,k b u q⟩
 free:=λb u q n _=>by rw[aA (aas (aaC (abt q) hp))];exact n
 there:=λb u q _=>⟨u,k b u q⟩
 ij:=λb xs q=>by rw[aA (fC q hn)];exact q
 hU:=λb u xs q=>by rw[aA (fC q hn)];exact q
 iN:=λb ps q=>⟨#[],by rw[aA (fC q hn),q];simp⟩
theorem Un.write (mu:LK (H x)) (he:e=x\/H e=some (.own x)) (k:∀b u,b≠e->h.get? b=some u->h'.get? b=some u) (K4:∃u,h'.get? e=some u):Un fs ex H (upd H x o) h h':=by
 have hx:∀b,H b=none->b≠x:=λb n z=>by subst z;rw[n] at mu;exact mu
 have hb:∀b,H b=none->b≠e:=λb n z=>by
  subst z;rcases he with r | r
  ·exact hx b n r
  ·rw[n] at r;cases r
 have hm:∀b u,H b=some u->¬LK (some u)->b≠x:=λb u q nm z=>by subst z;rw[q] at mu;exact nm mu
 refine⟨λb u q n _ _=>k b u (hb b n) q,λb u q n _ _=>⟨u.slots,k b u (hb b n) q⟩,λb u q n _=>by rw[aA (hx b n)];exact n,λb u q _=>?_,
  λb xs q=>by rw[aA (hm b _ q λz=>z)];exact q,λb u xs q=>by rw[aA (hm b _ q λz=>z)];exact q,λb ps q=>⟨#[],by rw[aA (hm b _ q λz=>z),q];simp⟩⟩
 by_cases IW:b=e
 ·subst IW;exact K4
 ·exact⟨u,k b u IW q⟩
end
noncomputable def OI (h:Heap) (H:Hp):List Addr:=(List.range h.objs.size).filter λa=>(H a).isSome
noncomputable def vq (h:Heap) (H:Hp):Heap:=PySem.W.hideAll h (OI h H)
theorem Bp (h:Heap) (H:Hp):(vq h H).objs.size=h.objs.size:=PySem.W.hideAll_size _ _
theorem CL {h:Heap} {H:Hp} {b:Addr} {o:Obj} (e:h.get? b=some o) (n:H b=none):(vq h H).get? b=some o:=
 PySem.W.hideAll_get _ e λhm=>by
  have q:(H b).isSome=true:=(List.mem_filter.mp hm).2;rw[n] at q;simp at q
theorem FL {h:Heap} {H:Hp} {b:Addr} {o:Obj} (e:(vq h H).get? b=some o):h.get? b=some o/\H b=none:=by
 have e':h.get? b=some o:=PySem.W.of_hideAll (OI h H) e;refine⟨e',?_⟩;cases q:H b with
 | none=>rfl
 | some x=>
  have hm:b∈OI h H:=List.mem_filter.mpr ⟨List.mem_range.mpr (abt e'),by simp [q]⟩;have z:(vq h H).get? b=none:=PySem.W.hideAll_none (OI h H) hm;rw[z] at e;cases e
noncomputable def FN (g h:Heap) (L:Addr):List (Addr×Obj):=(List.range h.objs.size).filterMap λa=>if a=L\/(g.get? a).isSome=true then none else (h.get? a).map λo=>(a,o)
noncomputable def rest (g h:Heap) (L d:Addr):List (Addr×Obj):=(FN g h L).filter λp=>decide (p.1≠d)
end L2
namespace L2
open PySem PySem.Spec PyProof.Rows
structure Mod (K:abg) (mg:Str->Option Value) (base:Heap):Prop where
 IX:K.In base
 glob:base.Ns mainGlobals mg
 blt:∃mb,base.Ns builtinsNs mb/\∀x:Str,x≠"__name__"->mb x=bootBuiltins x
 nolimit:base.NoLimit
structure Cx where
 prog:Program
 w:World
 K:abg
 mg:Str->Option Value
 base:Heap
 A:Around
 N:List Str
 s₀:Shared
 H₀:Hp
 env:Env
 outer:List Env
 stack:List Env
 ex:List Addr
 fn:Str->Bool
 calm:Bool
 pn:List (Addr×Obj)
 xe:Value->Shared->Prop
def eM (l:List Env):List Addr:=l.filterMap (·.frame)
abbrev Cx.fs (X:Cx):List Addr:=eM X.outer
noncomputable def PX (sc:Scope) (x:Str):Prop:=sc.names.lookup x=some .local\/sc.names.lookup x=some .cell\/sc.names.lookup x=some .free
noncomputable def Loc (sc:Scope) (x:Str):Prop:=sc.names.lookup x=some .local\/sc.names.lookup x=some .cell
noncomputable def Look (env:Env) (h:Heap) (m:Str->Option Value) (x:Str) (u:Value):Prop:=
 (env.kindOf x=some .local/\m x=some u)\/((env.kindOf x=some .cell\/env.kindOf x=some .free)/\∃c,env.cells.lookup x=some c/\h.IsCell c (some u))
structure Cx.Ok (X:Cx):Prop where
 mod:Mod X.K X.mg X.base
 kind:X.env.scope.kind=.function
 glob:X.env.globals=mainGlobals
 blt:X.env.builtins=builtinsNs
 above:X.s₀.heap.objs.size<=X.env.locals
 inj:∀x y c,X.env.cells.lookup x=some c->X.env.cells.lookup y=some c->x=y
 has:∀x,(X.env.kindOf x=some .cell\/X.env.kindOf x=some .free)->∃c,X.env.cells.lookup x=some c
 IY:∀x c,X.fn x=true->X.env.cells.lookup x=some c->X.s₀.heap.objs.size<=c
 hd:X.calm=true->X.A.handled=none
 frames:X.A.frames=some X.stack
 K5:X.stack=X.outer\/(X.stack=X.env::X.outer/\X.env.frame=some X.env.locals)
 OJ:∀b∈X.ex,b≠X.env.locals/\∀x c,X.env.cells.lookup x=some c->c≠b
 bs:∀b o,X.base.get? b=some o->X.s₀.heap.get? b=some o/\X.H₀ b=none
 CM:X.base.objs.size<=X.s₀.heap.objs.size
 yI:∀b o,X.base.get? b=some o->b∉X.ex
 Bq:∀b∈X.ex,b∉X.fs
 mU:X.s₀.heap.FunFrames X.base X.outer
 FO:∀b∈X.fs,X.H₀ b=none
structure Inv (X:Cx) (pins:List (Addr×Obj)) (σ:List (Option V)) (H:Hp) (s:Shared):Prop where
 ok:X.Ok
 os:s.os=X.s₀.os
 bare:AllBare s.gens
 base:Un X.fs X.ex X.H₀ H X.s₀.heap s.heap
 loc:∃m,s.heap.Ns X.env.locals m/\∀(i:Nat) (x:Str) (v:V),X.N[i]?=some x->σ[i]?=some (some v)->PX X.env.scope x->∃u,RelV v u/\Look X.env s.heap m x u
 cell:∀x c,X.env.cells.lookup x=some c->∃v,s.heap.IsCell c v
 free:H X.env.locals=none
 gz:∀x c,X.env.cells.lookup x=some c->H c=none
 pin:∀p∈X.pn++pins,s.heap.get? p.1=some p.2/\H p.1=none/\p.1≠X.env.locals/\p.1∉X.fs/\∀v,p.2.data≠.cell v
 bT:hJ X.prog X.w H s.heap
 len:σ.length=X.N.length
section
variable {X : Cx} {pins : List (Addr × Obj)} {σ : List (Option V)} {H H' : Hp} {s : Shared} {h' : Heap}
theorem Cx.Ok.PY (ok:X.Ok) {b:Addr} {o:Obj} (e:X.base.get? b=some o):b∉X.fs:=λhb=>by
 have:=(ok.mU.mem hb).1
 rw[e] at this;cases this
theorem Inv.bs (I:Inv X pins σ H s):∀b o,X.base.get? b=some o->s.heap.get? b=some o/\H b=none:=λb o e=>
 ⟨I.base.keep b o (I.ok.bs b o e).1 (I.ok.bs b o e).2 (I.ok.PY e) (I.ok.yI b o e),I.base.free b o (I.ok.bs b o e).1 (I.ok.bs b o e).2 (I.ok.yI b o e)⟩
theorem Inv.bk (I:Inv X pins σ H s):∀b o,X.base.get? b=some o->s.heap.get? b=some o:=λb o e=>(I.bs b o e).1
theorem Inv.mod (I:Inv X pins σ H s):Mod X.K X.mg X.base:=I.ok.mod
theorem Inv.mS (I:Inv X pins σ H s):X.K.In s.heap:=I.ok.mod.IX.keeps I.bk
theorem Inv.lt (I:Inv X pins σ H s):X.env.locals<s.heap.objs.size:=let ⟨_,hn,_⟩:=I.loc;hn.lt
theorem Inv.sz (I:Inv X pins σ H s):X.s₀.heap.objs.size<=s.heap.objs.size:=aay I.ok.above (Nat.le_of_lt I.lt)
theorem Inv.PZ (I:Inv X pins σ H s) {a:Addr} (h:s.heap.objs.size<=a):a∉X.fs:=λhb=>by
 obtain⟨_,o,ho,_⟩:=I.ok.mU.mem hb;exact absurd (aaC (abt ho) (aay I.sz h)) (aaK _)
theorem Inv.FP (I:Inv X pins σ H s):∀x c,X.env.cells.lookup x=some c->c≠X.env.locals:=λx c e z=>by
 obtain⟨v,o,ho,hd⟩:=I.cell x c e;obtain⟨m,⟨o',es,ep,FQ,P0,_⟩,_⟩:=I.loc;rw[z,FQ] at ho;cases ho;rw[P0] at hd;cases hd
theorem Inv.mU (I:Inv X pins σ H s):s.heap.FunFrames X.base X.outer:=by
 have all:∀(l:List Env),(∀b∈eM l,b∈X.fs)->X.s₀.heap.FunFrames X.base l->s.heap.FunFrames X.base l:=by
  intro l;induction l with
  | nil=>intro _ _;trivial
  | cons env r ih=>
   intro hs hl;obtain⟨hk,⟨L,o,hf,hn,ho,hd⟩,hr⟩:=hl;have hL:L∈X.fs:=hs L (by unfold eM;rw[abd,hf];exact aaz);obtain⟨sl,e⟩:=I.base.slot L o ho (I.ok.FO L hL) hL λz=>I.ok.Bq L z hL;exact⟨hk,⟨L,_,hf,hn,e,hd⟩,ih (λb hb=>hs b (by unfold eM;rw[abd,hf];exact aau _ hb)) hr⟩
 exact all X.outer (λ_ hb=>hb) I.ok.mU
theorem Inv.stack (I:Inv X pins σ H s):s.heap.FunFrames X.base X.stack:=by
 rcases I.ok.K5 with e | ⟨e,hf⟩
 ·rw[e];exact I.mU
 ·rw[e];obtain⟨m,hn,_⟩:=I.loc;refine .cons (by rw[I.ok.kind];decide) hf hn ?_ I.mU;exact Heap.get?_none_of_le (aay I.ok.CM I.ok.above)
theorem Inv.vt (I:Inv X pins σ H s):∀b∈eM X.stack,b∈X.env.locals::X.fs:=λb hb=>by
 rcases I.ok.K5 with e | ⟨e,hf⟩
 ·rw[e] at hb;exact aau _ hb
 ·rw[e] at hb;unfold eM at hb;rw[abd,hf] at hb;exact hb
theorem Inv.qM (I:Inv X pins σ H s):∀b∈eM X.stack,H b=none:=λb hb=>by
 rcases aaR.mp (I.vt b hb) with e | hb
 ·rw[e];exact I.free
 ·obtain⟨_,o,ho,_⟩:=I.ok.mU.mem hb;exact I.base.free b o ho (I.ok.FO b hb) λz=>I.ok.Bq b z hb
theorem Inv.step {g':Array GenState} {t':Nat} {d':Drawn} {ch:List Addr} (I:Inv X pins σ H s)
  (Fq:∀b∈ch,(b∈X.ex\/X.s₀.heap.objs.size<=b)/\b≠X.env.locals/\(∀x c,X.env.cells.lookup x=some c->c≠b)/\∀p∈X.pn++pins,p.1≠b)
  (keep:∀b o,b≠X.env.locals->b∉X.fs->b∉ch->s.heap.get? b=some o->H b=none->h'.get? b=some o)
  (slot:∀b o,b≠X.env.locals->b∈X.fs->b∉ch->s.heap.get? b=some o->H b=none->∃sl,h'.get? b=some {o with slots:=sl}) (free:∀b o,b∉ch->s.heap.get? b=some o->H b=none->H' b=none)
  (there:∀b o,b∉ch->s.heap.get? b=some o->∃o',h'.get? b=some o')
  (ij:∀b xs,H b=some (.tup xs)->H' b=some (.tup xs)) (hU:∀b o u,H b=some (.wM o u)->H' b=some (.wM o u)) (iN:∀b ps,H b=some (.Ai ps)->∃more,H' b=some (.Ai (ps++more)))
  (ns:∀m,s.heap.Ns X.env.locals m->h'.Ns X.env.locals m) (bT:hJ X.prog X.w H' h') (hg:AllBare g'):
  Inv X pins σ H' {s with heap:=h',gens:=g',drawn:=d',toks:=t'}:=by
 have W6:∀b o,X.s₀.heap.get? b=some o->b≠X.env.locals:=λb o e=>aas (aaC (abt e) I.ok.above);have OK:∀b o,X.s₀.heap.get? b=some o->b∉X.ex->b∉ch:=λb o e hx hb=>by
  rcases(Fq b hb).1 with z | z
  ·exact hx z
  ·exact absurd (aaC (abt e) z) (aaK _)
 have cellK:∀x c,X.env.cells.lookup x=some c->∀v,s.heap.IsCell c v->h'.IsCell c v:=λx c e v ⟨o,ho,hd⟩=>by
  have HA:c∉ch:=λz=>(Fq c z).2.2.1 x c e rfl;by_cases hc:c∈X.fs
  ·obtain⟨sl,q⟩:=slot c o (I.FP x c e) hc HA ho (I.gz x c e);exact⟨_,q,hd⟩
  ·exact⟨o,keep c o (I.FP x c e) hc HA ho (I.gz x c e),hd⟩
 refine⟨I.ok,I.os,hg,⟨λb o e n hb hx=>?_,λb o e n hb hx=>?_,λb o e n hx=>?_,λb o e hx=>?_,λb xs e=>ij b xs (I.base.ij b xs e),λb o xs e=>hU b o xs (I.base.hU b o xs e),λb ps e=>?_⟩,?_,λx c e=>?_,?_,λx c e=>?_,λp hp=>?_,bT,I.len⟩
 ·exact keep b o (W6 b o e) hb (OK b o e hx) (I.base.keep b o e n hb hx) (I.base.free b o e n hx)
 ·obtain⟨sl,e1⟩:=I.base.slot b o e n hb hx;obtain⟨LN,e2⟩:=slot b _ (W6 b o e) hb (OK b o e hx) e1 (I.base.free b o e n hx);exact⟨LN,e2⟩
 ·obtain⟨o',e1⟩:=I.base.there b o e hx;exact free b o' (OK b o e hx) e1 (I.base.free b o e n hx)
 ·obtain⟨o',e1⟩:=I.base.there b o e hx;exact there b o' (OK b o e hx) e1
 ·obtain⟨m1,e1⟩:=I.base.iN b ps e;obtain⟨m2,e2⟩:=iN b _ e1;exact⟨m1++m2,by rw[e2,Array.append_assoc]⟩
 ·obtain⟨m,hn,hl⟩:=I.loc;refine⟨m,ns m hn,λi x v e1 e2 e3=>?_⟩;obtain⟨u,r,l⟩:=hl i x v e1 e2 e3;refine⟨u,r,?_⟩;rcases l with l | ⟨k,c,e,z⟩
  ·exact .inl l
  ·exact .inr ⟨k,c,e,cellK x c e _ z⟩
 ·obtain⟨v,z⟩:=I.cell x c e;exact⟨v,cellK x c e v z⟩
 ·obtain⟨m,⟨o,_,_,ho,_⟩,_⟩:=I.loc;exact free _ o (λz=>(Fq _ z).2.1 rfl) ho I.free
 ·obtain⟨v,o,ho,hd⟩:=I.cell x c e;exact free c o (λz=>(Fq c z).2.2.1 x c e rfl) ho (I.gz x c e)
 ·obtain⟨e,n,ne,nf,d⟩:=I.pin p hp;have HA:p.1∉ch:=λz=>(Fq p.1 z).2.2.2 p hp rfl;exact⟨keep p.1 p.2 ne nf HA e n,free p.1 p.2 HA e n,ne,nf,d⟩
theorem Inv.un {t':Nat} (I:Inv X pins σ H s) (u:Un X.fs [] H H' s.heap h') (bT:hJ X.prog X.w H' h'):Inv X pins σ H' {s with heap:=h',toks:=t'}:=by
 obtain⟨m,⟨o,es,ep,ho,r⟩,_⟩:=id I.loc;obtain⟨sl,hL⟩:=u.any ho I.free (by simp);exact I.step (g':=s.gens) (d':=s.drawn) (ch:=[]) (λ_ z=>nomatch z) (λb o _ hb _ e n=>u.keep b o e n hb (by simp)) (λb o _ hb _ e n=>u.slot b o e n hb (by simp)) (λb o _ e n=>u.free b o e n (by simp)) (λb o _ e=>u.there b o e (by simp)) u.ij u.hU u.iN (λm' hm=>by
  obtain⟨o',tX,Br,FQ,r'⟩:=hm;rw[ho] at FQ;cases FQ;exact⟨_,tX,Br,hL,r'⟩) bT I.bare
theorem Inv.call {g':Array GenState} {t':Nat} {d':Drawn} {ch:List Addr} (I:Inv X pins σ H s) (u:Un (eM X.stack) ch H H' s.heap h') (bT:hJ X.prog X.w H' h') (hg:AllBare g')
  (Fq:∀b∈ch,(b∈X.ex\/X.s₀.heap.objs.size<=b)/\b≠X.env.locals/\(∀x c,X.env.cells.lookup x=some c->c≠b)/\∀p∈X.pn++pins,p.1≠b):
  Inv X pins σ H' {s with heap:=h',gens:=g',drawn:=d',toks:=t'}:=by
 obtain⟨m,⟨o,es,ep,ho,r⟩,_⟩:=id I.loc;obtain⟨sl,hL⟩:=u.any ho I.free λz=>(Fq _ z).2.1 rfl;exact I.step (ch:=ch) Fq (λb o hL hb hc e n=>u.keep b o e n (λz=>(aaR.mp (I.vt b z)).elim hL hb) hc) (λb o _ _ hc e n=>u.any e n hc) (λb o hc e n=>u.free b o e n hc) (λb o hc e=>u.there b o e hc) u.ij u.hU u.iN (λm' hm=>by
  obtain⟨o',tX,Br,FQ,r'⟩:=hm;rw[ho] at FQ;cases FQ;exact⟨_,tX,Br,hL,r'⟩) bT hg
theorem Inv.turned {t':Nat} {it:Addr} (I:Inv X pins σ H s) (k:∀b o,b≠it->s.heap.get? b=some o->h'.get? b=some o) (hn:H it=none) (hL:it≠X.env.locals)
  (h1:it∈X.ex\/X.s₀.heap.objs.size<=it) (h2:∀x c,X.env.cells.lookup x=some c->c≠it) (h3:∀p∈X.pn++pins,p.1≠it):Inv X pins σ H {s with heap:=h',toks:=t'}:=by
 have W7:∀b u,H b=some u->b≠it:=λb u e z=>by rw[z,hn] at e;cases e
 refine I.step (g':=s.gens) (d':=s.drawn) (ch:=[it]) (λb hb=>?_) (λb o _ _ hc e _=>k b o (λz=>hc (by simp [z])) e) (λb o _ _ hc e _=>⟨o.slots,k b o (λz=>hc (by simp [z])) e⟩) (λ_ _ _ _ n=>n)
  (λb o hc e=>⟨o,k b o (λz=>hc (by simp [z])) e⟩) (λ_ _ e=>e) (λ_ _ _ e=>e) (λb ps e=>⟨#[],by rw[e];simp⟩) (λm hm=>?_) (λb u e=>?_) I.bare
 ·have e:b=it:=by simpa using hb
  subst e;exact⟨h1,hL,h2,h3⟩
 ·obtain⟨o,es,ep,ho,r⟩:=hm;exact⟨o,es,ep,k _ o (Ne.symm hL) ho,r⟩
 ·refine(I.bT b u e).rJ (λc v hc q=>k c v ?_ q) (λ_ q=>q) λ_ _ q=>q;rcases hc with z | z
  ·rw[z];exact W7 b u e
  ·exact W7 c _ z
theorem Inv.tok (I:Inv X pins σ H s) (t:Nat):Inv X pins σ H {s with toks:=t}:=I.un (h':=s.heap) (t':=t) Un.refl I.bT
theorem Inv.kept {t':Nat} (I:Inv X pins σ H s) (k:∀b u,s.heap.get? b=some u->h'.get? b=some u):Inv X pins σ H {s with heap:=h',toks:=t'}:=I.un (Un.kept k) (I.bT.kept k)
theorem Inv.laid {a:Addr} {o:HO} {t':Nat} (I:Inv X pins σ H s) (k:∀b u,s.heap.get? b=some u->h'.get? b=some u) (hp:s.heap.objs.size<=a) (new:cS X.prog X.w (upd H a o) h' a o):
  Inv X pins σ (upd H a o) {s with heap:=h',toks:=t'}:=I.un (Un.laid k hp (I.bT.fresh hp)) (I.bT.laid k hp new)
theorem Inv.write {x e:Addr} {o:HO} {t':Nat} (I:Inv X pins σ H s) (mu:LK (H x)) (he:e=x\/H e=some (.own x)) (k:∀b u,b≠e->s.heap.get? b=some u->h'.get? b=some u) (K4:∃u,h'.get? e=some u)
  (new:cS X.prog X.w (upd H x o) h' x o):Inv X pins σ (upd H x o) {s with heap:=h',toks:=t'}:=I.un (Un.write mu he k K4) (I.bT.write mu he k K4 new)
theorem Inv.mV {HB:List (Addr×Obj)} (I:Inv X pins σ H s) (h:∀p∈HB,s.heap.get? p.1=some p.2/\H p.1=none/\p.1≠X.env.locals/\p.1∉X.fs/\∀v,p.2.data≠.cell v):Inv X HB σ H s:=
 ⟨I.ok,I.os,I.bare,I.base,I.loc,I.cell,I.free,I.gz,λp hp=>(List.mem_append.mp hp).elim (λz=>I.pin p (List.mem_append_left _ z)) (h p),I.bT,I.len⟩
theorem rK {N:List Str} (hN:N.Nodup) {i j:Nat} {x:Str} (a:N[i]?=some x) (b:N[j]?=some x):i=j:=by
 obtain⟨h1,e1⟩:=abn.mp a;obtain⟨h2,e2⟩:=abn.mp b;exact(List.getElem_inj hN).mp (e1.trans e2.symm)
theorem uF {M:Model} {A:Around} {E:Value->Shared->Prop} {i:Nat} {x:Str} {v:V} {u:Value} {Q:Unit->Shared->Prop} (I:Inv X pins σ H s) (hN:X.N.Nodup) (hi:X.N[i]?=some x) (hx:Loc X.env.scope x) (r:RelV v u)
  (h:∀s',Inv X pins (σ.set i (some v)) H s'->(∃a,Heap.SameBut a s.heap s'.heap/\(a=X.env.locals\/X.env.cells.lookup x=some a))->Q () s') (hf:X.fn x=true\/X.env.scope.names.lookup x=some .local:=by first | exact .inl rfl | exact .inr rfl | assumption):wpAny M A (storeName X.env x u) Q E s:=by
 obtain⟨m,hn,hl⟩:=id I.loc;have IZ:(X.env.scope.kind==.class || (X.env.scope.kind==.module && X.env.locals !=X.env.globals))=false:=by rw[I.ok.kind];rfl
 have LO:i<σ.length:=by rw[I.len];exact(abn.mp hi).1
 have FP:=I.FP;have tracked:∀{a:Addr} {h':Heap},(∃o,s.heap.get? a=some o/\H a=none)->Heap.SameBut a s.heap h'->hJ X.prog X.w H h':=λ{a h'} ha hs b ob e=>by
  obtain⟨_,_,HC⟩:=ha;refine(I.bT b ob e).rJ (λc w' hc q=>(hs.2 c ?_).trans q) (λ_ q=>q) λ_ _ q=>q;rintro rfl;rcases hc with rfl | hc
  ·rw[HC] at e;cases e
  ·rw[HC] at hc;cases hc
 rcases hx with hk | hk
 ·refine wpAny_storeName_local hk hn (λh' ZE hs=>?_) IZ;obtain⟨oL,_,_,LP,_⟩:=id hn;refine h _ ⟨I.ok,I.os,I.bare,⟨λb o e n hb hx=>?_,λb o e n hb hx=>?_,I.base.free,λb o e hx=>?_,I.base.ij,I.base.hU,I.base.iN⟩,⟨_,ZE,λj y v' e1 e2 e3=>?_⟩,λy c e=>?_,I.free,I.gz,λp hp=>?_,tracked ⟨oL,LP,I.free⟩ hs,by simpa using I.len⟩ ⟨_,hs,.inl rfl⟩
  ·exact(hs.2 b (aas (aaC (abt e) I.ok.above))).trans (I.base.keep b o e n hb hx)
  ·obtain⟨sl,e1⟩:=I.base.slot b o e n hb hx;exact⟨sl,(hs.2 b (aas (aaC (abt e) I.ok.above))).trans e1⟩
  ·obtain⟨o',e1⟩:=I.base.there b o e hx;exact⟨o',(hs.2 b (aas (aaC (abt e) I.ok.above))).trans e1⟩
  ·by_cases hj:j=i
   ·subst hj;rw[hi] at e1;cases e1;rw[List.getElem?_set_self LO] at e2;cases e2;exact⟨u,r,.inl ⟨hk,by simp⟩⟩
   ·rw[List.getElem?_set_ne (Ne.symm hj)] at e2;obtain⟨u',r',q⟩:=hl j y v' e1 e2 e3;refine⟨u',r',?_⟩;rcases q with ⟨k,e⟩ | ⟨k,c,e,z⟩
    ·refine .inl ⟨k,?_⟩
     have:y≠x:=λe=>hj (rK hN e1 (e▸hi))
     simp [this,e]
    ·exact .inr ⟨k,c,e,z.sameBut hs (FP y c e)⟩
  ·obtain⟨w',z⟩:=I.cell y c e;exact⟨w',z.sameBut hs (FP y c e)⟩
  ·obtain⟨e,n,ne,nf,d⟩:=I.pin p hp;exact⟨(hs.2 p.1 ne).trans e,n,ne,nf,d⟩
 ·have P1:X.fn x=true:=by
   rcases hf with z | z
   ·exact z
   ·rw[z] at hk;cases hk
  obtain⟨c,hc⟩:=I.ok.has x (.inl hk);obtain⟨w',z⟩:=I.cell x c hc;refine wpAny_storeName_cell I.ok.kind hk hc z (λh' OL hs=>?_);obtain⟨oc,W8,P2⟩:=id z;refine h {s with heap:=h'} ⟨I.ok,I.os,I.bare,⟨λb o e n hb hx=>?_,λb o e n hb hx=>?_,I.base.free,λb o e hx=>?_,I.base.ij,I.base.hU,I.base.iN⟩,⟨m,hn.sameBut hs (Ne.symm (FP x c hc)),λj y v' e1 e2 e3=>?_⟩,λy c' e=>?_,I.free,I.gz,λp hp=>?_,tracked ⟨oc,W8,I.gz x c hc⟩ hs,by simpa using I.len⟩ ⟨c,hs,.inr hc⟩
  ·exact(hs.2 b (aas (aaC (abt e) (I.ok.IY x c P1 hc)))).trans (I.base.keep b o e n hb hx)
  ·obtain⟨sl,e1⟩:=I.base.slot b o e n hb hx;exact⟨sl,(hs.2 b (aas (aaC (abt e) (I.ok.IY x c P1 hc)))).trans e1⟩
  ·obtain⟨o',e1⟩:=I.base.there b o e hx;exact⟨o',(hs.2 b (aas (aaC (abt e) (I.ok.IY x c P1 hc)))).trans e1⟩
  ·by_cases hj:j=i
   ·subst hj;rw[hi] at e1;cases e1;rw[List.getElem?_set_self LO] at e2;cases e2;exact⟨u,r,.inr ⟨.inl hk,c,hc,OL⟩⟩
   ·rw[List.getElem?_set_ne (Ne.symm hj)] at e2;obtain⟨u',r',q⟩:=hl j y v' e1 e2 e3;refine⟨u',r',?_⟩;rcases q with q | ⟨k,c',e,z'⟩
    ·exact .inl q
    ·refine .inr ⟨k,c',e,z'.sameBut hs ?_⟩;rintro rfl;exact hj (rK hN e1 (I.ok.inj _ _ _ e hc▸hi))
  ·by_cases LQ:c'=c
   ·subst LQ;exact⟨_,OL⟩
   ·obtain⟨w2,z2⟩:=I.cell y c' e;exact⟨w2,z2.sameBut hs LQ⟩
  ·obtain⟨e,n,ne,nf,d⟩:=I.pin p hp;refine⟨(hs.2 p.1 ?_).trans e,n,ne,nf,d⟩;intro q;rw[q,W8] at e;have q':oc=p.2:=aaE e;exact d w' (by rw[<-q'];exact P2)
theorem mW {M:Model} {A:Around} {E:Value->Shared->Prop} {i:Nat} {x:Str} {v:V} {u:Value} {Q:Unit->Shared->Prop} (I:Inv X pins σ H s) (hN:X.N.Nodup) (hi:X.N[i]?=some x) (hx:Loc X.env.scope x) (r:RelV v u)
  (h:∀s',Inv X pins (σ.set i (some v)) H s'->Q () s') (hf:X.fn x=true\/X.env.scope.names.lookup x=some .local:=by first | exact .inl rfl | exact .inr rfl | assumption):wpAny M A (storeName X.env x u) Q E s:=
 uF I hN hi hx r (λs' I' _=>h s' I') hf
theorem Inv.HD {s':Shared} {ch:List Addr} (I:Inv X pins σ H s) (ho:s'.os=s.os) (u:Un (eM X.stack) ch H H' s.heap s'.heap) (bT:hJ X.prog X.w H' s'.heap) (hg:AllBare s'.gens)
  (Fq:∀b∈ch,(b∈X.ex\/X.s₀.heap.objs.size<=b)/\b≠X.env.locals/\(∀x c,X.env.cells.lookup x=some c->c≠b)/\∀p∈X.pn++pins,p.1≠b):Inv X pins σ H' s':=by
 obtain⟨h',g',d',t',o'⟩:=s';have e:o'=s.os:=ho;subst e;exact I.call (g':=g') (t':=t') (d':=d') u bT hg Fq
end
abbrev XK:=Value->Option Addr->Hp->Prop
abbrev St:=List (Option V)
abbrev VK:=V->Hp->Prop
abbrev TE:=St->Hp->VK->Prop
abbrev TT:=St->Hp->(Bool->Hp->Prop)->Prop
abbrev TA:=St->Hp->(List V->Hp->Prop)->Prop
structure Ends where
 nx:St->Hp->Prop
 rt:VK
 bk:St->Hp->Prop:=λ_ _=>False
 ct:St->Hp->Prop:=λ_ _=>False
abbrev TS:=Ends->St->Hp->Prop
noncomputable def EP (X:Cx) (pins:List (Addr×Obj)) (σ:St) (Q:VK) (u:Value) (s':Shared):Prop:=∃v H',Inv X pins σ H' s'/\RelV v u/\Q v H'
noncomputable def TP (X:Cx) (pins:List (Addr×Obj)) (σ:St) (Q:Bool->Hp->Prop) (b:Bool) (s':Shared):Prop:=∃H',Inv X pins σ H' s'/\Q b H'
noncomputable def AP (X:Cx) (pins:List (Addr×Obj)) (σ:St) (Q:List V->Hp->Prop) (us:List Value) (s':Shared):Prop:=∃vs H',Inv X pins σ H' s'/\bJ vs us/\Q vs H'
noncomputable def SP (X:Cx) (pins:List (Addr×Obj)) (D:Ends) (f:Flow) (s':Shared):Prop:=
 match f with
 | .next=>∃σ' H',Inv X pins σ' H' s'/\D.nx σ' H'
 | .brk=>∃σ' H',Inv X pins σ' H' s'/\D.bk σ' H'
 | .cont=>∃σ' H',Inv X pins σ' H' s'/\D.ct σ' H'
 | .ret u=>∃v σ' H',Inv X pins σ' H' s'/\RelV v u/\D.rt v H'
noncomputable def PE (X:Cx) (e:Expr) (t:TE):Prop:=
 ∀(pins:List (Addr×Obj)) (s:Shared) (σ:St) (H:Hp) (Q:VK),Inv X pins σ H s->t σ H Q->wpAny (model X.prog X.w) X.A (eval e X.env) (EP X pins σ Q) X.xe s
noncomputable def PT (X:Cx) (e:Expr) (t:TT):Prop:=
 ∀(pins:List (Addr×Obj)) (s:Shared) (σ:St) (H:Hp) (Q:Bool->Hp->Prop),Inv X pins σ H s->t σ H Q->wpAny (model X.prog X.w) X.A (isTrue e X.env (eval e X.env)) (TP X pins σ Q) X.xe s
noncomputable def PW (X:Cx) (e:Expr) (t:TT):Prop:=
 ∀(whole:Sem Value) (pins:List (Addr×Obj)) (s:Shared) (σ:St) (H:Hp) (Q:Bool->Hp->Prop),Inv X pins σ H s->t σ H Q->wpAny (model X.prog X.w) X.A (isTrue e X.env whole) (TP X pins σ Q) X.xe s
theorem PW.pt {X:Cx} {e:Expr} {t:TT} (h:PW X e t):PT X e t:=h _
noncomputable def PA (X:Cx) (es:List Expr) (t:TA):Prop:=
 ∀(pos:Pos) (pins:List (Addr×Obj)) (s:Shared) (σ:St) (H:Hp) (Q:List V->Hp->Prop),Inv X pins σ H s->t σ H Q->wpAny (model X.prog X.w) X.A (spliced (backTo pos (starEach es X.env))) (AP X pins σ Q) X.xe s
noncomputable def PS (X:Cx) (st:Stmt) (t:TS):Prop:=
 ∀(pins:List (Addr×Obj)) (s:Shared) (σ:St) (H:Hp) (D:Ends),Inv X pins σ H s->t D σ H->wpAny (model X.prog X.w) X.A (exec st X.env) (SP X pins D) X.xe s
noncomputable def wZ (X:Cx) (st:List Stmt) (t:TS):Prop:=
 ∀(pins:List (Addr×Obj)) (s:Shared) (σ:St) (H:Hp) (D:Ends),Inv X pins σ H s->t D σ H->wpAny (model X.prog X.w) X.A (execs st X.env) (SP X pins D) X.xe s
theorem cU {α:Type} {t:Sem α} {Q Q':α->Shared->Prop} {M:Model} {A:Around} {E:Value->Shared->Prop} {s:Shared} (h:wpAny M A t Q E s) (hQ:∀a s,Q a s->Q' a s):wpAny M A t Q' E s:=wpAny_mono h hQ λ_ _ x=>x
end L2
namespace L2
open PySem PySem.Spec PyProof.Rows
section
variable {X : Cx}
noncomputable def tVar (i:Nat):TE:=λσ H Q=>∃v,σ[i]?=some (some v)/\Q v H
noncomputable def tC (v:V):TE:=λ_ H Q=>Q v H
theorem Ja {i:Nat} {x:Str} {pos:Pos} (hN:X.N[i]?=some x) (hv:PX X.env.scope x) (hd:(x==("__debug__":Str))=false:=by decide) (t8:(x==("__classdict__":Str))=false:=by decide):PE X (.Name x pos) (tVar i):=by
 intro pins s σ H Q I h;obtain⟨v,e,h⟩:=h;obtain⟨m,hn,hl⟩:=I.loc;obtain⟨u,r,l⟩:=hl i x v hN e hv;have fin:EP X pins σ Q u s:=⟨v,H,I,r,h⟩;rcases l with ⟨hk,hm⟩ | ⟨hk,c,hc,HE⟩
 ·exact wpAny_Name (wpAny_loadName_local I.ok.kind hk hn hm fin) hd
 ·rcases hk with hk | hk
  ·exact wpAny_Name (wpAny_loadName_cell I.ok.kind hk hc HE fin) hd
  ·exact wpAny_Name (wpAny_loadName_free I.ok.kind hk hc HE fin t8) hd
theorem ae {i j pos}:PE X (.Constant (.int i) j pos) (tC (.int i)):=λ_ _ _ H _ I h=>wpAny_Constant_int ⟨.int i,H,I.tok _,⟨_,rfl⟩,h⟩
theorem lq {b j pos}:PE X (.Constant (.bool b) j pos) (tC (.bl b)):=λ_ _ _ H _ I h=>Constant_bool ⟨.bl b,H,I,rfl,h⟩
theorem yJ {j pos}:PE X (.Constant .none j pos) (tC .dI):=λ_ _ _ H _ I h=>Constant_none ⟨.dI,H,I,rfl,h⟩
theorem aV {x j pos}:PE X (.Constant (.str x) j pos) (tC (.str x)):=λ_ _ _ H _ I h=>Calls.Constant_str ⟨.str x,H,I.tok _,⟨_,rfl⟩,h⟩
noncomputable def Gl (X:Cx) (x:Str):Prop:=X.env.kindOf x=some .globalImplicit
theorem iO {E:Value->Shared->Prop} {pins:List (Addr×Obj)} {s:Shared} {σ:St} {H:Hp} {x:Str} {u:Value} {pos:Pos} {Q:Value->Shared->Prop} (I:Inv X pins σ H s) (hg:Gl X x) (hm:X.mg x=some u) (h:Q u s)
  (hd:(x==("__debug__":Str))=false:=by decide):wpAny (model X.prog X.w) X.A (eval (.Name x pos) X.env) Q E s:=
 Calls.Name_function_global I.ok.kind hg (Calls.loadGlobal_global (by rw[I.ok.glob];exact I.mod.glob.keeps I.bk) hm h) hd
theorem ji {E:Value->Shared->Prop} {pins:List (Addr×Obj)} {s:Shared} {σ:St} {H:Hp} {x:Str} {u:Value} {pos:Pos} {Q:Value->Shared->Prop} (I:Inv X pins σ H s) (hg:Gl X x) (hm:X.mg x=none) (hv:bootBuiltins x=some u) (h:Q u s)
  (hn:x≠"__name__":=by decide) (hd:(x==("__debug__":Str))=false:=by decide):wpAny (model X.prog X.w) X.A (eval (.Name x pos) X.env) Q E s:=by
 obtain⟨mb,h1,h2⟩:=I.mod.blt;exact Calls.Name_function_global I.ok.kind hg (Calls.loadGlobal_builtin (by rw[I.ok.glob];exact I.mod.glob.keeps I.bk) hm (by rw[I.ok.blt];exact h1.keeps I.bk) ((h2 x hn).trans hv) h) hd
theorem qN {x:Str} {v:V} {u:Value} {pos:Pos} (hg:Gl X x) (hm:X.mg x=some u) (r:RelV v u) (hd:(x==("__debug__":Str))=false:=by decide):PE X (.Name x pos) (tC v):=
 λ_ _ _ H _ I h=>iO I hg hm ⟨v,H,I,r,h⟩ hd
theorem vv {x:Str} {v:V} {u:Value} {pos:Pos} (hg:Gl X x) (hm:X.mg x=none) (hv:bootBuiltins x=some u) (r:RelV v u) (hn:x≠"__name__":=by decide) (hd:(x==("__debug__":Str))=false:=by decide):PE X (.Name x pos) (tC v):=
 λ_ _ _ H _ I h=>ji I hg hm hv ⟨v,H,I,r,h⟩ hn hd
noncomputable def ZF (ta tb:TE) (k:Int->Int->Hp->Prop):St->Hp->Prop:=λσ H=>ta σ H λx H1=>tb σ H1 λy H2=>∃i j,x=.int i/\y=.int j/\k i j H2
variable {a b : Expr} {ta tb : TE} {pos : Pos}
noncomputable def PC (X:Cx) (op:CmpOp) (a b:Expr) (t:TE):Prop:=
 ∀(pins:List (Addr×Obj)) (s:Shared) (σ:St) (H:Hp) (Q:VK),Inv X pins σ H s->t σ H Q->
  wpAny (model X.prog X.w) X.A (eval a X.env) (λv s₁=>wpAny (model X.prog X.w) X.A (eval b X.env) (λu s₂=>wpAny (model X.prog X.w) X.A (compareOp op v u) (EP X pins σ Q) X.xe s₂) X.xe s₁) X.xe s
theorem CN (b:Expr) {op:CmpOp} (h:op≠.In) (h2:op≠.NotIn):behindInMarks op b=false:=by
 have e1:(op==CmpOp.In)=false:=by cases op <;>first | rfl | exact absurd rfl h
 have e2:(op==CmpOp.NotIn)=false:=by cases op <;>first | rfl | exact absurd rfl h2
 cases b <;>simp [behindInMarks,e1,e2]
noncomputable def Bu (p:Int->Int->Bool) (ta tb:TE):TE:=λσ H Q=>ZF ta tb (λi j H2=>Q (.bl (p i j)) H2) σ H
abbrev tLt:TE->TE->TE:=Bu λi j=>decide (i<j)
abbrev tLe:TE->TE->TE:=Bu λi j=>decide (i<=j)
abbrev tGt:TE->TE->TE:=Bu λi j=>decide (j<i)
abbrev tGe:TE->TE->TE:=Bu λi j=>decide (j<=i)
abbrev ZG:TE->TE->TE:=Bu λi j=>decide (i=j)
abbrev ZH:TE->TE->TE:=Bu λi j=>!decide (i=j)
noncomputable def tB (t:TE):TT:=λσ H Q=>t σ H λx H1=>∃c,x=.bl c/\Q c H1
theorem yK {op:CmpOp} {t:TE} (h:PC X op a b t) (h1:behindInMarks op b=false:=by first | exact CN _ (by decide) (by decide) | rfl):PT X (.Compare a [op] [b] pos) (tB t):=by
 intro pins s σ H Q I hw;refine wpAny_isTrue_Compare1 (cU (h pins s σ H _ I hw) λv s1 h1=>cU h1 λu s2 h2=>cU h2 λc s3 dX=>?_) h1;obtain⟨x,H1,I1,r1,q1⟩:=dX;obtain⟨d,rfl,q⟩:=q1;cases r1;exact wpAny_truthy_bool ⟨H1,I1,q⟩
theorem rL {e:Expr} {t:TE} (h:PE X e t) (he:∀whole,isTrue e X.env whole=(do let v <-whole;standAt e.pos;holding [v] (truthy v)):=by intro _;rfl):PT X e (tB t):=by
 intro pins s σ H Q I hw;refine isTrue_plain (cU (h pins s σ H _ I hw) λv s1 dX=>?_) (he _);obtain⟨x,H1,I1,r1,q1⟩:=dX;obtain⟨d,rfl,q⟩:=q1;cases r1;exact wpAny_truthy_bool ⟨H1,I1,q⟩
variable {tA OM : TT} {rest : List Expr}
noncomputable def tAnd (t u:TT):TT:=λσ H Q=>t σ H λc H1=>if c=true then u σ H1 Q else Q false H1
noncomputable def tOr (t u:TT):TT:=λσ H Q=>t σ H λc H1=>if c=true then Q true H1 else u σ H1 Q
noncomputable def tNot (t:TT):TT:=λσ H Q=>t σ H λc H1=>Q (!c) H1
theorem pw_and1 (ha:PT X a tA):PW X (.BoolOp .And [a] pos) tA:=by
 intro wh pins s σ H Q I h;refine isTrue_and (cU (ha pins s σ H Q I h) λc s1 e=>?_);cases c with
 | true=>exact isTrue_and_nil e
 | false=>exact e
theorem pw_or1 (ha:PT X a tA):PW X (.BoolOp .Or [a] pos) tA:=by
 intro wh pins s σ H Q I h;refine isTrue_or (cU (ha pins s σ H Q I h) λc s1 e=>?_);cases c with
 | false=>exact isTrue_or_nil e
 | true=>exact e
theorem pw_and (ha:PT X a tA) (hb:PW X (.BoolOp .And (b::rest) pos) OM):PW X (.BoolOp .And (a::b::rest) pos) (tAnd tA OM):=by
 intro wh pins s σ H Q I h;refine isTrue_and (cU (ha pins s σ H _ I h) λc s1 ⟨H1,I1,q1⟩=>?_);cases c with
 | true=>exact hb wh pins s1 σ H1 Q I1 q1
 | false=>exact⟨H1,I1,q1⟩
theorem pw_or (ha:PT X a tA) (hb:PW X (.BoolOp .Or (b::rest) pos) OM):PW X (.BoolOp .Or (a::b::rest) pos) (tOr tA OM):=by
 intro wh pins s σ H Q I h;refine isTrue_or (cU (ha pins s σ H _ I h) λc s1 ⟨H1,I1,q1⟩=>?_);cases c with
 | true=>exact⟨H1,I1,q1⟩
 | false=>exact hb wh pins s1 σ H1 Q I1 q1
theorem yL (ha:PT X a tA):PT X (.UnaryOp .Not a pos) (tNot tA):=by
 intro pins s σ H Q I h;exact isTrue_not (ha pins s σ H (λc H1=>Q (!c) H1) I h)
noncomputable def tIf (t:TT) (ta tb:TE):TE:=λσ H Q=>t σ H λc H1=>if c=true then ta σ H1 Q else tb σ H1 Q
theorem mX {c:Expr} (hc:PT X c tA) (ha:PE X a ta) (hb:PE X b tb):PE X (.IfExp c a b pos) (tIf tA ta tb):=by
 intro pins s σ H Q I h;refine wpAny_IfExp (cU (hc pins s σ H _ I h) λd s1 ⟨H1,I1,q1⟩=>?_);cases d with
 | true=>exact ha pins s1 σ H1 Q I1 q1
 | false=>exact hb pins s1 σ H1 Q I1 q1
end
end L2
namespace L2
open PySem PySem.Spec PyProof.Rows
noncomputable def bH (K:abg) (H:Hp) (a:Addr) (xs:List V):Prop:=
 Rd H a (.lst xs)\/
  ∃(o:Obj) (bE:Array Value) (n:Nat),K.lookup a=some o/\o.cls=.type "list"/\o.dict=none/\o.data=.seq bE n/\bE.size<=sizeLine/\bJ xs bE.toList
noncomputable def gP (K:abg) (H:Hp) (a:Addr) (xs:List V):Prop:=
 Rd H a (.tup xs)\/
  ∃(o:Obj) (bE:Array Value) (n:Nat),K.lookup a=some o/\o.cls=.type "tuple"/\o.data=.seq bE n/\bE.size<=sizeLine/\bJ xs bE.toList
noncomputable def P4:Value->Option V
 | .none=>some .dI
 | .bool b=>some (.bl b)
 | .int i _=>some (.int i)
 | .str x _=>some (.str x)
 | .bytes b _=>some (.CB b)
 | .float b _=>some (.IU b)
 | .ref a=>some (.ref a)
 | .type n=>some (.ty n)
 | _=>none
theorem RelV.abs {x:V} {u:Value} (r:RelV x u):P4 u=some x:=by
 cases x with
 | dI=>cases r;rfl
 | bl _=>cases r;rfl
 | int _=>obtain⟨t,rfl⟩:=r;rfl
 | str _=>obtain⟨t,rfl⟩:=r;rfl
 | CB _=>obtain⟨t,rfl⟩:=r;rfl
 | IU _=>obtain⟨t,rfl⟩:=r;rfl
 | ref _=>cases r;rfl
 | ty _=>cases r;rfl
theorem RelV.inj {x y:V} {u:Value} (r:RelV x u) (q:RelV y u):x=y:=aaE (r.abs.symm.trans q.abs)
theorem bJ.inj:∀{xs ys:List V} {us:List Value},bJ xs us->bJ ys us->xs=ys
 | _,_,_,.nil,.nil=>rfl
 | _,_,_,.cons r t,.cons r' t'=>by rw[r.inj r',bJ.inj t t']
section
variable {X : Cx} {pins : List (Addr × Obj)} {σ : St} {H : Hp} {s : Shared} {a : Addr} {xs ys : List V}
theorem bH.of {K:abg} (h:H a=some (.lst xs)):bH K H a xs:=.inl (.inl h)
theorem gP.of {K:abg} (h:H a=some (.tup xs)):gP K H a xs:=.inl (.inl h)
theorem Inv.list (I:Inv X pins σ H s) (h:bH X.K H a xs):∃bE:List Value,bJ xs bE/\PlainL s.heap a bE.toArray/\xs.length<=sizeLine:=by
 rcases h with h | ⟨o,bE,n,hk,hc,hd,hs,hz,r⟩
 ·obtain⟨z,bE,n,r,e⟩:=h.ok I.bT;exact⟨bE,r,⟨_,n,e,rfl,rfl,rfl⟩,z⟩
 ·refine⟨bE.toList,r,⟨o,n,I.mS a o hk,hc,hd,by simpa using hs⟩,?_⟩;have e:=r.length;simp only[Array.length_toList] at e;lia
theorem Inv.tuple (I:Inv X pins σ H s) (h:gP X.K H a xs):∃bE:List Value,bJ xs bE/\IsTup s.heap a bE.toArray/\xs.length<=sizeLine:=by
 rcases h with h | ⟨o,bE,n,hk,hc,hs,hz,r⟩
 ·obtain⟨z,bE,r,p⟩:=h.ok I.bT;exact⟨bE,r,p,z⟩
 ·refine⟨bE.toList,r,⟨o,I.mS a o hk,hc,n,by simpa using hs⟩,?_⟩;have e:=r.length;simp only[Array.length_toList] at e;lia
theorem Inv.w6 (I:Inv X pins σ H s) (h:bH X.K H a xs) (h':bH X.K H a ys):xs=ys:=by
 obtain⟨bE,r,⟨o,n,e,_,_,d⟩,_⟩:=I.list h;obtain⟨its',r',⟨o',n',e',_,_,d'⟩,_⟩:=I.list h';rw[e] at e';cases e';rw[d] at d';injection d' with d1 _
 have:bE=its':=by simpa using congrArg Array.toList d1
 subst this;exact r.inj r'
theorem Inv.Bv (I:Inv X pins σ H s) (h:gP X.K H a xs) (h':gP X.K H a ys):xs=ys:=by
 obtain⟨bE,r,⟨o,e,_,n,d⟩,_⟩:=I.tuple h;obtain⟨its',r',⟨o',e',_,n',d'⟩,_⟩:=I.tuple h';rw[e] at e';cases e';rw[d] at d';injection d' with d1 _
 have:bE=its':=by simpa using congrArg Array.toList d1
 subst this;exact r.inj r'
end
abbrev Cx.kc (X:Cx) (E:Value->Shared->Prop):Cx:={X with xe:=E}
abbrev Cx.K6 (X:Cx):Cx:=X.kc λ_ _=>False
theorem Cx.Ok.kc {X:Cx} (ok:X.Ok) (E:Value->Shared->Prop):(X.kc E).Ok:=
 ⟨ok.mod,ok.kind,ok.glob,ok.blt,ok.above,ok.inj,ok.has,ok.IY,ok.hd,ok.frames,ok.K5,ok.OJ,ok.bs,ok.CM,ok.yI,ok.Bq,ok.mU,ok.FO⟩
theorem Cx.Ok.fO {X:Cx} {E:Value->Shared->Prop} (ok:(X.kc E).Ok):X.Ok:=
 ⟨ok.mod,ok.kind,ok.glob,ok.blt,ok.above,ok.inj,ok.has,ok.IY,ok.hd,ok.frames,ok.K5,ok.OJ,ok.bs,ok.CM,ok.yI,ok.Bq,ok.mU,ok.FO⟩
section
variable {X : Cx} {pins : List (Addr × Obj)} {σ : St} {H : Hp} {s : Shared} {E : Value -> Shared -> Prop}
theorem Inv.kc (I:Inv X pins σ H s) (E:Value->Shared->Prop):Inv (X.kc E) pins σ H s:=⟨I.ok.kc E,I.os,I.bare,I.base,I.loc,I.cell,I.free,I.gz,I.pin,I.bT,I.len⟩
theorem Inv.fO (I:Inv (X.kc E) pins σ H s):Inv X pins σ H s:=⟨I.ok.fO,I.os,I.bare,I.base,I.loc,I.cell,I.free,I.gz,I.pin,I.bT,I.len⟩
theorem SP.fO {D:Ends} {f:Flow} {s':Shared} (h:SP (X.kc E) pins D f s'):SP X pins D f s':=by
 cases f with
 | next=>obtain⟨σ',H',I,q⟩:=h;exact⟨σ',H',I.fO,q⟩
 | brk=>obtain⟨σ',H',I,q⟩:=h;exact⟨σ',H',I.fO,q⟩
 | cont=>obtain⟨σ',H',I,q⟩:=h;exact⟨σ',H',I.fO,q⟩
 | ret u=>obtain⟨v,σ',H',I,r,q⟩:=h;exact⟨v,σ',H',I.fO,r,q⟩
theorem wZ.K6 {st:List Stmt} {t:TS} (h:wZ X.K6 st t):wZ X st t:=λpins s σ H D I hw=>
 wpAny_mono (h pins s σ H D (I.kc _) hw) (λ_ _ q=>q.fO) λ_ _ z=>False.elim z
end
section
variable {X : Cx} {st : Stmt} {rest : List Stmt} {t u : TS} {e : Expr} {te : TE} {pos : Pos}
noncomputable def tNext:TS:=λD σ H=>D.nx σ H
noncomputable def tSeq (t u:TS):TS:=λD σ H=>t {D with nx:=u D} σ H
theorem br:wZ X [] tNext:=λ_ _ σ H _ I h=>wpAny_execs_nil ⟨σ,H,I,h⟩
theorem ao (h1:PS X st t) (h2:wZ X rest u):wZ X (st::rest) (tSeq t u):=by
 intro pins s σ H D I h;refine wpAny_execs_cons (cU (h1 pins s σ H {D with nx:=u D} I h) λf s1 q=>?_);cases f with
 | next=>
  obtain⟨σ',H',I',q⟩:=q;exact h2 pins s1 σ' H' D I' q
 | ret v=>exact q
 | brk=>exact q
 | cont=>exact q
theorem av (h1:PS X st t):wZ X [st] t:=by
 intro pins s σ H D I h;refine wpAny_execs_cons (cU (h1 pins s σ H D I h) λf s1 q=>?_);cases f with
 | next=>exact wpAny_execs_nil q
 | ret v=>exact q
 | brk=>exact q
 | cont=>exact q
noncomputable def Jb:TS:=λD σ H=>D.bk σ H
theorem CO:PS X (.Break pos) Jb:=λ_ _ σ H _ I h=>wpAny_Break ⟨σ,H,I,h⟩
theorem Inv.quiet {pins:List (Addr×Obj)} {σ:St} {H:Hp} {s:Shared} (I:Inv X pins σ H s):interactive X.env=false:=by simp [interactive,I.ok.kind]
noncomputable def tDrop (te:TE):TS:=λD σ H=>te σ H λ_ H1=>D.nx σ H1
theorem bR (he:PE X e te) (hs:swapsWith e none pos.line X.env=pure false:=by rfl):PS X (.Expr e pos) (tDrop te):=by
 intro pins s σ H D I h;exact wpAny_Expr_any (cU (he pins s σ H _ I h) λv s1 ⟨x,H1,I1,r1,q1⟩=>⟨σ,H1,I1,q1⟩) I.quiet hs
noncomputable def tRet (te:TE):TS:=λD σ H=>te σ H D.rt
theorem aW (he:PE X e te):PS X (.Return (some e) pos) (tRet te):=by
 intro pins s σ H D I h;exact wpAny_Return_some (cU (he pins s σ H _ I h) λv s1 ⟨x,H1,I1,r1,q1⟩=>⟨x,σ,H1,I1,r1,q1⟩)
noncomputable def tIfS (c:TT) (t u:TS):TS:=λD σ H=>c σ H λb H1=>if b=true then t D σ H1 else u D σ H1
theorem bF {c:Expr} {a b:List Stmt} {tc:TT} (hc:PT X c tc) (ha:wZ X a t) (hb:wZ X b u):PS X (.If c a b pos) (tIfS tc t u):=by
 intro pins s σ H D I h;refine wpAny_If (cU (hc pins s σ H _ I h) λd s1 ⟨H1,I1,q1⟩=>?_);cases d with
 | true=>exact ha pins s1 σ H1 D I1 q1
 | false=>exact hb pins s1 σ H1 D I1 q1
end
abbrev TG:=V->St->Hp->(St->Hp->Prop)->Prop
abbrev HF:=List V->St->Hp->(St->Hp->Prop)->Prop
noncomputable def PG (X:Cx) (target:Expr) (t:TG):Prop:=
 ∀(pins:List (Addr×Obj)) (s:Shared) (σ:St) (H:Hp) (v:V) (u:Value) (Q:St->Hp->Prop),Inv X pins σ H s->RelV v u->t v σ H Q->
  wpAny (model X.prog X.w) X.A (assign target X.env u) (λ_ s'=>∃σ' H',Inv X pins σ' H' s'/\Q σ' H') X.xe s
noncomputable def K7 (X:Cx) (ts:List Expr) (t:HF):Prop:=
 ∀(pins:List (Addr×Obj)) (s:Shared) (σ:St) (H:Hp) (vs:List V) (us:List Value) (Q:St->Hp->Prop),Inv X pins σ H s->bJ vs us->t vs σ H Q->
  wpAny (model X.prog X.w) X.A (assignInOrder ((assignEach ts X.env).map (·.2)) us) (λ_ s'=>∃σ' H',Inv X pins σ' H' s'/\Q σ' H') X.xe s
abbrev Jc:=V->V->V->Hp->(Hp->Prop)->Prop
noncomputable def LR (X:Cx) (t:Jc):Prop:=
 ∀(pins:List (Addr×Obj)) (s:Shared) (σ:St) (H:Hp) (o i v:V) (ov iv u:Value) (Q:Hp->Prop),Inv X pins σ H s->RelV o ov->RelV i iv->RelV v u->t o i v H Q->
  wpAny (model X.prog X.w) X.A (setItem ov iv u) (λ_ s'=>∃H',Inv X pins σ H' s'/\Q H') X.xe s
abbrev TIp:=V->V->Hp->VK->Prop
section
variable {X : Cx} {pos : Pos}
noncomputable def gName (i:Nat):TG:=λv σ H Q=>Q (σ.set i (some v)) H
theorem aP {i:Nat} {x:Str} (hN:X.N.Nodup) (hi:X.N[i]?=some x) (hx:Loc X.env.scope x) (hf:X.fn x=true\/X.env.scope.names.lookup x=some .local:=by first | exact .inl rfl | exact .inr rfl | assumption):PG X (.Name x pos) (gName i):=by
 intro pins s σ H v u Q I r h;exact wpAny_assign_Name (mW I hN hi hx r (λs' I'=>⟨_,H,I',h⟩) hf)
noncomputable def gNil:HF:=λvs σ H Q=>vs=[]/\Q σ H
noncomputable def gCons (t:TG) (u:HF):HF:=λvs σ H Q=>∃v r,vs=v::r/\t v σ H λσ' H'=>u r σ' H' Q
theorem dg:K7 X [] gNil:=by
 intro pins s σ H vs us Q I r h;obtain⟨e,h⟩:=h;subst e;cases r;exact assignInOrder_nil ⟨σ,H,I,h⟩
theorem bu {e:Expr} {es:List Expr} {t:TG} {u:HF} (h1:PG X e t) (h2:K7 X es u)
  (hs:(assignEach (e::es) X.env).map (·.2)=assign e X.env::(assignEach es X.env).map (·.2):=by rfl):K7 X (e::es) (gCons t u):=by
 intro pins s σ H vs us Q I r h;obtain⟨v,vr,e1,h⟩:=h;subst e1;cases r with
 | cons r rr=>
  rw[hs];refine assignInOrder_cons (cU (h1 pins s σ H _ _ _ I r h) λ_ s1 ⟨σ1,H1,I1,q1⟩=>?_);exact h2 pins s1 σ1 H1 _ _ Q I1 rr q1
noncomputable def FR (K:abg) (n:Nat) (t:HF):TG:=λv σ H Q=>∃a xs,v=.ref a/\gP K H a xs/\xs.length=n/\t xs σ H Q
theorem Jd {es:List Expr} {k:Nat} {t:HF} {n:Nat} (hc:X.calm=true) (h:K7 X es t)
  (hn:(assignEach es X.env).length=n:=by rfl) (hst:(assignEach es X.env).findIdx? (·.1)=none:=by rfl):PG X (.Tuple es k pos) (FR X.K n t):=by
 intro pins s σ H v u Q I r hw;obtain⟨a,xs,e1,hq,hl,hw⟩:=hw;subst e1;cases r;obtain⟨bE,rv,ht,hz⟩:=I.tuple hq;refine assign_Tuple_tuple (I.ok.hd hc) ht (by simp [hn,<-hl,rv.length]) hst λh' hx=>?_;have I1:Inv X pins σ H {s with heap:=h'}:=I.kept (t':=s.toks) λb o e=>hx b o (aas (abt e)) e;exact h pins _ σ H xs _ Q I1 (by simpa using rv) hw
noncomputable def gSub (to ti:TE) (t:Jc):TG:=λv σ H Q=>to σ H λo H1=>ti σ H1 λi H2=>t o i v H2 λH3=>Q σ H3
theorem jj {o i:Expr} {to ti:TE} {t:Jc} (ho:PE X o to) (hi:PE X i ti) (hs:LR X t)
  (ha:∀v,assign (.Subscript o i pos) X.env v=(do
   let ov <-holding [v] (eval o X.env)
   let iv <-holding [v,ov] (eval i X.env)
   standAt pos
   holding [v,ov,iv] (setItem ov iv v)
   release [v,ov,iv] []):=by intro _;rfl):PG X (.Subscript o i pos) (gSub to ti t):=by
 intro pins s σ H v u Q I r h;rw[ha];refine wpAny_bind (wpAny_holding (cU (ho pins s σ H _ I h) λov s1 dX=>?_));obtain⟨x,H1,I1,r1,q1⟩:=dX;refine wpAny_bind (wpAny_holding (cU (hi pins s1 σ H1 _ I1 q1) λiv s2 dX=>?_));obtain⟨y,H2,I2,r2,q2⟩:=dX;refine wpAny_bind (wpAny_standAt (wpAny_bind (wpAny_holding (cU (hs pins s2 σ H2 x y v ov iv u _ I2 r1 r2 r q2) λ_ s3 ⟨H3,I3,q3⟩=>?_))));exact wpAny_release ⟨σ,H3,I3,q3⟩
noncomputable def tAsg (te:TE) (g:TG):TS:=λD σ H=>te σ H λx H1=>g x σ H1 D.nx
theorem jk {tg e:Expr} {te:TE} {g:TG} (he:PE X e te) (hg:PG X tg g) (hs:swapsWithSole [tg] e pos.line X.env=pure false:=by rfl) (hw:swappedStores [tg] e X.env=pure none:=by rfl)
  (h1:(assignEach [tg] X.env).map (·.2)=[assign tg X.env]:=by rfl):PS X (.Assign [tg] e pos) (tAsg te g):=by
 intro pins s σ H D I h;refine wpAny_Assign_stores (cU (he pins s σ H _ I h) λv s1 dX=>?_) hs hw;obtain⟨x,H1,I1,r1,q1⟩:=dX;rw[h1];exact cU (hg pins s1 σ H1 x v _ I1 r1 q1) λ_ s2 q=>q
theorem aS {i:Nat} {x:Str} {e:Expr} {te:TE} {pos':Pos} (hN:X.N.Nodup) (hi:X.N[i]?=some x) (hx:Loc X.env.scope x) (he:PE X e te) (hs:swapsWith e (some (.Name x pos')) pos.line X.env=pure false:=by rfl) (hf:X.fn x=true\/X.env.scope.names.lookup x=some .local:=by first | exact .inl rfl | exact .inr rfl | assumption):
  PS X (.Assign [.Name x pos'] e pos) (tAsg te (gName i)):=by
 intro pins s σ H D I h;refine wpAny_Assign_Name (cU (he pins s σ H _ I h) λv s1 dX=>?_) hs;obtain⟨y,H1,I1,r1,q1⟩:=dX;exact mW I1 hN hi hx r1 (λs2 I2=>⟨_,H1,I2,q1⟩) hf
end
section
variable {X : Cx} {pos : Pos}
noncomputable def vx (c:TT) (tb:TS):TS:=λD σ H=>∃W:Nat->St->Hp->Prop,(∃m,W m σ H)/\∀m σ H,W m σ H->
 c σ H λb H1=>if b=true then ∃N:St->Hp->Prop,(∀σ' H',N σ' H'->∃m',m'<m/\W m' σ' H')/\tb {D with nx:=N,ct:=N,bk:=D.nx} σ H1 else D.nx σ H1
theorem jl {c:Expr} {body:List Stmt} {tc:TT} {tb:TS} (hp:PassesOwn (model X.prog X.w) X.A X.env X.xe) (hc:PT X c tc) (hb:wZ X body tb):PS X (.While c body [] pos) (vx tc tb):=by
 intro pins s σ H D I h;obtain⟨W,⟨m0,w0⟩,turn⟩:=h;refine wpAny_While (codeAny_whileLoop (λn s'=>∃σ' H',Inv X pins σ' H' s'/\W n σ' H') ?_ m0 ⟨σ,H,I,w0⟩);rintro n s1 ⟨σ1,H1,I1,w1⟩;refine wpAny_passesOwn hp (cU (hc pins s1 σ1 H1 _ I1 (turn n σ1 H1 w1)) λb s2 ⟨H2,I2,q2⟩=>?_);cases b with
 | true=>
  obtain⟨N,hN,q2⟩:=q2;rw[if_pos rfl];refine wpAny_passesOwn hp (cU (hb pins s2 σ1 H2 _ I2 q2) λf s3 q3=>?_);cases f with
  | next=>
   obtain⟨σ3,H3,I3,n3⟩:=q3;obtain⟨m',hm,w3⟩:=hN σ3 H3 n3;exact⟨m',hm,σ3,H3,I3,w3⟩
  | cont=>
   obtain⟨σ3,H3,I3,n3⟩:=q3;obtain⟨m',hm,w3⟩:=hN σ3 H3 n3;exact⟨m',hm,σ3,H3,I3,w3⟩
  | brk=>exact q3
  | ret v=>exact q3
 | false=>
  rw[if_neg aaF];exact wpAny_execs_nil ⟨σ1,H2,I2,q2⟩
end
structure It where
 go:Nat->Hp->Prop
 yB:Nat->Hp->V->Hp->Prop
 stop:Nat->Hp->Prop
noncomputable def ke (X:Cx) (pins:List (Addr×Obj)) (H:Hp) (b:Addr):Prop:=
 H b=none/\b≠X.env.locals/\b∉X.fs/\(b∈X.ex\/X.s₀.heap.objs.size<=b)/\(∀x c,X.env.cells.lookup x=some c->c≠b)/\∀p∈X.pn++pins,p.1≠b
theorem Inv.CP {X:Cx} {pins:List (Addr×Obj)} {σ:St} {H H':Hp} {s:Shared} {b:Addr} (I:Inv X pins σ H s) (hb:s.heap.objs.size<=b) (hn:H' b=none):ke X pins H' b:=by
 refine⟨hn,Nat.ne_of_gt (aaC I.lt hb),I.PZ hb,.inr (aay I.sz hb),λx c e z=>?_,λp hp z=>?_⟩
 ·obtain⟨v,q⟩:=I.cell x c e;exact absurd (aaC q.lt (by rw[z];exact hb)) (aaK _)
 ·exact absurd (aaC (abt (I.pin p hp).1) (by rw[z];exact hb)) (aaK _)
structure Turn (P:Program) (w:World) (K:abg) (tg:Expr) (J:It) (fp:List Addr) (it:Addr) (tn:Nat->Heap->Prop):Prop where
 mem:it∈fp
 obj:∀i h,tn i h->∀b∈fp,∃o,h.get? b=some o/\∀v,o.data≠.cell v
 keep:∀i h h',tn i h->(∀b∈fp,∀o,h.get? b=some o->h'.get? b=some o)->tn i h'
 item:∀(X:Cx),X.prog=P->X.w=w->X.K=K->X.calm=true->∀(i:Nat) (pins:List (Addr×Obj)) (s:Shared) (σ:St) (H:Hp) (E:Value->Shared->Prop),Inv X pins σ H s->(∀b∈fp,ke X pins H b)->tn i s.heap->J.go i H->
  wpAny (model P w) X.A (pyNext (.ref it)) (λr s1=>∃u,r=some u/\
   wpAny (model P w) X.A (letOwnedTupleGo tg (.ref it) u) (λ_ s2=>∃x H',Inv X pins σ H' s2/\RelV x u/\J.yB i H x H'/\tn (i+1) s2.heap/\∀b∈fp,H' b=none) E s1) E s
 done:∀(X:Cx),X.prog=P->X.w=w->X.K=K->X.calm=true->∀(i:Nat) (pins:List (Addr×Obj)) (s:Shared) (σ:St) (H:Hp) (E:Value->Shared->Prop),Inv X pins σ H s->(∀b∈fp,ke X pins H b)->tn i s.heap->J.stop i H->
  wpAny (model P w) X.A (pyNext (.ref it)) (λr s1=>r=none/\Inv X pins σ H s1) E s
 self:∀(A:Around) (i:Nat) (s:Shared) (Q:Value->Shared->Prop) (E:Value->Shared->Prop),tn i s.heap->Q (.ref it) s->wpAny (model P w) A (pyIter (.ref it)) Q E s
abbrev TI:=St->Hp->(It->Hp->Prop)->Prop
noncomputable def W9 (X:Cx) (pins:List (Addr×Obj)) (σ:St) (tg:Expr) (R:It->Hp->Prop) (FT:Value) (s2:Shared):Prop:=
 ∃(it:Addr) (fp:List Addr) (tn:Nat->Heap->Prop) (J:It) (H':Hp),FT=.ref it/\Inv X pins σ H' s2/\Turn X.prog X.w X.K tg J fp it tn/\tn 0 s2.heap/\(∀b∈fp,ke X pins H' b)/\R J H'
noncomputable def PI (X:Cx) (tg iter:Expr) (wi:TI):Prop:=
 ∀(pins:List (Addr×Obj)) (s:Shared) (σ:St) (H:Hp) (R:It->Hp->Prop),Inv X pins σ H s->wi σ H R->
  wpAny (model X.prog X.w) X.A (eval iter X.env) (λv s1=>wpAny (model X.prog X.w) X.A (pyIter v) (W9 X pins σ tg R) X.xe s1) X.xe s
theorem CQ {M:Model} {A:Around} {E:Value->Shared->Prop} {s:Shared} {tg:Expr} {it:Addr} {u:Value} {o:Obj} {n:String} {vs:Array Value} {Q:Unit->Shared->Prop} (ho:s.heap.get? it=some o) (hc:o.cls=.type n) (hd:o.data=.fields vs)
  (hn:["enumerate","zip","dict_itemiterator","dict_reverseitemiterator","odict_iterator","itertools.zip_longest","itertools.pairwise"].contains n=false) (hQ:Q () s):wpAny M A (letOwnedTupleGo tg (.ref it) u) Q E s:=by
 unfold letOwnedTupleGo;cases tg <;>first
  | exact wpAny_pure hQ
  | (cases u <;>first
    | exact wpAny_pure hQ
    | (refine wpAny_bind (wpAny_load ho ?_)
       rw[hc,hd];show wpAny M A (if (["enumerate","zip","dict_itemiterator","dict_reverseitemiterator","odict_iterator","itertools.zip_longest","itertools.pairwise"].contains n && vs[0]?==some (rawInt _))=true then _ else _) Q E s;rw[if_neg (by intro h;rw[hn,Bool.false_and] at h;cases h)];exact wpAny_pure hQ))
noncomputable def Je (K:abg) (a:Addr):It:=
 ⟨λi H=>∃xs x,bH K H a xs/\xs[i]?=some x,λi H x H'=>H'=H/\∀xs,bH K H a xs->xs[i]?=some x,λi H=>∃xs,bH K H a xs/\xs.length<=i⟩
noncomputable def P5 (K:abg) (a:Addr):It:=
 ⟨λi H=>∃xs x,gP K H a xs/\xs[i]?=some x,λi H x H'=>H'=H/\∀xs,gP K H a xs->xs[i]?=some x,λi H=>∃xs,gP K H a xs/\xs.length<=i⟩
noncomputable def LS (lo:Int) (n:Nat):It:=⟨λi _=>i<n,λi H x H'=>H'=H/\x=.int (lo+i),λi _=>n<=i⟩
theorem Bw {P:Program} {w:World} {K:abg} {tg:Expr} (a it:Addr):Turn P w K tg (Je K a) [it] it (λi h=>h.IsListIter it a i) where
 mem:=by simp
 obj:=λi h st b hb=>by
  have e:b=it:=by simpa using hb
  subst e;obtain⟨o,e,c,d⟩:=st;exact⟨o,e,λv z=>by rw[d] at z;cases z⟩
 keep:=λi h h' st k=>st.at λo e=>k it (by simp) o e
 item:=by
  intro X hP hw hK hc i pins s σ H E I hf st hg;subst hP hw hK;obtain⟨xs,x,hq,hx⟩:=hg;obtain⟨bE,rv,p,hz⟩:=I.list hq;obtain⟨u,hu,ru⟩:=rv.get hx;obtain⟨f0,f1,f2,f3,f4,f5⟩:=hf it (by simp);refine wpAny_pyNext_list_item st p.isList (x:=u) (by simpa using hu) λh' Bx sb=>?_;have I1:Inv X pins σ H {s with heap:=h'}:=I.turned (t':=s.toks) (λb o hb e=>(sb.2 b hb).trans e) f0 f1 f3 f4 f5;obtain⟨o,e,c,d⟩:=id Bx;exact⟨u,rfl,CQ (s:={s with heap:=h'}) e c d ∅ ⟨x,H,I1,ru,⟨rfl,λys hy=>by rw[I.w6 hy hq];exact hx⟩,Bx,λb hb=>(hf b hb).1⟩⟩
 done:=by
  intro X hP hw hK hc i pins s σ H E I hf st hg;subst hP hw hK;obtain⟨xs,hq,hx⟩:=hg;obtain⟨bE,rv,p,hz⟩:=I.list hq;obtain⟨f0,f1,f2,f3,f4,f5⟩:=hf it (by simp);have hl:=rv.length;exact wpAny_pyNext_list_end (I.ok.hd hc) st p.isList (by simp;lia) λh' eb=>⟨rfl,I.turned (t':=s.toks) (λb o hb e=>eb b o hb e) f0 f1 f3 f4 f5⟩
 self:=λ_ _ _ _ _ st h=>wpAny_pyIter_listiter st h
theorem yM {P:Program} {w:World} {K:abg} {tg:Expr} (a it:Addr):Turn P w K tg (P5 K a) [it] it (λi h=>h.IsTupleIter it a i) where
 mem:=by simp
 obj:=λi h st b hb=>by
  have e:b=it:=by simpa using hb
  subst e;obtain⟨o,e,c,d⟩:=st;exact⟨o,e,λv z=>by rw[d] at z;cases z⟩
 keep:=λi h h' st k=>st.at λo e=>k it (by simp) o e
 item:=by
  intro X hP hw hK hc i pins s σ H E I hf st hg;subst hP hw hK;obtain⟨xs,x,hq,hx⟩:=hg;obtain⟨bE,rv,p,hz⟩:=I.tuple hq;obtain⟨u,hu,ru⟩:=rv.get hx;obtain⟨f0,f1,f2,f3,f4,f5⟩:=hf it (by simp);refine wpAny_pyNext_tuple_item st (show s.heap.IsTuple a bE.toArray from p) (x:=u) (by simpa using hu) λh' Bx sb=>?_;have I1:Inv X pins σ H {s with heap:=h'}:=I.turned (t':=s.toks) (λb o hb e=>(sb.2 b hb).trans e) f0 f1 f3 f4 f5;obtain⟨o,e,c,d⟩:=id Bx;exact⟨u,rfl,CQ (s:={s with heap:=h'}) e c d ∅ ⟨x,H,I1,ru,⟨rfl,λys hy=>by rw[I.Bv hy hq];exact hx⟩,Bx,λb hb=>(hf b hb).1⟩⟩
 done:=by
  intro X hP hw hK hc i pins s σ H E I hf st hg;subst hP hw hK;obtain⟨xs,hq,hx⟩:=hg;obtain⟨bE,rv,p,hz⟩:=I.tuple hq;obtain⟨f0,f1,f2,f3,f4,f5⟩:=hf it (by simp);have hl:=rv.length;exact wpAny_pyNext_tuple_end (I.ok.hd hc) st (show s.heap.IsTuple a bE.toArray from p) (by simp;lia) λh' eb=>⟨rfl,I.turned (t':=s.toks) (λb o hb e=>eb b o hb e) f0 f1 f3 f4 f5⟩
 self:=λ_ _ _ _ _ st h=>wpAny_pyIter_tupleiter st h
theorem yN {P:Program} {w:World} {K:abg} {tg:Expr} (it:Addr) (lo:Int) (n:Nat):Turn P w K tg (LS lo n) [it] it (λi h=>IsRangeIter h it (lo+ (i:Nat)*1) ((n:Int) - (i:Nat)) 1) where
 mem:=by simp
 obj:=λi h st b hb=>by
  have e:b=it:=by simpa using hb
  subst e;exact⟨_,st,λv z=>by
   have z':Data.fields _=Data.cell v:=z;cases z'⟩
 keep:=λi h h' st k=>k it (by simp) _ st
 item:=by
  intro X hP hw hK hc i pins s σ H E I hf st hg;subst hP hw hK;obtain⟨f0,f1,f2,f3,f4,f5⟩:=hf it (by simp);have W:=Walks.range (prog:=X.prog) (w:=X.w) (I.ok.hd hc) it lo 1 n;refine W.item i s _ _ hg st λv h' tk hv Bx kk=>?_;obtain⟨t,rfl⟩:=hv;have I1:Inv X pins σ H {s with heap:=h',toks:=tk}:=I.turned (λb o hb e=>kk b o (by simpa using hb) e) f0 f1 f3 f4 f5;refine⟨_,rfl,CQ (s:={s with heap:=h',toks:=tk}) (n:="range_iterator") Bx rfl rfl ∅ ⟨.int (lo+i),H,I1,⟨t,?_⟩,⟨rfl,rfl⟩,Bx,λb hb=>(hf b hb).1⟩⟩;rw[Int.mul_one]
 done:=by
  intro X hP hw hK hc i pins s σ H E I hf st hg;subst hP hw hK;obtain⟨f0,f1,f2,f3,f4,f5⟩:=hf it (by simp);exact wpAny_pyNext_range_end (I.ok.hd hc) st (by have:n<=i:=hg;lia) λh' eb=>⟨rfl,I.turned (t':=s.toks) (λb o hb e=>eb b o hb e) f0 f1 f3 f4 f5⟩
 self:=λ_ _ _ _ _ st h=>wpAny_pyIter_rangeiter st h
end L2
namespace L2
open PySem PySem.Spec PyProof.Rows
section
variable {X : Cx} {tg : Expr}
noncomputable def iList (K:abg) (tl:TE):TI:=λσ H R=>tl σ H λx H1=>∃a,x=.ref a/\(∃xs,bH K H1 a xs)/\R (Je K a) H1
noncomputable def iTup (K:abg) (tl:TE):TI:=λσ H R=>tl σ H λx H1=>∃a,x=.ref a/\(∃xs,gP K H1 a xs)/\R (P5 K a) H1
theorem FV {l:Expr} {tl:TE} (hl:PE X l tl):PI X tg l (iList X.K tl):=by
 intro pins s σ H R I h;refine cU (hl pins s σ H _ I h) λv s1 dX=>?_;obtain⟨x,H1,I1,r1,q1⟩:=dX;obtain⟨a,e,⟨xs,hq⟩,q⟩:=q1;subst e;cases r1;obtain⟨bE,rv,p,hz⟩:=I1.list hq;refine wpAny_pyIter_list p.isList ?_;refine⟨s1.heap.objs.size,[s1.heap.objs.size],_,_,H1,rfl,I1.kept (t':=s1.toks) λb o e=>abq _ e,Bw a _,⟨_,abr _ rfl,rfl,rfl⟩,λb hb=>?_,q⟩;have e:b=s1.heap.objs.size:=by simpa using hb
 subst e;exact I1.CP (aam _) (I1.bT.fresh (aam _))
theorem Jf {l:Expr} {tl:TE} (hl:PE X l tl):PI X tg l (iTup X.K tl):=by
 intro pins s σ H R I h;refine cU (hl pins s σ H _ I h) λv s1 dX=>?_;obtain⟨x,H1,I1,r1,q1⟩:=dX;obtain⟨a,e,⟨xs,hq⟩,q⟩:=q1;subst e;cases r1;obtain⟨bE,rv,p,hz⟩:=I1.tuple hq;refine wpAny_pyIter_tuple (show s1.heap.IsTuple a bE.toArray from p) ?_;refine⟨s1.heap.objs.size,[s1.heap.objs.size],_,_,H1,rfl,I1.kept (t':=s1.toks) λb o e=>abq _ e,yM a _,⟨_,abr _ rfl,rfl,rfl⟩,λb hb=>?_,q⟩;have e:b=s1.heap.objs.size:=by simpa using hb
 subst e;exact I1.CP (aam _) (I1.bT.fresh (aam _))
theorem xa {pins:List (Addr×Obj)} {σ:St} {H:Hp} {s:Shared} {R:It->Hp->Prop} {E:Value->Shared->Prop} {lo hi:Int} {t u v:Tok} {tk:Nat} (I:Inv X pins σ H s) (h1:-(2^62)<=lo) (h2:lo<2^62) (h3:-(2^62)<=hi) (h4:hi<2^62)
  (q:R (LS lo (hi - lo).toNat) H):wpAny (model X.prog X.w) X.A (pyIter (.ref s.heap.objs.size)) (W9 X pins σ tg R) E {s with heap:=s.heap.push {cls:=.type "range",data:=.fields #[.int lo t,.int hi u,.int 1 v]},toks:=tk}:=by
 refine wpAny_pyIter_range (IsRange.new ..) (small_one h1 h2 h3 h4) ?_;have I1:Inv X pins σ H {s with heap:=s.heap.push {cls:=.type "range",data:=.fields #[.int lo t,.int hi u,.int 1 v]},toks:=tk}:=I.kept λb o e=>abq _ e;refine⟨(s.heap.push {cls:=.type "range",data:=.fields #[.int lo t,.int hi u,.int 1 v]}).objs.size,[(s.heap.push {cls:=.type "range",data:=.fields #[.int lo t,.int hi u,.int 1 v]}).objs.size],_,_,H,rfl,
  I1.kept (t':=tk) λb o e=>abq _ e,yN _ lo (hi - lo).toNat,?_,λb hb=>?_,q⟩
 ·have e1:lo+ ((0:Nat):Int)*1=lo:=by simp
  have e2:(((hi - lo).toNat:Nat):Int) - ((0:Nat):Int)=Builtin.Range.rangeSize lo hi 1:=by rw[rangeSize_one];split <;>lia
  show IsRangeIter _ _ (lo+ ((0:Nat):Int)*1) ((((hi - lo).toNat:Nat):Int) - ((0:Nat):Int)) 1;rw[e1,e2];exact abr _ rfl
 ·have e:b=(s.heap.push {cls:=.type "range",data:=.fields #[.int lo t,.int hi u,.int 1 v]}).objs.size:=by simpa using hb
  subst e;exact I1.CP (aam _) (I1.bT.fresh (aam _))
noncomputable def iRng1 (ta:TA):TI:=λσ H R=>ta σ H λvs H1=>∃j:Int,vs=[.int j]/\-(2^62)<=j/\j<2^62/\R (LS 0 j.toNat) H1
noncomputable def iRng2 (ta:TA):TI:=λσ H R=>ta σ H λvs H1=>∃i j:Int,vs=[.int i,.int j]/\(-(2^62)<=i/\i<2^62/\-(2^62)<=j/\j<2^62)/\R (LS i (j - i).toNat) H1
theorem dD {a:Expr} {ta:TA} {p pos:Pos} (hg:Gl X "range") (hm:X.mg "range"=none) (ha:PA X [a] ta) (hs:starEach [a] X.env=[(false,eval a X.env)]:=by rfl):PI X tg (.Call (.Name "range" p) [a] [] pos) (iRng1 ta):=by
 intro pins s σ H R I h;refine Call_ (ji I hg hm boot_range (PyProof.Rows.callWith_type1 (cU (ha pos pins s σ H _ I h) λus s1 dX=>?_) hs rfl));obtain⟨vs,H1,I1,r1,q1⟩:=dX;obtain⟨j,e,q1,q2,q⟩:=q1;subst e;cases r1 with
 | cons r rr=>
  cases rr;obtain⟨t,rfl⟩:=r;exact call_range_1 (xa I1 (by lia) (by lia) q1 q2 (by simpa using q))
theorem j1 {a b:Expr} {ta:TA} {p pos:Pos} (hg:Gl X "range") (hm:X.mg "range"=none) (ha:PA X [a,b] ta) (hs:starEach [a,b] X.env=[(false,eval a X.env),(false,eval b X.env)]:=by rfl) (LU:starEach [b] X.env=[(false,eval b X.env)]:=by rfl):
  PI X tg (.Call (.Name "range" p) [a,b] [] pos) (iRng2 ta):=by
 intro pins s σ H R I h;refine Call_ (ji I hg hm boot_range (PyProof.Rows.callWith_type1 (cU (ha pos pins s σ H _ I h) λus s1 dX=>?_) (by rw[hs,LU]) (by rw[LU];rfl)));obtain⟨vs,H1,I1,r1,q1⟩:=dX;obtain⟨i,j,e,⟨q1,q2,q3,q4⟩,q⟩:=q1;subst e;cases r1 with
 | cons r rr=>
  cases rr with
  | cons r' rr=>
   cases rr;obtain⟨t,rfl⟩:=r;obtain⟨t',rfl⟩:=r';exact call_range_2 (xa I1 q1 q2 q3 q4 q)
noncomputable def LV (wi:TI) (g:TG) (tb:TS):TS:=λD σ H=>wi σ H λJ H1=>∃W:Nat->Nat->St->Hp->Prop,(∃m,W 0 m σ H1)/\∀i m σ H,W i m σ H->
 (J.stop i H/\D.nx σ H)\/(J.go i H/\∃N:St->Hp->Prop,(∀σ' H',N σ' H'->∃m',m'<m/\W (i+1) m' σ' H')/\∀x H',J.yB i H x H'->g x σ H' λσ2 H2=>tb {D with nx:=N,ct:=N,bk:=D.nx} σ2 H2)
noncomputable def rM (fp:List Addr) (h:Heap):List (Addr×Obj):=fp.filterMap λb=>(h.get? b).map λo=>(b,o)
theorem iP {fp:List Addr} {h:Heap} {b:Addr} {o:Obj} (hb:b∈fp) (e:h.get? b=some o):(b,o)∈rM fp h:=List.mem_filterMap.mpr ⟨b,hb,by rw[e];rfl⟩
theorem By {fp:List Addr} {h:Heap} {p:Addr×Obj} (hp:p∈rM fp h):p.1∈fp/\h.get? p.1=some p.2:=by
 obtain⟨b,hb,e⟩:=List.mem_filterMap.mp hp;cases q:h.get? b with
 | none=>rw[q] at e;cases e
 | some o=>
  rw[q] at e;have e':(b,o)=p:=aaE e;subst e';exact⟨hb,q⟩
theorem Inv.pinned {pins:List (Addr×Obj)} {σ:St} {H:Hp} {s:Shared} {fp:List Addr} (I:Inv X pins σ H s) (hf:∀b∈fp,ke X pins H b) (ho:∀b∈fp,∃o,s.heap.get? b=some o/\∀v,o.data≠.cell v):Inv X (pins++rM fp s.heap) σ H s:=
 I.mV λp hp=>(List.mem_append.mp hp).elim (λz=>I.pin p (aaV _ z)) λz=>by
  obtain⟨hb,e⟩:=By z;obtain⟨f0,f1,f2,_⟩:=hf p.1 hb;obtain⟨o,e',d⟩:=ho p.1 hb;rw[e] at e';cases e';exact⟨e,f0,f1,f2,d⟩
theorem Inv.rN {pins pl:List (Addr×Obj)} {σ:St} {H:Hp} {s:Shared} (I:Inv X (pins++pl) σ H s):Inv X pins σ H s:=I.mV λp hp=>I.pin p (aaV _ (List.mem_append_left _ hp))
theorem cV {iter:Expr} {body:List Stmt} {wi:TI} {g:TG} {tb:TS} {pos:Pos} (hp:PassesOwn (model X.prog X.w) X.A X.env X.xe) (hc:X.calm=true) (hi:PI X tg iter wi) (hg:PG X tg g) (hb:wZ X body tb)
  (hs:∀x,foldedSetIterable iter X.env x=pure x:=by intro _;rfl):PS X (.For tg iter body [] pos) (LV wi g tb):=by
 intro pins s σ H D I h;refine wpAny_For (cU (hi pins s σ H _ I h) λv s1 h1=>cU h1 λFT s2 h2=>?_) hs;obtain⟨it,fp,tn,J,H2,e,I2,T,yO,f2,W,⟨m0,w0⟩,turn⟩:=h2;subst e;have yP:∀{H':Hp},(∀b∈fp,H' b=none)->∀b∈fp,ke X pins H' b:=λhn b hb=>⟨hn b hb,(f2 b hb).2⟩;refine codeAny_forLoop_any (λn s'=>∃i σ' H',Inv X pins σ' H' s'/\tn i s'.heap/\(∀b∈fp,H' b=none)/\W i n σ' H') ?_ m0 ⟨0,σ,H2,I2,yO,λb hb=>(f2 b hb).1,w0⟩;rintro n s3 ⟨i,σ3,H3,I3,Xa,Xb,w3⟩;rcases turn i n σ3 H3 w3 with ⟨stop,qn⟩ | ⟨go,N,hN,step⟩
 ·refine wpAny_passesOwn hp (cU (T.done X rfl rfl rfl hc i pins s3 σ3 H3 X.xe I3 (yP Xb) Xa stop) λr s4 ⟨hr,I4⟩=>?_);subst hr;exact wpAny_execs_nil ⟨σ3,H3,I4,qn⟩
 ·refine wpAny_passesOwn hp (cU (T.item X rfl rfl rfl hc i pins s3 σ3 H3 X.xe I3 (yP Xb) Xa go) λr s4 ⟨u,hr,h4⟩=>?_);subst hr;refine wpAny_passesOwn hp (cU h4 λ_ s5 dX=>?_);obtain⟨x,H5,I5,r5,y5,P6,ZI⟩:=dX;have ZJ:=I5.pinned (yP ZI) (T.obj _ _ P6);refine wpAny_passesOwn hp (cU (hg _ s5 σ3 H5 x u _ ZJ r5 (step x H5 y5)) λ_ s6 ⟨σ6,H6,I6,q6⟩=>?_);refine wpAny_passesOwn hp (cU (hb _ s6 σ6 H6 _ I6 q6) λf s7 q7=>?_);have again:∀{σ7:St} {H7:Hp},Inv X (pins++rM fp s5.heap) σ7 H7 s7->N σ7 H7->∃m,m<n/\∃i σ' H',Inv X pins σ' H' s7/\tn i s7.heap/\(∀b∈fp,H' b=none)/\W i m σ' H':=λ{σ7 H7} I7 n7=>by
   obtain⟨m',hm,w7⟩:=hN σ7 H7 n7;refine⟨m',hm,i+1,σ7,H7,I7.rN,T.keep _ _ _ P6 λb hb o e=>(I7.pin (b,o) (aaV _ (aaV _ (iP hb e)))).1,λb hb=>?_,w7⟩;obtain⟨o,e,d⟩:=T.obj _ _ P6 b hb;exact(I7.pin (b,o) (aaV _ (aaV _ (iP hb e)))).2.1
  cases f with
  | next=>obtain⟨σ7,H7,I7,n7⟩:=q7;exact again I7 n7
  | cont=>obtain⟨σ7,H7,I7,n7⟩:=q7;exact again I7 n7
  | brk=>obtain⟨σ7,H7,I7,q7⟩:=q7;exact⟨σ7,H7,I7.rN,q7⟩
  | ret v=>obtain⟨x7,σ7,H7,I7,r7,q7⟩:=q7;exact⟨x7,σ7,H7,I7.rN,r7,q7⟩
end
theorem CS {c:TT} {tb:TS} {D:Ends} {σ:St} {H:Hp} (Pv:St->Hp->Prop) (μ:St->Hp->Nat) (h0:Pv σ H)
  (hs:∀σ H,Pv σ H->c σ H λb H1=>if b=true then tb {D with nx:=λσ' H'=>Pv σ' H'/\μ σ' H'<μ σ H,ct:=λσ' H'=>Pv σ' H'/\μ σ' H'<μ σ H,bk:=D.nx} σ H1 else D.nx σ H1)
  (mono:∀σ H Q Q',(∀b H1,Q b H1->Q' b H1)->c σ H Q->c σ H Q'):vx c tb D σ H:=by
 refine⟨λm σ H=>m=μ σ H/\Pv σ H,⟨_,rfl,h0⟩,?_⟩;rintro m σ H ⟨rfl,p⟩;refine mono σ H _ _ (λb H1 q=>?_) (hs σ H p);cases b with
 | true=>exact⟨_,λσ' H' ⟨p',l⟩=>⟨_,l,rfl,p'⟩,q⟩
 | false=>exact q
end L2
namespace L2
open PySem PySem.Spec PyProof.Rows
abbrev R2:=V->V->Hp->VK->Prop
noncomputable def ox (X:Cx) (f:Value->Value->Sem Value) (r:R2):Prop:=
 ∀(pins:List (Addr×Obj)) (s:Shared) (σ:St) (H:Hp) (x y:V) (v u:Value) (Q:VK),Inv X pins σ H s->RelV x v->RelV y u->r x y H Q->
  wpAny (model X.prog X.w) X.A (f v u) (EP X pins σ Q) X.xe s
noncomputable def ON (X:Cx) (f:Value->Sem Value) (r:V->Hp->VK->Prop):Prop:=
 ∀(pins:List (Addr×Obj)) (s:Shared) (σ:St) (H:Hp) (x:V) (v:Value) (Q:VK),Inv X pins σ H s->RelV x v->r x H Q->
  wpAny (model X.prog X.w) X.A (f v) (EP X pins σ Q) X.xe s
noncomputable def dh (X:Cx) (f:Value) (r:List V->Hp->VK->Prop):Prop:=
 ∀(pins:List (Addr×Obj)) (s:Shared) (σ:St) (H:Hp) (xs:List V) (us:List Value) (Q:VK),Inv X pins σ H s->bJ xs us->r xs H Q->
  wpAny (model X.prog X.w) X.A (call f us) (EP X pins σ Q) X.xe s
noncomputable def tOp (r:R2) (ta tb:TE):TE:=λσ H Q=>ta σ H λx H1=>tb σ H1 λy H2=>r x y H2 Q
noncomputable def tUn (r:V->Hp->VK->Prop) (ta:TE):TE:=λσ H Q=>ta σ H λx H1=>r x H1 Q
noncomputable def rI (C:Int->Int->Prop) (g:Int->Int->V):R2:=λx y H Q=>∃i j,x=.int i/\y=.int j/\C i j/\Q (g i j) H
noncomputable def rI0 (g:Int->Int->V):R2:=λx y H Q=>∃i j,x=.int i/\y=.int j/\Q (g i j) H
noncomputable def rU (g:Int->V):V->Hp->VK->Prop:=λx H Q=>∃i,x=.int i/\Q (g i) H
section
variable {X : Cx} {a b c : Expr} {ta tb tc : TE} {pos : Pos}
theorem Jg (ha:PE X a ta) (hb:PE X b tb) {pins:List (Addr×Obj)} {s:Shared} {σ:St} {H:Hp} {R:V->V->Hp->Prop} (I:Inv X pins σ H s)
  (h:ta σ H λx H1=>tb σ H1 λy H2=>R x y H2) {Q:Value->Shared->Prop} {f:Value->Value->Sem Value}
  (hf:∀v u s2 x y H2,Inv X pins σ H2 s2->RelV x v->RelV y u->R x y H2->wpAny (model X.prog X.w) X.A (f v u) Q X.xe s2):
  wpAny (model X.prog X.w) X.A (eval a X.env) (λv s₁=>wpAny (model X.prog X.w) X.A (eval b X.env) (λu s₂=>wpAny (model X.prog X.w) X.A (f v u) Q X.xe s₂) X.xe s₁) X.xe s:=by
 refine cU (ha pins s σ H _ I h) λv s1 dX=>?_;obtain⟨x,H1,I1,r1,q1⟩:=dX;refine cU (hb pins s1 σ H1 _ I1 q1) λu s2 dX=>?_;obtain⟨y,H2,I2,r2,q2⟩:=dX;exact hf v u s2 x y H2 I2 r1 r2 q2
theorem aU {op:Operator} {r:R2} (ho:ox X (binaryOp op) r) (ha:PE X a ta) (hb:PE X b tb):PE X (.BinOp a op b pos) (tOp r ta tb):=by
 intro pins s σ H Q I h;exact wpAny_BinOp (Jg ha hb I h λv u s2 x y H2 I2 rx ry q=>ho pins s2 σ H2 x y v u Q I2 rx ry q)
theorem pU {op:UnaryOp} {r:V->Hp->VK->Prop} (ho:ON X (unaryOp op) r) (ha:PE X a ta):PE X (.UnaryOp op a pos) (tUn r ta):=by
 intro pins s σ H Q I h;exact UnaryOp_ (cU (ha pins s σ H _ I h) λv s1 ⟨x,H1,I1,r1,q1⟩=>ho pins s1 σ H1 x v Q I1 r1 q1)
theorem OO {f:Value->Value->Sem Value} {C:Int->Int->Prop} {g:Int->Int->Int}
  (rule:∀(i j:Int) (t u:Tok) (s:Shared) (Q:Value->Shared->Prop) (E:Value->Shared->Prop),C i j->Q (.int (g i j) s.toks) {s with toks:=s.toks+1}->wpAny (model X.prog X.w) X.A (f (.int i t) (.int j u)) Q E s):
  ox X f (rI C λi j=>.int (g i j)):=by
 intro pins s σ H x y v u Q I rx ry h;obtain⟨i,j,rfl,rfl,hc,q⟩:=h;obtain⟨t,rfl⟩:=rx;obtain⟨t',rfl⟩:=ry;exact rule i j t t' s _ _ hc ⟨.int (g i j),H,I.tok _,⟨_,rfl⟩,q⟩
theorem LW {f:Value->Value->Sem Value} {g:Int->Int->Int}
  (rule:∀(i j:Int) (t u:Tok) (s:Shared) (Q:Value->Shared->Prop) (E:Value->Shared->Prop),Q (.int (g i j) s.toks) {s with toks:=s.toks+1}->wpAny (model X.prog X.w) X.A (f (.int i t) (.int j u)) Q E s):
  ox X f (rI0 λi j=>.int (g i j)):=by
 intro pins s σ H x y v u Q I rx ry h;obtain⟨i,j,rfl,rfl,q⟩:=h;obtain⟨t,rfl⟩:=rx;obtain⟨t',rfl⟩:=ry;exact rule i j t t' s _ _ ⟨.int (g i j),H,I.tok _,⟨_,rfl⟩,q⟩
theorem FW {f:Value->Value->Sem Value} {g:Int->Int->Bool}
  (rule:∀(i j:Int) (t u:Tok) (s:Shared) (Q:Value->Shared->Prop) (E:Value->Shared->Prop),Q (.bool (g i j)) s->wpAny (model X.prog X.w) X.A (f (.int i t) (.int j u)) Q E s):
  ox X f (rI0 λi j=>.bl (g i j)):=by
 intro pins s σ H x y v u Q I rx ry h;obtain⟨i,j,rfl,rfl,q⟩:=h;obtain⟨t,rfl⟩:=rx;obtain⟨t',rfl⟩:=ry;exact rule i j t t' s _ _ ⟨.bl (g i j),H,I,rfl,q⟩
theorem bN:ox X (binaryOp .Add) (rI0 λi j=>.int (i+j)):=LW λ_ _ _ _ _ _ _ q=>add_int q
theorem lX:ox X (binaryOp .Sub) (rI0 λi j=>.int (i - j)):=LW λ_ _ _ _ _ _ _ q=>sub_int q
theorem Jh:ox X (binaryOp .Mod) (rI (λ_ j=>0<j) λi j=>.int (i % j)):=OO λi j _ _ _ _ _ hc q=>by
 have h1:(0:Int)<j:=hc;exact mod_int' (by lia) (by rw[Int.fmod_eq_emod_of_nonneg i (by lia)];exact q)
theorem ZK {f:Value->Sem Value} {g:Int->Int}
  (rule:∀(i:Int) (t:Tok) (s:Shared) (Q:Value->Shared->Prop) (E:Value->Shared->Prop),Q (.int (g i) s.toks) {s with toks:=s.toks+1}->wpAny (model X.prog X.w) X.A (f (.int i t)) Q E s):
  ON X f (rU λi=>.int (g i)):=by
 intro pins s σ H x v Q I rx h;obtain⟨i,rfl,q⟩:=h;obtain⟨t,rfl⟩:=rx;exact rule i t s _ _ ⟨.int (g i),H,I.tok _,⟨_,rfl⟩,q⟩
theorem jn:ON X (unaryOp .USub) (rU λi=>.int (-i)):=ZK λ_ _ _ _ _ q=>neg_int q
end
noncomputable def yQ:V->V->Bool
 | .dI,.dI=>true | .dI,.int _=>true | .int _,.dI=>true | .dI,.bl _=>true | .bl _,.dI=>true | .dI,.str _=>true | .str _,.dI=>true
 | .int _,.int _=>true | .bl _,.bl _=>true | .str _,.str _=>true | .CB _,.CB _=>true
 | .int _,.str _=>true | .str _,.int _=>true | .bl _,.str _=>true | .str _,.bl _=>true
 | _,_=>false
noncomputable def rEq:R2:=λx y H Q=>yQ x y=true/\Q (.bl (decide (x=y))) H
noncomputable def rNe:R2:=λx y H Q=>yQ x y=true/\Q (.bl (!decide (x=y))) H
theorem Aj {i j:Int}:decide (V.int i=V.int j)=(i==j):=by
 rw[Bool.eq_iff_iff];simp
theorem CT {i j:Bool}:decide (V.bl i=V.bl j)=(i==j):=by
 rw[Bool.eq_iff_iff];simp
theorem Ak {i j:Str}:decide (V.str i=V.str j)=(i==j):=by
 rw[Bool.eq_iff_iff];simp
theorem Am {i j:Array UInt8}:decide (V.CB i=V.CB j)=(i.toList==j.toList):=by
 rw[Bool.eq_iff_iff];cases i;cases j;simp
section
variable {X : Cx} {a b c : Expr} {ta tb tc : TE} {pos : Pos}
theorem cy {pins:List (Addr×Obj)} {σ:St} {H:Hp} {s:Shared} {Q:VK} {k k':Bool} (I:Inv X pins σ H s) (q:Q (.bl k) H) (e:k=k'):EP X pins σ Q (.bool k') s:=by
 subst e;exact⟨.bl k,H,I,rfl,q⟩
theorem bY:ox X (compareOp .Eq) rEq:=by
 intro pins s σ H x y v u Q I rx ry h;obtain⟨hs,q⟩:=h;cases x with
 | dI=>
  cases rx;cases y with
  | dI=>cases ry;exact PySem.EqNone.eq_none_none (cy I q (by simp))
  | bl j=>cases ry;exact PySem.EqNone.eq_none_bool (cy I q (by simp))
  | int j=>obtain⟨t',rfl⟩:=ry;exact PySem.EqNone.eq_none_int (cy I q (by simp))
  | str j=>obtain⟨t',rfl⟩:=ry;exact PySem.EqNone.eq_none_str (cy I q (by simp))
  | _=>exact absurd (show false=true from hs) aaF
 | bl i=>
  cases rx;cases y with
  | dI=>cases ry;exact PySem.EqNone.eq_bool_none (cy I q (by simp))
  | bl j=>cases ry;exact eq_bool (cy I q CT)
  | str j=>obtain⟨t',rfl⟩:=ry;exact PySem.EqMixed.eq_bool_str (cy I q (by simp))
  | _=>exact absurd (show false=true from hs) aaF
 | int i=>
  obtain⟨t,rfl⟩:=rx;cases y with
  | dI=>cases ry;exact PySem.EqNone.eq_int_none (cy I q (by simp))
  | int j=>obtain⟨t',rfl⟩:=ry;exact eq_int (cy I q Aj)
  | str j=>obtain⟨t',rfl⟩:=ry;exact PySem.EqMixed.eq_int_str (cy I q (by simp))
  | _=>exact absurd (show false=true from hs) aaF
 | str i=>
  obtain⟨t,rfl⟩:=rx;cases y with
  | dI=>cases ry;exact PySem.EqNone.eq_str_none (cy I q (by simp))
  | bl j=>cases ry;exact PySem.EqMixed.eq_str_bool (cy I q (by simp))
  | int j=>obtain⟨t',rfl⟩:=ry;exact PySem.EqMixed.eq_str_int (cy I q (by simp))
  | str j=>obtain⟨t',rfl⟩:=ry;exact eq_str (cy I q Ak)
  | _=>exact absurd (show false=true from hs) aaF
 | CB i=>
  obtain⟨t,rfl⟩:=rx;cases y with
  | CB j=>obtain⟨t',rfl⟩:=ry;exact PySem.W.eq_bytes (cy I q Am)
  | _=>exact absurd (show false=true from hs) aaF
 | _=>cases y <;>exact absurd (show false=true from hs) aaF
theorem CU:ox X (compareOp .NotEq) rNe:=by
 intro pins s σ H x y v u Q I rx ry h;obtain⟨hs,q⟩:=h;cases x with
 | dI=>
  cases rx;cases y with
  | dI=>cases ry;exact PySem.EqNone.ne_none_none (cy I q (by simp))
  | bl j=>cases ry;exact PySem.EqNone.ne_none_bool (cy I q (by simp))
  | int j=>obtain⟨t',rfl⟩:=ry;exact PySem.EqNone.ne_none_int (cy I q (by simp))
  | str j=>obtain⟨t',rfl⟩:=ry;exact PySem.EqNone.ne_none_str (cy I q (by simp))
  | _=>exact absurd (show false=true from hs) aaF
 | bl i=>
  cases rx;cases y with
  | dI=>cases ry;exact PySem.EqNone.ne_bool_none (cy I q (by simp))
  | bl j=>cases ry;exact ne_bool (cy I q (congrArg not CT))
  | str j=>obtain⟨t',rfl⟩:=ry;exact PySem.EqMixed.ne_bool_str (cy I q (by simp))
  | _=>exact absurd (show false=true from hs) aaF
 | int i=>
  obtain⟨t,rfl⟩:=rx;cases y with
  | dI=>cases ry;exact PySem.EqNone.ne_int_none (cy I q (by simp))
  | int j=>obtain⟨t',rfl⟩:=ry;exact ne_int (cy I q (congrArg not Aj))
  | str j=>obtain⟨t',rfl⟩:=ry;exact PySem.EqMixed.ne_int_str (cy I q (by simp))
  | _=>exact absurd (show false=true from hs) aaF
 | str i=>
  obtain⟨t,rfl⟩:=rx;cases y with
  | dI=>cases ry;exact PySem.EqNone.ne_str_none (cy I q (by simp))
  | bl j=>cases ry;exact PySem.EqMixed.ne_str_bool (cy I q (by simp))
  | int j=>obtain⟨t',rfl⟩:=ry;exact PySem.EqMixed.ne_str_int (cy I q (by simp))
  | str j=>obtain⟨t',rfl⟩:=ry;exact ne_str (cy I q (congrArg not Ak))
  | _=>exact absurd (show false=true from hs) aaF
 | CB i=>
  obtain⟨t,rfl⟩:=rx;cases y with
  | CB j=>obtain⟨t',rfl⟩:=ry;exact PySem.W.ne_bytes (cy I q (congrArg not Am))
  | _=>exact absurd (show false=true from hs) aaF
 | _=>cases y <;>exact absurd (show false=true from hs) aaF
theorem mY:ox X (compareOp .Lt) (rI0 λi j=>.bl (decide (i<j))):=FW λ_ _ _ _ _ _ _ q=>lt_int q
theorem xb:ox X (compareOp .LtE) (rI0 λi j=>.bl (decide (i<=j))):=FW λ_ _ _ _ _ _ _ q=>le_int q
theorem lA:ox X (compareOp .Gt) (rI0 λi j=>.bl (decide (j<i))):=FW λ_ _ _ _ _ _ _ q=>gt_int q
theorem xc:ox X (compareOp .GtE) (rI0 λi j=>.bl (decide (j<=i))):=FW λ_ _ _ _ _ _ _ q=>ge_int q
theorem CV:ox X (compareOp .Is) (λx y H Q=>y=.dI/\Q (.bl (decide (x=.dI))) H):=by
 intro pins s σ H x y v u Q I rx ry h;obtain⟨rfl,q⟩:=h;cases ry;refine is_none_gen (cy I q ?_);cases x <;>first
  | (cases rx;rfl)
  | (obtain⟨t,rfl⟩:=rx;rfl)
theorem aX (b:Expr) {op:CmpOp} (h:op≠.In:=by decide) (h2:op≠.NotIn:=by decide):behindInMarks op b=false:=by
 have e1:(op==CmpOp.In)=false:=by cases op <;>first | rfl | exact absurd rfl h
 have e2:(op==CmpOp.NotIn)=false:=by cases op <;>first | rfl | exact absurd rfl h2
 cases b <;>simp [behindInMarks,e1,e2]
theorem iQ {op:CmpOp} {r:R2} (ho:ox X (compareOp op) r) (ha:PE X a ta) (hb:PE X b tb) (hm:behindInMarks op b=false):PE X (.Compare a [op] [b] pos) (tOp r ta tb):=by
 intro pins s σ H Q I h;exact wpAny_Compare1 (Jg ha hb I h λv u s2 x y H2 I2 rx ry q=>ho pins s2 σ H2 x y v u Q I2 rx ry q) hm
noncomputable def tTest (t:TE):TT:=λσ H Q=>t σ H λx H'=>∃k,x=.bl k/\Q k H'
theorem aN {op:CmpOp} {r:R2} (ho:ox X (compareOp op) r) (ha:PE X a ta) (hb:PE X b tb) (hm:behindInMarks op b=false):PT X (.Compare a [op] [b] pos) (tTest (tOp r ta tb)):=by
 intro pins s σ H Q I h;refine wpAny_isTrue_Compare1 (cU (ha pins s σ H _ I h) λv s1 ⟨x,H1,I1,r1,q1⟩=>cU (hb pins s1 σ H1 _ I1 q1) λu s2 ⟨y,H2,I2,r2,q2⟩=>
  cU (ho pins s2 σ H2 x y v u _ I2 r1 r2 q2) λc s3 ⟨z,H3,I3,r3,k,e,q3⟩=>?_) hm
 subst e;cases r3;exact wpAny_truthy_bool ⟨H3,I3,q3⟩
noncomputable def tChain (r r':R2) (ta tb tc:TE):TE:=λσ H Q=>ta σ H λx H1=>tb σ H1 λy H2=>r x y H2 λz H3=>∃k,z=.bl k/\
 (if k=true then tc σ H3 λw' H4=>r' y w' H4 Q else Q (.bl false) H3)
theorem CW {op P7:CmpOp} {r r':R2} (ho:ox X (compareOp op) r) (FQ:ox X (compareOp P7) r') (ha:PE X a ta) (hb:PE X b tb) (hc:PE X c tc)
  (hm:lastMarks [op,P7] [b,c]=false:=by with_unfolding_all rfl):PT X (.Compare a [op,P7] [b,c] pos) (tTest (tChain r r' ta tb tc)):=by
 intro pins s σ H Q I h;refine isTrue_chain (cU (ha pins s σ H _ I h) λv s1 ⟨x,H1,I1,r1,q1⟩=>test_link (cU (hb pins s1 σ H1 _ I1 q1) λu s2 ⟨y,H2,I2,r2,q2⟩=>
  cU (ho pins s2 σ H2 x y v u _ I2 r1 r2 q2) λd s3 ⟨z,H3,I3,r3,k,e,q3⟩=>?_)) hm
 subst e;cases r3;refine wpAny_truthy_bool ?_;cases k with
 | false=>
  obtain⟨k',e',q'⟩:=q3;cases e';exact ite_ff ⟨H3,I3,q'⟩
 | true=>
  refine ite_tt (test_last (cU (hc pins s3 σ H3 _ I3 q3) λw' s4 ⟨z',H4,I4,r4,q4⟩=>cU (FQ pins s4 σ H4 y z' u w' _ I4 r2 r4 q4) λd' s5 dX=>?_));obtain⟨z2,H5,I5,r5,k2,e2,q5⟩:=dX;subst e2;cases r5;exact wpAny_truthy_bool ⟨H5,I5,q5⟩
theorem vy:(sizeLine:Nat)<2^63:=by rw[sizeLine_eq];decide
theorem vals1 {x:V} {us:List Value} (r:bJ [x] us):∃u,us=[u]/\RelV x u:=by
 cases r with
 | cons r1 r2=>cases r2;exact⟨_,rfl,r1⟩
theorem vals2 {x y:V} {us:List Value} (r:bJ [x,y] us):∃u w',us=[u,w']/\RelV x u/\RelV y w':=by
 cases r with
 | cons r1 r2=>
  cases r2 with
  | cons r3 r4=>cases r4;exact⟨_,_,rfl,r1,r3⟩
theorem xf:dh X (.builtin "abs") (λxs H Q=>∃i,xs=[.int i]/\Q (.int (if i<0 then -i else i)) H):=by
 intro pins s σ H xs us Q I r h;obtain⟨i,rfl,q⟩:=h;obtain⟨u,rfl,t,rfl⟩:=vals1 r;exact call_abs_int λu tk=>⟨.int (if i<0 then -i else i),H,I.tok _,⟨_,rfl⟩,q⟩
theorem uG (hc:X.calm=true):dh X (.builtin "max") (λxs H Q=>∃i j,xs=[.int i,.int j]/\Q (.int (if j >i then j else i)) H):=by
 intro pins s σ H xs us Q I r h;obtain⟨i,j,rfl,q⟩:=h;obtain⟨u,w',rfl,⟨t,rfl⟩,⟨t',rfl⟩⟩:=vals2 r;refine max_two_ints (I.ok.hd hc) λh' tk k=>⟨_,H,I.kept k,?_,q⟩;by_cases hj:j >i
 ·rw[if_pos hj,if_pos hj];exact⟨_,rfl⟩
 ·rw[if_neg hj,if_neg hj];exact⟨_,rfl⟩
theorem oy (hc:X.calm=true):dh X (.builtin "min") (λxs H Q=>∃i j,xs=[.int i,.int j]/\Q (.int (if j<i then j else i)) H):=by
 intro pins s σ H xs us Q I r h;obtain⟨i,j,rfl,q⟩:=h;obtain⟨u,w',rfl,⟨t,rfl⟩,⟨t',rfl⟩⟩:=vals2 r;refine min_two_ints (I.ok.hd hc) λh' tk k=>⟨_,H,I.kept k,?_,q⟩;by_cases hj:j<i
 ·rw[if_pos hj,if_pos hj];exact⟨_,rfl⟩
 ·rw[if_neg hj,if_neg hj];exact⟨_,rfl⟩
theorem Bz:dh X (.type "int") (λxs H Q=>(∃i,xs=[.int i]/\Q (.int i) H)\/∃k,xs=[.bl k]/\Q (.int (if k then 1 else 0)) H):=by
 intro pins s σ H xs us Q I r h;rcases h with ⟨i,rfl,q⟩ | ⟨k,rfl,q⟩
 ·obtain⟨u,rfl,t,rfl⟩:=vals1 r;exact call_int_int ⟨.int i,H,I,⟨_,rfl⟩,q⟩
 ·obtain⟨u,rfl,r1⟩:=vals1 r;cases r1;exact call_int_bool ⟨.int (if k then 1 else 0),H,I.tok _,⟨_,rfl⟩,q⟩
end
end L2
namespace L2
open PySem PySem.Spec PyProof.Rows
structure yR (h:Heap) (x dx C:Addr) (mA:Str->Option Value):Prop where
 obj:h.get? x=some (PySem.W.instObj C dx)
 ns:h.Ns1 dx mA
 ne:dx≠x
set_option tactic.hygienic true in
theorem BA {h:Heap} {dx:Addr} {mA:Str->Option Value} (n:h.Ns1 dx mA):∃od,h.get? dx=some od/\∀name,PySem.W.lookIn name od=some (mA name):=by
 obtain⟨o,es,ep,ho,hd,hk,_,hm⟩:=n;refine⟨o,ho,λname=>?_⟩;have e:=hm name;unfold nsFind findBy at e;rw[<-Array.find?_toList] at e;unfold PySem.W.lookIn;rw[hd];dsimp only;split
 ·rename_i y q;rw[q] at e;exact congrArg some e
 ·rename_i q;rw[q] at e;have a:es.toList.any (·.refKey)=false:=by
   rw[List.any_eq_false];intro y hy;obtain⟨z,t,CY⟩:=hk y (Array.mem_toList_iff.mp hy);simp [DictEntry.refKey,CY]
  have a':¬es.toList.any (·.refKey)=true:=by rw[a];exact aaF
  rw[if_neg a'];exact congrArg some e
theorem yR.look {h:Heap} {x dx C:Addr} {mA:Str->Option Value} (I:yR h x dx C mA):∃od,PySem.W.InstAt h x (PySem.W.instObj C dx) C (some od)/\∀name,PySem.W.lookIn name od=some (mA name):=
 let ⟨od,ho,hl⟩:=BA I.ns
 ⟨od,⟨I.obj,rfl,rfl,ho⟩,hl⟩
section
variable {prog : Program} {w : World} {A : Around} {E : Value -> Shared -> Prop} {s : Shared} {K : abg} {x dx C f : Addr} {mA : Str -> Option Value} {name : Str} {v : Value}
theorem get_map {expr:Bool} {Q:Value->Shared->Prop} (X:K.In s.heap) (I:yR s.heap x dx C mA) (hg:PySem.W.plainGet K C name=true) (hh:PySem.W.hasDictIn K C=true)
  (ha:abl K (.ref C) name=some none) (hv:mA name=some v) (ZL:PySem.W.handedIn v=true) (h:Q v {s with toks:=s.toks+1}):
  wpAny (model prog w) A (getAttr (.ref x) name expr) Q E s:=by
 obtain⟨od,J,hl⟩:=I.look;exact PySem.W.get_value X J (PySem.W.plainGet_of hg).1 (PySem.W.findObj_own hh ha rfl (by rw[hl,hv])) ZL h
theorem CZ {pl:Sem Bool} {Q:Value×List Value->Shared->Prop} (X:K.In s.heap) (I:yR s.heap x dx C mA) (hg:PySem.W.plainGet K C name=true)
  (hf:abl K (.ref C) name=some (some (.ref f))) (ht:PySem.W.isFn K (.ref f)=true) (hv:mA name=none) (h:Q (.ref f,[.ref x]) s):
  wpAny (model prog w) A (getMethod (.ref x) name pl) Q E s:=by
 obtain⟨od,J,hl⟩:=I.look;exact PySem.W.method_fn X J (PySem.W.plainGet_of hg).1 (PySem.W.plainGet_of hg).2 hf (beq_iff_eq.mp ht) (by show(PySem.W.lookIn name od).map (·.isSome)=some false;rw[hl,hv];rfl) h
theorem FX {ns:List Str} {Q:Unit->Shared->Prop} (X:K.In s.heap) (I:yR s.heap x dx C mA)
  (hs:abl K (.ref C) "__setattr__"=some (some (.builtin "object.__setattr__"))) (hp:PySem.W.plainOver K C=true) (ht:PySem.W.takerIn K C name=some none) (hh:PySem.W.hasDictIn K C=true)
  (hw:PySem.Within mA ns) (hsz:ns.length<=sizeLine)
  (h:∀h',yR h' x dx C (λy=>if y=name then some v else mA y)->Heap.SameBut dx s.heap h'->Q () {s with heap:=h',toks:=s.toks+2}):
  wpAny (model prog w) A (setAttr (.ref x) name v) Q E s:=by
 obtain⟨od,J,hl⟩:=I.look;refine PySem.W.set_plain X J hs (PySem.W.osa_open (s:={s with toks:=s.toks+1}) (r:=none) X J hp ht λb=>?_);obtain⟨cd,hc,P0⟩:=PySem.W.any_some hh;have hx:s.heap.get? x=some ⟨.ref C,some dx,.plain,#[]⟩:=I.obj;refine wpAny_bind (wpAny_pure (wpAny_bind (wpAny_bind (wpAny_loadPart hx (wpAny_bind (PySem.W.Looks.here (s:={s with toks:=s.toks+1}) (PySem.W.looks_clsIn X hc) ?_))))));rw[P0];refine wpAny_pure (a:=some dx) (wpAny_bind (wpAny_pure (wpAny_bind ?_)));refine wpAny_nsSet1 (s:={s with toks:=s.toks+1}) I.ns λh' OP LU=>?_;obtain⟨oD,esD,epD,ZM,ZN,ZO⟩:=OP.count (PySem.Within.cons name v hw);refine wpAny_bind (wpAny_lookBehind ZM (by rw[ZN];exact pastItsLine_dict (aay ZO (by rw[aaB];lia))) ?_);exact wpAny_pure (h _ ⟨(LU.2 _ (Ne.symm I.ne)).trans I.obj,OP,I.ne⟩ LU)
theorem C0 {R:Result->Shared->Prop} {vs:List Value} {kw:List (Str×Value)} (X:K.In s.heap) (hm:PySem.W.makesIn K C=true)
  (hi:abl K (.ref C) "__init__"=some (some (.ref f))) (hf:PySem.W.typeIn K (.ref f)=some (.type "function"))
  (h:codeAny (model prog w) (A.under (.builtin "type.__call__" ⟨.ref C::vs,kw⟩)) (.call (.ref f) ⟨.ref (s.heap.objs.size+1)::vs,kw⟩) (PySem.W.InitBack (s.heap.objs.size+1) R)
   {s with heap:=(s.heap.push PySem.W.emptyDict).push (PySem.W.instObj C s.heap.objs.size)}):
  codeAny (model prog w) A (.call (.ref C) ⟨vs,kw⟩) R s:=by
 obtain⟨hh,g,d,t,os⟩:=s;exact PySem.W.make_core (PySem.W.makes_of X hm) (PySem.W.looks_findIn X hi) (λself=>PySem.W.bind_fn X self hf) (.inl rfl) h
end
noncomputable def jf (f:Str) (v:V):List (Str×V)->List (Str×V)
 | []=>[(f,v)]
 | (g,x)::r=>if g=f then (g,v)::r else (g,x)::jf f v r
theorem pV (f g:Str) (v:V):∀fs:List (Str×V),(jf f v fs).lookup g=if g=f then some v else fs.lookup g
 | []=>by
  show List.lookup g [(f,v)]=_;by_cases h:g=f
  ·have hb:(g==f)=true:=beq_iff_eq.mpr h;simp only[List.lookup,hb,if_pos h]
  ·have hb:(g==f)=false:=beq_eq_false_iff_ne.mpr h;simp only[List.lookup,hb,if_neg h]
 | (k,x)::r=>by
  have ih:=pV f g v r;rw[show jf f v ((k,x)::r)=(if k=f then (k,v)::r else (k,x)::jf f v r) from rfl];by_cases hk:k=f
  ·rw[if_pos hk];by_cases h:g=k
   ·have hb:(g==k)=true:=beq_iff_eq.mpr h;simp only[List.lookup,hb,if_pos (h.trans hk)]
   ·have hb:(g==k)=false:=beq_eq_false_iff_ne.mpr h;simp only[List.lookup,hb,if_neg (λe:g=f=>h (e.trans hk.symm))]
  ·rw[if_neg hk];by_cases h:g=k
   ·have hb:(g==k)=true:=beq_iff_eq.mpr h;simp only[List.lookup,hb,if_neg (λe:g=f=>hk (h.symm.trans e))]
   ·have hb:(g==k)=false:=beq_eq_false_iff_ne.mpr h;simp only[List.lookup,hb];exact ih
theorem oz (f:Str) (v:V):∀fs:List (Str×V),f∈(jf f v fs).map (·.1)/\∀g,g∈fs.map (·.1)->g∈(jf f v fs).map (·.1)
 | []=>⟨by simp [jf],λg h=>by simp at h⟩
 | (k,x)::r=>by
  obtain⟨i1,i2⟩:=oz f v r;rw[show jf f v ((k,x)::r)=(if k=f then (k,v)::r else (k,x)::jf f v r) from rfl];by_cases hk:k=f
  ·rw[if_pos hk];subst hk;exact⟨by simp,λg h=>by simpa using h⟩
  ·rw[if_neg hk];refine⟨?_,λg h=>?_⟩
   ·rw[aan];exact aau _ i1
   ·rw[aan] at h ⊢;rcases aaR.mp h with e | e
    ·exact aaR.mpr (.inl e)
    ·exact aau _ (i2 g e)
theorem pW (f:Str) (v:V):∀fs:List (Str×V),(jf f v fs).length<=fs.length+1
 | []=>by simp [jf]
 | (k,x)::r=>by
  have ih:=pW f v r;rw[show jf f v ((k,x)::r)=(if k=f then (k,v)::r else (k,x)::jf f v r) from rfl];by_cases hk:k=f
  ·rw[if_pos hk,aaB,aaB];lia
  ·rw[if_neg hk,aaB,aaB];lia
theorem je.some_of {v:V} {o:Option Value} (r:je (some v) o):∃u,o=some u/\RelV v u:=by
 cases o with
 | none=>exact(show False from r).elim
 | some u=>exact⟨u,rfl,r⟩
theorem je.none_of {o:Option Value} (r:je none o):o=none:=by
 cases o with
 | none=>rfl
 | some u=>exact(show False from r).elim
theorem BB {v:V} {u:Value} (r:RelV v u):PySem.W.handedIn u=true:=by
 cases v with
 | dI=>cases (show u=Value.none from r);rfl
 | bl b=>cases (show u=Value.bool b from r);rfl
 | int i=>obtain⟨t,e⟩:=(show ∃t,u=Value.int i t from r);cases e;rfl
 | str x=>obtain⟨t,e⟩:=(show ∃t,u=Value.str x t from r);cases e;rfl
 | CB b=>obtain⟨t,e⟩:=(show ∃t,u=Value.bytes b t from r);cases e;rfl
 | IU b=>obtain⟨t,e⟩:=(show ∃t,u=Value.float b t from r);cases e;rfl
 | ref a=>cases (show u=Value.ref a from r);rfl
 | ty n=>cases (show u=Value.type n from r);rfl
section
variable {P : Program} {w : World} {H H' : Hp} {h h' : Heap} {a C dx : Addr} {fs ZD : List (Str × V)}
theorem qO (bT:hJ P w H h) (e:H a=some (.ins C dx fs)):∃mA,yR h a dx C mA/\(∀f,je (fs.lookup f) (mA f))/\PySem.Within mA (fs.map (·.1))/\fs.length<=1000/\H dx=some (.own a):=by
 obtain⟨d,z,ne,ob,mA,n,r,q⟩:=(show cS P w H h a (.ins C dx fs) from bT a _ e);exact⟨mA,⟨ob,n,ne⟩,r,q,z,d⟩
end
structure An (K:abg) (C:Addr):Prop where
 pg:PySem.W.plainGet K C Str.empty=true
 hd:PySem.W.hasDictIn K C=true
 po:PySem.W.plainOver K C=true
 sa:abl K (.ref C) "__setattr__"=some (some (.builtin "object.__setattr__"))
theorem An.get {K:abg} {C:Addr} (c:An K C) (f:Str):PySem.W.plainGet K C f=true:=c.pg
noncomputable def oA (K:abg) (C:Addr) (f:Str):Prop:=abl K (.ref C) f=some none
theorem oA.LX {K:abg} {C:Addr} {f:Str} (n:oA K C f):PySem.W.takerIn K C f=some none:=by
 unfold PySem.W.takerIn;rw[show abl K (.ref C) f=some none from n]
 rfl
structure Con (K:abg) (C:Addr) (f:Str) (v:V) (u:Value):Prop where
 at_:abl K (.ref C) f=some (some u)
 rel:RelV v u
 get:PySem.W.specialIn K u "__get__"=some none
 cp:PySem.W.copiedNames.contains f=false
structure C3 (K:abg) (C:Addr) (m:Str) (f:Addr):Prop where
 at_:abl K (.ref C) m=some (some (.ref f))
 fn:PySem.W.isFn K (.ref f)=true
 kp:abh K (.ref f)=true
section
variable {X : Cx} {pins : List (Addr × Obj)} {σ : St} {H : Hp} {s : Shared} {a C dx : Addr} {fs : List (Str × V)} {f : Str} {v : V} {A : Around} {E : Value -> Shared -> Prop}
theorem yS {b:Bool} {Q:Value->Shared->Prop} (I:Inv X pins σ H s) (e:H a=some (.ins C dx fs)) (c:An X.K C) (n:oA X.K C f) (l:fs.lookup f=some v)
  (h:∀u s',Inv X pins σ H s'->RelV v u->Q u s'):wpAny (model X.prog X.w) A (getAttr (.ref a) f b) Q E s:=by
 obtain⟨mA,O,r,_,_,_⟩:=qO I.bT e;obtain⟨u,hu,ru⟩:=je.some_of (v:=v) (o:=mA f) (by rw[<-l];exact r f);exact get_map I.mS O (c.get f) c.hd n hu (BB ru) (h u _ (I.tok _) ru)
theorem rO {m:Str} {g:Addr} {pl:Sem Bool} {Q:Value×List Value->Shared->Prop} (I:Inv X pins σ H s) (e:H a=some (.ins C dx fs)) (c:An X.K C) (k:C3 X.K C m g) (l:fs.lookup m=none)
  (h:Q (.ref g,[.ref a]) s):wpAny (model X.prog X.w) A (getMethod (.ref a) m pl) Q E s:=by
 obtain⟨mA,O,r,_,_,_⟩:=qO I.bT e;have hn:mA m=none:=je.none_of (by rw[<-l];exact r m);exact CZ I.mS O (c.get m) k.at_ k.fn hn h
theorem yT {y:V} {u:Value} {Q:Unit->Shared->Prop} (I:Inv X pins σ H s) (e:H a=some (.ins C dx fs)) (c:An X.K C) (n:oA X.K C f) (hl:fs.length<1000) (ry:RelV y u)
  (h:∀s',Inv X pins σ (upd H a (.ins C dx (jf f y fs))) s'->Q () s'):wpAny (model X.prog X.w) A (setAttr (.ref a) f u) Q E s:=by
 obtain⟨mA,O,r,wi,_,ho⟩:=qO I.bT e;have hz:(fs.map (·.1)).length<=sizeLine:=by rw[aak,sizeLine_eq];lia
 refine FX I.mS O c.sa c.po n.LX c.hd wi hz λh' O' sb=>h _ ?_;have hd:∃o,h'.get? dx=some o:=let ⟨o,_,_,e',_⟩:=O'.ns;⟨o,e'⟩
 refine I.write (x:=a) (e:=dx) (by rw[e];exact True.intro) (.inr ho) (λb q hb z=>(sb.2 b hb).trans z) hd ?_;refine⟨by rw[aA O.ne];exact ho,?_,O.ne,O'.obj,_,O'.ns,λg=>?_,λg hg=>?_⟩
 ·have:=pW f y fs;lia
 ·show je ((jf f y fs).lookup g) (if g=f then some u else mA g);rw[pV];by_cases q:g=f
  ·rw[if_pos q,if_pos q];exact ry
  ·rw[if_neg q,if_neg q];exact r g
 ·by_cases q:g=f
  ·rw[q];exact(oz f y fs).1
  ·refine(oz f y fs).2 g (wi g λz=>hg ?_)
   show(if g=f then some u else mA g)=none
   rw[if_neg q];exact z
theorem Inv.made (I:Inv X pins σ H s):Inv X pins σ (upd (upd H s.heap.objs.size (.own (s.heap.objs.size+1))) (s.heap.objs.size+1) (.ins C s.heap.objs.size []))
  {s with heap:=(s.heap.push PySem.W.emptyDict).push (PySem.W.instObj C s.heap.objs.size)}:=by
 have e1:(s.heap.push PySem.W.emptyDict).get? s.heap.objs.size=some PySem.W.emptyDict:=abr s.heap rfl;have e2:((s.heap.push PySem.W.emptyDict).push (PySem.W.instObj C s.heap.objs.size)).get? (s.heap.objs.size+1)=some (PySem.W.instObj C s.heap.objs.size):=by
  have:=abr (s.heap.push PySem.W.emptyDict) (o:=PySem.W.instObj C s.heap.objs.size) rfl
  rwa [Heap.size_push] at this
 have e3:(s.heap.push PySem.W.emptyDict).Ns s.heap.objs.size (λ_=>none):=⟨PySem.W.emptyDict,#[],_,e1,rfl,(λe he=>absurd he (by simp)),λ_=>rfl⟩;have I1:=I.laid (a:=s.heap.objs.size) (o:=.own (s.heap.objs.size+1)) (h':=s.heap.push PySem.W.emptyDict) (t':=s.toks) (λb u q=>abq _ q) (aam _) ⟨_,e1⟩;refine I1.laid (a:=s.heap.objs.size+1) (o:=.ins C s.heap.objs.size []) (t':=s.toks) (λb u q=>abq _ q) (Nat.le_of_eq (Heap.size_push _ _)) ?_;have ne:s.heap.objs.size≠s.heap.objs.size+1:=aas (aaZ _);refine⟨by rw[aA ne,aj],aap _,ne,e2,λ_=>none,(Heap.Ns1.of_empty e3).at λo q=>abq _ q,λ_=>True.intro,λy hy=>absurd rfl hy⟩
theorem FY {prog:Program} {w:World} {env:Env} {e:Expr} {f:Str} {pos:Pos} {s:Shared} {Q:Value->Shared->Prop} (hb:attributeBase e f env (eval e env)=eval e env)
  (h:wpAny (model prog w) A (eval e env) (λo s₁=>wpAny (model prog w) A (getAttr o f true) Q E s₁) E s):wpAny (model prog w) A (eval (.Attribute e f pos) env) Q E s:=
 Attribute_any_ h (by rw[arm_eval_Attribute,hb])
end
noncomputable def fj (K:abg) (ta:TE) (f:Str):TE:=λσ H Q=>ta σ H λx H1=>∃a C dx fs v,x=.ref a/\H1 a=some (.ins C dx fs)/\An K C/\oA K C f/\fs.lookup f=some v/\Q v H1
noncomputable def yU (K:abg) (ta tv:TE) (f:Str):TS:=λD σ H=>tv σ H λy H1=>ta σ H1 λx H2=>∃a C dx fs,x=.ref a/\H2 a=some (.ins C dx fs)/\An K C/\oA K C f/\fs.length<1000/\
 D.nx σ (upd H2 a (.ins C dx (jf f y fs)))
section
variable {X : Cx} {o e value : Expr} {f : Str} {pos pos' t9 : Pos} {ta tv : TE}
theorem cH (he:PE X e ta) (hb:attributeBase e f X.env (eval e X.env)=eval e X.env):PE X (.Attribute e f pos) (fj X.K ta f):=by
 intro pins s σ H Q I h;refine FY hb (cU (he pins s σ H _ I h) λu s1 dX=>?_);obtain⟨x,H1,I1,rx,a,C,dx,fs,v,ex,ea,c,n,l,q⟩:=dX;subst ex;obtain rfl:u=Value.ref a:=rx;exact yS I1 ea c n l λu' s2 I2 ru=>⟨v,H1,I2,ru,q⟩
theorem lY (ha:PE X o ta) (hv:PE X value tv) (hs:swapsWith value (some (.Attribute o f pos')) pos.line X.env=pure false):PS X (.Assign [.Attribute o f pos'] value pos) (yU X.K ta tv f):=by
 intro pins s σ H D I h;refine plainObj_wpAny_Assign_Attribute (cU (hv pins s σ H _ I h) λu s1 ⟨y,H1,I1,ry,q⟩=>cU (ha pins s1 σ H1 _ I1 q) λov s2 dX=>?_) hs;obtain⟨x,H2,I2,rx,a,C,dx,fs,ex,ea,c,n,l,q2⟩:=dX;subst ex;obtain rfl:ov=Value.ref a:=rx;exact yT I2 ea c n l ry λs3 I3=>⟨σ,_,I3,q2⟩
end
section
variable {X : Cx} {pins : List (Addr × Obj)} {σ : St} {H : Hp} {s : Shared} {A : Around} {E : Value -> Shared -> Prop} {Q : Value -> Shared -> Prop} {c : Value} {b : Bool}
inductive jg (K:abg) (H:Hp):V->Value->Prop where
 | dI:jg K H .dI (.type "NoneType")
 | bl (x:Bool):jg K H (.bl x) (.type "bool")
 | int (i:Int):jg K H (.int i) (.type "int")
 | str (x:Str):jg K H (.str x) (.type "str")
 | IU (x:UInt64):jg K H (.IU x) (.type "float")
 | lst {a:Addr} {xs:List V} (e:H a=some (.lst xs)):jg K H (.ref a) (.type "list")
 | wM {a:Addr} {o:Obj} {xs:List V} (e:H a=some (.wM o (.lst xs))):jg K H (.ref a) (.type "list")
 | tup {a:Addr} {xs:List V} (e:H a=some (.tup xs)):jg K H (.ref a) (.type "tuple")
 | dK {a:Addr} {kvs:List (Key×V)} (e:H a=some (.dK kvs)):jg K H (.ref a) (.type "dict")
 | dT {a:Addr} {kvs:List (List Key×V)} (e:H a=some (.dT kvs)):jg K H (.ref a) (.type "dict")
 | ins {a C dx:Addr} {fs:List (Str×V)} (e:H a=some (.ins C dx fs)) (cl:An K C) (ha:abl K (.ref C) "__class__"=some (some (.builtin "object.__class__")))
   (hn:PySem.W.specialIn K (.builtin "object.__class__") "__get__"=some (some (.builtin "getset_descriptor.__get__"))) (Xc:PySem.W.takesIn K (.builtin "object.__class__")=some true)
   (hm:PySem.W.mroIn K C (.type "object")=some true):jg K H (.ref a) (.ref C)
theorem BC {x:V} {u t:Value} (I:Inv X pins σ H s) (rx:RelV x u) (ty:jg X.K H x t) (e:PySem.W.kitOne X.K t c=some b) (h:∀tk,Q (.bool b) {s with toks:=tk}):
  wpAny (model X.prog X.w) A (call (.builtin "isinstance") [u,c]) Q E s:=by
 cases ty with
 | dI=>cases (show u=Value.none from rx);exact aa0 PySem.W.kitx_none I.mS True.intro e (λz=>nomatch z) h
 | bl y=>cases (show u=Value.bool y from rx);exact aa0 PySem.W.kitx_bool I.mS True.intro e (λz=>nomatch z) h
 | int i=>obtain⟨t,q⟩:=(show ∃t,u=Value.int i t from rx);cases q;exact aa0 PySem.W.kitx_int I.mS True.intro e (λz=>nomatch z) h
 | str y=>obtain⟨t,q⟩:=(show ∃t,u=Value.str y t from rx);cases q;exact aa0 PySem.W.kitx_str I.mS True.intro e (λz=>nomatch z) h
 | IU y=>obtain⟨t,q⟩:=(show ∃t,u=Value.float y t from rx);cases q;exact aa0 PySem.W.kitx_float I.mS True.intro e (λz=>nomatch z) h
 | @lst a xs ea=>
  cases (show u=Value.ref a from rx);obtain⟨_,_,n,_,h1⟩:=(show cS X.prog X.w H s.heap a (.lst xs) from I.bT a _ ea);exact aa0 PySem.W.kitx_list I.mS ⟨_,h1,rfl⟩ e (λz=>nomatch z) h
 | @wM a ob xs ea=>
  cases (show u=Value.ref a from rx);obtain⟨_,_,_,n,_,h1⟩:=(show cS X.prog X.w H s.heap a (.wM ob (.lst xs)) from I.bT a _ ea);exact aa0 PySem.W.kitx_list I.mS ⟨_,h1,rfl⟩ e (λz=>nomatch z) h
 | @tup a xs ea=>
  cases (show u=Value.ref a from rx);obtain⟨_,_,_,p⟩:=(show cS X.prog X.w H s.heap a (.tup xs) from I.bT a _ ea);obtain⟨o,h1,h2,_⟩:=p;exact aa0 PySem.W.kitx_tuple I.mS ⟨o,h1,h2⟩ e (λz=>nomatch z) h
 | @dK a kvs ea=>
  cases (show u=Value.ref a from rx);obtain⟨_,_,vs,_,p⟩:=(show cS X.prog X.w H s.heap a (.dK kvs) from I.bT a _ ea);obtain⟨o,es,ep,h1,h2,_⟩:=p;exact aa0 PySem.W.kitx_dict I.mS ⟨o,h1,h2.1⟩ e (λz=>nomatch z) h
 | @dT a kvs ea=>
  cases (show u=Value.ref a from rx);obtain⟨_,_,xs,_,o,es,ep,h1,h2,_⟩:=(show cS X.prog X.w H s.heap a (.dT kvs) from I.bT a _ ea);exact aa0 PySem.W.kitx_dict I.mS ⟨o,h1,h2.1⟩ e (λz=>nomatch z) h
 | @ins a C dx fs ea cl ha hn Xc hm=>
  cases (show u=Value.ref a from rx);obtain⟨mA,O,_⟩:=qO I.bT ea;obtain⟨od,J,_⟩:=O.look;exact aa0 (PySem.W.kitx_own (cl.get _) cl.hd ha hn Xc hm) I.mS J e (λz=>nomatch z) h
end
end L2
namespace L2
open PySem PySem.Spec PyProof.Rows
structure eC (k:Nat) (A:Around):Prop where
 hd:A.handled=none
 dp:A.depth+3*k+5<recursionLimit
 un:A.units+16*k+200<cLine
theorem eC.mono {j k:Nat} {A:Around} (r:eC k A) (h:j<=k):eC j A:=⟨r.hd,by have:=r.dp;lia,by have:=r.un;lia⟩
theorem eC.deeper {k:Nat} {A:Around} (r:eC (k+1) A) (env:Env):eC k (A.deeper env):=
 ⟨r.hd,by have:=r.dp;show A.depth+1+3*k+5<_;lia,by have:=r.un;show A.units+3+16*k+200<_;lia⟩
theorem yV {A:Around} {C:Addr} {us:List Value} {kw:List (Str×Value)}:(A.under (.builtin "type.__call__" ⟨.ref C::us,kw⟩)).depth=A.depth+1:=by
 first | rfl | simp [Around.under,Code.weight,Code.isCreation,Code.isGuard,Code.isCaller,Code.frames,Code.isFrame,guardIds]
theorem yW {A:Around} {C:Addr} {us:List Value} {kw:List (Str×Value)}:(A.under (.builtin "type.__call__" ⟨.ref C::us,kw⟩)).units=A.units+1:=by
 first | rfl | simp [Around.under,Code.cUnits,Code.frames,Code.isFrame]
theorem eC.make {k:Nat} {A:Around} (r:eC (k+1) A) (C:Addr) (us:List Value) (kw:List (Str×Value)):eC k (A.under (.builtin "type.__call__" ⟨.ref C::us,kw⟩)):=
 ⟨r.hd,by have:=r.dp;rw[yV];lia,by have:=r.un;rw[yW];lia⟩
theorem eC.depth {k:Nat} {A:Around} (r:eC k A):A.depth<recursionLimit:=by have:=r.dp;lia
theorem eC.units {k:Nat} {A:Around} (r:eC k A):A.units+64<cLine:=by have:=r.un;lia
noncomputable def tNil:TA:=λ_ H Q=>Q [] H
noncomputable def tCons (ta:TE) (tr:TA):TA:=λσ H Q=>ta σ H λx H1=>tr σ H1 λxs H2=>Q (x::xs) H2
section
variable {X : Cx} {e : Expr} {es : List Expr} {te : TE} {t : TA} {pos : Pos}
theorem af:PA X [] tNil:=λ_ _ _ _ H Q I h=>Calls.spliced_nil ⟨[],H,I,.nil,h⟩
theorem aa (ha:PE X e te) (hr:PA X es t) (hs:starEach (e::es) X.env=(false,eval e X.env)::starEach es X.env:=by rfl):PA X (e::es) (tCons te t):=by
 intro pos pins s σ H Q I h;rw[hs];show wpAny _ _ (spliced ((false,eval e X.env)::backTo pos (starEach es X.env))) _ _ s;refine Calls.spliced_cons (cU (ha pins s σ H _ I h) λu s1 dX=>?_);obtain⟨x,H1,I1,r1,q1⟩:=dX;exact cU (hr pos pins s1 σ H1 _ I1 q1) λus s2 ⟨xs,H2,I2,r2,q2⟩=>⟨x::xs,H2,I2,.cons r1 r2,q2⟩
noncomputable def tLst (t:TA):TE:=λσ H Q=>t σ H λxs H1=>xs.length<=sizeLine/\∀p,H1 p=none->Q (.ref p) (upd H1 p (.lst xs))
theorem bK (h:PA X es t):PE X (.List es pos) (tLst t):=by
 intro pins s σ H Q I hq;refine wpAny_List_spliced (cU (h pos pins s σ H _ I hq) λus s1 ⟨xs,H1,I1,r,z,q⟩=>⟨by rw[<-r.length];exact z,?_⟩);have hf:H1 s1.heap.objs.size=none:=I1.bT.fresh (aam _);refine⟨.ref s1.heap.objs.size,upd H1 s1.heap.objs.size (.lst xs),I1.laid (t':=s1.toks) (λb u e=>abq _ e) (aam _) ?_,rfl,q _ hf⟩;exact⟨z,us,0,r,abr _ rfl⟩
end
abbrev Sp:=List V->Hp->VK->XK->Prop
abbrev pX:=List Env->Hp->Shared->XK->Value->Shared->Prop
structure yX (P:Program) (w:World) (K:abg) (mg:Str->Option Value) (base:Heap) (A:Around) (outer:List Env) (s:Shared) (H:Hp):Prop where
 frames:A.frames=some outer
 mod:Mod K mg base
 bs:∀b o,base.get? b=some o->s.heap.get? b=some o/\H b=none
 CM:base.objs.size<=s.heap.objs.size
 mU:s.heap.FunFrames base outer
 FO:∀b∈eM outer,H b=none
 bT:hJ P w H s.heap
 bare:AllBare s.gens
noncomputable def CE (outer:List Env) (P:Program) (w:World) (H:Hp) (s:Shared) (Q:VK) (u:Value) (s':Shared):Prop:=
 ∃v H',s'.os=s.os/\AllBare s'.gens/\Un (eM outer) [] H H' s.heap s'.heap/\hJ P w H' s'.heap/\RelV v u/\Q v H'
noncomputable def CR (CX:pX) (outer:List Env) (P:Program) (w:World) (H:Hp) (s:Shared) (Q:VK) (E:XK) (r:Result) (s':Shared):Prop:=
 match r with
 | .ok (.ret u)=>CE outer P w H s Q u s'
 | .ok _=>False
 | .error e=>CX outer H s E e s'
structure gn (P:Program) (w:World) (K:abg) (mg:Str->Option Value) (base:Heap) (CX:pX) (k:Nat) (f:Addr) (fd:FuncData) (ps:List Str) (sp:Sp):Prop where
 len:∀vs H Q E,sp vs H Q E->vs.length=ps.length
 run:∀(A:Around) (outer:List Env) (s:Shared) (H:Hp) (args:Args) (us:List Value) (vs:List V) (Q:VK) (E:XK),eC k A->yX P w K mg base A outer s H->BindsTo s fd args (ps.zip us)->bJ vs us->sp vs H Q E->
  codeAny (model P w) A (.call (.ref f) args) (CR CX outer P w H s Q E) s
theorem gn.mono {P:Program} {w:World} {K:abg} {mg:Str->Option Value} {base:Heap} {CX:pX} {j k:Nat} {f:Addr} {fd:FuncData} {ps:List Str} {sp:Sp} (F:gn P w K mg base CX j f fd ps sp) (h:j<=k):
  gn P w K mg base CX k f fd ps sp:=⟨F.len,λA outer s H args us vs Q E hr=>F.run A outer s H args us vs Q E (hr.mono h)⟩
theorem yX.make {P:Program} {w:World} {K:abg} {mg:Str->Option Value} {base:Heap} {A:Around} {outer:List Env} {s:Shared} {H:Hp} (e:yX P w K mg base A outer s H) (C:Addr) (us:List Value) (kw:List (Str×Value)):
  yX P w K mg base (A.under (.builtin "type.__call__" ⟨.ref C::us,kw⟩)) outer s H:=⟨by first | exact e.frames | (simpa [Around.under,Code.envs,Code.isFrame,pushEnvs] using e.frames),e.mod,e.bs,e.CM,e.mU,e.FO,e.bT,e.bare⟩
section
variable {X : Cx} {pins : List (Addr × Obj)} {σ : St} {H : Hp} {s s' : Shared}
theorem Inv.Ji (I:Inv X pins σ H s):yX X.prog X.w X.K X.mg X.base X.A X.stack s H:=
 ⟨I.ok.frames,I.ok.mod,I.bs,aay I.ok.CM I.sz,I.stack,I.qM,I.bT,I.bare⟩
theorem Inv.after {Q:VK} {u:Value} (I:Inv X pins σ H s) (h:CE X.stack X.prog X.w H s Q u s'):EP X pins σ Q u s':=by
 obtain⟨v,H',os,bare,un,bT,r,q⟩:=h;obtain⟨hh,g,d,t,P8⟩:=s';obtain rfl:P8=s.os:=os;exact⟨v,H',I.call (h':=hh) (g':=g) (d':=d) (t':=t) (ch:=[]) un bT bare (λb z=>absurd z (by simp)),r,q⟩
end
noncomputable def tCall (sp:Sp) (pY:List V) (E:XK) (t:TA):TE:=λσ H Q=>t σ H λvs H1=>sp (vs++pY) H1 Q E
noncomputable def dq (C:Addr) (m:Str) (sp:Sp) (pY:List V) (E:XK) (ta:TE) (t:TA):TE:=λσ H Q=>ta σ H λx H1=>∃a dx fs,x=.ref a/\H1 a=some (.ins C dx fs)/\fs.lookup m=none/\
 t σ H1 λvs H2=>sp (x::(vs++pY)) H2 Q E
noncomputable def uH (C:Addr) (sp:Sp) (pY:List V) (E:XK) (t:TA):TE:=λσ H Q=>t σ H λvs H1=>∀x dx,H1 x=none->H1 dx=none->dx≠x->
 sp (.ref x::(vs++pY)) (upd (upd H1 dx (.own x)) x (.ins C dx [])) (λv H2=>v=.dI/\Q (.ref x) H2) E
noncomputable def Binds (K:abg) (fd:FuncData) (ps:List Str) (ds:List Value):Prop:=
 ∀(s:Shared) (us:List Value),K.In s.heap->(us++ds).length=ps.length->BindsTo s fd ⟨us,[]⟩ (ps.zip (us++ds))
theorem Binds.all {K:abg} {fd:FuncData} {ps:List Str} (h:∀us:List Value,us.length=ps.length->bindArgs fd ⟨us,[]⟩=pure (ps.zip us)):Binds K fd ps []:=λs us _ hl=>by
 rw[aaN] at hl ⊢;exact .of_eq (h us hl)
noncomputable def eW (CX:pX) (X:Cx) (E:XK):Prop:=∀(pins:List (Addr×Obj)) (σ:St) (H:Hp) (s:Shared) (e:Value) (s':Shared),Inv X pins σ H s->CX X.stack H s E e s'->X.xe e s'
section
variable {X : Cx} {CX : pX} {k : Nat} {f C : Addr} {fd : FuncData} {ps : List Str} {sp : Sp} {pY : List V} {ds : List Value} {E : XK} {x m : Str} {p pos apos : Pos} {e o : Expr} {es : List Expr} {ta : TE} {t : TA}
theorem yY {pins:List (Addr×Obj)} {σ:St} {H:Hp} {s:Shared} {Q:VK} {us:List Value} {vs:List V} (F:gn X.prog X.w X.K X.mg X.base CX k f fd ps sp) (hr:eC k X.A) (hb:Binds X.K fd ps ds) (hd:bJ pY ds) (hx:eW CX X E)
  (I:Inv X pins σ H s) (r:bJ vs us) (h:sp (vs++pY) H Q E):wpAny (model X.prog X.w) X.A (call (.ref f) us) (EP X pins σ Q) X.xe s:=by
 have r2:bJ (vs++pY) (us++ds):=r.append hd;have hl:(us++ds).length=ps.length:=by rw[<-r2.length];exact F.len _ _ _ _ h
 refine wpAny_call (codeAny_mono (F.run X.A X.stack s H ⟨us,[]⟩ (us++ds) (vs++pY) Q E hr I.Ji (hb s us I.mS hl) r2 h) λr s' hq=>?_);cases r with
 | error e=>exact hx pins σ H s e s' I hq
 | ok fl=>
  cases fl with
  | ret u=>exact I.after hq
  | next=>exact False.elim hq
  | brk=>exact False.elim hq
  | cont=>exact False.elim hq
theorem FZ (F:gn X.prog X.w X.K X.mg X.base CX k f fd ps sp) (hr:eC k X.A) (hg:Gl X x) (hm:X.mg x=some (.ref f)) (hk:abh X.K (.ref f)=true) (hb:Binds X.K fd ps ds) (hd:bJ pY ds) (hx:eW CX X E)
  (ha:PA X (e::es) t) (rP:(x==("__debug__":Str))=false:=by decide) (he:starEach (e::es) X.env=(false,eval e X.env)::starEach es X.env:=by rfl) (hpl:(backTo pos (starEach es X.env)).any (·.1)=false:=by rfl):
  PE X (.Call (.Name x p) (e::es) [] pos) (tCall sp pY E t):=by
 intro pins s σ H Q I h;refine wpAny_Call_Name_kw (iO I hg hm ?_ rP);refine PySem.W.callWith_K (h₀:=X.base) I.ok.mod.IX hk (cU (ha pos pins s σ H _ I h) λus s1 ⟨vs,H1,I1,r,q⟩=>⟨I1.mS,?_⟩) he hpl;exact yY F hr hb hd hx I1 r q
theorem F0 {pl:Sem Bool} (he:PE X o ta) (c:An X.K C) (hm:C3 X.K C m f) (F:gn X.prog X.w X.K X.mg X.base CX k f fd ps sp) (hr:eC k X.A) (hb:Binds X.K fd ps ds) (hd:bJ pY ds) (hx:eW CX X E) (ha:PA X (e::es) t)
  (hst:starEach (e::es) X.env=(false,eval e X.env)::starEach es X.env:=by rfl) (hpl:(backTo pos (starEach es X.env)).any (·.1)=false:=by rfl)
  (ht:eval (.Call (.Attribute o m apos) (e::es) [] pos) X.env=(do
   let ov <-eval o X.env
   standAt apos.atName
   let (f,first) <-holding [ov] (getMethod ov m pl)
   callWith pos f first (backTo pos (starEach (e::es) X.env)) (backToKw pos (keywordEach [] X.env))):=by rfl):
  PE X (.Call (.Attribute o m apos) (e::es) [] pos) (dq C m sp pY E ta t):=by
 intro pins s σ H Q I h;refine PySem.W.methodCall_KW (pl:=pl) (cU (he pins s σ H _ I h) λu s1 dX=>?_) ht;obtain⟨x,H1,I1,rx,a,dx,fs,ex,ea,l,q⟩:=dX;subst ex;obtain rfl:u=Value.ref a:=rx;refine rO I1 ea c hm l ?_;refine PySem.W.callWith_K (first:=[.ref a]) (h₀:=X.base) I.ok.mod.IX hm.kp (cU (ha pos pins s1 σ H1 _ I1 q) λus s2 ⟨vs,H2,I2,r,q2⟩=>⟨I2.mS,?_⟩) hst hpl;exact yY (us:=.ref a::us) (vs:=.ref a::vs) F hr hb hd hx I2 (.cons rfl r) q2
theorem C4 {pl:Sem Bool} (he:PE X o ta) (c:An X.K C) (hm:C3 X.K C m f) (F:gn X.prog X.w X.K X.mg X.base CX k f fd ps sp) (hr:eC k X.A) (hb:Binds X.K fd ps ds) (hd:bJ pY ds) (hx:eW CX X E)
  (ht:eval (.Call (.Attribute o m apos) [] [] pos) X.env=(do
   let ov <-eval o X.env
   standAt apos.atName
   let (f,first) <-holding [ov] (getMethod ov m pl)
   callWith pos f first (backTo pos (starEach [] X.env)) (backToKw pos (keywordEach [] X.env))):=by rfl):
  PE X (.Call (.Attribute o m apos) [] [] pos) (dq C m sp pY E ta tNil):=by
 intro pins s σ H Q I h;refine PySem.W.methodCall_KW (pl:=pl) (cU (he pins s σ H _ I h) λu s1 dX=>?_) ht;obtain⟨x,H1,I1,rx,a,dx,fs,ex,ea,l,q⟩:=dX;subst ex;obtain rfl:u=Value.ref a:=rx;refine rO I1 ea c hm l ?_;exact PySem.W.callWith_K0 (first:=[.ref a]) I1.mS hm.kp (yY (us:=[.ref a]) (vs:=[.ref a]) F hr hb hd hx I1 (.cons rfl .nil) q)
structure Mk (K:abg) (C f:Addr):Prop where
 makes:PySem.W.makesIn K C=true
 init:abl K (.ref C) "__init__"=some (some (.ref f))
 fn:PySem.W.isFn K (.ref f)=true
 kp:abh K (.ref C)=true
theorem xg {pins:List (Addr×Obj)} {σ:St} {H:Hp} {s:Shared} {Q:VK} {us:List Value} {vs:List V} (M:Mk X.K C f) (F:gn X.prog X.w X.K X.mg X.base CX k f fd ps sp) (hr:eC (k+1) X.A) (hb:Binds X.K fd ps ds) (hd:bJ pY ds)
  (hx:eW CX X E) (I:Inv X pins σ H s) (r:bJ vs us)
  (h:∀x dx,H x=none->H dx=none->dx≠x->sp (.ref x::(vs++pY)) (upd (upd H dx (.own x)) x (.ins C dx [])) (λv H2=>v=.dI/\Q (.ref x) H2) E):
  wpAny (model X.prog X.w) X.A (call (.ref C) us) (EP X pins σ Q) X.xe s:=by
 have hq:=h (s.heap.objs.size+1) s.heap.objs.size (I.bT.fresh (Nat.le_succ _)) (I.bT.fresh (aam _)) (aas (aaZ _));have I2:=Inv.made (C:=C) I;have r2:bJ (V.ref (s.heap.objs.size+1)::(vs++pY)) (Value.ref (s.heap.objs.size+1)::(us++ds)):=.cons rfl (r.append hd);have hl:(Value.ref (s.heap.objs.size+1)::us++ds).length=ps.length:=by
  have e:=r2.length;rw[F.len _ _ _ _ hq] at e;exact e.symm
 refine wpAny_call (C0 (f:=f) I.mS M.makes M.init (beq_iff_eq.mp M.fn) (codeAny_mono (F.run _ X.stack _ _ ⟨Value.ref (s.heap.objs.size+1)::us,[]⟩ (Value.ref (s.heap.objs.size+1)::(us++ds)) _ _ E (hr.make C us [])
  (I2.Ji.make C us []) (hb _ (Value.ref (s.heap.objs.size+1)::us) I2.mS hl) r2 hq) λr s' C5=>?_))
 cases r with
 | error e=>exact hx pins σ _ _ e s' I2 C5
 | ok fl=>
  cases fl with
  | ret u=>
   obtain⟨v,H',I3,rv,ev,q3⟩:=I2.after C5;subst ev;exact⟨rv,⟨V.ref (s.heap.objs.size+1),H',I3,rfl,q3⟩⟩
  | next=>exact False.elim C5
  | brk=>exact False.elim C5
  | cont=>exact False.elim C5
theorem F1 (M:Mk X.K C f) (F:gn X.prog X.w X.K X.mg X.base CX k f fd ps sp) (hr:eC (k+1) X.A) (hg:Gl X x) (hm:X.mg x=some (.ref C)) (hb:Binds X.K fd ps ds) (hd:bJ pY ds) (hx:eW CX X E)
  (ha:PA X (e::es) t) (rP:(x==("__debug__":Str))=false:=by decide) (he:starEach (e::es) X.env=(false,eval e X.env)::starEach es X.env:=by rfl) (hpl:(backTo pos (starEach es X.env)).any (·.1)=false:=by rfl):
  PE X (.Call (.Name x p) (e::es) [] pos) (uH C sp pY E t):=by
 intro pins s σ H Q I h;refine wpAny_Call_Name_kw (iO I hg hm ?_ rP);refine PySem.W.callWith_K (h₀:=X.base) I.ok.mod.IX M.kp (cU (ha pos pins s σ H _ I h) λus s1 ⟨vs,H1,I1,r,q⟩=>⟨I1.mS,?_⟩) he hpl;exact xg M F hr hb hd hx I1 r q
theorem C6 (M:Mk X.K C f) (F:gn X.prog X.w X.K X.mg X.base CX k f fd ps sp) (hr:eC (k+1) X.A) (hg:Gl X x) (hm:X.mg x=some (.ref C)) (hb:Binds X.K fd ps ds) (hd:bJ pY ds) (hx:eW CX X E)
  (rP:(x==("__debug__":Str))=false:=by decide):PE X (.Call (.Name x p) [] [] pos) (uH C sp pY E tNil):=by
 intro pins s σ H Q I h;refine wpAny_Call_Name_kw (iO I hg hm ?_ rP);exact PySem.W.callWith_K0 I.mS M.kp (xg (us:=[]) M F hr hb hd hx I .nil h)
end
section
variable {X : Cx} {CX : pX} {k : Nat} {f C : Addr} {fd : FuncData} {ps ks : List Str} {sp : Sp} {E : XK} {x m : Str} {p pos apos ZP : Pos} {e o : Expr} {es : List Expr} {kws : List Keyword} {te ta : TE} {t tk : TA} {nm : Option Str}
structure P9 (K:abg) (fd:FuncData) (ps ks:List Str) (g:List Value->List Value->List Value) (gV:List V->List V->List V):Prop where
 to:∀(s:Shared) (us ws:List Value),K.In s.heap->(g us ws).length=ps.length->BindsTo s fd ⟨us,ks.zip ws⟩ (ps.zip (g us ws))
 rel:∀{vs:List V} {us:List Value} {zs:List V} {ws:List Value},bJ vs us->bJ zs ws->bJ (gV vs zs) (g us ws)
variable {g : List Value -> List Value -> List Value} {gV : List V -> List V -> List V}
end
structure bj (N P:List Str) (sc:Scope):Prop where
 kind:sc.kind=.function
 co:sc.isCoroutine=false
 gen:sc.isGenerator=false
 nd:N.Nodup
 pre:N.take P.length=P
 par:∀x∈P,sc.names.lookup x=some .local\/sc.names.lookup x=some .cell
 Jj:∀y∈sc.names,y.2≠.free
theorem uI {kindOf:Str->Option NameKind} {x:Str}:∀{binds:List (Str×Value)} {m:Str->Option Value},(∀v,(x,v)∉binds)->bindL kindOf binds m x=m x
 | [],_,_=>rfl
 | (n,v)::r,m,h=>by
  unfold bindL;rw[uI λw hw=>h w (aau _ hw)];split
  ·have:x≠n:=by rintro rfl;exact h v aaz
   simp [this]
  ·rfl
theorem uJ {kindOf:Str->Option NameKind} {x:Str}:∀{binds:List (Str×Value)} {m:Str->Option Value},(∀v,(x,v)∉binds)->bindC kindOf binds m x=m x
 | [],_,_=>rfl
 | (n,v)::r,m,h=>by
  unfold bindC;rw[uJ λw hw=>h w (aau _ hw)];split
  ·rfl
  ·have:x≠n:=by rintro rfl;exact h v aaz
   simp [this]
theorem uK {kindOf:Str->Option NameKind} {x:Str} {v:Value}:∀{P:List Str} {vs:List Value} {i:Nat} {m:Str->Option Value},P.Nodup->P[i]?=some x->vs[i]?=some v->kindOf x=some .local->
  bindL kindOf (P.zip vs) m x=some v
 | [],_,_,_,_,h,_,_=>by simp at h
 | _::_,[],_,_,_,_,h,_=>by simp at h
 | p::P,w::vs,0,m,nd,h1,h2,hk=>by
  simp at h1 h2;subst h1;subst h2;show bindL kindOf ((p,w)::P.zip vs) m p=_;unfold bindL;rw[uI λv hv=>(List.nodup_cons.mp nd).1 (List.of_mem_zip hv).1,if_pos hk];simp
 | p::P,w::vs,i+1,m,nd,h1,h2,hk=>by
  show bindL kindOf ((p,w)::P.zip vs) m x=_;unfold bindL;exact uK (i:=i) (List.nodup_cons.mp nd).2 (by simpa using h1) (by simpa using h2) hk
theorem uL {kindOf:Str->Option NameKind} {x:Str} {v:Value}:∀{P:List Str} {vs:List Value} {i:Nat} {m:Str->Option Value},P.Nodup->P[i]?=some x->vs[i]?=some v->kindOf x≠some .local->
  bindC kindOf (P.zip vs) m x=some v
 | [],_,_,_,_,h,_,_=>by simp at h
 | _::_,[],_,_,_,_,h,_=>by simp at h
 | p::P,w::vs,0,m,nd,h1,h2,hk=>by
  simp at h1 h2;subst h1;subst h2;show bindC kindOf ((p,w)::P.zip vs) m p=_;unfold bindC;rw[uJ λv hv=>(List.nodup_cons.mp nd).1 (List.of_mem_zip hv).1,if_neg hk];simp
 | p::P,w::vs,i+1,m,nd,h1,h2,hk=>by
  show bindC kindOf ((p,w)::P.zip vs) m x=_;unfold bindC;exact uL (i:=i) (List.nodup_cons.mp nd).2 (by simpa using h1) (by simpa using h2) hk
noncomputable def start (N:List Str) (vs:List V):St:=vs.map some++abu (N.length - vs.length) none
noncomputable def eE (CX:pX) (P:Program) (w:World) (K:abg) (mg:Str->Option Value) (base:Heap) (N:List Str) (qual:Str) (scope:Scope) (f:Addr) (cd:Value) (A:Around) (outer:List Env) (s:Shared) (H:Hp) (E:XK):Cx where
 prog:=P
 w:=w
 K:=K
 mg:=mg
 base:=base
 A:=A.deeper (envOfC qual scope s.heap.objs.size f cd)
 N:=N
 s₀:=s
 H₀:=H
 env:=envOfC qual scope s.heap.objs.size f cd
 outer:=outer
 stack:=envOfC qual scope s.heap.objs.size f cd::outer
 ex:=[]
 calm:=true
 fn:=λ_=>true
 pn:=[]
 xe:=λe s'=>wpAny (model P w) (A.deeper (envOfC qual scope s.heap.objs.size f cd)) (leaving (envOfC qual scope s.heap.objs.size f cd) e) (λ_ ua=>CX outer H s E e ua) (λe' ua=>CX outer H s E e' ua) s'
theorem xh {sc:Scope} {n:Nat} {x:Str} (h:sc.names.lookup x=some .cell):∃c,(cellsFrom n sc.names []).lookup x=some c:=by
 have q:=PySem.W.cellsFrom_some sc.names n [] (.inl h);exact Option.isSome_iff_exists.mp q
theorem BD {CX:pX} {P:Program} {w:World} {K:abg} {mg:Str->Option Value} {base:Heap} {N ps:List Str} {qual:Str} {scope:Scope} {f:Addr} {cd:Value} {A:Around} {outer:List Env} {s s1:Shared} {H:Hp} {E:XK} {us:List Value} {vs:List V}
  (S:bj N ps scope) (hd:A.handled=none) (e0:yX P w K mg base A outer s H) (hl:vs.length=ps.length) (r:bJ vs us)
  (x:InCallC s s.heap.objs.size (bindL (envOfC qual scope s.heap.objs.size f cd).kindOf (ps.zip us) λ_=>none) (cellsFrom (s.heap.objs.size+1) scope.names []) (bindC (envOfC qual scope s.heap.objs.size f cd).kindOf (ps.zip us) λ_=>none) s1):
  Inv (eE CX P w K mg base N qual scope f cd A outer s H E) [] (start N vs) H s1:=by
 have hpl:ps.length<=N.length:=by have:=congrArg List.length S.pre;rw[aa1] at this;lia
 obtain⟨h1,tk,rfl,hk⟩:=x.done;have LY:∀b:Addr,b∉(eE CX P w K mg base N qual scope f cd A outer s H E).ex:=λb z=>absurd (show b∈([]:List Addr) from z) (by simp);refine⟨⟨e0.mod,S.kind,rfl,rfl,aam _,λy z c h1 h2=>?_,λy hy=>?_,λy c _ h=>?_,λ_=>hd,Around.frames_deeper e0.frames,.inr ⟨rfl,rfl⟩,λb z=>absurd z (LY b),e0.bs,e0.CM,λb _ _=>LY b,λb z=>absurd z (LY b),e0.mU,e0.FO⟩,
  rfl,e0.bare,Un.kept hk,⟨_,x.toInCall.ns,λi y v h1 h2 h3=>?_⟩,λy c h=>⟨_,x.cell y c h⟩,e0.bT.fresh (aam _),λy c h=>?_,λp hp=>absurd (show p∈([]:List (Addr×Obj)) from hp) (by simp),e0.bT.kept hk,?_⟩
 ·exact name_of_addr x.apart (aa2 h1) (aa2 h2)
 ·have hy:scope.names.lookup y=some .cell\/scope.names.lookup y=some .free:=hy;rcases hy with hy | hy
  ·exact xh hy
  ·exact absurd rfl (S.Jj _ (aa2 hy))
 ·exact Nat.le_of_lt (x.above y c (aa2 h))
 ·have hi:i<vs.length:=by
   unfold start at h2;by_cases hi:i<vs.length
   ·exact hi
   ·rw[aba (by simpa using hi)] at h2;rw[List.getElem?_replicate] at h2;split at h2 <;>cases h2
  have ha:vs[i]?=some v:=by
   unfold start at h2;rw[aa5 (by simpa using hi),aal] at h2;cases e:vs[i]? with
   | none=>rw[e] at h2;cases h2
   | some a=>rw[e] at h2;cases h2;rfl
  obtain⟨u,hu,rv⟩:=r.get ha;have hp:ps[i]?=some y:=by
   rw[<-S.pre,List.getElem?_take_of_lt (by lia)];exact h1
  have Xd:ps.Nodup:=by rw[<-S.pre];exact S.nd.sublist (List.take_sublist _ _)
  refine⟨u,rv,?_⟩;rcases S.par y (aar hp) with k | k
  ·exact .inl ⟨k,uK Xd hp hu k⟩
  ·obtain⟨c,e⟩:=xh (n:=s.heap.objs.size+1) k;refine .inr ⟨.inl k,c,e,?_⟩;have q:=x.cell y c e;rw[uL Xd hp hu (by show scope.names.lookup y≠_;rw[k];decide)] at q;exact q
 ·exact e0.bT.fresh (Nat.le_of_lt (x.above y c (aa2 h)))
 ·unfold start;show _=N.length;rw[aaq,aak,abe];lia
theorem HG {CX:pX} {P:Program} {w:World} {K:abg} {mg:Str->Option Value} {base:Heap} {k:Nat} {f:Addr} {name qual:Str} {params:Arguments} {body:List Stmt} {scope:Scope} {dV kV doc pm cw ct oc:Value} {an od:Option Addr}
  {F2:Array (Option Value)} {N ps:List Str} {sp:Sp} (lk:K.lookup f=some ⟨oc,od,.func (abj name qual params body scope dV kV doc pm an cw ct),F2⟩) (t8:abi K cw qual=true) (S:bj N ps scope)
  (len:∀vs H Q E,sp vs H Q E->vs.length=ps.length)
  (xi:∀(A:Around) (outer:List Env) (s:Shared) (H:Hp) (vs:List V) (Q:VK) (E:XK),eC k (A.deeper (envOfC qual scope s.heap.objs.size f cw))->sp vs H Q E->
   ∃t,wZ (eE CX P w K mg base N qual scope f cw A outer s H E) body t/\t {nx:=λ_ H'=>Q .dI H',rt:=Q} (start N vs) H):
  gn P w K mg base CX (k+1) f (abj name qual params body scope dV kV doc pm an cw ct) ps sp:=by
 refine⟨len,λA outer s H args us vs Q E hr e0 hb r CC=>?_⟩;have hl:=len _ _ _ _ CC;have KX:K.In s.heap:=e0.mod.IX.keeps λb o e=>(e0.bs b o e).1;have lim:s.heap.NoLimit:=e0.mod.nolimit.keeps λb o e=>(e0.bs b o e).1;have LZ:∀y∈ps.zip us,scope.names.lookup y.1=some .local\/(scope.names.lookup y.1=some .cell/\((cellsFrom (s.heap.objs.size+1) scope.names []).lookup y.1).isSome=true):=fun⟨n,v⟩ hy=>by
  rcases S.par n (List.of_mem_zip hy).1 with q | q
  ·exact .inl q
  ·exact .inr ⟨q,PySem.W.cellsFrom_some _ _ _ (.inl q)⟩
 refine codeAny_call_function hr.depth (KX _ _ lk) rfl S.co S.gen rfl (PySem.W.codeRec_of KX t8) (hb _ _ _ _ ?_);refine wpAny_newFunctionEnv_cells S.kind LZ λenv he s1 x=>?_;subst he;refine⟨lim.keeps x.toInCall.keep,codeAny_func ?_⟩;obtain⟨t,ht,hq⟩:=xi A outer s H vs Q E (hr.deeper _) CC;have I:Inv (eE CX P w K mg base N qual scope f cw A outer s H E) [] (start N vs) H s1:=BD S hr.hd e0 hl r x;refine wpAny_mono (ht [] s1 (start N vs) H _ I hq) (λfl s' hs=>?_) λe s' hs=>hs;have fin:∀{σ':St} {H':Hp} {v:V} {u:Value},Inv (eE CX P w K mg base N qual scope f cw A outer s H E) [] σ' H' s'->RelV v u->Q v H'->CE outer P w H s Q u s':=
  λ{σ' H' v u} J rv q=>⟨v,H',J.os,J.bare,J.base,J.bT,rv,q⟩
 cases fl with
 | ret u=>
  obtain⟨v,σ',H',J,rv,q⟩:=hs;exact fin J rv q
 | next=>
  obtain⟨σ',H',J,q⟩:=hs;exact fin (v:=V.dI) (u:=Value.none) J rfl q
 | brk=>
  obtain⟨_,_,_,q⟩:=hs;exact False.elim q
 | cont=>
  obtain⟨_,_,_,q⟩:=hs;exact False.elim q
end L2
namespace L2
open PySem PySem.Spec PyProof.Rows
section
variable {X : Cx} {x : Str} {p pos : Pos} {e : Expr} {es : List Expr} {t : TA} {id T : String} {r : List V -> Hp -> VK -> Prop}
noncomputable def tCB (r:List V->Hp->VK->Prop) (t:TA):TE:=λσ H Q=>t σ H λvs H1=>r vs H1 Q
theorem bf (hc:dh X (.builtin id) r) (hg:Gl X x) (hm:X.mg x=none) (hv:bootBuiltins x=some (.builtin id)) (ha:PA X (e::es) t) (hn:x≠"__name__":=by decide) (rP:(x==("__debug__":Str))=false:=by decide)
  (he:starEach (e::es) X.env=(false,eval e X.env)::starEach es X.env:=by rfl) (hpl:(backTo pos (starEach es X.env)).any (·.1)=false:=by rfl):PE X (.Call (.Name x p) (e::es) [] pos) (tCB r t):=by
 intro pins s σ H Q I h;refine wpAny_Call_Name_kw (ji I hg hm hv ?_ hn rP);exact PyProof.Rows.callWith_builtin1 (cU (ha pos pins s σ H _ I h) λus s1 ⟨vs,H1,I1,r1,q1⟩=>hc pins s1 σ H1 vs us Q I1 r1 q1) he hpl
theorem cf (hc:dh X (.type T) r) (hg:Gl X x) (hm:X.mg x=none) (hv:bootBuiltins x=some (.type T)) (ha:PA X (e::es) t) (hn:x≠"__name__":=by decide) (rP:(x==("__debug__":Str))=false:=by decide)
  (he:starEach (e::es) X.env=(false,eval e X.env)::starEach es X.env:=by rfl) (hpl:(backTo pos (starEach es X.env)).any (·.1)=false:=by rfl):PE X (.Call (.Name x p) (e::es) [] pos) (tCB r t):=by
 intro pins s σ H Q I h;refine wpAny_Call_Name_kw (ji I hg hm hv ?_ hn rP);exact PyProof.Rows.callWith_type1 (cU (ha pos pins s σ H _ I h) λus s1 ⟨vs,H1,I1,r1,q1⟩=>hc pins s1 σ H1 vs us Q I1 r1 q1) he hpl
end
end L2
namespace HT
open PySem PyProof.Rows
section
open PySem.SeqAt
open PySem.AutoSeq1 (wpAny_loadPart')
open PySem.MeetsSeq PySem.MeetsSeq2 PySem.MeetsSeq3
end
section
variable {prog : Program} {w : World} {A : Around} {E : Value -> Shared -> Prop} {s : Shared}
noncomputable def wN (n d:Nat):Option Int->Nat
 | none=>d
 | some v=>if v<0 then (v+ (n:Int)).toNat else min v.toNat n
theorem xj (n d:Nat):wN n d none=d:=rfl
theorem Ao (n d k:Nat):wN n d (some (k:Int))=min k n:=by
 show(if (k:Int)<0 then ((k:Int)+ (n:Int)).toNat else min (k:Int).toNat n)=min k n
 rw[if_neg (by lia),aaS]
end
end HT
namespace L2
open PySem PySem.Spec PyProof.Rows
abbrev TO:=St->Hp->(Option Int->Hp->Prop)->Prop
noncomputable def PO (X:Cx) (e:Option Expr) (t:TO):Prop:=
 ∀(pins:List (Addr×Obj)) (s:Shared) (σ:St) (H:Hp) (Q:Option Int->Hp->Prop),Inv X pins σ H s->t σ H Q->
  wpAny (model X.prog X.w) X.A (evalPart e X.env) (λu s'=>∃o H',Inv X pins σ H' s'/\IsPart u o/\Q o H') X.xe s
noncomputable def tNoPart:TO:=λ_ H Q=>Q none H
noncomputable def tPart (t:TE):TO:=λσ H Q=>t σ H λx H1=>∃i,x=.int i/\Q (some i) H1
theorem intsAre_of {ns:List Int}:∀{us:List Value},bJ (ns.map V.int) us->IntsAre us ns:=by
 induction ns with
 | nil=>intro us r;rw[aaO] at r;cases r;exact .nil
 | cons n ns ih=>
  intro us r;rw[aan] at r;cases r with
  | cons r1 r2=>
   obtain⟨t,e⟩:=r1;subst e;exact .cons n t (ih r2)
section
variable {X : Cx} {e : Expr} {te : TE} {lo hi : Option Expr} {tl th : TO} {pos p2 : Pos}
theorem qP:PO X none tNoPart:=by
 intro pins s σ H Q I h;rw[evalPart_none];exact wpAny_pure ⟨none,H,I,.none,h⟩
theorem qQ (h:PE X e te):PO X (some e) (tPart te):=by
 intro pins s σ H Q I hw;rw[evalPart_some];refine cU (h pins s σ H _ I hw) λu s1 dX=>?_;obtain⟨x,H1,I1,r1,q1⟩:=dX;obtain⟨i,rfl,q⟩:=q1;obtain⟨t,rfl⟩:=r1;exact⟨some i,H1,I1,.int i t,q⟩
noncomputable def OQ (X:Cx) (r:V->Option Int->Option Int->Hp->VK->Prop):Prop:=
 ∀(pins:List (Addr×Obj)) (s:Shared) (σ:St) (H:Hp) (x:V) (v vl vu:Value) (lo hi:Option Int) (sl:Addr) (Q:VK),Inv X pins σ H s->RelV x v->s.heap.IsSliceOf sl vl vu .none->IsPart vl lo->IsPart vu hi->r x lo hi H Q->
  ∃T id,typeLookup (.type T) "__getitem__"=pure (some (.builtin id))/\s.TypeIs v T/\wpAny (model X.prog X.w) X.A (getItem v (.ref sl)) (EP X pins σ Q) X.xe s
noncomputable def tSl (r:V->Option Int->Option Int->Hp->VK->Prop) (te:TE) (tl th:TO):TE:=λσ H Q=>te σ H λx H1=>tl σ H1 λl H2=>th σ H2 λu H3=>r x l u H3 Q
theorem mZ {r:V->Option Int->Option Int->Hp->VK->Prop} (hr:OQ X r) (he:PE X e te) (hl:PO X lo tl) (hu:PO X hi th):PE X (.Subscript e (.Slice lo hi none p2) pos) (tSl r te tl th):=by
 intro pins s σ H Q I h;refine Subscript_ (cU (he pins s σ H _ I h) λv s1 dX=>?_);obtain⟨x,H1,I1,r1,q1⟩:=dX;refine wpAny_Slice (cU (hl pins s1 σ H1 _ I1 q1) λvl s2 ⟨l,H2,I2,pl,q2⟩=>cU (hu pins s2 σ H2 _ I2 q2) λvu s3 dX=>?_);obtain⟨u,H3,I3,pu,q3⟩:=dX;rw[evalPart_none];refine wpAny_pure ?_;have I4:Inv X pins σ H3 {s3 with heap:=s3.heap.push {cls:=.type "slice",data:=.fields #[vl,vu,.none]}}:=I3.kept (t':=s3.toks) λb ob q=>abq _ q;obtain⟨T,id,hT,ht,hg⟩:=hr pins {s3 with heap:=s3.heap.push {cls:=.type "slice",data:=.fields #[vl,vu,.none]}} σ H3 x v vl vu l u s3.heap.objs.size Q I4 r1 (Heap.IsSliceOf.new ..) pl pu q3;show wpAny (model X.prog X.w) X.A (subscriptTail e (.Slice lo hi none p2) v (.ref s3.heap.objs.size)) (EP X pins σ Q) X.xe {s3 with heap:=s3.heap.push {cls:=.type "slice",data:=.fields #[vl,vu,.none]}};exact tail_any (ops:=[.ref s3.heap.objs.size,v]) ht hT hg (by with_unfolding_all rfl)
noncomputable def xk (xs:List V) (lo hi:Option Int):List V:=(xs.drop (HT.wN xs.length 0 lo)).take (HT.wN xs.length xs.length hi - HT.wN xs.length 0 lo)
theorem xm (xs:List V) (lo hi:Option Int):(xk xs lo hi).length<=xs.length:=by
 unfold xk;rw[aa1,List.length_drop];lia
end
end L2
namespace L2
open PySem PySem.Spec PyProof.Rows
noncomputable def F3 (n:Nat) (i:Int):Option Nat:=if 0<=i then (if i<n then some i.toNat else none) else if -(n:Int)<=i then some (i+n).toNat else none
noncomputable def j2 {α:Type} (xs:List α) (i:Int):Option α:=(F3 xs.length i).bind λj=>xs[j]?
theorem Ap {n:Nat} {i:Int} {j:Nat} (h:F3 n i=some j):seqIndex? i n=some j/\j<n/\-(n:Int)<=i/\i<n:=by
 unfold F3 at h;by_cases h0:0<=i
 ·rw[if_pos h0] at h;by_cases h1:i<n
  ·rw[if_pos h1] at h;have e:i.toNat=j:=aaE h;exact⟨by rw[seqIndex_of h0 h1,e],by lia,by lia,h1⟩
  ·rw[if_neg h1] at h;cases h
 ·rw[if_neg h0] at h;by_cases h1:-(n:Int)<=i
  ·rw[if_pos h1] at h;have e:(i+n).toNat=j:=aaE h;exact⟨by rw[seqIndex_neg (by lia) h1,e],by lia,h1,by lia⟩
  ·rw[if_neg h1] at h;cases h
theorem Aq {α:Type} {xs:List α} {i:Int} {v:α} (h:j2 xs i=some v):∃j,seqIndex? i xs.length=some j/\xs[j]?=some v/\j<xs.length/\-(xs.length:Int)<=i/\i<xs.length:=by
 unfold j2 at h;cases e:F3 xs.length i with
 | none=>rw[e] at h;cases h
 | some j=>
  rw[e] at h;obtain⟨h1,h2,h3,h4⟩:=Ap e;exact⟨j,h1,h,h2,h3,h4⟩
theorem cB {α:Type} {xs:List α} {j:Nat} {v:α} (h:xs[j]?=some v):j2 xs (j:Int)=some v:=by
 have hj:j<xs.length:=(abn.mp h).1;have e:F3 xs.length (j:Int)=some j:=by
  unfold F3;rw[if_pos (by lia),if_pos (by lia)];simp
 unfold j2;rw[e];exact h
noncomputable def F4 (b:Expr):Prop:=∀o i,subscripted b false o i=operate [o,i] (getItem o i)
noncomputable def HH (X:Cx) (r:R2):Prop:=
 ∀(value slice:Expr) (pins:List (Addr×Obj)) (s:Shared) (σ:St) (H:Hp) (x y:V) (v u:Value) (Q:VK),Inv X pins σ H s->RelV x v->RelV y u->r x y H Q->
  subscripted slice false v u=operate [v,u] (getItem v u)->wpAny (model X.prog X.w) X.A (subscriptTail value slice v u) (EP X pins σ Q) X.xe s
noncomputable def K8 (X:Cx) (id:String) (r:V->List V->Hp->VK->Prop):Prop:=
 ∀(pins:List (Addr×Obj)) (s:Shared) (σ:St) (H:Hp) (x:V) (xs:List V) (v:Value) (us:List Value) (Q:VK),Inv X pins σ H s->RelV x v->bJ xs us->r x xs H Q->
  wpAny (model X.prog X.w) X.A (call (.builtin id) (v::us)) (EP X pins σ Q) X.xe s
section
variable {X : Cx} {a b : Expr} {ta tb : TE} {pos : Pos}
theorem aD {r:R2} (hr:HH X r) (ha:PE X a ta) (hb:PE X b tb) (hs:F4 b):PE X (.Subscript a b pos) (tOp r ta tb):=by
 intro pins s σ H Q I h;exact Subscript_ (Jg ha hb I h λv u s2 x y H2 I2 rx ry q=>hr a b pins s2 σ H2 x y v u Q I2 rx ry q (hs _ _))
noncomputable def Qa (K:abg):R2:=λx y H Q=>∃p xs i v,x=.ref p/\y=.int i/\bH K H p xs/\j2 xs i=some v/\Q v H
noncomputable def Qb (K:abg):R2:=λx y H Q=>∃p xs i v,x=.ref p/\y=.int i/\gP K H p xs/\j2 xs i=some v/\Q v H
theorem Ar:HH X (Qa X.K):=by
 intro value slice pins s σ H x y v u Q I rx ry h hs;obtain⟨p,xs,i,z,rfl,rfl,hq,he,q⟩:=h;cases rx;obtain⟨t,rfl⟩:=ry;obtain⟨bE,r,pl,hz⟩:=I.list hq;obtain⟨j,h1,h2,h3,h4,h5⟩:=Aq he;obtain⟨w,ew,BE⟩:=r.get h2;have hl:=r.length;have hn:=vy;have fin:EP X pins σ Q w s:=⟨z,H,I,BE,q⟩;by_cases h0:0<=i
 ·have hj:i.toNat=j:=by
   rw[seqIndex_of h0 h5] at h1;exact aaE h1
  exact item_listR pl.isList h0 (by lia) (by rw[hj];simpa using ew) fin hs
 ·have hj:(i+ (bE.toArray.size:Int)).toNat=j:=by
   rw[seqIndex_neg (by lia) h4] at h1;rw[aax,<-hl];exact aaE h1
  exact subscriptTail_builtinR (x:=w) pl.isList.typeIs slot_list_getitem.lookup
   (wpAny_getItem_list_neg (Q:=λr s'=>r=w/\EP X pins σ Q r s') pl.isList (by lia) (by rw[aax] <;>lia) (by lia) (by rw[hj];simpa using ew) ⟨rfl,fin⟩) hs
theorem Jk:HH X (Qb X.K):=by
 intro value slice pins s σ H x y v u Q I rx ry h hs;obtain⟨p,xs,i,z,rfl,rfl,hq,he,q⟩:=h;cases rx;obtain⟨t,rfl⟩:=ry;obtain⟨bE,r,pl,hz⟩:=I.tuple hq;obtain⟨j,h1,h2,h3,h4,h5⟩:=Aq he;obtain⟨w,ew,BE⟩:=r.get h2;have hl:=r.length;have hn:=vy;have fin:EP X pins σ Q w s:=⟨z,H,I,BE,q⟩;exact subscriptTail_builtinR (x:=w) pl.typeIs slot_tuple_getitem.lookup
  (getItem_tuple (j:=j) (Q:=λr s'=>r=w/\EP X pins σ Q r s') pl (by lia) (by lia) (by rw[aax,<-hl];exact h1) (by simpa using ew) ⟨rfl,fin⟩) hs
theorem yZ (bE:List Value) (n j:Nat) (u:Value):Obj.mapSeq (·.setIfInBounds j u) {cls:=.type "list",data:=.seq bE.toArray n}={cls:=.type "list",data:=.seq (bE.set j u).toArray n}:=by
 simp [Obj.mapSeq]
theorem Inv.lst {pins:List (Addr×Obj)} {σ:St} {H:Hp} {s:Shared} {p:Addr} {xs:List V} (I:Inv X pins σ H s) (h:H p=some (.lst xs)):
  ∃(bE:List Value) (n:Nat),bJ xs bE/\s.heap.get? p=some {cls:=.type "list",data:=.seq bE.toArray n}/\xs.length<=sizeLine:=by
 obtain⟨z,bE,n,r,e⟩:=I.bT p _ h;exact⟨bE,n,r,e,z⟩
theorem Inv.Jl {pins:List (Addr×Obj)} {σ:St} {H:Hp} {s:Shared} {p:Addr} {xs ys:List V} {bE its':List Value} {n n':Nat} {f:Obj->Obj} (I:Inv X pins σ H s) (h:H p=some (.lst xs))
  (ho:s.heap.get? p=some {cls:=.type "list",data:=.seq bE.toArray n}) (hf:f {cls:=.type "list",data:=.seq bE.toArray n}={cls:=.type "list",data:=.seq its'.toArray n'}) (r:bJ ys its') (hz:ys.length<=sizeLine) (t:Nat):
  Inv X pins σ (upd H p (.lst ys)) {s with heap:=s.heap.update p f,toks:=t}:=by
 have e:(s.heap.update p f).get? p=some {cls:=.type "list",data:=.seq its'.toArray n'}:=by
  rw[Heap.get?_update_self f ho (by rw[hf] <;>rfl),hf]
 refine I.write (x:=p) (e:=p) (by rw[h];trivial) (.inl rfl) (λb u hb q=>(Heap.get?_update_other _ _ (Ne.symm hb)).trans q) ⟨_,e⟩ ?_;exact⟨hz,its',n',r,e⟩
noncomputable def rSetL:V->V->V->Hp->(Hp->Prop)->Prop:=λo i v H Q=>∃p xs k j,o=.ref p/\i=.int k/\H p=some (.lst xs)/\F3 xs.length k=some j/\Q (upd H p (.lst (xs.set j v)))
theorem set_list:LR X rSetL:=by
 intro pins s σ H o i v ov iv u Q I ro ri rv h;obtain⟨p,xs,k,j,rfl,rfl,hp,hj,q⟩:=h;cases ro;obtain⟨t,rfl⟩:=ri;obtain⟨bE,n,r,ho,hz⟩:=I.lst hp;obtain⟨h1,h2,h3,h4⟩:=Ap hj;have hl:=r.length;have hn:=vy;have I':Inv X pins σ (upd H p (.lst (xs.set j v))) {s with heap:=s.heap.update p (Obj.mapSeq (·.setIfInBounds j u))}:=
  I.Jl hp ho (yZ bE n j u) (r.set rv j) (by rw[aaP];exact hz) s.toks
 by_cases h0:0<=k
 ·have hk:k.toNat=j:=by
   rw[seqIndex_of h0 h4] at h1;exact aaE h1
  exact PySem.W.ki_setAt ho h0 (by lia) (by rw[aax,<-hl];exact h4) (by rw[hk];exact⟨_,I',q⟩)
 ·have hk:(k+ (bE.toArray.size:Int)).toNat=j:=by
   rw[seqIndex_neg (by lia) h3] at h1;rw[aax,<-hl];exact aaE h1
  exact PySem.W.ki_setBack ho (by lia) (by rw[aax,<-hl];exact h3) (by lia) (by rw[hk];exact⟨_,I',q⟩)
theorem vz (lo hi:Option Int) (n:Nat):(sliceBounds lo hi none n).1=((HT.wN n 0 lo:Nat):Int)/\(sliceBounds lo hi none n).2.1=((HT.wN n n hi:Nat):Int)/\(sliceBounds lo hi none n).2.2=1:=by
 refine⟨?_,?_,rfl⟩
 ·cases lo with
  | none=>simp [sliceBounds,HT.wN]
  | some i=>
   simp only[sliceBounds,HT.wN,Option.getD_none,show(1:Int) >0 by decide,if_true];by_cases h:i<0
   ·simp only[h,if_true] <;>lia
   ·simp only[h,if_false] <;>lia
 ·cases hi with
  | none=>simp [sliceBounds,HT.wN]
  | some i=>
   simp only[sliceBounds,HT.wN,Option.getD_none,show(1:Int) >0 by decide,if_true];by_cases h:i<0
   ·simp only[h,if_true] <;>lia
   ·simp only[h,if_false] <;>lia
theorem ub (bE:List Value) (lo hi:Option Int):slicePick bE.toArray lo hi none=((bE.drop (HT.wN bE.length 0 lo)).take (HT.wN bE.length bE.length hi - HT.wN bE.length 0 lo)).toArray:=by
 obtain⟨h1,h2,h3⟩:=vz lo hi bE.toArray.size;unfold slicePick;rw[h1,h2,h3];simp only[sliceRange_one,pick_run,aax] <;>rfl
noncomputable def rSlL (K:abg):V->Option Int->Option Int->Hp->VK->Prop:=λx lo hi H Q=>∃a xs,x=.ref a/\bH K H a xs/\∀p,H p=none->Q (.ref p) (upd H p (.lst (xk xs lo hi)))
theorem F5:OQ X (rSlL X.K):=by
 intro pins s σ H x v vl vu lo hi sl Q I rx hs pl pu h;obtain⟨a,xs,rfl,hx,q⟩:=h;cases rx;obtain⟨bE,r,ht,hz⟩:=I.list hx;have hlen:=r.length;refine⟨"list",_,slot_list_getitem.lookup,ht.isList.typeIs,?_⟩;refine wpAny_getItem_list_slice ht.isList hs pl pu .none (by simp) ?_ (by rw[aax] <;>lia);rw[ub,<-hlen];refine⟨.ref s.heap.objs.size,_,I.laid (t':=s.toks) (o:=.lst (xk xs lo hi)) (λb ob q=>abq _ q) (aam _) ?_,rfl,q _ (I.bT.fresh (aam _))⟩;exact⟨aay (xm xs lo hi) hz,_,0,(r.drop (HT.wN xs.length 0 lo)).take (HT.wN xs.length xs.length hi - HT.wN xs.length 0 lo),abr _ rfl⟩
noncomputable def uM:V->Bool
 | .dI=>true
 | .bl _=>true
 | .int _=>true
 | .str _=>true
 | _=>false
noncomputable def Xe:V->V->Bool
 | .dI,.dI=>true
 | .bl a,.bl b=>a==b
 | .bl a,.int b=>(if a then 1 else 0)==b
 | .int a,.bl b=>a==(if b then 1 else 0)
 | .int a,.int b=>a==b
 | .str a,.str b=>a==b
 | _,_=>false
noncomputable def ZQ (x:V) (xs:List V):Bool:=xs.any λy=>Xe y x
theorem m6:dh X (.builtin "len") (λxs H Q=>∃p ys,xs=[.ref p]/\(bH X.K H p ys\/gP X.K H p ys)/\Q (.int ys.length) H):=by
 intro pins s σ H xs us Q I r h;obtain⟨p,ys,rfl,hq,q⟩:=h;obtain⟨u,rfl,rx⟩:=vals1 r;cases rx;have hn:=vy;rcases hq with hq | hq
 ·obtain⟨bE,r',pl,hz⟩:=I.list hq;have hlen:=r'.length;exact Calls.call_len_list pl.isList (by simp only[aax] <;>lia) ⟨.int ys.length,H,I.tok _,⟨s.toks+1,by rw[aax,hlen]⟩,q⟩
 ·obtain⟨bE,r',pl,hz⟩:=I.tuple hq;have hlen:=r'.length;exact len_tuple pl (by simp only[aax] <;>lia) ⟨.int ys.length,H,I.tok _,⟨s.toks+1,by rw[aax,hlen]⟩,q⟩
theorem vA:dh X (.type "list") (λxs H Q=>∃p ys,xs=[.ref p]/\(bH X.K H p ys\/gP X.K H p ys)/\∀l,H l=none->Q (.ref l) (upd H l (.lst ys))):=by
 intro pins s σ H xs us Q I r h;obtain⟨p,ys,rfl,hq,q⟩:=h;obtain⟨u,rfl,rx⟩:=vals1 r;cases rx;have fin:∀(bE:List Value),bJ ys bE->ys.length<=sizeLine->∀(h':Heap) (c':Nat),(∀b o',s.heap.get? b=some o'->h'.get? b=some o')->
   h'.get? s.heap.objs.size=some {cls:=.type "list",dict:=none,data:=.seq bE.toArray c',slots:=#[]}->EP X pins σ Q (.ref s.heap.objs.size) {s with heap:=h'}:=λbE r' hz h' c' kp e=>
  ⟨.ref s.heap.objs.size,_,I.laid (t':=s.toks) kp (aam _) (show cS X.prog X.w _ h' _ (.lst ys) from⟨hz,bE,c',r',e⟩),rfl,q _ (I.bT.fresh (aam _))⟩
 rcases hq with hq | hq
 ·obtain⟨bE,r',pl,hz⟩:=I.list hq;have hlen:=r'.length;obtain⟨o,ho,hc,n,hd⟩:=pl.isList;exact call_list_seq p (.inl rfl) ho hc hd (λh' c' kp e=>fin bE r' hz h' c' kp e) (by simp only[aax] <;>lia)
 ·obtain⟨bE,r',pl,hz⟩:=I.tuple hq;have hlen:=r'.length;obtain⟨o,ho,hc,n,hd⟩:=pl;exact call_list_seq p (.inr rfl) ho hc hd (λh' c' kp e=>fin bE r' hz h' c' kp e) (by simp only[aax] <;>lia)
theorem uc:dh X (.type "tuple") (λxs H Q=>∃p ys,xs=[.ref p]/\((bH X.K H p ys/\∀l,H l=none->Q (.ref l) (upd H l (.tup ys)))\/(gP X.K H p ys/\Q (.ref p) H))):=by
 intro pins s σ H xs us Q I r h;obtain⟨p,ys,rfl,h⟩:=h;obtain⟨u,rfl,rx⟩:=vals1 r;cases rx;rcases h with ⟨hq,q⟩ | ⟨hq,q⟩
 ·obtain⟨bE,r',pl,hz⟩:=I.list hq;have hlen:=r'.length;refine call_tuple_list pl.isList (λh' kp=>?_) (by simp only[aax] <;>lia);have I1:Inv X pins σ H {s with heap:=h'}:=I.kept (t':=s.toks) kp;have I2:Inv X pins σ (upd H h'.objs.size (.tup ys)) {s with heap:=h'.push {cls:=.type "tuple",data:=.seq bE.toArray}}:=
   I1.laid (t':=s.toks) (λb o e=>abq _ e) (aam _) (show cS X.prog X.w _ _ _ (.tup ys) from⟨hz,bE,r',IsTup.new _ _⟩)
  exact⟨.ref h'.objs.size,_,I2,rfl,q _ (I1.bT.fresh (aam _))⟩
 ·obtain⟨bE,r',pl,hz⟩:=I.tuple hq;exact call_tuple_same pl ⟨.ref p,H,I,rfl,q⟩
noncomputable def F6 (K:abg) (T:String) (x:V) (H:Hp):Prop:=match x with
 | .str _=>T="str"
 | .int _=>T="int"
 | .ref p=>(T="list"/\∃xs,bH K H p xs)\/(T="tuple"/\∃o,K.lookup p=some o/\o.cls=.type "tuple"/\o.dict=none)\/
   (T="dict"/\((∃kvs,H p=some (.dK kvs))\/∃kvs,H p=some (.dT kvs)))\/(T="set"/\∃S n,H p=some (.set S n))
 | _=>False
theorem y4 {pins:List (Addr×Obj)} {σ:St} {H:Hp} {s:Shared} {T:String} {x:V} {v:Value} (I:Inv X pins σ H s) (r:RelV x v) (ty:F6 X.K T x H):
  s.TypeIs v T/\∀a,v=.ref a->∃ob,s.heap.get? a=some ob/\ob.dict=none:=by
 cases x with
 | str z=>
  obtain⟨t,rfl⟩:=r;cases (show T="str" from ty);exact⟨typeIs_str s z t,λ_ e=>nomatch e⟩
 | int i=>
  obtain⟨t,rfl⟩:=r;cases (show T="int" from ty);exact⟨typeIs_int s i t,λ_ e=>nomatch e⟩
 | ref p=>
  cases r;rcases ty with ⟨rfl,xs,hq⟩ | ⟨rfl,o,hk,hc,hd⟩ | ⟨rfl,hk⟩ | ⟨rfl,S,n,hk⟩
  ·obtain⟨bE,_,pl,_⟩:=I.list hq;refine⟨pl.isList.typeIs,λa e=>?_⟩;cases e;obtain⟨o,n,e,c,hd,_⟩:=pl;exact⟨o,e,hd⟩
  ·refine⟨⟨o,I.mS p o hk,hc⟩,λa e=>?_⟩;cases e;exact⟨o,I.mS _ o hk,hd⟩
  ·have z:∃o,s.heap.get? p=some o/\o.ExactDict:=by
    rcases hk with ⟨kvs,hk⟩ | ⟨kvs,hk⟩
    ·obtain⟨_,_,_,_,o,_,_,e,ex,_⟩:=I.bT p _ hk;exact⟨o,e,ex⟩
    ·obtain⟨_,_,_,_,o,_,_,e,ex,_⟩:=I.bT p _ hk;exact⟨o,e,ex⟩
   obtain⟨o,e,ex⟩:=z;refine⟨⟨o,e,ex.1⟩,λa e2=>?_⟩;cases e2;exact⟨o,e,ex.2.1⟩
  ·obtain⟨o,_,_,_,e,ex,_⟩:=I.bT p _ hk;refine⟨⟨o,e,ex.1⟩,λa e2=>?_⟩;cases e2;exact⟨o,e,ex.2.1⟩
 | _=>exact False.elim ty
noncomputable def Jm (K:abg) (T:String) (r:V->List V->Hp->VK->Prop) (to:TE):TE:=λσ H Q=>to σ H λx H1=>F6 K T x H1/\r x [] H1 Q
noncomputable def tBM (K:abg) (T:String) (r:V->List V->Hp->VK->Prop) (to:TE) (t:TA):TE:=λσ H Q=>to σ H λx H1=>F6 K T x H1/\t σ H1 λxs H2=>r x xs H2 Q
variable {o e : Expr} {es : List Expr} {to : TE} {t : TA} {name : Str} {apos dO : Pos} {T id : String} {r : V -> List V -> Hp -> VK -> Prop}
theorem C7 (pa:PlainAttrs T) (slot:Slot T name id) (L0:typeOf (.builtin id)=pure (.type "method_descriptor")) (hm:K8 X id r) (ho:PE X o to)
  (rQ:attributeBase o name X.env (eval o X.env)=eval o X.env:=by rfl) (rR:(apos.endLine==dO.line)=true:=by rfl):PE X (.Call (.Attribute o name apos) [] [] dO) (Jm X.K T r to):=by
 intro pins s σ H Q I h;refine wpAny_Call_method0_late rQ rR (cU (ho pins s σ H _ I h) λv s1 dX=>?_);obtain⟨x,H1,I1,r1,ty,q1⟩:=dX;obtain⟨h1,h2⟩:=y4 I1 r1 ty;exact⟨T,id,pa,slot,L0,h1,h2,Calls.callWith_builtin rfl (PySem.evalArgs_none (hm pins s1 σ H1 x [] v [] Q I1 r1 .nil q1))⟩
theorem dY (pa:PlainAttrs T) (slot:Slot T name id) (L0:typeOf (.builtin id)=pure (.type "method_descriptor")) (hm:K8 X id r) (ho:PE X o to) (ha:PA X (e::es) t)
  (rQ:attributeBase o name X.env (eval o X.env)=eval o X.env:=by rfl)
  (Jn:((backTo dO (starEach (e::es) X.env)).all (λx=>!x.1) && (backToKw dO (keywordEach [] X.env)).all (λx=>x.1.isSome)
   && decide ((e::es).length+ ([]:List Keyword).length+ (if ([]:List Keyword).isEmpty then 0 else 1)<30))=true:=by rfl)
  (rR:(apos.endLine==dO.line)=true:=by rfl) (hs:starEach (e::es) X.env=(false,eval e X.env)::starEach es X.env:=by rfl) (y7:(backTo dO (starEach es X.env)).any (·.1)=false:=by rfl):
  PE X (.Call (.Attribute o name apos) (e::es) [] dO) (tBM X.K T r to t):=by
 intro pins s σ H Q I h;refine wpAny_Call_method_late rQ Jn rR rfl (cU (ho pins s σ H _ I h) λv s1 dX=>?_);obtain⟨x,H1,I1,r1,ty,q1⟩:=dX;obtain⟨h1,h2⟩:=y4 I1 r1 ty;refine⟨T,id,pa,slot,L0,h1,h2,?_⟩;have hA:=ha dO pins s1 σ H1 _ I1 q1;rw[hs] at hA ⊢;refine Calls.callWith_builtin (by show(false || (backTo dO (starEach es X.env)).any (·.1))=false;rw[y7] <;>rfl) (Calls.evalArgs_plain ?_);exact cU hA λus s2 ⟨vs,H2,I2,r2,q2⟩=>hm pins s2 σ H2 x vs v us Q I2 r1 r2 q2
end
end L2
namespace L2
open PySem PySem.Spec PyProof.Rows
noncomputable def Jo (X:Cx) (id:String) (r:V->List V->Hp->VK->Prop):Prop:=
 ∀(pins:List (Addr×Obj)) (s:Shared) (σ:St) (H:Hp) (x:V) (xs:List V) (v:Value) (us:List Value) (Q:VK),Inv X pins σ H s->RelV x v->bJ xs us->r x xs H Q->
  wpAny (model X.prog X.w) X.A (call (.builtin id) (v::us)) (EP X pins σ Q) X.xe s
theorem bJ.one:∀{x:V} {us:List Value},bJ [x] us->∃u,us=[u]/\RelV x u
 | _,_,.cons r .nil=>⟨_,rfl,r⟩
theorem bJ.zero:∀{us:List Value},bJ [] us->us=[]
 | _,.nil=>rfl
theorem bJ.reverse {xs:List V} {us:List Value} (h:bJ xs us):bJ xs.reverse us.reverse:=by
 induction h with
 | nil=>exact .nil
 | cons r t ih=>rw[List.reverse_cons,List.reverse_cons];exact bJ.append ih (.cons r .nil)
theorem bJ.rep {xs:List V} {us:List Value} (h:bJ xs us):∀k:Nat,bJ (abu k xs).flatten (abu k us).flatten
 | 0=>.nil
 | k+1=>by
  rw[abf,abf,List.flatten_cons,List.flatten_cons];exact bJ.append h (bJ.rep h k)
theorem foldl_rep (bE:List Value):∀(k:Nat) (acc:List Value),
  List.foldl (λx1 x2=>x1++x2) acc.toArray (abu k bE.toArray)=(acc++ (abu k bE).flatten).toArray
 | 0,acc=>by simp
 | k+1,acc=>by
  have e:acc.toArray++bE.toArray=(acc++bE).toArray:=by simp
  have e2:(acc++bE)++ (abu k bE).flatten=acc++ (abu (k+1) bE).flatten:=by
   rw[abf,List.flatten_cons,List.append_assoc]
  rw[<-e2,<-foldl_rep bE k (acc++bE),<-e,abf,List.foldl_cons]
section
variable {X : Cx} {pins : List (Addr × Obj)} {σ : St} {H : Hp} {s : Shared} {l b : Addr} {xs ys zs : List V}
theorem Inv.F7 {bE its':List Value} {n:Nat} {f:Array Value->Array Value} {t':Nat} (I:Inv X pins σ H s) (hH:H l=some (.lst xs))
  (e:s.heap.get? l=some {cls:=.type "list",data:=.seq bE.toArray n}) (hf:f bE.toArray=its'.toArray) (hv:bJ ys its') (hz:ys.length<=sizeLine):
  Inv X pins σ (upd H l (.lst ys)) {s with heap:=s.heap.update l (Obj.mapSeq f),toks:=t'}:=by
 have q:=PySem.IsL.update e f;rw[hf] at q;refine I.write (x:=l) (e:=l) (by rw[hH];exact trivial) (.inl rfl) (λb' u hb hu=>(Heap.get?_update_other s.heap (Obj.mapSeq f) (Ne.symm hb)).trans hu) ⟨_,q⟩ ?_;exact⟨hz,its',_,hv,q⟩
theorem Inv.Jp {bE:List Value} {t':Nat} (I:Inv X pins σ H s) (hv:bJ ys bE) (hz:ys.length<=sizeLine):
  Inv X pins σ (upd H s.heap.objs.size (.lst ys)) {s with heap:=s.heap.push {cls:=.type "list",data:=.seq bE.toArray},toks:=t'}:=
 I.laid (λ_ _ q=>abq _ q) (aam _) ⟨hz,bE,0,hv,abr _ rfl⟩
theorem Inv.fresh (I:Inv X pins σ H s):H s.heap.objs.size=none:=I.bT.fresh (aam _)
theorem Inv.xo (I:Inv X pins σ H s) (hH:H l=some (.lst xs)):xs.length<=sizeLine/\∃(bE:List Value) (n:Nat),bJ xs bE/\xs.length=bE.length/\s.heap.get? l=some {cls:=.type "list",data:=.seq bE.toArray n}:=by
 obtain⟨z,bE,n,r,e⟩:=I.bT l _ hH;exact⟨z,bE,n,r,r.length,e⟩
theorem xp {n:Nat} (h:n<=sizeLine):Builtin.List.listTooLong n=false:=by
 unfold Builtin.List.listTooLong;exact decide_eq_false (by lia)
end
section
variable {X : Cx}
noncomputable def cZ:V->List V->Hp->VK->Prop:=λx vs H Q=>∃l xs y,x=.ref l/\vs=[y]/\H l=some (.lst xs)/\xs.length<sizeLine/\Q .dI (upd H l (.lst (xs++ [y])))
theorem cm:Jo X "list.append" cZ:=by
 intro pins s σ H x vs v us Q I rx rv h;obtain⟨l,xs,y,rfl,rfl,hH,hz,q⟩:=h;cases rx;obtain⟨u,rfl,ru⟩:=rv.one;obtain⟨z,bE,n,r,hl,e⟩:=I.xo hH;refine call_meets F.slot_list_append ⟨_,e,rfl⟩ F.entry_list_append (F.args_list_append_2 _ _) (PySem.list_append l bE.toArray n u (by rw[aax];lia)) ⟨e,?_⟩;refine⟨.dI,_,I.F7 (its':=bE++ [u]) hH e (by simp) (r.append (.cons ru .nil)) ?_,rfl,q⟩;rw[aaq,aaH];lia
noncomputable def qR:V->List V->Hp->VK->Prop:=λx vs H Q=>∃l b xs zs,x=.ref l/\vs=[.ref b]/\H l=some (.lst xs)/\H b=some (.lst zs)/\xs.length+zs.length<=sizeLine/\Q .dI (upd H l (.lst (xs++zs)))
theorem oB:Jo X "list.extend" qR:=by
 intro pins s σ H x vs v us Q I rx rv h;obtain⟨l,b,xs,zs,rfl,rfl,hH,hB,hz,q⟩:=h;cases rx;obtain⟨u,rfl,ru⟩:=rv.one;cases ru;obtain⟨z,bE,n,r,hl,e⟩:=I.xo hH;obtain⟨z2,y8,n2,r2,K9,e2⟩:=I.xo hB;have hsz:bE.toArray.size+y8.toArray.size<=sizeLine:=by rw[aax,aax];lia
 have C8:¬(!bE.toArray.isEmpty && Builtin.List.listTooLong (bE.toArray.size+y8.toArray.size))=true:=by
  rw[xp hsz,Bool.and_false];exact aaF
 refine call_meets F.slot_list_extend ⟨_,e,rfl⟩ F.entry_list_extend (F.args_list_extend_2 _ _)
  (AutoSeq1.list_extend_list_list_0 l bE.toArray n b y8.toArray n2 C8 (by rw[aax];lia) (by lia)) ⟨e,e2,?_⟩
 refine⟨.dI,_,I.F7 (its':=bE++y8) hH e (by simp) (r.append r2) ?_,rfl,q⟩;rw[aaq];lia
noncomputable def xq:V->List V->Hp->VK->Prop:=λx vs H Q=>∃l xs,x=.ref l/\vs=[]/\H l=some (.lst xs)/\Q .dI (upd H l (.lst xs.reverse))
theorem za:Jo X "list.reverse" xq:=by
 intro pins s σ H x vs v us Q I rx rv h;obtain⟨l,xs,rfl,rfl,hH,q⟩:=h;cases rx;have Qc:=rv.zero;subst Qc;obtain⟨z,bE,n,r,hl,e⟩:=I.xo hH;refine call_meets F.slot_list_reverse ⟨_,e,rfl⟩ F.entry_list_reverse (F.args_list_reverse_1 _) (AutoSeq1.list_reverse_list_0 l bE.toArray n (by rw[aax];lia)) ⟨e,?_⟩;refine⟨.dI,_,I.F7 (its':=bE.reverse) hH e (by simp) r.reverse ?_,rfl,q⟩;rw[List.length_reverse];lia
noncomputable def C9:V->List V->Hp->VK->Prop:=λx vs H Q=>∃l xs,x=.ref l/\vs=[]/\H l=some (.lst xs)/\Q .dI (upd H l (.lst []))
theorem Dc:Jo X "list.clear" C9:=by
 intro pins s σ H x vs v us Q I rx rv h;obtain⟨l,xs,rfl,rfl,hH,q⟩:=h;cases rx;have Qc:=rv.zero;subst Qc;obtain⟨z,bE,n,r,hl,e⟩:=I.xo hH;refine call_meets F.slot_list_clear ⟨_,e,rfl⟩ F.entry_list_clear (F.args_list_clear_1 _) (AutoSeq1.list_clear_list_0 l bE.toArray n (by rw[aax];lia)) ⟨e,?_⟩;exact⟨.dI,_,I.F7 (its':=[]) (ys:=[]) hH e rfl .nil (aap _),rfl,q⟩
noncomputable def Jq:R2:=λx y H Q=>∃l b xs zs,x=.ref l/\y=.ref b/\H l=some (.lst xs)/\H b=some (.lst zs)/\xs.length+zs.length<=sizeLine/\∀p,H p=none->Q (.ref p) (upd H p (.lst (xs++zs)))
theorem De:ox X (binaryOp .Add) Jq:=by
 intro pins s σ H x y v u Q I rx ry h;obtain⟨l,b,xs,zs,rfl,rfl,hH,hB,hz,q⟩:=h;cases rx;cases ry;obtain⟨z,bE,n,r,hl,e⟩:=I.xo hH;obtain⟨z2,y8,n2,r2,K9,e2⟩:=I.xo hB;refine PySem.P.add_list e e2 ?_ (by rw[aax,aax];lia);have ea:bE.toArray++y8.toArray=(bE++y8).toArray:=by simp
 rw[ea];exact⟨.ref _,_,I.Jp (t':=s.toks) (r.append r2) (by rw[aaq];lia),rfl,q _ I.fresh⟩
noncomputable def L1:R2:=λx y H Q=>∃l k xs,x=.ref l/\y=.int k/\H l=some (.lst xs)/\-(2^63)<=k/\k<2^63/\xs.length*k.toNat<=sizeLine/\
 ∀p,H p=none->Q (.ref p) (upd H p (.lst (abu k.toNat xs).flatten))
theorem len_rep {α:Type} (xs:List α) (k:Nat):(abu k xs).flatten.length=k*xs.length:=by
 induction k with
 | zero=>simp
 | succ k ih=>rw[abf,List.flatten_cons,aaq,ih,Nat.succ_mul,Nat.add_comm]
theorem Jr:ox X (binaryOp .Mult) L1:=by
 intro pins s σ H x y v u Q I rx ry h;obtain⟨l,k,xs,rfl,rfl,hH,h1,h2,hz,q⟩:=h;cases rx;obtain⟨t,rfl⟩:=ry;obtain⟨z,bE,n,r,hl,e⟩:=I.xo hH;have hlen:bE.toArray.size*k.toNat<=sizeLine:=by rw[aax,<-hl];exact hz
 have Qd:¬bE.toArray.size*k.toNat >(2^63 - 1) / 8:=by
  have:(sizeLine:Nat)<=(2^63 - 1) / 8:=∅
  lia
 have Qe:¬(!Builtin.List.listFitsIndex k)=true:=by
  rw[fitsIndex_both h1 h2];exact aaF
 have C8:¬Builtin.List.listTooLong (bE.toArray.size*k.toNat)=true:=by
  rw[xp hlen];exact aaF
 have Df:List.foldl (λx1 x2=>x1++x2) #[] (abu (if bE.toArray.isEmpty=true then 0 else k.toNat) bE.toArray)=(abu k.toNat bE).flatten.toArray:=by
  have f0:∀m:Nat,List.foldl (λx1 x2=>x1++x2) #[] (abu m bE.toArray)=(abu m bE).flatten.toArray:=λm=>by
   have:=foldl_rep bE m []
   rw[List.nil_append] at this;exact this
  rw[f0];cases bE with
  | nil=>simp
  | cons a r'=>rw[if_neg (by simp)]
 refine wpAny_binaryOp_repeat_ref (T:="list") (U:="int") ∅ ⟨_,e,rfl⟩ (λs'=>typeIs_int s' k t) noFill_list_mul F.fills_int_mul F.slot_int_rmul repeat_list F.slot_int_index.lookup
  (call_meets F.slot_int_rmul (typeIs_int s k t) F.entry_int_rmul (F.args_int_rmul_2 _ _) (int___rmul___int_list k t l bE.toArray n)
   ⟨e,rfl,⟨_,e,rfl⟩,call_meets F.slot_list_mul ⟨_,e,rfl⟩ F.entry_list_mul (F.args_list_mul_2 _ _) (AutoListH.list___mul___list_int_3 l bE.toArray n k t Qe Qd C8) ⟨e,?_⟩⟩)
 rw[Df];exact⟨.ref _,_,I.Jp (t':=s.toks) (r.rep k.toNat) (by rw[len_rep,Nat.mul_comm];exact hz),rfl,q _ I.fresh⟩
end
section
variable {prog : Program} {w : World} {A : Around} {E : Value -> Shared -> Prop} {s : Shared}
end
section
variable {X : Cx}
end
end L2
namespace L2
open PySem PySem.Spec PyProof.Rows
section
variable {κ : Type} [DecidableEq κ]
noncomputable def dZ (kvs:List (κ×V)) (k:κ):Option V:=(kvs.find? λkv=>decide (kv.1=k)).map (·.2)
noncomputable def putK (kvs:List (κ×V)) (k:κ) (v:V):List (κ×V):=
 if (kvs.any λkv=>decide (kv.1=k))=true then kvs.map (λkv=>if kv.1=k then (kv.1,v) else kv) else kvs++ [(k,v)]
noncomputable def L3 (kvs:List (κ×V)) (k:κ):List (κ×V):=kvs.filter λkv=>decide (kv.1≠k)
theorem jo {p:κ×V} {r:List (κ×V)} {k:κ} (e:p.1=k):dZ (p::r) k=some p.2:=by simp [dZ,aaQ,e]
theorem gA {p:κ×V} {r:List (κ×V)} {k:κ} (e:¬p.1=k):dZ (p::r) k=dZ r k:=by simp [dZ,aaQ,e]
theorem xr (k:κ):∀kvs:List (κ×V),(kvs.any λkv=>decide (kv.1=k))=(dZ kvs k).isSome
 | []=>rfl
 | p::r=>by
  rw[List.any_cons];by_cases e:p.1=k
  ·simp only[jo e,decide_eq_true e,Bool.true_or,Option.isSome_some]
  ·rw[gA e,decide_eq_false e,Bool.false_or];exact xr k r
theorem pZ (kvs:List (κ×V)) (k:κ) (v:V):(putK kvs k v).length<=kvs.length+1:=by
 unfold putK;split
 ·rw[aak];lia
 ·rw[aaq,aaB,aaW];lia
theorem je.oE {o:Option V} {u:Option Value} (r:je o u):o.isSome=u.isSome:=by
 cases o with
 | none=>cases u with
  | none=>rfl
  | some _=>exact(show False from r).elim
 | some _=>cases u with
  | none=>exact(show False from r).elim
  | some _=>rfl
theorem je.getD {o:Option V} {u:Option Value} {d:V} {d':Value} (r:je o u) (rd:RelV d d'):RelV (o.getD d) (u.getD d'):=by
 cases o with
 | none=>cases u with
  | none=>exact rd
  | some _=>exact(show False from r).elim
 | some _=>cases u with
  | none=>exact(show False from r).elim
  | some _=>exact r
theorem KV.val {kvs:List (κ×V)} {vs:List (κ×Value)} (r:KV kvs vs) (k:κ):je (dZ kvs k) (valueAt vs k):=by
 unfold KV at r;induction r with
 | nil=>exact True.intro
 | @cons p q ps qs h t ih=>
  obtain⟨h1,h2⟩:=h;by_cases e:p.1=k
  ·have e':q.1=k:=h1.symm.trans e;have b:valueAt (q::qs) k=some q.2:=by simp [valueAt,aaQ,e']
   rw[jo e,b];exact h2
  ·have e':¬q.1=k:=λz=>e (h1.trans z);have b:valueAt (q::qs) k=valueAt qs k:=by simp [valueAt,aaQ,e']
   rw[gA e,b];exact ih
theorem KV.any {kvs:List (κ×V)} {vs:List (κ×Value)} (r:KV kvs vs) (k:κ):(kvs.any λkv=>decide (kv.1=k))=vs.any λkv=>decide (kv.1=k):=by
 unfold KV at r;induction r with
 | nil=>rfl
 | cons h t ih=>rw[List.any_cons,List.any_cons,ih,h.1]
theorem KV.Js {kvs:List (κ×V)} {vs:List (κ×Value)} (r:KV kvs vs) (k:κ) {y:V} {u:Value} (ry:RelV y u):
  KV (kvs.map λkv=>if kv.1=k then (kv.1,y) else kv) (vs.map λkv=>if kv.1=k then (kv.1,u) else kv):=by
 unfold KV at r ⊢;induction r with
 | nil=>exact .nil
 | @cons p q ps qs h t ih=>
  rw[aan,aan];refine .cons ?_ ih;obtain⟨h1,h2⟩:=h;by_cases e:p.1=k
  ·rw[if_pos e,if_pos (h1.symm.trans e)];exact⟨h1,ry⟩
  ·rw[if_neg e,if_neg (λz=>e (h1.trans z))];exact⟨h1,h2⟩
theorem KV.put {kvs:List (κ×V)} {vs:List (κ×Value)} (r:KV kvs vs) (k:κ) {y:V} {u:Value} (ry:RelV y u):KV (putK kvs k y) (stored vs k u):=by
 unfold putK stored;rw[r.any k];by_cases e:(vs.any λkv=>decide (kv.1=k))=true
 ·rw[if_pos e,if_pos e];exact r.Js k ry
 ·rw[if_neg e,if_neg e];exact Paired.snoc r ⟨rfl,ry⟩
theorem KV.length {kvs:List (κ×V)} {vs:List (κ×Value)} (r:KV kvs vs):kvs.length=vs.length:=Paired.length r
end
theorem jq {P:Program} {w:World} {k:Key} {u:Value} (r:RelV (kV k) u):(cK P w).is k u=true:=by
 cases k with
 | inl i=>obtain⟨t,e⟩:=(show ∃t,u=Value.int i t from r);subst e;exact wX P w i t
 | inr x=>obtain⟨t,e⟩:=(show ∃t,u=Value.str x t from r);subst e;exact wY P w x t
theorem uN {P:Program} {w:World}:∀{ks:List Key} {us:List Value},bJ (ks.map kV) us->ItemsAre (cK P w) ks us
 | [],_,r=>by rw[aaO] at r;cases r;exact .nil
 | k::ks,_,r=>by
  rw[aan] at r;cases r with
  | cons h t=>exact .cons (jq h) (uN t)
abbrev KT (H:Hp):List (List Key×V)->List (List Key×Addr×Value)->Prop:=Paired λp q=>p.1=q.1/\H q.2.1=some (.tup (p.1.map kV))/\RelV p.2 q.2.2
theorem KT.val {H:Hp} {kvs:List (List Key×V)} {xs:List (List Key×Addr×Value)} (r:KT H kvs xs) (k:List Key):je (dZ kvs k) ((atKey xs k).map (·.2)):=by
 induction r with
 | nil=>exact True.intro
 | @cons p q ps qs h t ih=>
  obtain⟨h1,_,h2⟩:=h;by_cases e:p.1=k
  ·have e':q.1=k:=h1.symm.trans e;have b:atKey (q::qs) k=some q.2:=by simp [atKey,aaQ,e']
   rw[jo e,b];exact h2
  ·have e':¬q.1=k:=λz=>e (h1.trans z);have b:atKey (q::qs) k=atKey qs k:=by simp [atKey,aaQ,e']
   rw[gA e,b];exact ih
theorem KT.Js {H:Hp} {kvs:List (List Key×V)} {xs:List (List Key×Addr×Value)} (r:KT H kvs xs) (k:List Key) {y:V} {u:Value} (ry:RelV y u):
  KT H (kvs.map λkv=>if kv.1=k then (kv.1,y) else kv) (xs.map (putAt k u)):=by
 induction r with
 | nil=>exact .nil
 | @cons p q ps qs h t ih=>
  rw[aan,aan];refine .cons ?_ ih;obtain⟨h1,h2,h3⟩:=h;unfold putAt;by_cases e:p.1=k
  ·rw[if_pos e,if_pos (h1.symm.trans e)];exact⟨h1,h2,ry⟩
  ·rw[if_neg e,if_neg (λz=>e (h1.trans z))];exact⟨h1,h2,h3⟩
theorem KT.put {H:Hp} {kvs:List (List Key×V)} {xs:List (List Key×Addr×Value)} (r:KT H kvs xs) (k:List Key) {b:Addr} {y:V} {u:Value} (hb:H b=some (.tup (k.map kV))) (ry:RelV y u):
  KT H (putK kvs k y) (storedH xs k b u):=by
 have e:(kvs.any λkv=>decide (kv.1=k))=(atKey xs k).isSome:=by
  rw[xr,(r.val k).oE,Option.isSome_map]
 unfold putK storedH;rw[e];by_cases q:(atKey xs k).isSome=true
 ·rw[if_pos q,if_pos q];exact r.Js k ry
 ·rw[if_neg q,if_neg q];exact Paired.snoc r ⟨rfl,hb,ry⟩
theorem KT.keeps {H H':Hp} {kvs:List (List Key×V)} {xs:List (List Key×Addr×Value)} (r:KT H kvs xs) (ht:∀b ys,H b=some (.tup ys)->H' b=some (.tup ys)):KT H' kvs xs:=
 Paired.IV r λ_ _ z=>⟨z.1,ht _ _ z.2.1,z.2.2⟩
section
variable {P : Program} {w : World} {H : Hp} {h : Heap} {a : Addr}
theorem HI {u:HO} (ok:hJ P w H h) (e:Rd H a u):cS P w H h a u:=e.ok ok
theorem p8 {kvs:List (Key×V)} (ok:hJ P w H h) (e:Rd H a (.dK kvs)):kvs.length<=sizeLine/\(a==sysModules)=false/\∃vs,KV kvs vs/\h.DictOf (cK P w) a vs:=
 show cS P w H h a (.dK kvs) from HI ok e
theorem As {kvs:List (Key×V)} (ok:hJ P w H h) (e:H a=some (.dK kvs)):kvs.length<=sizeLine/\(a==sysModules)=false/\∃vs,KV kvs vs/\h.DictOf (cK P w) a vs:=p8 ok (.inl e)
theorem rS {ks:List Key} (ok:hJ P w H h) (e:H a=some (.tup (ks.map kV))):(tupleKind (cK P w)).is h ks a:=by
 obtain⟨_,bE,r,o,h1,h2,n,h3⟩:=(show cS P w H h a (.tup (ks.map kV)) from ok a _ e);exact⟨o,bE.toArray,n,h1,h2,h3,by simpa using uN r⟩
theorem uO {kvs:List (List Key×V)} (ok:hJ P w H h) (e:Rd H a (.dT kvs)):kvs.length<=sizeLine/\(a==sysModules)=false/\
  ∃xs,KT H kvs xs/\h.DictOfH (tupleKind (cK P w)) a xs:=by
 obtain⟨z,y,xs,r,o,es,ep,h1,h2,h3,h4,h5⟩:=(show cS P w H h a (.dT kvs) from HI ok e);refine⟨z,y,xs,r,o,es,ep,h1,h2,h3,h4,λx hx=>?_,h5⟩;have all:∀{l:List (List Key×V)} {m:List (List Key×Addr×Value)},KT H l m->∀x∈m,(tupleKind (cK P w)).is h x.1 x.2.1:=by
  intro l m q;induction q with
  | nil=>intro x hx;exact nomatch hx
  | @cons p q ps qs hq t ih=>
   intro x hx;rcases aaR.mp hx with e | hx
   ·subst e;exact rS ok (by rw[<-hq.1];exact hq.2.1)
   ·exact ih x hx
 exact all r x hx
theorem L4 {kvs:List (List Key×V)} (ok:hJ P w H h) (e:H a=some (.dT kvs)):kvs.length<=sizeLine/\(a==sysModules)=false/\
  ∃xs,KT H kvs xs/\h.DictOfH (tupleKind (cK P w)) a xs:=uO ok (.inl e)
end
noncomputable def lZ (H:Hp) (a:Addr) (y:V) (r:Option V):Prop:=
 (∃kvs k,Rd H a (.dK kvs)/\y=kV k/\r=dZ kvs k)\/∃kvs k b,Rd H a (.dT kvs)/\y=.ref b/\H b=some (.tup (k.map kV))/\r=dZ kvs k
noncomputable def BF (H:Hp) (a:Addr) (y v:V) (H':Hp):Prop:=
 (∃kvs k,H a=some (.dK kvs)/\y=kV k/\kvs.length<sizeLine/\H'=upd H a (.dK (putK kvs k v)))\/
 ∃kvs k b,H a=some (.dT kvs)/\y=.ref b/\H b=some (.tup (k.map kV))/\kvs.length<sizeLine/\H'=upd H a (.dT (putK kvs k v))
theorem BF.k {H:Hp} {a:Addr} {kvs:List (Key×V)} {k:Key} {v:V} (e:H a=some (.dK kvs)) (hl:kvs.length<sizeLine):BF H a (kV k) v (upd H a (.dK (putK kvs k v))):=.inl ⟨kvs,k,e,rfl,hl,rfl⟩
section
variable {X : Cx} {pins : List (Addr × Obj)} {σ : St} {H : Hp} {s : Shared} {a : Addr} {y v : V} {u r : Value} {o : Option V} {A : Around} {E : Value -> Shared -> Prop}
theorem Inv.L5 (I:Inv X pins σ H s):sysModules<s.heap.objs.size:=by
 have h:mainGlobals<s.heap.objs.size:=(I.mod.glob.keeps I.bk).lt;exact aaT ∅ h
theorem BG {Q:Value->Shared->Prop} (hu:A.units+1<cLine) (I:Inv X pins σ H s) (g:lZ H a y (some v)) (ry:RelV y u) (h:∀w' s',Inv X pins σ H s'->RelV v w'->Q w' s'):
  wpAny (model X.prog X.w) A (getItem (.ref a) u) Q E s:=by
 rcases g with ⟨kvs,k,e,ey,l⟩ | ⟨kvs,k,b,e,ey,eb,l⟩
 ·subst ey;obtain⟨z,hd,vs,rel,dd⟩:=p8 I.bT e;obtain⟨w',hw,BE⟩:=je.some_of (v:=v) (o:=valueAt vs k) (by rw[l];exact rel.val k);exact wpAny_getItem_of (jq ry) dd.mapOf hw (h w' _ (I.tok _) BE)
 ·subst ey;cases (show u=Value.ref b from ry);obtain⟨z,hd,xs,rel,dd⟩:=uO I.bT e;obtain⟨w',hw,BE⟩:=je.some_of (v:=v) (o:=(atKey xs k).map (·.2)) (by rw[l];exact rel.val k);obtain⟨p,hp,OR⟩:=abm.mp hw;refine wpAny_getItem_heap (tupleKind_room_in1 hu) (rS I.bT eb) dd hp ?_;rw[OR];exact h w' _ (I.tok _) BE
theorem F8 {Q:Value->Shared->Prop} (hu:A.units+1<cLine) (I:Inv X pins σ H s) (g:lZ H a y o) (ry:RelV y u) (h:∀s',Inv X pins σ H s'->Q (.bool (!o.isSome)) s'):
  wpAny (model X.prog X.w) A (compareOp .NotIn u (.ref a)) Q E s:=by
 rcases g with ⟨kvs,k,e,ey,l⟩ | ⟨kvs,k,b,e,ey,eb,l⟩
 ·subst ey;obtain⟨z,hd,vs,rel,dd⟩:=p8 I.bT e;refine wpAny_notIn_of (jq ry) hd dd.mapOf ?_;rw[<-(rel.val k).oE,<-l];exact h _ (I.tok _)
 ·subst ey;cases (show u=Value.ref b from ry);obtain⟨z,hd,xs,rel,dd⟩:=uO I.bT e;refine wpAny_notIn_heap (tupleKind_room_in1 hu) (rS I.bT eb) hd dd ?_;have q:=(rel.val k).oE;rw[Option.isSome_map] at q;rw[<-q,<-l];exact h _ (I.tok _)
theorem qS {h':Heap} {t':Nat} {ob:HO} (I:Inv X pins σ H s) (mu:LK (H a)) (hs:Heap.SameBut a s.heap h') (he:∃q,h'.get? a=some q) (new:cS X.prog X.w (upd H a ob) h' a ob):
  Inv X pins σ (upd H a ob) {s with heap:=h',toks:=t'}:=
 I.write (x:=a) (e:=a) mu (.inl rfl) (λb q hb z=>(hs.2 b hb).trans z) he new
theorem zb {P:Program} {w:World} {H':Hp} {h':Heap} {kvs:List (Key×V)} {vs:List (Key×Value)} (z:kvs.length<=sizeLine) (hd:(a==sysModules)=false) (rel:KV kvs vs) (dd:h'.DictOf (cK P w) a vs):
  cS P w H' h' a (.dK kvs):=⟨z,hd,vs,rel,dd⟩
theorem BH {H':Hp} {Q:Unit->Shared->Prop} (hu:A.units+1<cLine) (I:Inv X pins σ H s) (g:BF H a y v H') (ry:RelV y u) (rv:RelV v r) (h:∀s',Inv X pins σ H' s'->Q () s'):
  wpAny (model X.prog X.w) A (setItem (.ref a) u r) Q E s:=by
 rcases g with ⟨kvs,k,e,ey,l,eH⟩ | ⟨kvs,k,b,e,ey,eb,l,eH⟩
 ·subst ey eH;obtain⟨z,hd,vs,rel,dd⟩:=As I.bT e;have hz:vs.length<=sizeLine:=by rw[<-rel.length];exact z
  have hl:(putK kvs k v).length<=sizeLine:=by have:=pZ kvs k v;lia
  refine wpAny_setItem_pairs (hsz:=hz) (jq ry) dd λh' BI hs=>h _ ?_;have he:∃q,h'.get? a=some q:=let ⟨q,_,_,hq,_⟩:=BI;⟨q,hq⟩
  exact qS I (by rw[e];exact True.intro) hs he (zb hl hd (rel.put k rv) BI)
 ·subst ey eH;cases (show u=Value.ref b from ry);obtain⟨z,hd,xs,rel,dd⟩:=L4 I.bT e;have hz:xs.length<=sizeLine:=by rw[<-Paired.length rel];exact z
  have hl:(putK kvs k v).length<=sizeLine:=by have:=pZ kvs k v;lia
  refine wpAny_setItem_heap (hsz:=hz) (tupleKind_room_in1 hu) (rS I.bT eb) dd λh' BI hs=>h _ ?_;obtain⟨q,es,ep,hq,h2,h3,h4,_,h5⟩:=BI;refine qS I (by rw[e];exact True.intro) hs ⟨q,hq⟩ ⟨hl,hd,_,(rel.put k eb rv).keeps λc ys ec=>?_,q,es,ep,hq,h2,h3,h4,h5⟩;rw[aA (LJ ec e (λz=>nomatch z))];exact ec
end
section
variable {X : Cx} {pins : List (Addr × Obj)} {σ : St} {H : Hp} {s : Shared} {a : Addr} {kvs : List (Key × V)} {k : Key} {u : Value} {A : Around} {E : Value -> Shared -> Prop}
theorem L6 {Q:Value->Shared->Prop} (I:Inv X pins σ H s) (e:Rd H a (.dK kvs)) (h:∀t s',Inv X pins σ H s'->Q (.int kvs.length t) s'):wpAny (model X.prog X.w) A (call (.builtin "len") [.ref a]) Q E s:=by
 obtain⟨z,hd,vs,rel,dd⟩:=p8 I.bT e;refine call_len_dict hd dd (by rw[<-rel.length];rw[sizeLine_eq] at z;lia) ?_;rw[<-rel.length];exact h _ _ (I.tok _)
end
noncomputable def Jt (i:Expr):Prop:=∀ov iv,subscripted i false ov iv=operate [ov,iv] (getItem ov iv)
theorem Au {prog:Program} {w:World} {A:Around} {E:Value->Shared->Prop} {s:Shared} {env:Env} {value slice:Expr} {pos:Pos} {T id:String} {Q:Value->Shared->Prop}
  (hl:typeLookup (.type T) "__getitem__"=pure (some (.builtin id))) (hs:Jt slice)
  (h:wpAny (model prog w) A (eval value env) (λo s₁=>wpAny (model prog w) A (eval slice env) (λi s₂=>s₂.TypeIs o T/\wpAny (model prog w) A (getItem o i) Q E s₂) E s₁) E s):
  wpAny (model prog w) A (eval (.Subscript value slice pos) env) Q E s:=by
 refine Subscript_ (wpAny_mono h (λo s₁ h₁=>wpAny_mono h₁ (λi s₂ h₂=>?_) λ_ _ x=>x) λ_ _ x=>x);obtain⟨hT,h₂⟩:=h₂;unfold subscriptTail;refine wpAny_bind ?_;rw[getitemInPython_of_ne hT.not_modules];refine wpAny_bind (wpAny_specialOf hT hl ?_);have fin:wpAny (model prog w) A (subscripted slice false o i) (λr s₃=>wpAny (model prog w) A (letTemporaryGo value o r >>=λ_=>pure r) Q E s₃) E s₂:=by
  rw[hs o i];exact wpAny_operating (wpAny_mono h₂ (λr s₃ h₃=>wpAny_bind (wpAny_letTemporaryGo (wpAny_pure h₃))) λ_ _ x=>x)
 first
  | exact wpAny_pure (wpAny_bind fin)
  | exact wpAny_bind (wpAny_pure (wpAny_bind fin))
  | exact wpAny_bind fin
theorem xt {X:Cx} {pins:List (Addr×Obj)} {σ:St} {H:Hp} {s:Shared} {a:Addr} {y:V} {o:Option V} (I:Inv X pins σ H s) (g:lZ H a y o):s.TypeIs (.ref a) "dict":=by
 rcases g with ⟨kvs,k,e,_,_⟩ | ⟨kvs,k,b,e,_,_,_⟩
 ·obtain⟨_,_,vs,_,dd⟩:=p8 I.bT e;exact dd.typeIs
 ·obtain⟨_,_,xs,_,dd⟩:=uO I.bT e;exact dd.typeIs
noncomputable def tDGet (td ty:TE):TE:=λσ H Q=>td σ H λx H1=>ty σ H1 λy H2=>∃a v,x=.ref a/\lZ H2 a y (some v)/\Q v H2
noncomputable def tDNotIn (ty td:TE):TE:=λσ H Q=>ty σ H λy H1=>td σ H1 λx H2=>∃a o,x=.ref a/\lZ H2 a y o/\Q (.bl (!o.isSome)) H2
noncomputable def sDPut (td ty tv:TE):TS:=λD σ H=>tv σ H λv H1=>td σ H1 λx H2=>ty σ H2 λy H3=>∃a H4,x=.ref a/\BF H3 a y v H4/\D.nx σ H4
section
variable {X : Cx} {o i e value : Expr} {pos pos' t9 : Pos} {td ty tv : TE}
theorem cR (hu:X.A.units+1<cLine) (ho:PE X o td) (hi:PE X i ty) (hs:Jt i):PE X (.Subscript o i pos) (tDGet td ty):=by
 intro pins s σ H Q I h;refine Au PySem.F.slot_dict_getitem.lookup hs (cU (ho pins s σ H _ I h) λu s1 ⟨x,H1,I1,rx,q1⟩=>cU (hi pins s1 σ H1 _ I1 q1) λiv s2 dX=>?_);obtain⟨y,H2,I2,ry,a,v,ex,g,q2⟩:=dX;subst ex;obtain rfl:u=Value.ref a:=rx;exact⟨xt I2 g,BG hu I2 g ry λw' s3 I3 BE=>⟨v,H2,I3,BE,q2⟩⟩
theorem uP (hu:X.A.units+1<cLine) (hi:PE X i ty) (ho:PE X o td):PC X .NotIn i o (tDNotIn ty td):=by
 intro pins s σ H Q I h;refine cU (hi pins s σ H _ I h) λiv s1 ⟨y,H1,I1,ry,q1⟩=>cU (ho pins s1 σ H1 _ I1 q1) λu s2 dX=>?_;obtain⟨x,H2,I2,rx,a,ov,ex,g,q2⟩:=dX;subst ex;obtain rfl:u=Value.ref a:=rx;exact F8 hu I2 g ry λs3 I3=>⟨.bl (!ov.isSome),H2,I3,rfl,q2⟩
theorem qT (hu:X.A.units+1<cLine) (ho:PE X o td) (hi:PE X i ty) (hv:PE X value tv) (hs:swapsWith value (some (.Subscript o i pos')) pos.line X.env=pure false):
  PS X (.Assign [.Subscript o i pos'] value pos) (sDPut td ty tv):=by
 intro pins s σ H D I h;refine wpAny_Assign_Subscript (cU (hv pins s σ H _ I h) λr s1 ⟨v,H1,I1,rv,q1⟩=>cU (ho pins s1 σ H1 _ I1 q1) λu s2 ⟨x,H2,I2,rx,q2⟩=>cU (hi pins s2 σ H2 _ I2 q2) λiv s3 dX=>?_) hs;obtain⟨y,H3,I3,ry,a,H4,ex,g,q3⟩:=dX;subst ex;obtain rfl:u=Value.ref a:=rx;exact BH hu I3 g ry rv λs4 I4=>⟨σ,H4,I4,q3⟩
end
theorem xu {P:Program} {w:World} {H:Hp} (h:Heap) (hb:sysModules<h.objs.size):cS P w H (h.push {cls:=.type "dict",data:=.dict #[]}) h.objs.size (.dK []):=
 ⟨aap _,beq_eq_false_iff_ne.mpr (Ne.symm (aas hb)),[],.nil,Heap.DictOf.new h⟩
noncomputable def tDNewK:TE:=λ_ H Q=>∀p,H p=none->Q (.ref p) (upd H p (.dK []))
section
variable {X : Cx} {pos : Pos}
theorem m7:PE X (.Dict [] [] pos) tDNewK:=λpins s σ H Q I h=>
 wpAny_Dict_empty ⟨.ref s.heap.objs.size,_,I.laid (a:=s.heap.objs.size) (o:=.dK []) (t':=s.toks) (λ_ _ q=>abq _ q) (aam _) (xu s.heap I.L5),rfl,h _ (I.bT.fresh (aam _))⟩
end
abbrev VV:List (V×V)->List (Value×Value)->Prop:=Paired λp q=>RelV p.1 q.1/\RelV p.2 q.2
structure M1 (X:Cx) (o:Expr) (m:Str) (apos:Pos) (e:Expr) (dO:Pos):Prop where
 base:attributeBase o m X.env (eval o X.env)=eval o X.env
 OS:((backTo dO (starEach [e] X.env)).all (λx=>!x.1) && (backToKw dO (keywordEach [] X.env)).all (λx=>x.1.isSome)
  && decide (([e]:List Expr).length+ ([]:List Keyword).length+ (if ([]:List Keyword).isEmpty then 0 else 1)<30))=true
 line:(apos.endLine==dO.line)=true
 trees:backTo dO (starEach [e] X.env)=[(false,eval e X.env)]
structure M2 (X:Cx) (o:Expr) (m:Str) (apos:Pos) (e f:Expr) (dO:Pos):Prop where
 base:attributeBase o m X.env (eval o X.env)=eval o X.env
 OS:((backTo dO (starEach [e,f] X.env)).all (λx=>!x.1) && (backToKw dO (keywordEach [] X.env)).all (λx=>x.1.isSome)
  && decide (([e,f]:List Expr).length+ ([]:List Keyword).length+ (if ([]:List Keyword).isEmpty then 0 else 1)<30))=true
 line:(apos.endLine==dO.line)=true
 trees:backTo dO (starEach [e,f] X.env)=[(false,eval e X.env),(false,eval f X.env)]
noncomputable def OT (H:Hp) (a:Addr):Prop:=(∃kvs,Rd H a (.dK kvs))\/∃kvs,Rd H a (.dT kvs)
theorem Ju {X:Cx} {pins:List (Addr×Obj)} {σ:St} {H:Hp} {s:Shared} {a:Addr} (I:Inv X pins σ H s) (d:OT H a):
  s.TypeIs (.ref a) "dict"/\(∀b,Value.ref a=.ref b->∃ob,s.heap.get? b=some ob/\ob.dict=none)/\(a==sysModules)=false:=by
 rcases d with ⟨kvs,e⟩ | ⟨kvs,e⟩
 ·obtain⟨_,hd,vs,_,dd⟩:=p8 I.bT e;refine⟨dd.typeIs,λb q=>?_,hd⟩;cases q;obtain⟨ob,_,_,h1,h2,_⟩:=dd;exact⟨ob,h1,h2.2.1⟩
 ·obtain⟨_,hd,xs,_,dd⟩:=uO I.bT e;refine⟨dd.typeIs,λb q=>?_,hd⟩;cases q;obtain⟨ob,_,_,h1,h2,_⟩:=dd;exact⟨ob,h1,h2.2.1⟩
section
variable {X : Cx} {pins : List (Addr × Obj)} {σ : St} {H : Hp} {s : Shared} {a : Addr} {y d : V} {u r : Value} {o : Option V} {A : Around} {E : Value -> Shared -> Prop}
theorem Jv {Q:Value->Shared->Prop} (hu:A.units+1<cLine) (I:Inv X pins σ H s) (g:lZ H a y o) (ry:RelV y u) (rd:RelV d r) (h:∀w' s',Inv X pins σ H s'->RelV (o.getD d) w'->Q w' s'):
  wpAny (model X.prog X.w) A (call (.builtin "dict.get") [.ref a,u,r]) Q E s:=by
 rcases g with ⟨kvs,k,e,ey,l⟩ | ⟨kvs,k,b,e,ey,eb,l⟩
 ·subst ey;obtain⟨z,hd,vs,rel,dd⟩:=p8 I.bT e;refine call_meetsIn PySem.F.slot_dict_get dd.typeIs PySem.F.entry_dict_get (PySem.F.args_dict_get_3 _ _ _) (meets_dict_get_default (cK X.prog X.w) a (jq ry) hd r) ⟨_,dd.mapOf,h _ _ (I.tok _) ?_⟩;rw[l];exact(rel.val k).getD rd
 ·subst ey;cases (show u=Value.ref b from ry);obtain⟨z,hd,xs,rel,dd⟩:=uO I.bT e;refine call_meetsIn PySem.F.slot_dict_get dd.typeIs PySem.F.entry_dict_get (PySem.F.args_dict_get_3 _ _ _) (meetsH_dict_get_default (tupleKind (cK X.prog X.w)) a b hd r) ⟨tupleKind_room_in1 hu,k,xs,rS I.bT eb,dd,h _ _ (I.tok _) ?_⟩;rw[l];exact(rel.val k).getD rd
end
noncomputable def tDGet2 (td ty tx:TE):TE:=λσ H Q=>td σ H λx H1=>∃a,x=.ref a/\OT H1 a/\ty σ H1 λy H2=>tx σ H2 λz H3=>∃o,lZ H3 a y o/\Q (o.getD z) H3
section
variable {X : Cx} {o e f : Expr} {apos dO : Pos} {td ty tx : TE}
theorem Dg (hu:X.A.units+1<cLine) (ho:PE X o td) (he:PE X e ty) (hf:PE X f tx) (m:M2 X o "get" apos e f dO):PE X (.Call (.Attribute o "get" apos) [e,f] [] dO) (tDGet2 td ty tx):=by
 intro pins s σ H Q I h;refine wpAny_Call_method m.base m.OS m.line PySem.F.plainAttrs_dict PySem.F.slot_dict_get PySem.F.type_dict_get (cU (ho pins s σ H _ I h) λu s1 dX=>?_);obtain⟨x,H1,I1,rx,a,ex,d,q1⟩:=dX;subst ex;obtain rfl:u=Value.ref a:=rx;obtain⟨t1,t2,_⟩:=Ju I1 d;refine⟨t1,t2,?_⟩;rw[m.trees];refine Calls.callWith_builtin rfl (Calls.evalArgs_plain (Calls.spliced_cons (cU (he pins s1 σ H1 _ I1 q1) λiv s2 ⟨y,H2,I2,ry,q2⟩=>
  Calls.spliced_cons (cU (hf pins s2 σ H2 _ I2 q2) λfv s3 ⟨z,H3,I3,rz,ov,g,q3⟩=>Calls.spliced_nil ?_))))
 exact Jv hu I3 g ry rz λw' s4 I4 BE=>⟨_,H3,I4,BE,q3⟩
end
section
variable {X : Cx} {pins : List (Addr × Obj)} {σ : St} {H : Hp} {s : Shared} {a : Addr} {kvs : List (Key × V)} {A : Around} {E : Value -> Shared -> Prop}
end
section
variable {X : Cx} {pins : List (Addr × Obj)} {σ : St} {H : Hp} {s : Shared} {a : Addr} {y : V} {u : Value} {A : Around} {E : Value -> Shared -> Prop}
end
end L2
namespace Xf
open PySem PySem.W PySem.Calls PyProof.Rows
theorem qA {P:Params} {h:Heap}:∀(ns:List Int) (vs:List Value),WellAll P h vs (ns.map WData.int)->IntsAre vs ns:=by
 intro ns;induction ns with
 | nil=>
  intro vs w;rw[aaO] at w;cases w;exact .nil
 | cons n ns ih=>
  intro vs w;rw[aan] at w;cases w with
  | cons a b=>
   cases a;exact .cons _ _ (ih _ b)
theorem BJ {l:OpenLaw} {n:Nat} (hn:l.most=some n) {P:Params} {h:Heap} {args:List WData} {vals:List Value}
  (F9:l.row.toRowW.claim.pre args=true) (qB:WellAll P h vals args):
  ∃a vs ns,vals=[Value.ref a]/\args=[WData.list (ns.map WData.int)]/\h.get? a=some {cls:=.type "list",data:=.seq vs.toArray}/\IntsAre vs ns/\ns.length<=n:=by
 have dQ:WShape.hasAll [] args [.list .int]=true:=(pre_splitW F9).1;have hc:l.pre.holds [] {args:=args}=true:=(pre_splitW F9).2;obtain⟨d,r,rfl,h1,h2⟩:=hasAllW_cons dQ;obtain rfl:=hasAllW_nil h2;obtain⟨xs,rfl,h3⟩:=hasW_list h1;obtain⟨ns,rfl⟩:=items_int h3;have hlen:ns.length<=n:=by
  unfold OpenLaw.pre at hc;have h4:(WTm.not (.lt (.lit (.int (n:Int))) (.len (.arg 0)))).holds [] {args:=[.list (ns.map .int)]}=true:=by
   have h4:=(holds_andW hc).1;rw[hn] at h4;exact h4
  have h5:=condW_of h4 (w_not (w_lt w_lit (w_len_list (w_arg rfl))));rw[aak] at h5;refine Nat.le_of_not_lt λq=>?_;have q':(n:Int)< ((ns.length:Nat):Int):=by lia
  first
   | (rw[decide_eq_true q'] at h5;exact absurd h5 ∅)
   | (simp at h5;lia)
 cases qB with
 | cons w1 w2=>
  cases w2;cases w1 with
  | list ho BK=>exact⟨_,_,ns,rfl,rfl,ho,qA ns _ BK,hlen⟩
theorem BL (l:OpenLaw) (args:List WData):l.row.toRowW.claim.post args (.bool true) args=true:=
 postW_of (r:=l.row.toRowW) (X:=(true==true))
  (show WShape.has [] (.bool true) .bool=true by first | rfl | decide | simp [WShape.has,WShape.arms,WShape.armsAll])
  (show(WTm.eq .res (.lit (.bool true))).value [] {args:=args,res:=some (.bool true),after:=args}=some (.bool (true==true)) from w_eq_bool (w_res rfl) w_lit) rfl
theorem xw {l:OpenLaw} {n:Nat} {q:Program} {loose:List Str} {XP:(Str->Option Value)->Heap->Prop} {YP:World->Heap->Prop} {d:DefRec}
  (hn:l.most=some n) (L7:d.params.defaults=[])
  (call:∀(w:World) (s₀ s₁:Shared) (mg mb:Str->Option Value) (fa:Addr) (o:Obj) (pm cd doc:Value) (a:Addr) (vs:List Value) (ns:List Int),
   Ground q loose [] XP w s₀ mg mb s₁.heap->YP w s₁.heap->
   s₁.heap.get? fa=some o->o.data=.func (docDef d.name d.params d.body d.scope pm cd doc)->s₁.heap.CodeRec cd d.name->mg d.name=some (.ref fa)->
   s₁.heap.get? a=some {cls:=.type "list",data:=.seq vs.toArray}->IntsAre vs ns->ns.length<=n->s₁.gens=#[]->
   codeAny (model l.prog w) callerA (.call (.ref fa) ⟨[.ref a],[]⟩) (λr s'=>r=.ok (.ret (.bool true))/\OldK s₁.heap s'.heap/\s'.os=s₁.os/\AllBare s'.gens) s₁):
  WalkO q loose XP YP l.row.toRowW d [] (λf vs=>PySem.call f vs):=by
 intro w s₀ s₁ mg mb G Y fa o pm cd doc dV kV ho hd t8 hD L8 hg args vals as F9 ZR hrd qB hlo;obtain rfl:dV=.none:=Dflts.none hD L7;obtain rfl:kV=.none:=Dflts.noKw hD;obtain⟨a,vs,ns,rfl,rfl,Jw,hints,hlen⟩:=BJ hn F9 qB;refine enter_call (codeAny_mono (call w s₀ s₁ mg mb fa o pm cd doc a vs ns G Y ho (fd_plain hd) t8 L8 Jw hints hlen hg) λr s' hq=>?_);obtain⟨rfl,h2,h3,h4⟩:=hq;exact⟨.inl ⟨.bool true,.bool true,[],rfl,λ_=>rfl,.bool true,BL l _,λ_=>⟨List.Pairwise.nil,λ_ hm=>(nomatch hm)⟩⟩,h2,h3,h4⟩
section
variable {prog : Program} {w : World} {A : Around} {E : Value -> Shared -> Prop} {s : Shared} {K : Frag}
end
end Xf
namespace L2
open PySem PySem.Spec PyProof.Rows
theorem uQ:∀{vs:List Value} {ns:List Int},IntsAre vs ns->bJ (ns.map V.int) vs
 | _,_,.nil=>.nil
 | _,_,.cons n t h=>.cons ⟨t,rfl⟩ (uQ h)
noncomputable def Jx (H:Hp):Prop:=∀b,H b=none\/∃o xs,H b=some (.wM o (.lst xs))
theorem law_call {P:Program} {w:World} {K:abg} {mg mb:Str->Option Value} {CX:pX} {k:Nat} {fa a:Addr} {fd:FuncData} {x:Str} {sp:Sp} {s₁:Shared} {vs:List Value} {ns:List Int}
  (KX:K.In s₁.heap) (Xg:s₁.heap.Ns mainGlobals mg) (hb:s₁.heap.Ns builtinsNs mb) (ZS:∀x:Str,x≠"__name__"->mb x=bootBuiltins x) (Qf:s₁.heap.NoLimit) (hg:s₁.gens=#[])
  (ha:s₁.heap.get? a=some {cls:=.type "list",data:=.seq vs.toArray}) (hi:IntsAre vs ns) (hl:ns.length<=sizeLine) (hr:eC k callerA)
  (F:∀base:Heap,K.In base->base.Ns mainGlobals mg->gn P w K mg base CX k fa fd [x] sp) (L9:∀(s:Shared) (u:Value),BindsTo s fd ⟨[u],[]⟩ [(x,u)])
  (CC:∀H:Hp,Jx H->bH K H a (ns.map V.int)->sp [.ref a] H (λv _=>v=.bl true) λ_ _ _=>False)
  (Qg:∀H e s',CX [] H s₁ (λ_ _ _=>False) e s'->False):
  codeAny (model P w) callerA (.call (.ref fa) ⟨[.ref a],[]⟩) (λr s'=>r=.ok (.ret (.bool true))/\OldK s₁.heap s'.heap/\s'.os=s₁.os/\AllBare s'.gens) s₁:=by
 have rv:=uQ hi;have Qh:=hi.length;have core:∀H:Hp,Jx H->bH K H a (ns.map V.int)->hJ P w H s₁.heap->(∀b,H b≠none->b=a)->(H a≠none->K.lookup a=none)->
   codeAny (model P w) callerA (.call (.ref fa) ⟨[.ref a],[]⟩) (λr s'=>r=.ok (.ret (.bool true))/\OldK s₁.heap s'.heap/\s'.os=s₁.os/\AllBare s'.gens) s₁:=by
  intro H hO hS bT hA hK;have Av:∀{b:Addr} {o:Obj},s₁.heap.get? b=some o->H b=none->(vq s₁.heap H).get? b=some o:=λe n=>CL e n;have LY:∀{b:Addr} {o:Obj} {es:Array DictEntry} {ep:Nat},s₁.heap.get? b=some o->o.data=.dict es ep->H b=none:=λ{b o es ep} e d=>by
   cases q:H b with
   | none=>rfl
   | some u=>
    have e':b=a:=hA b (by rw[q];simp);subst e';rw[ha] at e;cases e;have d':Data.seq vs.toArray _=Data.dict es ep:=d;cases d'
  have OU:∀{b:Addr} {m:Str->Option Value},s₁.heap.Ns b m->(vq s₁.heap H).Ns b m:=λ{b m} ⟨o,es,ep,e,d,r⟩=>⟨o,es,ep,Av e (LY e d),d,r⟩;have Xh:K.In (vq s₁.heap H):=λb o e=>Av (KX b o e) (by
   cases q:H b with
   | none=>rfl
   | some u=>
    have e':b=a:=hA b (by rw[q];simp);subst e';rw[hK (by rw[q];simp)] at e;cases e)
  have hM:Mod K mg (vq s₁.heap H):=⟨Xh,OU Xg,⟨mb,OU hb,ZS⟩,let ⟨mc,h1,h2⟩:=Qf;⟨mc,OU h1,h2⟩⟩;have e0:yX P w K mg (vq s₁.heap H) callerA [] s₁ H:=⟨rfl,hM,λb o e=>FL e,Nat.le_of_eq (Bp _ _),trivial,λb hb=>absurd (show b∈([]:List Addr) from hb) (by simp),bT,.of_eq hg⟩;refine codeAny_mono ((F _ Xh (OU Xg)).run callerA [] s₁ H ⟨[.ref a],[]⟩ [.ref a] [.ref a] _ _ hr e0 (L9 s₁ (.ref a)) (.cons rfl .nil) (CC H hO hS)) λr s' h=>?_;cases r with
  | error e=>exact(Qg H e s' h).elim
  | ok fl=>
   cases fl with
   | next=>exact False.elim h
   | brk=>exact False.elim h
   | cont=>exact False.elim h
   | ret u=>
    obtain⟨v,H',os,bare,un,Qi,r',q⟩:=h;have q':v=.bl true:=q;subst q';obtain rfl:u=Value.bool true:=r';refine⟨rfl,OldK.of_keep λb o e=>?_,os,bare⟩;cases q:H b with
    | none=>exact un.keep b o e q (by intro z;exact absurd (show b∈([]:List Addr) from z) (by simp)) (by simp)
    | some u=>
     rcases hO b with z | ⟨ob,xs,z⟩
     ·rw[q] at z;cases z
     ·have z2:=un.hU b ob _ z;obtain⟨e1,_⟩:=bT b _ z;obtain⟨e2,_⟩:=Qi b _ z2;rw[e] at e1;cases e1;exact e2
 cases hk:K.lookup a with
 | some o=>
  have e:=KX a o hk;rw[ha] at e;cases e;refine core (λ_=>none) (λ_=>.inl rfl) (.inr ⟨_,vs.toArray,_,hk,rfl,rfl,rfl,by rw[aax,Qh];exact hl,by simpa using rv⟩) (λb u z=>by have z':(none:Option HO)=some u:=z;cases z') (λb z=>absurd rfl z) λz=>absurd rfl z
 | none=>
  refine core (λb=>if b=a then some (.wM {cls:=.type "list",data:=.seq vs.toArray} (.lst (ns.map V.int))) else none) (λb=>?_) (.inl (.inr ⟨{cls:=.type "list",data:=.seq vs.toArray},if_pos rfl⟩)) (λb u z=>?_) (λb z=>?_) λ_=>hk
  ·by_cases hb:b=a
   ·exact .inr ⟨_,_,if_pos hb⟩
   ·exact .inl (if_neg hb)
  ·by_cases hb:b=a
   ·have z':=(if_pos hb).symm.trans z;cases z';subst hb;exact⟨ha,by rw[aak];exact hl,vs,_,rv,ha⟩
   ·have z':=(if_neg hb).symm.trans z;cases z'
  ·by_cases hb:b=a
   ·exact hb
   ·exact absurd (if_neg hb) z
end L2
namespace L2
open PySem PySem.Spec PyProof.Rows
abbrev KOf {K:abg} {h:Heap} (_:K.In h):abg:=K
theorem Ga {l:PySem.W.OpenLaw} {n k:Nat} {q:Program} {loose:List Str} {XP:(Str->Option Value)->Heap->Prop} {YP:World->Heap->Prop} {d:DefRec} {K:Params->abg} {CX:World->pX} {sp:World->Sp} {x:Str}
  (hn:l.most=some n) (OP:n<=sizeLine) (L7:d.params.defaults=[]) (hr:eC k callerA)
  (hY:∀(w:World) (h:Heap),YP w h->(K w.params).In h)
  (F:∀(w:World) (mg:Str->Option Value) (fa:Addr) (h:Heap),(K w.params).In h->h.Ns mainGlobals mg->mg d.name=some (.ref fa)->
   ∃fd:FuncData,(∀(s:Shared) (u:Value),BindsTo s fd ⟨[u],[]⟩ [(x,u)])/\
    ∀base:Heap,(K w.params).In base->base.Ns mainGlobals mg->gn l.prog w (K w.params) mg base (CX w) k fa fd [x] (sp w))
  (CC:∀(w:World) (H:Hp) (a:Addr) (ns:List Int),ns.length<=n->Jx H->bH (K w.params) H a (ns.map V.int)->sp w [.ref a] H (λv _=>v=.bl true) λ_ _ _=>False)
  (Qg:∀(w:World) (H:Hp) (s:Shared) (e:Value) (s':Shared),CX w [] H s (λ_ _ _=>False) e s'->False):
  PySem.W.WalkO q loose XP YP l.row.toRowW d [] (λf vs=>PySem.call f vs):=by
 refine Xf.xw hn L7 λw s₀ s₁ mg mb fa o pm cd doc a vs ns G Y ho hd t8 L8 Jw hints hlen hg=>?_;have KX:=hY w _ Y;obtain⟨fd,hb,hF⟩:=F w mg fa _ KX G.T.g L8;exact law_call KX G.T.g G.T.b G.T.builtins G.T.nolimit hg Jw hints (aay hlen OP) hr hF hb (λH hO hS=>CC w H a ns hlen hO hS) λH e s'=>Qg w H s₁ e s'
end L2
namespace L2
open PySem PySem.Spec PyProof.Rows
noncomputable def inClass (s:Stmt) (j:Nat):Stmt:=match s with
 | .ClassDef _ _ _ body _ _ _ _ _ _ _=>body.getD j (.Pass ⟨0,0,0,0⟩)
 | _=>.Pass ⟨0,0,0,0⟩
noncomputable def bh (s:Stmt):Arguments:=match s with
 | .FunctionDef _ a _ _ _ _ _ _ _ _=>a
 | _=>{posonlyargs:=[],args:=[],vararg:=none,kwonlyargs:=[],kw_defaults:=[],kwarg:=none,defaults:=[]}
noncomputable def ba (s:Stmt):List Stmt:=match s with
 | .FunctionDef _ _ b _ _ _ _ _ _ _=>b
 | _=>[]
noncomputable def aq (s:Stmt):Scope:=match s with
 | .FunctionDef _ _ _ _ _ _ sc _ _ _=>sc
 | _=>{kind:=.function,names:=[],isGenerator:=false,isCoroutine:=false}
abbrev CX0:pX:=λ_ _ _ _ _ _=>False
abbrev E0:XK:=λ_ _ _=>False
structure zc (K:abg) (x qual:Str) (st:Stmt) (f:Addr) (fd:FuncData):Prop where
 ex:∃(oc:Value) (od:Option Addr) (kV doc pm:Value) (an:Option Addr) (cw ct:Value) (F2:Array (Option Value)),
  fd=abj x qual (bh st) (ba st) (aq st) .none kV doc pm an cw ct/\K.lookup f=some ⟨oc,od,.func fd,F2⟩/\abi K cw qual=true
 kp:abh K (.ref f)=true
section
variable {P : Program} {w : World} {K : abg} {mg : Str -> Option Value} {base : Heap}
theorem zc.binds {x qual:Str} {st:Stmt} {f:Addr} {fd:FuncData} {ps:List Str} (F:zc K x qual st f fd)
  (h:∀(kV doc pm:Value) (an:Option Addr) (cw ct:Value) (us:List Value),us.length=ps.length->bindArgs (abj x qual (bh st) (ba st) (aq st) .none kV doc pm an cw ct) ⟨us,[]⟩=pure (ps.zip us)):Binds K fd ps []:=by
 obtain⟨oc,od,kV,doc,pm,an,cw,ct,F2,rfl,lk,t8⟩:=F.ex;exact .all (h kV doc pm an cw ct)
theorem bA {x qual:Str} {st:Stmt} {f:Addr} {oc:Value} {od an:Option Addr} {F2:Array (Option Value)} {kV doc pm cw ct:Value} (l:K.lookup f=some ⟨oc,od,.func (abj x qual (bh st) (ba st) (aq st) .none kV doc pm an cw ct),F2⟩)
  (c:abi K cw qual=true) (k:abh K (.ref f)=true):zc K x qual st f (abj x qual (bh st) (ba st) (aq st) .none kV doc pm an cw ct):=⟨⟨oc,od,kV,doc,pm,an,cw,ct,F2,rfl,l,c⟩,k⟩
end
theorem dr {A:Around} {k:Nat} (hr:eC k A):A.units+1<cLine:=Nat.lt_of_le_of_lt (Nat.add_le_add_left (by decide:1<=64) _) hr.units
section
variable {X : Cx}
theorem pv (i:Nat) {x:Str} {pos:Pos} (hN:X.N[i]?=some x:=by rfl) (hv:PX X.env.scope x:=by first | exact Or.inl rfl | exact Or.inr (.inl rfl) | exact Or.inr (.inr rfl)) (hd:(x==("__debug__":Str))=false:=by decide)
  (t8:(x==("__classdict__":Str))=false:=by decide):PE X (.Name x pos) (tVar i):=Ja hN hv hd t8
end
theorem Jy {A B:Prop} (h:A):if true=true then A else B:=by
 rw[if_pos rfl];exact h
theorem oF {c A B:Prop} [Decidable c] (h1:c->A) (h2:¬c->B):if c then A else B:=by
 by_cases h:c
 ·rw[if_pos h];exact h1 h
 ·rw[if_neg h];exact h2 h
noncomputable def aB (H H':Hp):Prop:=∀b o,H b=some o->H' b=some o
theorem aB.refl (H:Hp):aB H H:=λ_ _ h=>h
theorem aB.trans {H H1 H2:Hp} (a:aB H H1) (b:aB H1 H2):aB H H2:=λc o h=>b c o (a c o h)
theorem aB.seq {K:abg} {H H':Hp} {a:Addr} {xs:List V} (e:aB H H') (h:bH K H a xs):bH K H' a xs:=by
 rcases h with (h | ⟨o,h⟩) | h
 ·exact .inl (.inl (e _ _ h))
 ·exact .inl (.inr ⟨o,e _ _ h⟩)
 ·exact .inr h
end L2
namespace L2
open PySem PySem.Spec PyProof.Rows
section
variable {X : Cx}
theorem BM:dh X (.builtin "len") (λxs H Q=>∃a kvs,xs=[V.ref a]/\H a=some (.dK kvs)/\Q (.int kvs.length) H):=by
 intro pins s σ H xs us Q I r h;obtain⟨a,kvs,rfl,ha,q⟩:=h;obtain⟨u,rfl,ru⟩:=vals1 r;cases ru;exact L6 I (.inl ha) λt s' I'=>⟨.int kvs.length,H,I',⟨t,rfl⟩,q⟩
end
section
variable {κ : Type} [DecidableEq κ]
end
end L2
namespace L2
open PySem PySem.Spec PyProof.Rows
noncomputable def Bt (n:Nat) (i:Int):Prop:=i.natAbs<2^n
theorem Bt.neg {n:Nat} {i:Int} (h1:Bt n i):Bt n (-i):=by
 unfold Bt at *;lia
theorem Bt.le {n:Nat} {i j:Int} (h:Bt n j) (q:i.natAbs<=j.natAbs):Bt n i:=Nat.lt_of_le_of_lt q h
theorem Bt.of {n:Nat} {i:Int} (b:Nat) (h1:-(b:Int)<=i) (h2:i<=(b:Int)) (h:b<2^n:=by decide +kernel):Bt n i:=by
 unfold Bt;exact Nat.lt_of_le_of_lt (by lia) h
theorem Bt.log {n:Nat} {i:Int} (h:Bt n i) (q:n<=9000:=by decide):i.natAbs.log2<9000:=by
 by_cases z:i.natAbs=0
 ·rw[z];decide
 ·exact aaC ((Nat.log2_lt z).mpr h) q
theorem eX {i j:Int} (h1:-(2^64)<i:=by decide) (h2:i<2^64:=by decide):IntMulOk i j:=.of_left (intBits_le_64 h1 h2)
theorem oG {i j:Int} (h1:-(2^64)<j:=by decide) (h2:j<2^64:=by decide):IntMulOk i j:=.of_right (intBits_le_64 h1 h2)
section
variable {X : Cx}
theorem c8:ox X (binaryOp .Mult) (rI IntMulOk λi j=>.int (i*j)):=OO λ_ _ _ _ _ _ _ hc q=>mul_int q hc
noncomputable def dR (_ j:Int):Prop:=0<j/\j.natAbs.log2<9000
theorem dR.of {i j:Int} {n:Nat} (h:0<j) (b:Bt n j) (q:n<=9000:=by decide):dR i j:=⟨h,b.log q⟩
theorem dR.lit {i j:Int} (h:0<j:=by decide) (q:j.natAbs.log2<9000:=by decide):dR i j:=⟨h,q⟩
theorem cC:ox X (binaryOp .FloorDiv) (rI dR λi j=>.int (i / j)):=OO λi j _ _ _ _ _ hc q=>by
 have h1:(0:Int)<j:=hc.1;exact floordiv_int (by lia) (by rw[Int.fdiv_eq_ediv_of_nonneg i (by lia)];exact q) (.inl (PyProof.noPylong_of_log2 hc.2))
noncomputable def rT (_ j:Int):Prop:=j≠0/\j.natAbs.log2<9000
theorem rT.of {i j:Int} {n:Nat} (h:j≠0) (b:Bt n j) (q:n<=9000:=by decide):rT i j:=⟨h,b.log q⟩
theorem xx:ox X (binaryOp .FloorDiv) (rI rT λi j=>.int (i.fdiv j)):=OO λ_ _ _ _ _ _ _ hc q=>floordiv_int hc.1 q (.inl (PyProof.noPylong_of_log2 hc.2))
theorem bS:ox X (binaryOp .Mod) (rI (λ_ j=>0<j) λi j=>.int (i % j)):=Jh
noncomputable def rIxTH:R2:=λx y H Q=>∃p xs i v,x=.ref p/\y=.int i/\H p=some (.tup xs)/\j2 xs i=some v/\Q v H
theorem au:HH X rIxTH:=λvalue slice pins s σ H x y v u Q I rx ry ⟨p,xs,i,z,e1,e2,e3,e4,q⟩ hs=>
 Jk value slice pins s σ H x y v u Q I rx ry ⟨p,xs,i,z,e1,e2,gP.of e3,e4,q⟩ hs
noncomputable def rIxLH:R2:=λx y H Q=>∃p xs i v,x=.ref p/\y=.int i/\H p=some (.lst xs)/\j2 xs i=some v/\Q v H
theorem bg:HH X rIxLH:=λvalue slice pins s σ H x y v u Q I rx ry ⟨p,xs,i,z,e1,e2,e3,e4,q⟩ hs=>
 Ar value slice pins s σ H x y v u Q I rx ry ⟨p,xs,i,z,e1,e2,bH.of e3,e4,q⟩ hs
noncomputable def tTupS (t:TA):TE:=λσ H Q=>t σ H λxs H1=>xs.length<=sizeLine/\∀p H2,aB H1 H2->H1 p=none->H2 p=some (.tup xs)->Q (.ref p) H2
theorem ai {H:Hp} {p:Addr} {o:HO} (h:H p=none):aB H (upd H p o):=λb u e=>by
 rw[aA (fC e h)];exact e
theorem aY {es:List Expr} {t:TA} {x1} {pos:Pos} (h:PA X es t):PE X (.Tuple es x1 pos) (tTupS t):=λpins s σ H Q I hq=>
 cU (h:=wpAny_Tuple_spliced (cU (h pos pins s σ H _ I hq) λus s1 ⟨xs,H1,I1,r,z,q⟩=>⟨by rw[<-r.length];exact z,by
  have hf:H1 s1.heap.objs.size=none:=I1.bT.fresh (aam _);refine⟨.ref s1.heap.objs.size,upd H1 s1.heap.objs.size (.tup xs),I1.laid (t':=s1.toks) (λb u e=>abq _ e) (aam _) ?_,rfl,q _ _ (ai hf) hf aj⟩;exact⟨z,us,r,⟨_,abr _ rfl,rfl,_,rfl⟩⟩⟩)) λ_ _ z=>z
theorem bD:dh X (.builtin "len") (λxs H Q=>∃p ys,xs=[.ref p]/\H p=some (.lst ys)/\Q (.int ys.length) H):=λpins s σ H xs us Q I r ⟨p,ys,e,h,q⟩=>
 m6 pins s σ H xs us Q I r ⟨p,ys,e,.inl (bH.of h),q⟩
theorem BN:dh X (.builtin "len") (λxs H Q=>∃p ns,xs=[.ref p]/\bH X.K H p (List.map V.int ns)/\Q (.int (List.length ns:Nat)) H):=λpins s σ H xs us Q I r ⟨p,ns,e,h,q⟩=>
 m6 pins s σ H xs us Q I r ⟨p,_,e,.inl h,by rw[aak];exact q⟩
noncomputable def Jz (K:abg):R2:=λx y H Q=>∃p ns i,x=.ref p/\y=.int i/\bH K H p (List.map V.int ns)/\0<=i/\i< (List.length ns:Nat)/\Q (.int (ns.getD i.toNat 0)) H
theorem xy {ns:List Int} {i:Int} (h0:0<=i) (h1:i< (ns.length:Nat)):j2 (ns.map V.int) i=some (.int (ns.getD i.toNat 0)):=by
 obtain⟨j,rfl⟩:=Int.eq_ofNat_of_zero_le h0;refine cB ?_;have hj:j<ns.length:=by lia
 rw[aal,aat hj];simp [aa6,aat hj]
theorem Dh:HH X (Jz X.K):=λvalue slice pins s σ H x y v u Q I rx ry ⟨p,ns,i,e1,e2,e3,h0,h1,q⟩ hs=>
 Ar value slice pins s σ H x y v u Q I rx ry ⟨p,_,i,_,e1,e2,e3,xy h0 h1,q⟩ hs
structure dj (P:Program) (w:World) (K:abg) (mg:Str->Option Value) (base:Heap) (CX:pX) (k:Nat) (x:Str) (ps:List Str) (sp:Sp):Prop where
 ex:∃f fd,gn P w K mg base CX k f fd ps sp/\mg x=some (.ref f)/\abh K (.ref f)=true/\Binds K fd ps []
theorem bw {CX:pX} {k:Nat} {x:Str} {ps:List Str} {sp:Sp} {E:XK} {e:Expr} {es:List Expr} {t:TA} {p pos:Pos} (C:dj X.prog X.w X.K X.mg X.base CX k x ps sp) (hr:eC k X.A) (hg:Gl X x) (hx:eW CX X E) (ha:PA X (e::es) t)
  (rP:(x==("__debug__":Str))=false:=by decide) (he:starEach (e::es) X.env=(false,eval e X.env)::starEach es X.env:=by rfl) (hpl:(backTo pos (starEach es X.env)).any (·.1)=false:=by rfl):
  PE X (.Call (.Name x p) (e::es) [] pos) (tCall sp [] E t):=by
 obtain⟨f,fd,F,hm,hk,hb⟩:=C.ex;exact FZ F hr hg hm hk hb .nil hx ha rP he hpl
end
noncomputable def vB (CX:pX):Prop:=∀outer H s e s',¬CX outer H s (λ_ _ _=>False) e s'
theorem vB.pass {CX:pX} (h:vB CX) {X:Cx}:eW CX X E0:=λ_ _ H s e s' _ z=>(h _ H s e s' z).elim
section
variable {P : Program} {w : World} {K : abg} {mg : Str -> Option Value} {base : Heap} {CX : pX}
theorem zc.gQ {x qual:Str} {st:Stmt} {f:Addr} {fd:FuncData} {N ps:List Str} {k:Nat} {sp:Sp} (F:zc K x qual st f fd) (S:bj N ps (aq st)) (len:∀vs H Q E,sp vs H Q E->vs.length=ps.length)
  (xi:∀(cw:Value) (A:Around) (outer:List Env) (s:Shared) (H:Hp) (vs:List V) (Q:VK) (E:XK),eC k (A.deeper (envOfC qual (aq st) s.heap.objs.size f cw))->sp vs H Q E->
   ∃t,wZ (eE CX P w K mg base N qual (aq st) f cw A outer s H E).K6 (ba st) t/\t {nx:=λ_ H'=>Q .dI H',rt:=Q} (start N vs) H):gn P w K mg base CX (k+1) f fd ps sp:=by
 obtain⟨oc,od,kV,doc,pm,an,cw,ct,F2,rfl,lk,t8⟩:=F.ex;refine HG lk t8 S len λA outer s H vs Q E hr CC=>?_;obtain⟨t,h,q⟩:=xi cw A outer s H vs Q E hr CC;exact⟨t,h.K6,q⟩
structure Dn (K:abg) (mg:Str->Option Value) (x:Str) (st:Stmt):Prop where
 ex:∃f fd,zc K x x st f fd/\mg x=some (.ref f)
theorem Dn.fE {x:Str} {st:Stmt} {ps:List Str} {k:Nat} {sp:Sp} (D:Dn K mg x st)
  (hb:∀(kV doc pm:Value) (an:Option Addr) (cw ct:Value) (us:List Value),us.length=ps.length->bindArgs (abj x x (bh st) (ba st) (aq st) .none kV doc pm an cw ct) ⟨us,[]⟩=pure (ps.zip us))
  (h:∀f fd,zc K x x st f fd->gn P w K mg base CX k f fd ps sp):dj P w K mg base CX k x ps sp:=by
 obtain⟨f,fd,F,hm⟩:=D.ex;exact⟨f,fd,h f fd F,hm,F.kp,F.binds hb⟩
end
section
variable {X : Cx}
noncomputable def Xi (xs ys:List V):Bool:=(List.range (min xs.length ys.length)).all (λj=>Xe (xs.getD j .dI) (ys.getD j .dI)) && xs.length==ys.length
theorem Di:dh X (.builtin "isinstance") (λxs H Q=>∃x c t b,xs=[x,.ty c]/\jg X.K H x t/\PySem.W.kitOne X.K t (.type c)=some b/\Q (.bl b) H):=by
 intro pins s σ H xs us Q I r h;obtain⟨x,c,t,b,rfl,ty,e,q⟩:=h;obtain⟨u,u',rfl,rx,rc⟩:=vals2 r;cases rc;exact BC I rx ty e λtk=>⟨.bl b,H,I.tok tk,rfl,q⟩
end
theorem at0 {α:Type} {x:α} {l:List α}:j2 (x::l) 0=some x:=cB (j:=0) rfl
theorem at1 {α:Type} {x y:α} {l:List α}:j2 (x::y::l) 1=some y:=cB (j:=1) rfl
theorem at2 {α:Type} {x y z:α} {l:List α}:j2 (x::y::z::l) 2=some z:=cB (j:=2) rfl
noncomputable def Pr (a b:Int):List V:=[.int a,.int b]
theorem JA {K:abg}:PySem.W.kitOne K (.type "tuple") (.type "tuple")=some true:=by unfold PySem.W.kitOne;rw[if_pos ∅]
theorem Dj {K:abg}:PySem.W.kitOne K (.type "list") (.type "list")=some true:=by unfold PySem.W.kitOne;rw[if_pos ∅]
theorem Gb {K:abg} {t c:String} {b:Bool} (h1:(Value.type t==Value.type c)=false:=by decide +kernel) (h2:PySem.W.kitMeta c=true:=by decide +kernel) (h3:(PySem.fastBuiltinMro t).map (·.contains (Value.type c))=some b:=by decide +kernel):
  PySem.W.kitOne K (.type t) (.type c)=some b:=by
 unfold PySem.W.kitOne PySem.W.kitCls PySem.W.subIn;rw[if_neg (by rw[h1];decide)];dsimp only;rw[if_pos h2];exact h3
end L2
namespace Nm
noncomputable def g (a b:Int):Int:=(Int.gcd a b:Nat)
theorem Qj (a b:Int):0<=g a b:=Int.natCast_nonneg _
theorem HJ {a b:Int} (h:b≠0):0<g a b:=by
 have:=Int.gcd_pos_of_ne_zero_right a h
 unfold g;lia
theorem vC (a b:Int):g a b∣a:=Int.gcd_dvd_left ..
theorem qU (a b:Int):g a b∣b:=Int.gcd_dvd_right ..
theorem Dk (a b:Int):g a b=g b a:=by unfold g;rw[Int.gcd_comm]
theorem Ma {a b:Int} (h:0<b):g a b<=b:=Int.le_of_dvd h (qU a b)
theorem HK (a b:Int):g (a.natAbs:Int) b=g a b:=by
 unfold g Int.gcd;rw[Int.natAbs_natCast]
theorem Aw (a b:Int):g a (b.natAbs:Int)=g a b:=by
 rw[Dk,HK,Dk]
theorem JB {a b:Int} (ha:0<=a) (_hb:0<b):g b (a % b)=g a b:=by
 unfold g Int.gcd;rw[Int.natAbs_emod_of_nonneg ha,Nat.gcd_comm b.natAbs,<-Nat.gcd_rec,Nat.gcd_comm]
theorem JC {a:Int} (ha:0<=a):g a 0=a:=by
 unfold g;rw[Int.gcd_zero_right];lia
theorem Dm {a b:Int} (h:b≠0):g a b<=(b.natAbs:Int):=by
 rw[<-Aw];exact Ma (by lia)
theorem uR (a b:Int):(a / g a b)*b=a* (b / g a b):=by
 rw[<-Int.mul_ediv_assoc _ (qU a b),Int.mul_comm a b,Int.mul_ediv_assoc _ (vC a b),Int.mul_comm]
theorem back {a b c d p q x y:Int} (hq:0<q) (hd:0<d) (e:p* (b*d)=(a*d - c*b)*q) (f:x* (q*d)=(p*d+c*q)*y):x*b=a*y:=by
 have h:(x*b)* (q*d)=(a*y)* (q*d):=by grind
 exact Int.eq_of_mul_eq_mul_right (by have:=Int.mul_pos hq hd;lia) h
end Nm
namespace L2
open PySem PySem.Spec PyProof.Rows PySem.W
theorem cS.get {P:Program} {w:World} {H:Hp} {h:Heap} {a:Addr}:∀{o:HO},cS P w H h a o->∃ob,h.get? a=some ob
 | .lst _,x=>let ⟨_,_,_,_,e⟩:=x;⟨_,e⟩
 | .tup _,x=>let ⟨_,_,_,o,e,_⟩:=x;⟨o,e⟩
 | .dK _,x=>let ⟨_,_,_,_,o,_,_,e,_⟩:=x;⟨o,e⟩
 | .dT _,x=>let ⟨_,_,_,_,o,_,_,e,_⟩:=x;⟨o,e⟩
 | .set _ _,x=>by
  obtain⟨o,es,ep,t,e,_⟩:=x;exact⟨o,e⟩
 | .ins _ _ _,x=>let ⟨_,_,_,e,_⟩:=x;⟨_,e⟩
 | .own _,x=>x
 | .xd _,x=>by
  obtain⟨mA,⟨o,es,ep,e,_⟩,_⟩:=x;exact⟨o,e⟩
 | .OH _ _,x=>let ⟨_,_,_,e⟩:=x;⟨_,e⟩
 | .wM _ _,x=>⟨_,x.1⟩
 | .Ai _,⟨_,x,_⟩=>⟨_,x⟩
 | .met _ _,x=>⟨_,x⟩
 | .ext _,x=>x.2.1
theorem hJ.JD {P:Program} {w:World} {H:Hp} {h h' B:Heap} (ok:hJ P w H h) (hB:∀b u o,H b=some u->h.get? b=some o->B.get? b=some o) (st:B.StaysIn h'):hJ P w H h':=λa o e=>
 (ok a o e).rJ (λb u hb q=>st b u (by
  rcases hb with rfl | hb
  ·exact hB _ _ _ e q
  ·exact hB _ _ _ hb q)) (λ_ r=>r) λ_ _ r=>r
structure Gc (P:Program) (w:World) (l:List Env) (H:Hp) (s:Shared) (H':Hp) (ad:Addr) (cls:Value) (s':Shared):Prop where
 os:s'.os=s.os
 bare:AllBare s'.gens
 un:Un (eM l) [] H H' s.heap s'.heap
 bT:hJ P w H' s'.heap
 fl:∃B a0,Heap.FlyingW B l ad cls a0 s'.heap/\(∀b o,s.heap.get? b=some o->H b=none->b∉eM l->B.get? b=some o)/\(∀b o,s.heap.get? b=some o->b∉eM l->∃o',B.get? b=some o')/\
  (∀b u o,H' b=some u->s'.heap.get? b=some o->B.get? b=some o)
noncomputable def bL (P:Program) (w:World):pX:=λl H s E e s'=>∃ad cls H',e=.ref ad/\Gc P w l H s H' ad cls s'/\E cls none H'
theorem Ax (P:Program) (w:World):vB (bL P w):=λ_ _ _ _ _ ⟨_,_,_,_,_,h⟩=>h
section
variable {P : Program} {w : World} {K : abg} {mg : Str -> Option Value} {base : Heap} {N : List Str} {qual : Str} {scope : Scope} {f : Addr} {cw : Value} {A : Around} {outer : List Env} {s0 : Shared} {H0 : Hp} {E : XK}
theorem Dp {pins:List (Addr×Obj)} {σ:St} {H:Hp} {s:Shared} {h':Heap} {ad:Addr} {cls:Value} {vs:List Value}
  (I:Inv (eE (bL P w) P w K mg base N qual scope f cw A outer s0 H0 E) pins σ H s) (mx:Heap.MadeExcOf s.heap h' ad cls vs) (e:E cls none H):
  (eE (bL P w) P w K mg base N qual scope f cw A outer s0 H0 E).xe (.ref ad) {s with heap:=h'}:=by
 let env:Env:=envOfC qual scope s0.heap.objs.size f cw
 have zd:∀b o,s0.heap.get? b=some o->b∉eM outer->b∉eM (env::outer):=λb o q hb z=>by
  rcases aaR.mp (show b∈s0.heap.objs.size::eM outer from z) with z | z
  ·rw[z] at q;exact absurd (abt q) (aaK _)
  ·exact hb z
 have OV:∀b,b∈eM outer->b∈eM (env::outer):=λb hb=>aaR.mpr (.inr hb);have ST:s.heap.FunFrames base (env::outer):=I.stack;have SF:∀b∈eM (env::outer),H b=none:=I.qM;have BS:Un (eM outer) [] H0 H s0.heap s.heap:=I.base;show wpAny (model P w) (A.deeper env) (leaving env (.ref ad)) (λ_ ua=>bL P w outer H0 s0 E (.ref ad) ua) (λe' ua=>bL P w outer H0 s0 E e' ua) {s with heap:=h'};refine wpAny_leaves_madeW (base:=hideAll s.heap (eM (env::outer))) (h:=s.heap) (L:=s0.heap.objs.size) I.ok.frames rfl (λb o q=>of_hideAll _ q)
  (funFrames_hide ST λen he a ha=>List.mem_filterMap.mpr ⟨en,he,ha⟩) mx λh2 t x1 _ _ x4=>?_
 have x4:Heap.UpToSlots h' h2:=x4;have fr:∀b∈eM (env::outer),∀o,s.heap.get? b=some o->∃sl,h2.get? b=some {o with slots:=sl}:=λb hb o q=>by
  obtain⟨_,o1,q1,nf⟩:=ST.mem hb;rw[q] at q1;cases q1;exact x4 b o (mx.keeps b o q) nf
 refine⟨ad,cls,H,rfl,⟨I.os,I.bare,⟨λb o q n hb hx=>?_,λb o q n hb hx=>?_,BS.free,λb o q hx=>?_,BS.ij,BS.hU,BS.iN⟩,?_,⟨_,_,x1,λb o q n hb=>?_,λb o q hb=>?_,λb u o e1 q=>?_⟩⟩,e⟩
 ·exact x1.1 b o (hideAll_get _ (BS.keep b o q n hb hx) (zd b o q hb))
 ·obtain⟨sl,q1⟩:=BS.slot b o q n hb hx;obtain⟨CD,q2⟩:=fr b (OV b hb) _ q1;exact⟨CD,q2⟩
 ·obtain⟨o1,q1⟩:=BS.there b o q hx;by_cases hb:b∈eM (env::outer)
  ·obtain⟨CD,q2⟩:=fr b hb _ q1;exact⟨_,q2⟩
  ·exact⟨o1,x1.1 b o1 (hideAll_get _ q1 hb)⟩
 ·exact hJ.JD I.bT (λb u o e1 q=>hideAll_get _ q λz=>by
   have:=SF b z
   rw[e1] at this;cases this) x1.1
 ·exact hideAll_get _ (BS.keep b o q n hb (by simp)) (zd b o q hb)
 ·obtain⟨o1,q1⟩:=BS.there b o q (by simp);exact⟨o1,hideAll_get _ q1 (zd b o q hb)⟩
 ·obtain⟨o1,q1⟩:=(I.bT b u e1).get;have q2:=hideAll_get (eM (env::outer)) q1 λz=>by
   have:=SF b z
   rw[e1] at this;cases this
  have q3:=x1.1 b o1 q2;rw[q] at q3;cases q3;exact q2
theorem m8:eW (bL P w) (eE (bL P w) P w K mg base N qual scope f cw A outer s0 H0 E) E:=by
 intro pins σ H s e s' I c
 let env:Env:=envOfC qual scope s0.heap.objs.size f cw
 obtain⟨ad,cls,H',rfl,F,he⟩:=c;have zd:∀b o,s0.heap.get? b=some o->b∉eM outer->b∉eM (env::outer):=λb o q hb z=>by
  rcases aaR.mp (show b∈s0.heap.objs.size::eM outer from z) with z | z
  ·rw[z] at q;exact absurd (abt q) (aaK _)
  ·exact hb z
 have OV:∀b,b∈eM outer->b∈eM (env::outer):=λb hb=>aaR.mpr (.inr hb);have ST:s.heap.FunFrames base (env::outer):=I.stack;have BS:Un (eM outer) [] H0 H s0.heap s.heap:=I.base;have FU:Un (eM (env::outer)) [] H H' s.heap s'.heap:=F.un;obtain⟨B,a0,fl,c0,c2,c1⟩:=F.fl;have fl:Heap.FlyingW B (env::outer) ad cls a0 s'.heap:=fl;have c0:∀b o,s.heap.get? b=some o->H b=none->b∉eM (env::outer)->B.get? b=some o:=c0;have c2:∀b o,s.heap.get? b=some o->b∉eM (env::outer)->∃o',B.get? b=some o':=c2;show wpAny (model P w) (A.deeper env) (leaving env (.ref ad)) (λ_ ua=>bL P w outer H0 s0 E (.ref ad) ua) (λe' ua=>bL P w outer H0 s0 E e' ua) s';refine wpAny_leaves_onW (L:=s0.heap.objs.size) I.ok.frames rfl fl λh2 x1 x2=>?_;have fr:∀b∈eM (env::outer),∀o,s'.heap.get? b=some o->∃sl,h2.get? b=some {o with slots:=sl}:=λb hb o q=>by
  obtain⟨_,o1,q1,nf⟩:=fl.2.2.1.mem hb;rw[q] at q1;cases q1;exact x2 b o q nf
 refine⟨ad,cls,H',rfl,⟨F.os.trans I.os,F.bare,⟨λb o q n hb hx=>?_,λb o q n hb hx=>?_,λb o q n hx=>?_,λb o q hx=>?_,λb xs q=>FU.ij b xs (BS.ij b xs q),λb o u q=>FU.hU b o u (BS.hU b o u q),λb ps q=>?_⟩,F.bT.JD c1 x1.1,
  ⟨B,a0,x1,λb o q n hb=>?_,λb o q hb=>?_,λb u o e1 q=>?_⟩⟩,he⟩
 ·exact x1.1 b o (c0 b o (BS.keep b o q n hb hx) (BS.free b o q n hx) (zd b o q hb))
 ·obtain⟨sl,q1⟩:=BS.slot b o q n hb hx;obtain⟨Xj,q2⟩:=FU.slot b _ q1 (BS.free b o q n hx) (OV b hb) hx;obtain⟨CD,q3⟩:=fr b (OV b hb) _ q2;exact⟨CD,q3⟩
 ·obtain⟨o1,q1⟩:=BS.there b o q hx;exact FU.free b o1 q1 (BS.free b o q n hx) hx
 ·obtain⟨o1,q1⟩:=BS.there b o q hx;by_cases hb:b∈eM (env::outer)
  ·obtain⟨o2,q2⟩:=FU.there b o1 q1 hx;obtain⟨CD,q3⟩:=fr b hb _ q2;exact⟨_,q3⟩
  ·obtain⟨o2,q2⟩:=c2 b o1 q1 hb;exact⟨o2,x1.1 b o2 q2⟩
 ·obtain⟨m1,e1⟩:=BS.iN b ps q;obtain⟨m2,e2⟩:=FU.iN b _ e1;exact⟨m1++m2,by rw[e2,Array.append_assoc]⟩
 ·exact c0 b o (BS.keep b o q n hb (by simp)) (BS.free b o q n (by simp)) (zd b o q hb)
 ·obtain⟨o1,q1⟩:=BS.there b o q (by simp);exact c2 b o1 q1 (zd b o q hb)
 ·obtain⟨o1,q1⟩:=(F.bT b u e1).get;have q2:=c1 b u o1 e1 q1;have q3:=x1.1 b o1 q2;rw[q] at q3;cases q3;exact q2
end
end L2
namespace L2
open PySem PySem.Spec PyProof.Rows PySem.W
set_option tactic.hygienic true in
theorem Gd {K:Frag} {h:Heap} {C:Addr} {Xk:List Value} {newId:String} (X:K.In h) (q:excIn K C Xk newId=true):
  ∃tl N nm qn bs hdct sn sub ab col dd k0 k1 k2 k3 k5 mN,h.get? C=some (excClassObj nm qn C N bs tl hdct sn sub ab col dd k0 k1 k2 k3 k5 newId)/\h.Ns N mN/\mN "__init__"=none/\OwnTail h Xk tl:=by
 unfold excIn at q;split at q
 ·rename_i dd cd sl ho;split at q
  ·rename_i C' bm k0 k1 k2 k3 n k5 hm hs;simp only[aaX,beq_iff_eq,Bool.not_eq_true'] at q;obtain⟨⟨⟨⟨⟨rfl,rfl⟩,Mb⟩,ht⟩,bT⟩,OW⟩:=q;obtain⟨nm,bs,mro,ns,qn,hd,sn,sub,ab,col,del⟩:=cd;dsimp only at hm Mb bT OW;subst hm Mb;have La:sl=#[k0,k1,k2,k3,some (.builtin n),k5]:=by
    obtain⟨l⟩:=sl;simp only at hs;rw[hs]
   subst La;exact⟨bm,ns,nm,qn,bs,hd,sn,sub,ab,col,dd,k0,k1,k2,k3,k5,_,X _ _ ho,.of_isNs (isNs_of_in X bT),nsMap_none_of_in X bT OW,tail_of_in X ht⟩
  ·cases q
 ·cases q
abbrev vD:List Value:=[.type "ValueError",.type "Exception",.type "BaseException",.type "object"]
abbrev m9:String:="ValueError.__new__"
noncomputable def tRaise (C:Addr) (E:XK) (t:TA):TS:=λ_ σ H=>t σ H λvs H1=>vs.length<=sizeLine/\E (.ref C) none H1
section
variable {P : Program} {w : World} {K : abg} {mg : Str -> Option Value} {base : Heap} {N : List Str} {qual : Str} {scope : Scope} {f : Addr} {cw : Value} {A : Around} {outer : List Env} {s0 : Shared} {H0 : Hp} {E : XK}
theorem iq {x:Str} {C:Addr} {np dO pos:Pos} {e:Expr} {es:List Expr} {t:TA} (hg:Gl (eE (bL P w) P w K mg base N qual scope f cw A outer s0 H0 E) x) (hm:mg x=some (.ref C)) (q:excIn K C vD m9=true)
  (hh:A.handled=none) (ha:PA (eE (bL P w) P w K mg base N qual scope f cw A outer s0 H0 E) (e::es) t) (rP:(x==("__debug__":Str))=false:=by decide)
  (he:starEach (e::es) (eE (bL P w) P w K mg base N qual scope f cw A outer s0 H0 E).env=(false,eval e (eE (bL P w) P w K mg base N qual scope f cw A outer s0 H0 E).env)::starEach es (eE (bL P w) P w K mg base N qual scope f cw A outer s0 H0 E).env:=by rfl)
  (hpl:(backTo dO (starEach es (eE (bL P w) P w K mg base N qual scope f cw A outer s0 H0 E).env)).any (·.1)=false:=by rfl):
  PS (eE (bL P w) P w K mg base N qual scope f cw A outer s0 H0 E) (.Raise (some (.Call (.Name x np) (e::es) [] dO)) none pos) (tRaise C E t):=by
 intro pins s σ H D I h;have FB:=PySem.F.excBase_ValueError;obtain⟨tl,Nn,nm,qn,bs,hdct,sn,sub,ab,col,dd,k0,k1,k2,k3,k5,mN,hC,hN,OW,T⟩:=Gd I.ok.mod.IX q;refine wpAny_Raise_call_subT (C:=C) (nm:=nm) (q:=qn) (N:=Nn) (bs:=bs) (bm:=tl) (hdct:=hdct) (sn:=sn) (sub:=sub) (ab:=ab) (col:=col) (dd:=dd) (k0:=k0) (k1:=k1) (k2:=k2) (k3:=k3) (k5:=k5)
  FB (mN:=mN) (T.hasType FB.hasBase) hh (by rw[he];show(false || (backTo dO (starEach es _)).any (·.1))=false;rw[hpl];rfl) OW (iO I hg hm ⟨rfl,?_⟩ rP)
 rw[he];have Xl:=ha dO pins s σ H _ I h;rw[he] at Xl;refine Calls.evalArgs_plain (cU Xl λus s1 ⟨vs,H1,I1,r,z,k⟩=>⟨rfl,by rw[<-r.length];exact z,I1.bk _ _ hC,hN.keeps I1.bk,T.keeps I1.bk,λh' ad mx=>?_⟩);exact Dp I1 mx k
end
section
variable {X : Cx} {pins : List (Addr × Obj)} {σ : St} {H H' : Hp} {s s' : Shared}
abbrev Cx.mark (X:Cx) (ad:Addr):Cx:={X with A:=X.A.mark (some (.ref ad)),calm:=false,xe:=λ_ _=>False}
theorem Inv.mark (I:Inv X pins σ H s) (ad:Addr):Inv (X.mark ad) pins σ H s:=
 ⟨⟨I.ok.mod,I.ok.kind,I.ok.glob,I.ok.blt,I.ok.above,I.ok.inj,I.ok.has,I.ok.IY,λz=>(aaF z).elim,I.ok.frames,I.ok.K5,I.ok.OJ,I.ok.bs,I.ok.CM,I.ok.yI,I.ok.Bq,I.ok.mU,I.ok.FO⟩,
  I.os,I.bare,I.base,I.loc,I.cell,I.free,I.gz,I.pin,I.bT,I.len⟩
theorem Inv.unmark {ad:Addr} (ok:X.Ok) (I:Inv (X.mark ad) pins σ H s):Inv X pins σ H s:=⟨ok,I.os,I.bare,I.base,I.loc,I.cell,I.free,I.gz,I.pin,I.bT,I.len⟩
theorem name_goes {M:Model} {A:Around} {E:Value->Shared->Prop} {i:Nat} {n:Str} {pos:Pos} {Q:Unit->Shared->Prop} (I:Inv X pins σ H s) (hN:X.N.Nodup) (hi:X.N[i]?=some n) (hl:X.env.scope.names.lookup n=some .local)
  (h:∀s',Inv X pins (σ.set i none) H s'->Q () s'):wpAny M A (do bindName X.env n .none;unbindBehindTheSuite X.env n pos) Q E s:=by
 have LO:i<σ.length:=by rw[I.len];exact(abn.mp hi).1
 refine wpAny_bind (wpAny_bindName (mW (v:=.dI) I hN hi (.inl hl) rfl (λs1 I1=>?_) (.inr hl)));obtain⟨m,hn,Xm⟩:=id I1.loc;have ZT:∃u,m n=some u:=by
  obtain⟨u,_,z⟩:=Xm i n .dI hi (by rw[List.getElem?_set_self LO]) (.inl hl);rcases z with ⟨_,z⟩ | ⟨z,_⟩
  ·exact⟨u,z⟩
  ·have hk:X.env.kindOf n=some .local:=hl;rw[hk] at z;rcases z with z | z <;>cases z
 obtain⟨u0,Qk⟩:=ZT;unfold unbindBehindTheSuite;refine wpAny_onRaise ?_;unfold unbindName;refine wpAny_bind (wpAny_point (wpAny_bind ?_));unfold deleteName;have hk:X.env.kindOf n=some .local:=hl;have IZ:(X.env.scope.kind==.class || (X.env.scope.kind==.module && X.env.locals !=X.env.globals))=false:=by rw[I.ok.kind];rfl
 simp only[hk,IZ];rw[if_neg ∅];refine wpAny_bind (wpAny_nsDel_keeps hn λh₂ v ZU ZV=>?_);rw[Qk];simp only[if_true,Option.isSome_some,Bool.not_true,Bool.false_eq_true,if_false];refine wpAny_pure (wpAny_point (h _ ?_));have hs:Heap.SameBut X.env.locals s1.heap h₂:=ZV;refine⟨I1.ok,I1.os,I1.bare,⟨λb o e nn hb hx=>?_,λb o e nn hb hx=>?_,I1.base.free,λb o e hx=>?_,I1.base.ij,I1.base.hU,I1.base.iN⟩,⟨_,ZU,λj y v' e1 e2 e3=>?_⟩,λy c e=>?_,I1.free,I1.gz,λp hp=>?_,λb ob e=>?_,?_⟩
 ·exact(hs.2 b (aas (aaC (abt e) I1.ok.above))).trans (I1.base.keep b o e nn hb hx)
 ·obtain⟨sl,e1⟩:=I1.base.slot b o e nn hb hx;exact⟨sl,(hs.2 b (aas (aaC (abt e) I1.ok.above))).trans e1⟩
 ·obtain⟨o',e1⟩:=I1.base.there b o e hx;exact⟨o',(hs.2 b (aas (aaC (abt e) I1.ok.above))).trans e1⟩
 ·by_cases hj:j=i
  ·subst hj;rw[List.getElem?_set_self LO] at e2;cases e2
  ·rw[List.getElem?_set_ne (Ne.symm hj)] at e2;obtain⟨u',r',q⟩:=Xm j y v' e1 (by rw[List.getElem?_set_ne (Ne.symm hj)];exact e2) e3;refine⟨u',r',?_⟩;rcases q with ⟨k,e⟩ | ⟨k,c,e,z⟩
   ·refine .inl ⟨k,?_⟩
    have:y≠n:=λe=>hj (rK hN e1 (e▸hi))
    simp [this,e]
   ·exact .inr ⟨k,c,e,z.sameBut hs (I1.FP y c e)⟩
 ·obtain⟨w',z⟩:=I1.cell y c e;exact⟨w',z.sameBut hs (I1.FP y c e)⟩
 ·obtain⟨e,nn,ne,nf,d⟩:=I1.pin p hp;exact⟨(hs.2 p.1 ne).trans e,nn,ne,nf,d⟩
 ·refine(I1.bT b ob e).rJ (λc w' hc q=>(hs.2 c ?_).trans q) (λ_ q=>q) λ_ _ q=>q;rintro rfl;have fr:=I1.free;rcases hc with rfl | hc
  ·rw[fr] at e;cases e
  ·rw[fr] at hc;cases hc
 ·rw[aaP];exact I.len
noncomputable def JE (ad:Addr) (cls:Value):HO:=.ext λh=>∃o vs,h.get? ad=some o/\o.cls=cls/\o.data=.fields vs
theorem Gc.new {P:Program} {w:World} {l:List Env} {ad:Addr} {cls:Value} (F:Gc P w l H s H' ad cls s'):s.heap.get? ad=none:=by
 obtain⟨B,a0,fl,c0,c2,c1⟩:=F.fl;cases q:s.heap.get? ad with
 | none=>rfl
 | some o=>
  by_cases hb:ad∈eM l
  ·obtain⟨_,o1,q1,nf⟩:=fl.2.2.1.mem hb;obtain⟨oe,vs,he,_,hd,_⟩:=fl.first;rw[q1] at he;cases he;exact absurd hd (nf _)
  ·obtain⟨o',q'⟩:=c2 ad o q hb;rw[fl.2.1] at q';cases q'
theorem Gc.tracked {P:Program} {w:World} {l:List Env} {ad:Addr} {cls:Value} (F:Gc P w l H s H' ad cls s'):H' ad=none:=by
 obtain⟨B,a0,fl,c0,c2,c1⟩:=F.fl;cases q:H' ad with
 | none=>rfl
 | some u=>
  obtain⟨o,e⟩:=(F.bT ad u q).get
  have:=c1 ad u o q e
  rw[fl.2.1] at this;cases this
theorem Gc.inv {ad:Addr} {cls:Value} (F:Gc X.prog X.w X.stack H s H' ad cls s') (I:Inv X pins σ H s) {B h6:Heap} {a0:Value} (fl:Heap.FlyingW B X.stack ad cls a0 s'.heap)
  (c0:∀b o,s.heap.get? b=some o->H b=none->b∉eM X.stack->B.get? b=some o) (c2:∀b o,s.heap.get? b=some o->b∉eM X.stack->∃o',B.get? b=some o')
  (c1:∀b u o,H' b=some u->s'.heap.get? b=some o->B.get? b=some o) (st:B.StaysIn h6) (up:s'.heap.UpToSlots h6):Inv X pins σ H' {s' with heap:=h6}:=by
 have fr:∀b∈eM X.stack,∀o,s'.heap.get? b=some o->∃sl,h6.get? b=some {o with slots:=sl}:=λb hb o q=>by
  obtain⟨_,o1,q1,nf⟩:=fl.2.2.1.mem hb;rw[q] at q1;cases q1;exact up b o q nf
 refine I.HD (s':={s' with heap:=h6}) (ch:=[]) F.os ⟨λb o q n hb _=>st b o (c0 b o q n hb),λb o q n hb hx=>?_,F.un.free,λb o q hx=>?_,F.un.ij,F.un.hU,F.un.iN⟩ (F.bT.JD c1 st) F.bare (λb hb=>absurd hb (by simp))
 ·obtain⟨sl,q1⟩:=F.un.slot b o q n hb hx;obtain⟨CD,q2⟩:=fr b hb _ q1;exact⟨CD,q2⟩
 ·by_cases hb:b∈eM X.stack
  ·obtain⟨o2,q2⟩:=F.un.there b o q hx;obtain⟨CD,q3⟩:=fr b hb _ q2;exact⟨_,q3⟩
  ·obtain⟨o2,q2⟩:=c2 b o q hb;exact⟨o2,st b o2 q2⟩
theorem Inv.adopt {ad:Addr} {φ:Heap->Prop} (I:Inv X pins σ H' s') (I0:Inv X pins σ H s) (new:s.heap.get? ad=none) (hn:H' ad=none) (ho:∃o,s'.heap.get? ad=some o) (p:φ s'.heap)
  (hst:∀h1 h2:Heap,φ h1->(∀o,h1.get? ad=some o->h2.get? ad=some o)->φ h2):Inv X pins σ (upd H' ad (.ext φ)) s':=by
 have ne:∀b o,s.heap.get? b=some o->b≠ad:=λb o e z=>by rw[z,new] at e;cases e
 have tk:∀b u,H' b=some u->b≠ad:=λb u e z=>by rw[z,hn] at e;cases e
 have Xn:∀b o,b∉X.ex->X.s₀.heap.get? b=some o->b≠ad:=λb o hx e=>by
  obtain⟨o',e'⟩:=I0.base.there b o e hx;exact ne b o' e'
 refine⟨I.ok,I.os,I.bare,⟨I.base.keep,I.base.slot,λb o e n hx=>?_,I.base.there,λb xs e=>?_,λb o u e=>?_,λb ps e=>?_⟩,I.loc,I.cell,?_,λy c e=>?_,λq hq=>?_,λb u e=>?_,I.len⟩
 ·rw[aA (Xn b o hx e)];exact I.base.free b o e n hx
 ·rw[aA (tk _ _ (I.base.ij b xs e))];exact I.base.ij b xs e
 ·rw[aA (tk _ _ (I.base.hU b o u e))];exact I.base.hU b o u e
 ·obtain⟨m,e1⟩:=I.base.iN b ps e;exact⟨m,by rw[aA (tk _ _ e1)];exact e1⟩
 ·obtain⟨m,⟨o,es,ep,hl,_⟩,_⟩:=I0.loc;rw[aA (ne _ _ hl)];exact I.free
 ·obtain⟨v,o,hc,_⟩:=I0.cell y c e;rw[aA (ne _ _ hc)];exact I.gz y c e
 ·obtain⟨e,n,r⟩:=I.pin q hq;refine⟨e,?_,r⟩;rw[aA (ne _ _ (I0.pin q hq).1)];exact n
 ·by_cases hb:b=ad
  ·subst hb;rw[aj] at e;cases e;exact⟨p,ho,hst⟩
  ·rw[aA hb] at e;exact(I.bT b u e).rJ (λ_ _ _ q=>q) (λc r=>by rw[aA (tk _ _ r)];exact r) λc xs r=>by rw[aA (tk _ _ r)];exact r
theorem JF {ad:Addr} {cls:Value} {cx n:Str} {np Ge:Pos} {b₀:Stmt} {uS:List Stmt} {i:Nat} {ts:TS} {C2:Addr} {D:Ends} (I:Inv X pins σ H s) (F:Gc X.prog X.w X.stack H s H' ad cls s')
  (hst:X.stack=X.env::X.outer) (hf:X.env.frame=some X.env.locals) (hg:Gl X cx) (hm:X.mg cx=some (.ref C2)) (hx:exmOne X.K cls (.ref C2)=some true) (hN:X.N.Nodup) (hi:X.N[i]?=some n)
  (hl:X.env.scope.names.lookup n=some .local) (hs:wZ (X.mark ad) (b₀::uS) ts)
  (h:ts {nx:=λσ' H2=>D.nx (σ'.set i none) H2,rt:=D.rt,bk:=λσ' H2=>D.bk (σ'.set i none) H2,ct:=λσ' H2=>D.ct (σ'.set i none) H2} (σ.set i (some (.ref ad))) (upd H' ad (JE ad cls)))
  (rP:(cx==("__debug__":Str))=false:=by decide):
  wpAny (model X.prog X.w) X.A (noteFrame (.ref ad) X.env) (λ_ s₂=>wpAny (model X.prog X.w) X.A (setFlight (.ref ad) none)
   (λ_ s₃=>wpAny (model X.prog X.w) X.A (handleBy (.ref ad) X.env [.ExceptHandler (some (.Name cx np)) (some n) (b₀::uS) Ge]) (SP X pins D) X.xe s₃) X.xe s₂) X.xe s':=by
 obtain⟨B,a0,fl,c0,c2,c1⟩:=F.fl;have Xo:=fl;rw[hst] at Xo;refine wpAny_looks_onW (I.ok.frames.trans (by rw[hst])) hf Xo λh4 Mc ZW=>?_;refine wpAny_landsW Mc λh5 Ql OX=>?_;have U5:s'.heap.UpToSlots h5:=ZW.trans OX;have I5:Inv X pins σ H' {s' with heap:=h5}:=F.inv I fl c0 c2 c1 Ql.1 U5;obtain⟨ob,ZX,Qm⟩:=Ql.there;refine wpAny_handleBy_cons (codeAny_handlers_test (iO (X:=X.mark ad) (I5.mark ad) hg hm ?_ rP)) (by intro q;cases q);have LT:Looks (model X.prog X.w) h5 (typeOf (.ref ad)) cls:=by
  subst Qm;exact(Looks.ld ZX).andThen .now
 refine(exm_one I5.mS LT hx).here ?_;refine codeAny_handlers_suite_as ?_;refine lands_againW Ql λh6 Xp ZY=>?_;have I6:Inv X pins σ H' {s' with heap:=h6}:=F.inv I fl c0 c2 c1 Xp.1 (U5.trans ZY);obtain⟨oe,vs,he,ZZ,Z0,_⟩:=Xp.first;have I7:Inv X pins σ (upd H' ad (JE ad cls)) {s' with heap:=h6}:=I6.adopt I F.new F.tracked ⟨oe,he⟩ ⟨oe,vs,he,ZZ,Z0⟩ λh1 h2 ⟨o,ws,e1,e2,e3⟩ k=>⟨o,ws,k o e1,e2,e3⟩;refine mW (X:=X.mark ad) (I7.mark ad) hN hi (.inl hl) (v:=.ref ad) rfl (λs7 I8=>?_) (.inr hl);refine wpAny_mono (hs pins s7 _ _ _ I8 h) (λfw s8 hq=>?_) λ_ _ z=>z.elim;cases fw with
 | next=>
  obtain⟨σ8,H8,I9,q8⟩:=hq;exact name_goes (I9.unmark I.ok) hN hi hl λs9 Gf=>⟨_,_,Gf,q8⟩
 | brk=>
  obtain⟨σ8,H8,I9,q8⟩:=hq;exact name_goes (I9.unmark I.ok) hN hi hl λs9 Gf=>⟨_,_,Gf,q8⟩
 | cont=>
  obtain⟨σ8,H8,I9,q8⟩:=hq;exact name_goes (I9.unmark I.ok) hN hi hl λs9 Gf=>⟨_,_,Gf,q8⟩
 | ret u=>
  obtain⟨v8,σ8,H8,I9,r8,q8⟩:=hq;exact name_goes (I9.unmark I.ok) hN hi hl λs9 Gf=>⟨v8,_,_,Gf,r8,q8⟩
end
section
variable {X : Cx} {CX : pX} {k : Nat} {x : Str} {ps : List Str} {sp : Sp} {E : XK} {e : Expr} {es : List Expr} {t : TA} {p pos : Pos}
theorem Gg {pins:List (Addr×Obj)} {σ:St} {H:Hp} {s:Shared} {Q:VK} {Ex:Value->Shared->Prop} (C:dj X.prog X.w X.K X.mg X.base CX k x ps sp) (hr:eC k X.A) (hg:Gl X x) (ha:PA X.K6 (e::es) t) (I:Inv X pins σ H s)
  (h:t σ H λvs H1=>sp vs H1 Q E) (hx:∀H1 s1 e s',Inv X pins σ H1 s1->CX X.stack H1 s1 E e s'->Ex e s')
  (rP:(x==("__debug__":Str))=false:=by decide) (he:starEach (e::es) X.env=(false,eval e X.env)::starEach es X.env:=by rfl) (hpl:(backTo pos (starEach es X.env)).any (·.1)=false:=by rfl):
  wpAny (model X.prog X.w) X.A (eval (.Call (.Name x p) (e::es) [] pos) X.env) (EP X pins σ Q) Ex s:=by
 obtain⟨f,fd,F,hm,hk,hb⟩:=C.ex;refine wpAny_Call_Name_kw (iO I hg hm ?_ rP);refine PySem.W.callWith_K (h₀:=X.base) I.ok.mod.IX hk (wpAny_mono (ha pos pins s σ H _ (I.kc _) h) (λus s1 ⟨vs,H1,I1,r,q⟩=>⟨I1.fO.mS,?_⟩) λ_ _ z=>z.elim) he hpl;have I1:=I1.fO;have hl:us.length=ps.length:=by rw[<-r.length];exact F.len _ _ _ _ q
 have Xq:=hb s1 us I1.mS (by rw[aaN];exact hl);rw[aaN] at Xq;refine wpAny_call (codeAny_mono (F.run X.A X.stack s1 H1 ⟨us,[]⟩ us vs Q E hr I1.Ji Xq r q) λr s' hq=>?_);cases r with
 | error e=>exact hx H1 s1 e s' I1 hq
 | ok fl=>
  cases fl with
  | ret u=>exact I1.after hq
  | next=>exact False.elim hq
  | brk=>exact False.elim hq
  | cont=>exact False.elim hq
noncomputable def Md (K:abg) (C2:Addr) (i:Nat) (ts:TS) (D:Ends) (σ:St):XK:=λcls _ H2=>exmOne K cls (.ref C2)=some true/\∀ad,H2 ad=none->
 ts {nx:=λσ' H3=>D.nx (σ'.set i none) H3,rt:=D.rt,bk:=λσ' H3=>D.bk (σ'.set i none) H3,ct:=λσ' H3=>D.ct (σ'.set i none) H3} (σ.set i (some (.ref ad))) (upd H2 ad (JE ad cls))
variable {cx n : Str} {np Ge Me t9 : Pos} {b₀ : Stmt} {uS : List Stmt} {i : Nat} {ts : TS} {C2 : Addr}
end
end L2
namespace Nm
noncomputable def st (a b:Int):Int:=if b<0 then -(a / g a b) else a / g a b
noncomputable def sb (a b:Int):Int:=if b<0 then -(b / g a b) else b / g a b
theorem Dq {a d:Int} (h:0<d):a.fdiv d=a / d:=Int.fdiv_eq_ediv_of_nonneg a (by lia)
theorem Dr {a d:Int} (h:0<d) (dv:d∣a):a.fdiv (-d)= -(a / d):=by
 obtain⟨k,rfl⟩:=dv;rw[Int.mul_ediv_cancel_left _ (by lia),show d*k=(-d)* (-k) by rw[Int.neg_mul_neg]];exact Int.mul_fdiv_cancel_left _ (by lia)
end Nm
namespace L2
open PySem PySem.Spec PyProof.Rows
section
variable {P : Program} {w : World} {K : abg} {mg : Str -> Option Value} {base : Heap} {CX : pX}
theorem zc.HL {x qual:Str} {st:Stmt} {f:Addr} {fd:FuncData} {N ps:List Str} {k:Nat} {sp:Sp} (F:zc K x qual st f fd) (S:bj N ps (aq st)) (len:∀vs H Q E,sp vs H Q E->vs.length=ps.length)
  (xi:∀(cw:Value) (A:Around) (outer:List Env) (s:Shared) (H:Hp) (vs:List V) (Q:VK) (E:XK),eC k (A.deeper (envOfC qual (aq st) s.heap.objs.size f cw))->sp vs H Q E->
   ∃t,wZ (eE CX P w K mg base N qual (aq st) f cw A outer s H E) (ba st) t/\t {nx:=λ_ H'=>Q .dI H',rt:=Q} (start N vs) H):gn P w K mg base CX (k+1) f fd ps sp:=by
 obtain⟨oc,od,kV,doc,pm,an,cw,ct,F2,rfl,lk,t8⟩:=F.ex;exact HG lk t8 S len λA outer s H vs Q E hr CC=>xi cw A outer s H vs Q E hr CC
end
noncomputable def noStar:Expr->Bool
 | .Starred _ _=>false
 | _=>true
theorem se {e:Expr} {es:List Expr} {env:Env} (h:noStar e=true):starEach (e::es) env=(false,eval e env)::starEach es env:=by
 cases e <;>first | rfl | exact absurd h aaF
theorem na {env:Env} {pos:Pos}:∀{es:List Expr},es.all noStar=true->(backTo pos (starEach es env)).any (·.1)=false
 | [],_=>rfl
 | e::es,h=>by
  rw[List.all_cons,aaX] at h;rw[se h.1]
  show(false || (backTo pos (starEach es env)).any (·.1))=false
  rw[na h.2]
  rfl
end L2
namespace L2
open PySem PySem.Spec PyProof.Rows PySem.W
structure gB (K:abg) (C:Addr):Prop where
 cls:(clsIn K C).isSome=true
 ga:findIn K (.ref C) "__getattribute__"=some (some (.builtin "BaseException.__getattribute__"))
 gt:findIn K (.ref C) "__getattr__"=some none
 cl:findIn K (.ref C) "__class__"=some (some (.builtin "object.__class__"))
 be:mroIn K C (.type "BaseException")=some true
 ob:mroIn K C (.type "object")=some true
section
variable {prog : Program} {w : World} {A : Around} {E : Value -> Shared -> Prop} {K : abg} {h : Heap} {g : Array GenState} {d : Drawn} {t : Nat} {os : OsState} {a C : Addr} {o : Obj}
theorem Gh {R:Result->Shared->Prop} {tp:Value} (X:K.In h) (EC:gB K C) (hx:h.get? a=some o) (hc:o.cls=.ref C) (hq:R (.ok (.ret (.ref C))) ⟨h,g,d,t,os⟩):
  codeAny (model prog w) A (.call (.builtin "getset_descriptor.__get__") ⟨[.builtin "object.__class__",.ref a,tp],[]⟩) R ⟨h,g,d,t,os⟩:=by
 have T0:Looks (model prog w) h (typeOf (.ref a)) (.ref C):=hc▸(Looks.ld hx).andThen .now;have T1:=looks_mroIn (M:=model prog w) X EC.ob;refine codeAny_call_builtin (KF.slot_gs.plain) (KF.entry_gs) (KF.slot_gs.check _ _ _ _ _ _ _ _ KF.type_class (KF.args_gs _ _ _) ?_);unfold Builtin.«getset_descriptor.__get__» Builtin.Getset_descriptor.descrGet;rw[dga_obj];refine wpAny_bind (m:=pure _) (wpAny_pure ?_);unfold Builtin.Getset_descriptor.descrGetter Builtin.Getset_descriptor.descrCheckInstance Builtin.Getset_descriptor.descrNameAndClass isInstance;simp only[KF.owner_class]
 repeat lk
 refine And.intro (Code.quiet_builtin _ ∅) (codeAny_builtin KF.entry_class ?_);unfold Builtin.«object.__class__» shownTypeOf
 repeat lk
 exact hq
theorem BO {tk:Tok} {Q:Fin->Shared->Prop} (X:K.In h) (EC:gB K C) (hx:h.get? a=some o) (hc:o.cls=.ref C) (hq:Q (.done (.ret (.ref C))) ⟨h,g,d,t,os⟩):
  wpAny (model prog w) A (Builtin.«object.__getattribute__» ⟨[.ref a,.str "__class__" tk],[]⟩) Q E ⟨h,g,d,t,os⟩:=by
 have T0:Looks (model prog w) h (typeOf (.ref a)) (.ref C):=hc▸(Looks.ld hx).andThen .now;have T1:=looks_findIn (M:=model prog w) X EC.cl;have hT5:(⟨h,g,d,t,os⟩:Shared).TypeIs (.builtin "object.__class__") "getset_descriptor":=F.typeOf_object_class;have f5:=F.typeOf_object_class;have f6:=F.slot_gs_get.lookup;have f7:=F.slot_gs_set.lookup
 repeat (any_goals (first | assumption | with_reducible refine Looks.at T0 ?_ | with_reducible refine Looks.at T1 ?_ | wp_step))
 refine Gh X EC hx hc ?_
 repeat (any_goals (first | assumption | wp_step))
theorem BP {HM:Value} {Q:Unit->Shared->Prop} {M:Model} (X:K.In h) (EC:gB K C) (hx:h.get? a=some o) (hc:o.cls=.ref C) (hq:Q () ⟨h,g,d,t,os⟩):
  wpAny M A (checkBuiltinCall "BaseException.__getattribute__" ⟨[.ref a,HM],[]⟩) Q E ⟨h,g,d,t,os⟩:=by
 have T0:Looks M h (typeOf (.ref a)) (.ref C):=hc▸(Looks.ld hx).andThen .now;have T1:=looks_mroIn (M:=M) X EC.be;have hk:builtinKind "BaseException.__getattribute__"=some .slot:=∅
 have CC:splitId "BaseException.__getattribute__"=some ("BaseException","__getattribute__"):=∅
 have ha:=F.args_bexc_ga (.ref a) HM;simp only[checkBuiltinCall,hk,CC];refine wpAny_bind ?_;unfold isInstance
 repeat (first | with_reducible refine Looks.at T0 ?_ | with_reducible refine Looks.at T1 ?_ | wp_step)
 exact hq
theorem Ds {tk:Tok} {R:Result->Shared->Prop} (X:K.In h) (EC:gB K C) (hx:h.get? a=some o) (hc:o.cls=.ref C) (hq:R (.ok (.ret (.ref C))) ⟨h,g,d,t,os⟩):
  codeAny (model prog w) A (.call (.builtin "BaseException.__getattribute__") ⟨[.ref a,.str "__class__" tk],[]⟩) R ⟨h,g,d,t,os⟩:=
 codeAny_call_builtin (F.excAttr_ValueError.ga.plain) F.entry_bexc_ga (BP X EC hx hc (BO X EC hx hc hq))
theorem JG {tk:Tok} {fill expr:Bool} {Q:Value->Shared->Prop} (X:K.In h) (EC:gB K C) (hx:h.get? a=some o) (hc:o.cls=.ref C) (hq:Q (.ref C) ⟨h,g,d,t,os⟩):
  wpAny (model prog w) A (getAttrBy (.ref a) (.str "__class__" tk) fill expr) Q E ⟨h,g,d,t,os⟩:=by
 have T0:Looks (model prog w) h (typeOf (.ref a)) (.ref C):=hc▸(Looks.ld hx).andThen .now;have T1:=looks_findIn (M:=model prog w) X EC.ga;have T2:=looks_findIn (M:=model prog w) X EC.gt;have f3:=F.excAttr_ValueError.ga.bind (.ref a);have y0:(expr && onTheHeap (Value.builtin "BaseException.__getattribute__"))=false:=by cases expr <;>rfl
 have y2:(Value.builtin "BaseException.__getattribute__"==Value.builtin "object.__getattribute__")=false:=∅
 have y1:(onTheHeap (Value.ref C) && Value.builtin "BaseException.__getattribute__"==Value.builtin "object.__getattribute__")=false:=by rw[y2];rfl
 repeat (any_goals (first | assumption | with_reducible refine Looks.at T0 ?_ | with_reducible refine Looks.at T1 ?_ | with_reducible refine Looks.at T2 ?_ | wp_step))
 refine Ds X EC hx hc ?_
 repeat (any_goals (first | assumption | wp_step))
theorem Dt {Q:Option Value->Shared->Prop} (X:K.In h) (EC:gB K C) (hx:h.get? a=some o) (hc:o.cls=.ref C) (hq:Q (some (.ref C)) ⟨h,g,d,t+1,os⟩):
  wpAny (model prog w) A (getAttr? (.ref a) "__class__") Q E ⟨h,g,d,t,os⟩:=by
 unfold getAttr? getAttrBy?
 repeat (any_goals (first | assumption | with_reducible apply JG X EC hx hc | wp_step))
end
noncomputable def ExcAt (a C:Addr) (h:Heap):Prop:=∃o,h.get? a=some o/\o.cls=.ref C
set_option tactic.hygienic true in
theorem Du {K:abg} {a C:Addr} (EC:gB K C):KitX K (.ref a) (.ref C) (ExcAt a C) where
 ty:=λ_ _ _ ⟨_,e,c⟩=>c▸(Looks.ld e).andThen .now
 it:=λ_ _ X _=>by
  obtain⟨cd,t8⟩:=Option.isSome_iff_exists.mp EC.cls;unfold clsIn at t8;split at t8
  ·rename_i ho;intro A' Q' E' s' k q;unfold isType loadHead;exact wpAny_bind (wpAny_loadPart (k _ _ (X _ _ ho)) (wpAny_pure q))
  ·cases t8
 ne:=λh tp dd bE n sl X Z1=>by
  obtain⟨cd,t8⟩:=Option.isSome_iff_exists.mp EC.cls;refine Bool.eq_false_iff.mpr λq=>?_;have e:C=tp:=Value.ref.inj (beq_iff_eq.mp q);subst e;unfold clsIn at t8;split at t8
  ·rename_i ho;have z:=(X _ _ ho).symm.trans Z1;cases z
  ·cases t8
 ca:=λ{_ _ _ _ _ s} X p k=>by
  obtain⟨h,g,d,t,os⟩:=s;obtain⟨o,e,c⟩:=p;exact Dt X EC e c k
section
variable {X : Cx}
noncomputable def Qn:V->Option Value
 | .ref C=>some (.ref C)
 | .ty T=>some (.type T)
 | _=>none
theorem Gi {c:V} {v u:Value} (h:Qn c=some v) (r:RelV c u):u=v:=by
 cases c with
 | ref C=>cases h;exact r
 | ty T=>cases h;exact r
 | _=>cases h
theorem Dv:dh X (.builtin "isinstance") (λxs H Q=>∃ad C c v b,xs=[.ref ad,c]/\H ad=some (JE ad (.ref C))/\gB X.K C/\Qn c=some v/\kitOne X.K (.ref C) v=some b/\Q (.bl b) H):=by
 intro pins s σ H xs us Q I r h;obtain⟨ad,C,c,v,b,rfl,hH,EC,hv,e,q⟩:=h;obtain⟨u,u',rfl,rx,rc⟩:=vals2 r;cases rx;obtain rfl:=Gi hv rc;obtain⟨⟨o,vs,e1,e2,e3⟩,_,_⟩:=(show cS X.prog X.w H s.heap ad (JE ad (.ref C)) from I.bT ad _ hH);exact kia_one (Du EC) I.mS ⟨o,e1,e2⟩ e (λz=>nomatch z) λtk=>⟨.bl b,H,I.tok tk,rfl,q⟩
end
end L2
namespace L2
open PySem PySem.Spec PyProof.Rows
theorem ma {env:Env}:∀(names:List (Str×NameKind)) (cs:List (Str×Addr)),(∀n,(n,NameKind.free)∈names->∃c,env.cells.lookup n=some c)->(∀x c,cs.lookup x=some c->env.cells.lookup x=some c)->
  ∃cl,(forIn names cs fun(x:Str×NameKind) (r:List (Str×Addr))=>(if (x.2==NameKind.free)=true then do let c <-cellOf env x.1;pure (ForInStep.yield ((x.1,c)::r)) else pure (ForInStep.yield r):Sem (ForInStep (List (Str×Addr)))))=pure cl/\
   (∀x c,cl.lookup x=some c->env.cells.lookup x=some c)/\(∀n,((n,NameKind.free)∈names\/(cs.lookup n).isSome=true)->∃c,cl.lookup n=some c)/\(∀x c,(x,c)∈cl->(env.cells.lookup x=some c/\(x,NameKind.free)∈names)\/(x,c)∈cs)
 | [],cs,_,h=>⟨cs,rfl,h,(λn hn=>by
   rcases hn with hn | hn
   ·exact absurd hn (by simp)
   ·exact Option.isSome_iff_exists.mp hn),λx c m=>.inr m⟩
 | (n,k)::r,cs,hf,h=>by
  by_cases hk:k=.free
  ·subst hk;obtain⟨c,hc⟩:=hf n aaz;obtain⟨cl,e,h1,h2,h3⟩:=ma r ((n,c)::cs) (λm hm=>hf m (aau _ hm)) (λx c' hx=>by
    rw[aaL] at hx;cases q:x==n with
    | true=>
     rw[q] at hx;have e1:x=n:=by simpa using q
     cases hx;rw[e1];exact hc
    | false=>rw[q] at hx;exact h x c' hx)
   refine⟨cl,?_,h1,λm hm=>h2 m ?_,λx c' m=>?_⟩
   rotate_left 2
   ·rcases h3 x c' m with ⟨q1,q2⟩ | m
    ·exact .inl ⟨q1,aau _ q2⟩
    ·rcases aaR.mp m with e | m
     ·cases e;exact .inl ⟨hc,aaz⟩
     ·exact .inr m
   ·rw[List.forIn_cons];have Z2:cellOf env n=pure c:=by unfold cellOf;rw[hc]
    simp only[beq_self_eq_true,if_true,Z2,pure_bind];exact e
   ·rcases hm with hm | hm
    ·rcases aaR.mp hm with z | z
     ·cases z
      right
      rw[aaL];simp
     ·exact .inl z
    ·right
     rw[aaL];cases q:m==n with
     | true=>rfl
     | false=>exact hm
  ·obtain⟨cl,e,h1,h2,h3⟩:=ma r cs (λm hm=>hf m (aau _ hm)) h;refine⟨cl,?_,h1,λm hm=>h2 m ?_,λx c' m=>(h3 x c' m).imp (λq=>⟨q.1,aau _ q.2⟩) id⟩
   ·rw[List.forIn_cons]
    have:(k==NameKind.free)=false:=by simpa using hk
    simp only[this,Bool.false_eq_true,if_false,pure_bind];exact e
   ·rcases hm with hm | hm
    ·rcases aaR.mp hm with z | z
     ·cases z;exact absurd rfl hk
     ·exact .inl z
    ·exact .inr hm
theorem hV {env:Env} {scope:Scope} (hf:∀n,(n,NameKind.free)∈scope.names->∃c,env.cells.lookup n=some c):
  ∃cl,closureFor scope env=pure cl/\(∀x c,cl.lookup x=some c->env.cells.lookup x=some c)/\(∀n,(n,NameKind.free)∈scope.names->∃c,cl.lookup n=some c)/\(∀x c,(x,c)∈cl->env.cells.lookup x=some c/\(x,NameKind.free)∈scope.names):=by
 obtain⟨cl,e,h1,h2,h3⟩:=ma (env:=env) scope.names [] hf (λx c h=>by simp at h);refine⟨cl,?_,h1,λn hn=>h2 n (.inl hn),λx c m=>(h3 x c m).elim id λz=>absurd z (by simp)⟩;unfold closureFor;simp only[bind_pure];exact e
structure fF (N:List Str) (so:Scope) (N':List Str) (scope:Scope) (k:Nat) (fr:List Nat):Prop where
 kind:scope.kind=.function
 Gj:∀y∈scope.names,y.2=.cell->scope.names.lookup y.1=some .cell/\(y.1,NameKind.free)∉scope.names
 locs:∀y∈scope.names,y.2=.local->scope.names.lookup y.1=some .local
 outer:∀y∈scope.names,y.2=.free->(so.names.lookup y.1=some .cell\/so.names.lookup y.1=some .free)
 len:N'.length=k+fr.length
 at_:∀t,t<fr.length->(fr[t]?).bind (λj=>N[j]?)=N'[k+t]?
 HN:∀x∈N'.drop k,scope.names.lookup x=some .free
noncomputable def stC (k:Nat) (fr:List Nat) (σ:St):St:=abu k none++fr.map λj=>(σ[j]?).join
noncomputable def md (X:Cx) (N:List Str) (scope:Scope) (cl:List (Str×Addr)) (C:Addr) (s:Shared) (H:Hp) (ex:List Addr):Cx where
 prog:=X.prog
 w:=X.w
 K:=X.K
 mg:=X.mg
 base:=X.base
 A:=X.A
 N:=N
 s₀:=s
 H₀:=H
 env:=compEnvC scope cl C X.env
 outer:=X.stack
 stack:=X.stack
 ex:=ex
 calm:=X.calm
 fn:=λx=>scope.names.lookup x==some .cell
 pn:=[]
 xe:=λ_ _=>False
theorem fU {env:Env}:∀{names:List (Str×NameKind)} {x:Str},names.lookup x=some .free->
  (names.map fun(n,k)=>if (k==NameKind.free && env.scope.kind==.function && env.kindOf n==some .cell) then (n,NameKind.cell) else (n,k)).lookup x=some .cell\/
  (names.map fun(n,k)=>if (k==NameKind.free && env.scope.kind==.function && env.kindOf n==some .cell) then (n,NameKind.cell) else (n,k)).lookup x=some .free
 | [],_,h=>by simp at h
 | (n,k)::r,x,h=>by
  have ih:=@fU env r x;show List.lookup x ((if (k==NameKind.free && env.scope.kind==.function && env.kindOf n==some .cell)=true then (n,NameKind.cell) else (n,k))::_)=_\/List.lookup x ((if (k==NameKind.free && env.scope.kind==.function && env.kindOf n==some .cell)=true then (n,NameKind.cell) else (n,k))::_)=_;cases hx:x==n with
  | true=>
   simp only[aaL,hx] at h;cases h;by_cases hc:(NameKind.free==NameKind.free && env.scope.kind==.function && env.kindOf n==some .cell)=true
   ·rw[if_pos hc];left;simp [aaL,hx]
   ·rw[if_neg hc];right;simp [aaL,hx]
  | false=>
   simp only[aaL,hx] at h;by_cases hc:(k==NameKind.free && env.scope.kind==.function && env.kindOf n==some .cell)=true
   ·rw[if_pos hc];simp only[aaL,hx];exact ih h
   ·rw[if_neg hc];simp only[aaL,hx];exact ih h
theorem ng {env:Env}:∀{names:List (Str×NameKind)} {x:Str},
  ((names.map fun(n,k)=>if (k==NameKind.free && env.scope.kind==.function && env.kindOf n==some .cell) then (n,NameKind.cell) else (n,k)).lookup x=some .cell\/
  (names.map fun(n,k)=>if (k==NameKind.free && env.scope.kind==.function && env.kindOf n==some .cell) then (n,NameKind.cell) else (n,k)).lookup x=some .free)->(x,NameKind.free)∈names\/(x,NameKind.cell)∈names
 | [],_,h=>by simp at h
 | (n,k)::r,x,h=>by
  have ih:=@ng env r x;have up:((x,NameKind.free)∈r\/(x,NameKind.cell)∈r)->((x,NameKind.free)∈(n,k)::r\/(x,NameKind.cell)∈(n,k)::r):=λz=>z.imp (aau _) (aau _);have h:List.lookup x ((if (k==NameKind.free && env.scope.kind==.function && env.kindOf n==some .cell)=true then (n,NameKind.cell) else (n,k))::_)=_\/List.lookup x ((if (k==NameKind.free && env.scope.kind==.function && env.kindOf n==some .cell)=true then (n,NameKind.cell) else (n,k))::_)=_:=h;cases hx:x==n with
  | true=>
   have e1:x=n:=by simpa using hx
   subst e1;by_cases hc:(k==NameKind.free && env.scope.kind==.function && env.kindOf x==some .cell)=true
   ·have:k=.free:=by
     simp only[aaX] at hc;simpa using hc.1.1
    subst this;exact .inl aaz
   ·rw[if_neg hc] at h;simp only[aaL,hx] at h;rcases h with h | h
    ·cases h;exact .inr aaz
    ·cases h;exact .inl aaz
  | false=>
   by_cases hc:(k==NameKind.free && env.scope.kind==.function && env.kindOf n==some .cell)=true
   ·rw[if_pos hc] at h;simp only[aaL,hx] at h;exact up (ih h)
   ·rw[if_neg hc] at h;simp only[aaL,hx] at h;exact up (ih h)
theorem oH:∀(names:List (Str×NameKind)) (h:Heap) (acc:List (Str×Addr)) (x:Str) (c:Addr),(x,c)∈cellsFrom h.objs.size names acc->
  (x,c)∈acc\/(h.objs.size<=c/\(pushCells h names).IsCell c none/\(x,NameKind.cell)∈names)
 | [],h,acc,x,c,m=>.inl m
 | (n,k)::r,h,acc,x,c,m=>by
  unfold cellsFrom at m;unfold pushCells;by_cases hk:(k==NameKind.cell)=true
  ·rw[if_pos hk] at m ⊢;have ih:=oH r (h.push {cls:=.type "cell",data:=.cell none}) ((n,h.objs.size)::acc) x c;rw[Heap.size_push] at ih;rcases ih m with m | ⟨q1,q2,q3⟩
   ·rcases aaR.mp m with e | m
    ·cases e;have hk:k=.cell:=by simpa using hk
     subst hk;refine .inr ⟨aam _,?_,aaz⟩;have q:(h.push {cls:=.type "cell",data:=.cell none}).IsCell h.objs.size none:=⟨_,abr _ rfl,rfl⟩;exact q.keeps λb o e=>pushCells_keeps r _ b o e
    ·exact .inl m
   ·exact .inr ⟨by lia,q2,aau _ q3⟩
  ·rw[if_neg hk] at m ⊢;rcases oH r h acc x c m with m | ⟨q1,q2,q3⟩
   ·exact .inl m
   ·exact .inr ⟨q1,q2,aau _ q3⟩
theorem oJ:∀(names:List (Str×NameKind)) (n lo:Nat) (acc:List (Str×Addr)),(∀x c,(x,c)∈acc->c<n)->(∀x y c,lo<=c->(x,c)∈acc->(y,c)∈acc->x=y)->
  ∀x y c,lo<=c->(x,c)∈cellsFrom n names acc->(y,c)∈cellsFrom n names acc->x=y
 | [],n,lo,acc,h1,h2,x,y,c,hl,m1,m2=>h2 x y c hl m1 m2
 | (z,k)::r,n,lo,acc,h1,h2,x,y,c,hl,m1,m2=>by
  unfold cellsFrom at m1 m2;by_cases hk:(k==NameKind.cell)=true
  ·rw[if_pos hk] at m1 m2;refine oJ r (n+1) lo _ (λx c m=>?_) (λx y c hl m1 m2=>?_) x y c hl m1 m2
   ·rcases aaR.mp m with e | m
    ·cases e;exact aaZ _
    ·exact Nat.lt_succ_of_lt (h1 x c m)
   ·rcases aaR.mp m1 with e1 | m1 <;>rcases aaR.mp m2 with e2 | m2
    ·cases e1;cases e2;rfl
    ·cases e1;exact absurd (h1 _ _ m2) (aaK _)
    ·cases e2;exact absurd (h1 _ _ m1) (aaK _)
    ·exact h2 x y c hl m1 m2
  ·rw[if_neg hk] at m1 m2;exact oJ r n lo acc h1 h2 x y c hl m1 m2
theorem iR:∀(names:List (Str×NameKind)) (n:Nat) (acc:List (Str×Addr)) (x:Str),(x,NameKind.cell)∉names->(cellsFrom n names acc).lookup x=acc.lookup x
 | [],n,acc,x,_=>rfl
 | (z,k)::r,n,acc,x,h=>by
  have hr:(x,NameKind.cell)∉r:=λm=>h (aau _ m);unfold cellsFrom;by_cases hk:(k==NameKind.cell)=true
  ·rw[if_pos hk,iR r _ _ x hr,aaL];have hk:k=.cell:=by simpa using hk
   subst hk
   have:(x==z)=false:=by
    cases q:x==z with
    | false=>rfl
    | true=>
     have e:x=z:=by simpa using q
     subst e;exact absurd aaz h
   rw[this]
  ·rw[if_neg hk];exact iR r n acc x hr
theorem oK:∀(names:List (Str×NameKind)) (n:Nat) (acc:List (Str×Addr)) (x:Str),((x,NameKind.cell)∈names\/(acc.lookup x).isSome=true)->((cellsFrom n names acc).lookup x).isSome=true
 | [],n,acc,x,h=>by
  rcases h with h | h
  ·simp at h
  ·exact h
 | (z,k)::r,n,acc,x,h=>by
  unfold cellsFrom;by_cases hk:(k==NameKind.cell)=true
  ·rw[if_pos hk];refine oK r _ _ x ?_;rcases h with h | h
   ·rcases aaR.mp h with e | h
    ·cases e
     right
     rw[aaL];simp
    ·exact .inl h
   ·right
    rw[aaL];cases q:x==z with
    | true=>rfl
    | false=>exact h
  ·rw[if_neg hk];refine oK r _ _ x ?_;rcases h with h | h
   ·rcases aaR.mp h with e | h
    ·cases e;exact absurd rfl hk
    ·exact .inl h
   ·exact .inr h
section
variable {M : Model} {A : Around} {E : Value -> Shared -> Prop} {s : Shared}
theorem gR {scope:Scope} {globals:Addr} {closure:List (Str×Addr)} {qual:Str} {func:Option Addr} {code:Value} {outer:Env} {Q:Env->Shared->Prop}
  (hQ:Q (newEnv scope s.heap.objs.size globals (cellsFrom (s.heap.objs.size+1) scope.names closure) qual func code (some outer) builtinsNs)
   {s with heap:=pushCells (s.heap.push {cls:=.type "dict",data:=.dict #[]}) scope.names}):
  wpAny M A (newFunctionEnv scope globals closure [] qual func code (some outer)) Q E s:=by
 simp only[newFunctionEnv,Option.isSome_some,if_true];refine wpAny_bind (wpAny_alloc ?_);refine wpAny_bind (wpAny_layCells _ (λname kind cells=>by cases Z3:kind==NameKind.cell <;>simp [Z3]) _ _ _ _ ?_);rw[show({s with heap:=s.heap.push {cls:=.type "dict",data:=.dict #[]}}:Shared).heap.objs.size=s.heap.objs.size+1 from Heap.size_push ..];refine wpAny_bind ?_;rw[List.forIn_nil];exact wpAny_pure (wpAny_pure hQ)
end
structure JH (X:Cx) (scope:Scope) (cl:List (Str×Addr)) (lo:Nat) (C:Addr) (h1:Heap):Prop where
 old:∀x c,cl.lookup x=some c->X.env.cells.lookup x=some c\/(lo<=c/\C<c/\h1.IsCell c none)
 inj:∀x y c,C<c->cl.lookup x=some c->cl.lookup y=some c->x=y
 has:∀n,(n,NameKind.free)∈scope.names\/(n,NameKind.cell)∈scope.names->∃c,cl.lookup n=some c
 HN:∀n,scope.names.lookup n=some .free->∀c,cl.lookup n=some c->X.env.cells.lookup n=some c
 own:∀x c,scope.names.lookup x=some .cell->cl.lookup x=some c->lo<=c
section
variable {X : Cx} {pins : List (Addr × Obj)} {σ : St} {H : Hp} {s : Shared} {N' : List Str} {scope : Scope} {k : Nat} {fr : List Nat} {cl : List (Str × Addr)}
theorem JI {C:Addr} {fp:List Addr} {h1:Heap} (I:Inv X pins σ H s) (S:fF X.N X.env.scope N' scope k fr) (B:JH X scope cl s.heap.objs.size C h1)
  (hC:s.heap.objs.size<=C) (f2:∀b∈fp,ke X pins H b) (lt:∀b∈fp,b<s.heap.objs.size):(md X N' scope cl C s H fp).Ok where
 mod:=I.ok.mod
 kind:=S.kind
 glob:=I.ok.glob
 blt:=I.ok.blt
 above:=hC
 inj:=λx y c h1 h2=>by
  rcases B.old _ _ h1 with o1 | o1 <;>rcases B.old _ _ h2 with o2 | o2
  ·exact I.ok.inj x y c o1 o2
  ·exact B.inj x y c o2.2.1 h1 h2
  ·exact B.inj x y c o1.2.1 h1 h2
  ·exact B.inj x y c o1.2.1 h1 h2
 has:=λx hx=>B.has x (ng hx)
 IY:=λx c z e=>B.own x c (by
  have z:(scope.names.lookup x==some NameKind.cell)=true:=z;simpa using z) e
 hd:=I.ok.hd
 frames:=I.ok.frames
 K5:=.inl rfl
 OJ:=λb hb=>⟨aas (aaC (lt b hb) hC),λx c e=>(B.old _ _ e).elim (λo=>(f2 b hb).2.2.2.2.1 x c o) λo=>Nat.ne_of_gt (aaC (lt b hb) o.1)⟩
 bs:=I.bs
 CM:=aay I.ok.CM I.sz
 yI:=λb o e hb=>by
  rcases(f2 b hb).2.2.2.1 with z | z
  ·exact I.ok.yI b o e z
  ·exact absurd (aaC (abt e) (aay I.ok.CM z)) (aaK _)
 Bq:=λb hb z=>by
  rcases aaR.mp (I.vt b z) with q | q
  ·exact(f2 b hb).2.1 q
  ·exact(f2 b hb).2.2.1 q
 mU:=I.stack
 FO:=I.qM
theorem Gk {C:Addr} {fp:List Addr} {h1:Heap} {tk:Nat} {m:Str->Option Value} (I:Inv X pins σ H s) (S:fF X.N X.env.scope N' scope k fr) (B:JH X scope cl s.heap.objs.size C h1)
  (hC:s.heap.objs.size<=C) (f2:∀b∈fp,ke X pins H b) (lt:∀b∈fp,b<s.heap.objs.size) (old:∀b o,s.heap.get? b=some o->h1.get? b=some o) (hn:h1.Ns C m):
  Inv (md X N' scope cl C s H fp) [] (stC k fr σ) H {s with heap:=h1,toks:=tk}:=by
 refine⟨JI I S B hC f2 lt,rfl,I.bare,Un.kept old,⟨m,hn,λi x v e1 e2 e3=>?_⟩,λx c e=>?_,I.bT.fresh hC,λx c e=>(B.old _ _ e).elim (λo=>I.gz x c o) λo=>I.bT.fresh o.1,λp hp=>absurd (show p∈([]:List (Addr×Obj)) from hp) (by simp),I.bT.kept old,?_⟩
 ·have e1:N'[i]?=some x:=e1;unfold stC at e2;by_cases hi:i<k
  ·rw[aa5 (by simpa using hi),List.getElem?_replicate,if_pos hi] at e2;cases e2
  ·rw[aba (by simpa using hi),abe,aal] at e2;cases q:fr[i - k]? with
   | none=>rw[q] at e2;cases e2
   | some j=>
    rw[q] at e2;have e2:(σ[j]?).join=some v:=aaE e2;have ej:σ[j]?=some (some v):=by
     cases z:σ[j]? with
     | none=>rw[z] at e2;cases e2
     | some o=>rw[z] at e2;exact congrArg some e2
    have gC:i - k<fr.length:=(abn.mp q).1;have qV:=S.at_ (i - k) gC;rw[q,show k+ (i - k)=i by lia,e1] at qV;have qV:X.N[j]?=some x:=qV;have Z4:x∈N'.drop k:=List.mem_iff_getElem?.mpr ⟨i - k,by rw[List.getElem?_drop,show k+ (i - k)=i by lia];exact e1⟩;have OY:=S.HN x Z4;have Mf:(x,NameKind.free)∈scope.names:=aa2 OY;have Mg:=S.outer _ Mf rfl;obtain⟨m0,hn0,Z5⟩:=I.loc;obtain⟨u,r,l⟩:=Z5 j x v qV ej (.inr Mg);refine⟨u,r,.inr ⟨fU OY,?_⟩⟩;rcases l with ⟨kk,_⟩ | ⟨_,c,e,z⟩
    ·have kk:X.env.scope.names.lookup x=some .local:=kk;rcases Mg with q1 | q1
     ·rw[kk] at q1;cases q1
     ·rw[kk] at q1;cases q1
    ·obtain⟨c',e'⟩:=B.has x (.inl Mf);have ec:=B.HN x OY _ e';rw[e] at ec;cases ec;obtain⟨ob,ho,hd⟩:=z;exact⟨c,e',ob,old _ _ ho,hd⟩
 ·rcases B.old _ _ e with o | o
  ·obtain⟨v,ob,ho,hd⟩:=I.cell x c o;exact⟨v,ob,old _ _ ho,hd⟩
  ·exact⟨none,o.2.2⟩
 ·unfold stC;rw[aaq,abe,aak];exact S.len.symm
end
section
variable {prog : Program} {w : World} {A : Around} {E : Value -> Shared -> Prop} {R : Result -> Shared -> Prop} {s : Shared}
theorem jr {elt target iter:Expr} {ifs:List Expr} {scope:Scope} {pos:Pos} {it acc:Value} {env:Env} (I:Nat->Shared->Prop)
  (turn:∀n s,I n s->wpAny (model prog w) A (pyNext it) (λr s₁=>match r with
   | none=>R (.ok .next) s₁
   | some v=>wpAny (model prog w) A (letOwnedTupleGo target it v) (λ_ Xr=>wpAny (model prog w) A (assign target env v) (λ_ s₂=>
     wpAny (model prog w) A (forIn ifs true λc r=>if r=true then do let ok <-isTrue c env (eval c env);pure (ForInStep.yield ok) else pure (ForInStep.yield r)) (λok s₃=>
      if ok=true then wpAny (model prog w) A (eval elt env) (λx s₄=>
       wpAny (model prog w) A (call (.builtin "list.append") [acc,x]) (λ_ s₅=>∃m,m<n/\I m s₅) (λ_ _=>False) s₄) (notedBy (model prog w) A env λx s'=>R (.error x) s') s₃
      else ∃m,m<n/\I m s₃) (λ_ _=>False) s₂) (λ_ _=>False) Xr) (λ_ _=>False) s₁) (λ_ _=>False) s)
  (n:Nat) (h:I n s):
  codeAny (model prog w) A (.compLoop (.ListComp elt [⟨target,iter,ifs,0⟩] scope pos) 0 it acc env) R s:=by
 refine codeAny_loop rfl I (λn s hI=>?_) n h;show wpAny _ A ((compTurn (.ListComp elt [⟨target,iter,ifs,0⟩] scope pos) 0 it acc env).onRaise (λx=>do noteFrame x env;theTreesLotGoes x)) _ _ s;refine wpAny_noted ?_;rw[compTurn_list];refine wpAny_bind (wpAny_standAt (wpAny_bind (wpAny_mono (turn n s hI) (λr s₁ h₁=>?_) λ_ _ h'=>h'.elim)));cases r with
 | none=>exact wpAny_pure h₁
 | some v=>
  refine wpAny_bind (wpAny_mono h₁ (λ_ Xr Z6=>?_) λ_ _ h'=>h'.elim);refine wpAny_bind (wpAny_mono Z6 (λ_ s₂ h₂=>wpAny_bind (wpAny_mono h₂ (λok s₃ h₃=>?_) λ_ _ h'=>h'.elim)) λ_ _ h'=>h'.elim);cases ok with
  | false=>exact wpAny_pure ⟨rfl,h₃⟩
  | true=>
   exact wpAny_bind (wpAny_bind (wpAny_mono h₃ (λx s₄ h₄=>wpAny_bind (wpAny_mono h₄ (λ_ s₅ h₅=>wpAny_pure (wpAny_pure ⟨rfl,h₅⟩)) λ_ _ h'=>h'.elim)) λ_ _ h'=>h'))
end
noncomputable def HP (X:Cx) (ifs:List Expr) (t:TT):Prop:=
 ∀(pins:List (Addr×Obj)) (s:Shared) (σ:St) (H:Hp) (Q:Bool->Hp->Prop),Inv X pins σ H s->t σ H Q->
  wpAny (model X.prog X.w) X.A (forIn ifs true λc r=>if r=true then do let ok <-isTrue c X.env (eval c X.env);pure (ForInStep.yield ok) else pure (ForInStep.yield r)) (TP X pins σ Q) X.xe s
noncomputable def vE:TT:=λ_ H Q=>Q true H
theorem cL {X:Cx}:HP X [] vE:=λ_ _ _ H _ I h=>wpAny_tests_nil ⟨H,I,h⟩
theorem qW {X:Cx} {c:Expr} {t:TT} (h:PT X c t):HP X [c] t:=λpins s σ H Q I hq=>wpAny_tests_one (h pins s σ H Q I hq)
section
variable {X : Cx}
noncomputable def hX (J:It) (g:TG) (tc:TT) (te:TE) (σ0:St) (H1:Hp) (fin:List V->Hp->Prop):Prop:=
 ∃W:Nat->Nat->List V->St->Hp->Prop,(∃m,W 0 m [] σ0 H1)/\∀i m ys σ2 H2,W i m ys σ2 H2->
  (J.stop i H2/\fin ys H2)\/
  (J.go i H2/\∀x H3,J.yB i H2 x H3->g x σ2 H3 λσ3 H4=>tc σ3 H4 λb H5=>if b=true then te σ3 H5 λy H6=>ys.length<sizeLine/\∃m',m'<m/\W (i+1) m' (ys++ [y]) σ3 H6 else ∃m',m'<m/\W (i+1) m' ys σ3 H5)
noncomputable def gD (bE:List Value) (n:Nat):Obj:={cls:=.type "list",data:=.seq bE.toArray n}
theorem xA {elt target iter:Expr} {ifs:List Expr} {scope:Scope} {pos:Pos} {g:TG} {tc:TT} {te:TE} {k:Nat} {fr:List Nat} {N':List Str} {cl:List (Str×Addr)} {pins:List (Addr×Obj)} {σ:St} {H2:Hp} {s2:Shared}
  {it:Addr} {fp:List Addr} {tn:Nat->Heap->Prop} {J:It} {fin:List V->Hp->Prop} {R0:Result->Shared->Prop} {XE:List (Str×Addr)->Addr->Shared->Hp->List Addr->Value->Shared->Prop}
  (hc:X.calm=true) (S:fF X.N X.env.scope N' scope k fr) (c1:∀x c,cl.lookup x=some c->X.env.cells.lookup x=some c) (c2:∀n,(n,NameKind.free)∈scope.names->∃c,cl.lookup n=some c) (cin:∀x c,(x,c)∈cl->∃y,X.env.cells.lookup y=some c) (OZ:∀x,(x,NameKind.cell)∈scope.names->∀c,(x,c)∉cl)
  (hg:∀cl C s H ex,PG (md X N' scope cl C s H ex) target g) (ht:∀cl C s H ex,HP (md X N' scope cl C s H ex) ifs tc) (he:∀cl C s H ex,PE ((md X N' scope cl C s H ex).kc (XE cl C s H ex)) elt te)
  (I2:Inv X pins σ H2 s2) (T:Turn X.prog X.w X.K target J fp it tn) (yO:tn 0 s2.heap) (f2:∀b∈fp,ke X pins H2 b) (hb:hX J g tc te (stC k fr σ) H2 fin)
  (hR:∀(C:Addr),C=(s2.heap.push {cls:=.type "list",dict:=none,data:=.seq ([]:List Value).toArray}).objs.size->∀(s':Shared) (m:Str->Option Value) (ys:List V) (bE:List Value) (n:Nat) (H':Hp),s2.heap.objs.size<C->s'.heap.Ns C m->bJ ys bE->ys.length<=sizeLine->s'.heap.get? s2.heap.objs.size=some (gD bE n)->H' s2.heap.objs.size=none->H' C=none->fin ys H'->
   s'.os=s2.os->AllBare s'.gens->Un (eM X.stack) fp H2 H' s2.heap s'.heap->hJ X.prog X.w H' s'.heap->R0 (.ok .next) s')
  (hE:∀cl C x s',C=(s2.heap.push {cls:=.type "list",dict:=none,data:=.seq ([]:List Value).toArray}).objs.size->s2.heap.objs.size<C->XE cl C s2 H2 fp x s'->notedBy (model X.prog X.w) X.A (compEnvC scope cl C X.env) (λy ua=>R0 (.error y) ua) x s'):
  codeAny (model X.prog X.w) X.A (.compStart (.ListComp elt [⟨target,iter,ifs,0⟩] scope pos) 0 (.ref it) (.ref s2.heap.objs.size) (compEnvC scope (cellsFrom ((s2.heap.push {cls:=.type "list",dict:=none,data:=.seq ([]:List Value).toArray}).objs.size+1) scope.names cl) (s2.heap.push {cls:=.type "list",dict:=none,data:=.seq ([]:List Value).toArray}).objs.size X.env)) R0 {s2 with heap:=pushCells ((s2.heap.push {cls:=.type "list",dict:=none,data:=.seq ([]:List Value).toArray}).push {cls:=.type "dict",data:=.dict #[]}) scope.names}:=by
 obtain⟨W,⟨m0,w0⟩,turn⟩:=hb;have lt:∀b∈fp,b<s2.heap.objs.size:=λb hb=>by
  obtain⟨o,e,_⟩:=T.obj _ _ yO b hb;exact abt e
 generalize Qo:s2.heap.push {cls:=.type "list",dict:=none,data:=.seq ([]:List Value).toArray}=G2 at hR hE ⊢;have Lb:G2.objs.size=s2.heap.objs.size+1:=by rw[<-Qo,Heap.size_push]
 have Xs:s2.heap.objs.size≠G2.objs.size:=by rw[Lb];exact aas (aaZ _)
 have hC:s2.heap.objs.size<=G2.objs.size:=by rw[Lb];exact Nat.le_succ _
 have old:∀b o,s2.heap.get? b=some o->(pushCells (G2.push {cls:=.type "dict",data:=.dict #[]}) scope.names).get? b=some o:=λb o e=>by
  refine pushCells_keeps _ _ b o (abq _ ?_);rw[<-Qo];exact abq _ e
 have Gn:(pushCells (G2.push {cls:=.type "dict",data:=.dict #[]}) scope.names).get? s2.heap.objs.size=some (gD [] 0):=by
  refine pushCells_keeps _ _ _ _ (abq _ ?_);rw[<-Qo];exact abr _ rfl
 have Qp:(pushCells (G2.push {cls:=.type "dict",data:=.dict #[]}) scope.names).Ns G2.objs.size λ_=>none:=(Heap.Ns.new G2 (.type "dict")).keeps (pushCells_keeps _ _);have Xu:∀x c,(x,c)∈cl->c<G2.objs.size+1:=λx c m=>by
  obtain⟨y,hy⟩:=cin x c m;obtain⟨v,q⟩:=I2.cell y c hy;rw[Lb];exact Nat.lt_succ_of_lt (Nat.lt_succ_of_lt q.lt)
 have B:JH X scope (cellsFrom (G2.objs.size+1) scope.names cl) s2.heap.objs.size G2.objs.size (pushCells (G2.push {cls:=.type "dict",data:=.dict #[]}) scope.names):=by
  have own:=oH scope.names (G2.push {cls:=.type "dict",data:=.dict #[]}) cl;rw[Heap.size_push] at own;refine⟨λx c e=>?_,λx y c hc h1 h2=>?_,λn hn=>?_,λn hn c e=>?_,λx c hx e=>?_⟩
  ·by_cases hx:(x,NameKind.cell)∈scope.names
   ·rcases own x c (aa2 e) with m | ⟨q1,q2,_⟩
    ·
     exfalso
     exact OZ x hx c m
    ·exact .inr ⟨aay hC (Nat.le_of_succ_le q1),q1,q2⟩
   ·rw[iR _ _ _ _ hx] at e;exact .inl (c1 x c e)
  ·exact oJ scope.names (G2.objs.size+1) (G2.objs.size+1) cl Xu (λx y c hl m1 _=>absurd (Xu x c m1) (Nat.not_lt.mpr hl)) x y c hc (aa2 h1) (aa2 h2)
  ·refine Option.isSome_iff_exists.mp (oK _ _ _ n ?_);rcases hn with hn | hn
   ·obtain⟨c,e⟩:=c2 n hn;exact .inr (by rw[e];rfl)
   ·exact .inl hn
  ·have hx:(n,NameKind.cell)∉scope.names:=λm=>by
    have:=(S.Gj _ m rfl).1
    rw[hn] at this;cases this
   rw[iR _ _ _ _ hx] at e;exact c1 n c e
  ·have hx:=aa2 hx;rcases own x c (aa2 e) with m | ⟨q1,q2,_⟩
   ·exact absurd m (OZ x hx c)
   ·exact aay hC (Nat.le_of_succ_le q1)
 generalize pushCells (G2.push {cls:=.type "dict",data:=.dict #[]}) scope.names=h₁ at *;generalize cellsFrom (G2.objs.size+1) scope.names cl=ze at *;generalize JJ:s2.heap.objs.size=D at *;generalize hCc:G2.objs.size=C at *;have fD:H2 D=none:=by rw[<-JJ];exact I2.bT.fresh (aam _)
 have cells:∀x c,ze.lookup x=some c->c≠D:=λx c e=>by
  rcases B.old _ _ e with o | o
  ·obtain⟨v,q⟩:=I2.cell x c o;rw[<-JJ];exact aas q.lt
  ·exact Nat.ne_of_gt (aaT (by rw[Lb];exact aaZ _) o.2.1)
 have loop:∀(FT:Addr) (s3:Shared),FT=it->(∃tk,s3={s2 with heap:=h₁,toks:=tk})->
   codeAny (model X.prog X.w) X.A (.compLoop (.ListComp elt [⟨target,iter,ifs,0⟩] scope pos) 0 (.ref FT) (.ref D) (compEnvC scope ze C X.env)) R0 s3:=by
  rintro FT s3 rfl ⟨tk,rfl⟩;have I3:Inv (md X N' scope ze C s2 H2 fp) [] (stC k fr σ) H2 {s2 with heap:=h₁,toks:=tk}:=Gk I2 S (by rw[JJ];exact B) (by rw[JJ];exact hC) f2 (by rw[JJ];exact lt) old Qp;have yP:∀{H':Hp} {o:Obj},(∀b∈fp,H' b=none)->∀b∈fp,ke (md X N' scope ze C s2 H2 fp) [(D,o)] H' b:=λ{H' o} hn b hb=>
   ⟨hn b hb,aas (aaC (lt b hb) hC),λz=>by
    rcases aaR.mp (I2.vt b z) with q | q
    ·exact(f2 b hb).2.1 q
    ·exact(f2 b hb).2.2.1 q,.inl hb,λx c e=>(B.old _ _ e).elim (λo=>(f2 b hb).2.2.2.2.1 x c o) (λo=>Nat.ne_of_gt (aaC (lt b hb) o.1)),λp hp=>by
    have e:p=(D,o):=by simpa [md] using hp
    rw[e];exact Nat.ne_of_gt (lt b hb)⟩
  have Qq:∀{σ':St} {H':Hp} {s':Shared} {o:Obj},Inv (md X N' scope ze C s2 H2 fp) [] σ' H' s'->s'.heap.get? D=some o->H' D=none->(∀v,o.data≠.cell v)->Inv (md X N' scope ze C s2 H2 fp) [(D,o)] σ' H' s':=λ{σ' H' s' o} I' e n hd=>
   I'.mV λp hp=>by
    have q:p=(D,o):=by simpa using hp
    subst q;refine⟨e,n,Xs,λz=>?_,hd⟩;obtain⟨_,ob,ho,_⟩:=I2.stack.mem z;exact absurd (abt ho) (by rw[JJ];exact aaK _)
  have Z7:∀{bE:List Value} {n:Nat} (v:Option Value),(gD bE n).data≠.cell v:=λv z=>by
   have z:Data.seq _ _=Data.cell v:=z;cases z
  refine jr (λn s'=>∃i ys σ' H' bE Gp,Inv (md X N' scope ze C s2 H2 fp) [] σ' H' s'/\tn i s'.heap/\(∀b∈fp,H' b=none)/\s'.heap.get? D=some (gD bE Gp)/\H' D=none/\bJ ys bE/\ys.length<=sizeLine/\W i n ys σ' H') ?_ m0
   ⟨0,[],_,H2,[],0,I3,T.keep _ _ _ yO (λb _ o e=>old b o e),λb hb=>(f2 b hb).1,Gn,fD,.nil,aap _,w0⟩
  rintro n s4 ⟨i,ys,σ4,H4,bE,Gp,I4,Xv,Mh,Z8,Xw,O0,Xx,w4⟩;have Xy:=Qq I4 Z8 Xw Z7;rcases turn i n ys σ4 H4 w4 with ⟨stop,qf⟩ | ⟨go,step⟩
  ·refine cU (T.done (md X N' scope ze C s2 H2 fp) rfl rfl rfl hc i _ s4 σ4 H4 _ Xy (yP Mh) Xv stop) λr s5 ⟨hr,I5⟩=>?_;subst hr;obtain⟨m5,Z9,_⟩:=I5.loc;exact hR C rfl s5 m5 ys bE Gp H4 (by rw[Lb];exact aaZ _) Z9 O0 Xx (I5.pin (D,gD bE Gp) (aaV _ aaz)).1 Xw I5.free qf I5.os I5.bare I5.base I5.bT
  ·refine cU (T.item (md X N' scope ze C s2 H2 fp) rfl rfl rfl hc i _ s4 σ4 H4 _ Xy (yP Mh) Xv go) λr s5 ⟨u,hr,h5⟩=>?_;subst hr;refine cU h5 λ_ s6 dX=>?_;obtain⟨x,H6,I6,r6,y6,Qr,fr6⟩:=dX;have I6':=I6.pinned (yP fr6) (T.obj _ _ Qr);refine cU (hg ze C s2 H2 fp _ s6 σ4 H6 x u _ I6' r6 (step x H6 y6)) λ_ s7 ⟨σ7,H7,I7,q7⟩=>?_;refine cU (ht ze C s2 H2 fp _ s7 σ7 H7 _ I7 q7) λok s8 ⟨H8,I8,q8⟩=>?_;have back:∀{σ':St} {H':Hp} {s':Shared},Inv (md X N' scope ze C s2 H2 fp) ([(D,gD bE Gp)]++rM fp s6.heap) σ' H' s'->tn (i+1) s'.heap/\(∀b∈fp,H' b=none)/\s'.heap.get? D=some (gD bE Gp)/\H' D=none:=λ{σ' H' s'} I'=>by
    have pD:=I'.pin (D,gD bE Gp) (aaV _ (List.mem_append_left _ (by simp)));refine⟨T.keep _ _ _ Qr λb hb o e=>(I'.pin (b,o) (aaV _ (aaV _ (iP hb e)))).1,λb hb=>?_,pD.1,pD.2.1⟩;obtain⟨o,e,d⟩:=T.obj _ _ Qr b hb;exact(I'.pin (b,o) (aaV _ (aaV _ (iP hb e)))).2.1
   cases ok with
   | false=>
    rw[if_neg aaF];rw[if_neg aaF] at q8;obtain⟨m',hm,w8⟩:=q8;obtain⟨b1,b2,b3,b4⟩:=back I8;exact⟨m',hm,i+1,ys,σ7,H8,bE,Gp,I8.mV (λp hp=>absurd hp (by simp)),b1,b2,b3,b4,O0,Xx,w8⟩
   | true=>
    rw[if_pos rfl];rw[if_pos rfl] at q8;refine wpAny_mono (he ze C s2 H2 fp _ s8 σ7 H8 _ (I8.kc _) q8) (λy s9 ⟨z,H9,I9,r9,gC,m',hm,w9⟩=>?_) λx s' hx=>hE ze C x s' rfl (by rw[Lb];exact aaZ _) hx;have I9:=I9.fO;obtain⟨b1,b2,b3,b4⟩:=back I9;have hl:=O0.length;refine call_meets F.slot_list_append ⟨_,b3,rfl⟩ F.entry_list_append (F.args_list_append_2 _ _) (PySem.list_append D bE.toArray Gp y (by rw[aax];lia)) ⟨b3,?_⟩;obtain⟨c',q⟩:∃c',(s9.heap.update D (Obj.mapSeq λx=>x.push y)).get? D=some (gD (bE++ [y]) c'):=by
     have q:=PySem.IsL.update b3 (λx=>x.push y);rw[show bE.toArray.push y=(bE++ [y]).toArray by simp] at q;exact⟨_,q⟩
    have I9':Inv (md X N' scope ze C s2 H2 fp) [] σ7 H9 s9:=I9.mV (λp hp=>absurd hp (by simp));have kp:∀b o,b≠D->s9.heap.get? b=some o->(s9.heap.update D (Obj.mapSeq λx=>x.push y)).get? b=some o:=λb o hb e=>(Heap.get?_update_other s9.heap (Obj.mapSeq λx=>x.push y) (Ne.symm hb)).trans e;have Gf:=I9'.turned (t':=s9.toks) (it:=D) (h':=s9.heap.update D (Obj.mapSeq λx=>x.push y)) kp b4 Xs (.inr (by show s2.heap.objs.size<=D;rw[JJ];exact aam _)) (λx c e=>cells x c e) (λp hp=>absurd hp (by simp [md]));refine⟨m',hm,i+1,ys++ [z],σ7,H9,bE++ [y],c',Gf,T.keep _ _ _ b1 (λb hb o e=>kp b o (aas (lt b hb)) e),b2,q,b4,O0.append (.cons r9 .nil),?_,w9⟩
    ·rw[aaq,aaH];lia
 exact codeAny_compStart_list (loop it _ rfl ⟨_,rfl⟩) (T.self _ 0 _ _ _ (T.keep _ _ _ yO (λb _ o e=>old b o e)) (loop it _ rfl ⟨_,rfl⟩))
theorem uT {elt target iter:Expr} {ifs:List Expr} {scope:Scope} {pos:Pos} {g:TG} {tc:TT} {te:TE} {k:Nat} {fr:List Nat} {N':List Str} {cl:List (Str×Addr)} {pins:List (Addr×Obj)} {σ:St} {H2:Hp} {s2:Shared}
  {it:Addr} {fp:List Addr} {tn:Nat->Heap->Prop} {J:It} {E:Value->Shared->Prop} {fin:List V->Hp->Prop} {RR:Value->Addr->Result->Shared->Prop} {XE:List (Str×Addr)->Addr->Shared->Hp->List Addr->Value->Shared->Prop}
  (hc:X.calm=true) (S:fF X.N X.env.scope N' scope k fr) (c1:∀x c,cl.lookup x=some c->X.env.cells.lookup x=some c) (c2:∀n,(n,NameKind.free)∈scope.names->∃c,cl.lookup n=some c) (cin:∀x c,(x,c)∈cl->∃y,X.env.cells.lookup y=some c) (OZ:∀x,(x,NameKind.cell)∈scope.names->∀c,(x,c)∉cl)
  (hg:∀cl C s H ex,PG (md X N' scope cl C s H ex) target g) (ht:∀cl C s H ex,HP (md X N' scope cl C s H ex) ifs tc) (he:∀cl C s H ex,PE ((md X N' scope cl C s H ex).kc (XE cl C s H ex)) elt te)
  (I2:Inv X pins σ H2 s2) (T:Turn X.prog X.w X.K target J fp it tn) (yO:tn 0 s2.heap) (f2:∀b∈fp,ke X pins H2 b) (hb:hX J g tc te (stC k fr σ) H2 fin)
  (hR:∀(C:Addr) (s':Shared) (m:Str->Option Value) (ys:List V) (bE:List Value) (n:Nat) (H':Hp),s2.heap.objs.size<C->s'.heap.Ns C m->bJ ys bE->ys.length<=sizeLine->s'.heap.get? s2.heap.objs.size=some (gD bE n)->H' s2.heap.objs.size=none->H' C=none->fin ys H'->
   s'.os=s2.os->AllBare s'.gens->Un (eM X.stack) fp H2 H' s2.heap s'.heap->hJ X.prog X.w H' s'.heap->RR (.ref s2.heap.objs.size) C (.ok .next) s')
  (hE:∀cl C x s',s2.heap.objs.size<C->XE cl C s2 H2 fp x s'->notedBy (model X.prog X.w) X.A (compEnvC scope cl C X.env) (λy ua=>RR (.ref s2.heap.objs.size) C (.error y) ua) x s'):
  wpAny (model X.prog X.w) X.A (newList []) (λacc s₃=>wpAny (model X.prog X.w) X.A (newFunctionEnv scope X.env.globals cl [] X.env.qual none .none (some X.env)) (λcenv s₄=>
   codeAny (model X.prog X.w) X.A (.compStart (.ListComp elt [⟨target,iter,ifs,0⟩] scope pos) 0 (.ref it) acc {cenv with scope:=relabel scope X.env}) (RR acc cenv.locals) s₄) E s₃) E s2:=by
 refine wpAny_newObj_type (gR ?_);exact xA (R0:=RR _ _) hc S c1 c2 cin OZ hg ht he I2 T yO f2 hb (λC e=>by subst e;exact hR _) (λcl C x s' e=>by subst e;exact hE cl _ x s')
theorem comp_back {fp:List Addr} {pins:List (Addr×Obj)} {σ:St} {H2 H':Hp} {s2 s':Shared} {C:Addr} {ys:List V} {bE:List Value} {n:Nat} {h':Heap} (I2:Inv X pins σ H2 s2) (f2:∀b∈fp,ke X pins H2 b) (hC:s2.heap.objs.size<C)
  (vl:bJ ys bE) (sz:ys.length<=sizeLine) (hD:s'.heap.get? s2.heap.objs.size=some (gD bE n)) (nD:H' s2.heap.objs.size=none) (nC:H' C=none)
  (os:s'.os=s2.os) (bare:AllBare s'.gens) (un:Un (eM X.stack) fp H2 H' s2.heap s'.heap) (bT:hJ X.prog X.w H' s'.heap) (hs:Heap.SameBut C s'.heap h'):
  Inv X pins σ (upd H' s2.heap.objs.size (.lst ys)) {s' with heap:=h'}:=by
 have Qs:∀b o,s2.heap.get? b=some o->b≠C:=λb o e=>aas (aaT (abt e) hC);have ltD:∀b o,s2.heap.get? b=some o->b≠s2.heap.objs.size:=λb o e=>aas (abt e);have tk:∀b u,H' b=some u->b≠s2.heap.objs.size:=λb u e z=>by rw[z,nD] at e;cases e
 have tC:∀b u,H' b=some u->b≠C:=λb u e z=>by rw[z,nC] at e;cases e
 have fD:H2 s2.heap.objs.size=none:=I2.bT.fresh (aam _);have t2:∀b u,H2 b=some u->b≠s2.heap.objs.size:=λb u e z=>by rw[z,fD] at e;cases e
 refine I2.HD (s':={s' with heap:=h'}) (ch:=fp) os ⟨λb o e m hb hx=>?_,λb o e m hb hx=>?_,λb o e m hx=>?_,λb o e hx=>?_,λb xs e=>?_,λb o u e=>?_,λb ps e=>?_⟩ (λb u e=>?_) bare λb hb=>?_
 ·exact(hs.2 b (Qs b o e)).trans (un.keep b o e m hb hx)
 ·obtain⟨sl,q⟩:=un.slot b o e m hb hx;exact⟨sl,(hs.2 b (Qs b o e)).trans q⟩
 ·rw[aA (ltD b o e)];exact un.free b o e m hx
 ·obtain⟨o',q⟩:=un.there b o e hx;exact⟨o',(hs.2 b (Qs b o e)).trans q⟩
 ·rw[aA (t2 b _ e)];exact un.ij b xs e
 ·rw[aA (t2 b _ e)];exact un.hU b o u e
 ·obtain⟨mo,q⟩:=un.iN b ps e;exact⟨mo,by rw[aA (t2 b _ e)];exact q⟩
 ·by_cases hb:b=s2.heap.objs.size
  ·subst hb;rw[aj] at e;cases e;exact⟨sz,bE,n,vl,(hs.2 _ (aas hC)).trans hD⟩
  ·rw[aA hb] at e;exact(bT b u e).rJ (λc v hc q=>(hs.2 c (by
    rcases hc with rfl | hc
    ·exact tC _ _ e
    ·exact tC _ _ hc)).trans q) (λc r=>by rw[aA (tk _ _ r)];exact r) λc xs r=>by rw[aA (tk _ _ r)];exact r
 ·exact⟨(f2 b hb).2.2.2.1,(f2 b hb).2.1,(f2 b hb).2.2.2.2.1,(f2 b hb).2.2.2.2.2⟩
noncomputable def tComp (wi:TI) (g:TG) (tc:TT) (te:TE) (k:Nat) (fr:List Nat):TE:=λσ H Q=>wi σ H λJ H1=>hX J g tc te (stC k fr σ) H1 λys H2=>∀D,H1 D=none->H2 D=none->Q (.ref D) (upd H2 D (.lst ys))
theorem cD {elt target iter:Expr} {ifs:List Expr} {scope so:Scope} {pos:Pos} {wi:TI} {g:TG} {tc:TT} {te:TE} {k:Nat} {fr:List Nat} {N N':List Str} (hc:X.calm=true) (hN:X.N=N) (Mi:X.env.scope=so) (S:fF N so N' scope k fr)
  (hi:PI X target iter wi) (hg:∀cl C s H ex,PG (md X N' scope cl C s H ex) target g) (ht:∀cl C s H ex,HP (md X N' scope cl C s H ex) ifs tc) (he:∀cl C s H ex,PE (md X N' scope cl C s H ex) elt te)
  (hs:∀x,foldedSetIterable iter X.env x=pure x:=by intro _;rfl):PE X (.ListComp elt [⟨target,iter,ifs,0⟩] scope pos) (tComp wi g tc te k fr):=by
 subst hN Mi;intro pins s σ H Q I h;rw[eval_ListComp];obtain⟨cl,gq,c1,c2,c3⟩:=hV (env:=X.env) (scope:=scope) λn hn=>I.ok.has n (S.outer _ hn rfl);refine wpAny_comprehension_free (use:=none) (cl:=cl) rfl hs gq S.kind S.locs ?_;refine cU (hi pins s σ H _ I h) λv s1 h1=>cU h1 λFT s2 h2=>?_;obtain⟨it,fp,tn,J,H2,rfl,I2,T,yO,f2,hb⟩:=h2;refine uT (RR:=λacc C=>compPost (model X.prog X.w) X.A X.xe none (EP X pins σ Q) acc C) hc S c1 c2 (λx c m=>⟨x,(c3 x c m).1⟩) (λx hx c m=>(S.Gj _ hx rfl).2 (c3 x c m).2) (XE:=λ_ _ _ _ _ _ _=>False) hg ht he I2 T yO f2 hb ?_ (λ_ _ _ _ _ z=>False.elim z);intro C s' m ys bE n H' hC hn vl sz hD nD nC fin os bare un bT;exact⟨m,hn,λh' Gq=>⟨.ref _,_,comp_back I2 f2 hC vl sz hD nD nC os bare un bT Gq,rfl,fin _ (I2.bT.fresh (aam _)) nD⟩⟩
theorem Ay {elt target iter:Expr} {ifs:List Expr} {scope so:Scope} {pos Mj py:Pos} {wi:TI} {g:TG} {tc:TT} {te:TE} {k:Nat} {fr:List Nat} {N N':List Str} {y:Str} {i:Nat} (hc:X.calm=true) (hN:X.N.Nodup) (hy:X.N[i]?=some y) (hl:X.env.scope.names.lookup y=some .local)
  (hNN:X.N=N) (Mi:X.env.scope=so) (S:fF N so N' scope k fr)
  (hi:PI X target iter wi) (hg:∀cl C s H ex,PG (md X N' scope cl C s H ex) target g) (ht:∀cl C s H ex,HP (md X N' scope cl C s H ex) ifs tc) (he:∀cl C s H ex,PE (md X N' scope cl C s H ex) elt te)
  (hsw:swapsWith (.ListComp elt [⟨target,iter,ifs,0⟩] scope pos) (some (.Name y py)) Mj.line X.env=pure true:=by rfl)
  (hs:∀x,foldedSetIterable iter X.env x=pure x:=by intro _;rfl):PS X (.Assign [.Name y py] (.ListComp elt [⟨target,iter,ifs,0⟩] scope pos) Mj) (tAsg (tComp wi g tc te k fr) (gName i)):=by
 subst hNN Mi;intro pins s σ H D I h;rw[exec_Assign_Name_used _ _ _ _ hsw];obtain⟨cl,gq,c1,c2,c3⟩:=hV (env:=X.env) (scope:=scope) λn hn=>I.ok.has n (S.outer _ hn rfl);refine wpAny_bind (wpAny_standAt (wpAny_bind ?_));show wpAny _ X.A (do let _ <-comprehension (.ListComp elt [⟨target,iter,ifs,0⟩] scope pos) scope X.env _ (newList []) false (eval iter X.env) (some (assign (.Name y py) X.env))) _ _ s;refine wpAny_bind (wpAny_mono (wpAny_comprehension_free (use:=some (assign (.Name y py) X.env)) (Q:=λ_ s'=>SP X pins D .next s') (cl:=cl) rfl hs gq S.kind S.locs ?_) (λ_ s' hq=>wpAny_pure (wpAny_pure hq)) λ_ _ e=>e);refine cU (hi pins s σ H _ I h) λv s1 h1=>cU h1 λFT s2 h2=>?_;obtain⟨it,fp,tn,J,H2,rfl,I2,T,yO,f2,hb⟩:=h2;refine uT (RR:=λacc C=>compPost (model X.prog X.w) X.A X.xe (some (assign (.Name y py) X.env)) (λ_ s'=>SP X pins D .next s') acc C) hc S c1 c2 (λx c m=>⟨x,(c3 x c m).1⟩) (λx hx c m=>(S.Gj _ hx rfl).2 (c3 x c m).2) (XE:=λ_ _ _ _ _ _ _=>False) hg ht he I2 T yO f2 hb ?_ (λ_ _ _ _ _ z=>False.elim z);intro C s' m ys bE n H' hC hn vl sz hD nD nC fin os bare un bT;have I3:Inv X pins σ (upd H' s2.heap.objs.size (.lst ys)) s':=comp_back (h':=s'.heap) I2 f2 hC vl sz hD nD nC os bare un bT (.refl ..);refine wpAny_assign_Name (uF (v:=.ref s2.heap.objs.size) I3 hN hy (.inl hl) rfl (λs4 I4 ch=>?_) (.inr hl));have Xz:X.env.locals<s2.heap.objs.size:=I2.lt;obtain⟨a,uU,ha⟩:=ch;have aC:a≠C:=by
  rcases ha with rfl | ha
  ·exact aas (aaT Xz hC)
  ·obtain⟨v,q⟩:=I2.cell _ _ ha;exact aas (aaT q.lt hC)
 refine⟨m,hn.sameBut uU (Ne.symm aC),λh' Gq=>⟨_,_,?_,fin _ (I2.bT.fresh (aam _)) nD⟩⟩;have O1:(upd H' s2.heap.objs.size (.lst ys)) C=none:=by rw[aA (Nat.ne_of_gt hC)];exact nC
 exact I4.turned (t':=s4.toks) (it:=C) (h':=h') (λb o hb e=>(Gq.2 b hb).trans e) O1 (Nat.ne_of_gt (aaT Xz hC)) (.inr (aay I2.sz (Nat.le_of_lt hC))) (λx c e z=>by
  obtain⟨v,q⟩:=I2.cell x c e;exact absurd (aaT q.lt hC) (by rw[z];exact aaK _)) (λp hp z=>by
  have:=abt (I2.pin p hp).1
  rw[z] at this;exact absurd (aaT this hC) (aaK _))
end
structure Src (J:It) (Ok:Hp->Prop) (n:Nat) (Item:Nat->V->Hp->Hp->Prop):Prop where
 go:∀i H,i<n->Ok H->J.go i H
 yB:∀i H x H3,i<n->Ok H->J.yB i H x H3->Item i x H H3
 stop:∀H,Ok H->J.stop n H
theorem src_list {K:abg} {a:Addr} {xs:List V} {Ok:Hp->Prop} (h:∀H,Ok H->bH K H a xs):Src (Je K a) Ok xs.length (λi x H H3=>H3=H/\xs[i]?=some x) where
 go:=λi H hi ok=>⟨xs,xs[i],h H ok,by simp [hi]⟩
 yB:=λi H x H3 hi ok ⟨e,y⟩=>⟨e,y xs (h H ok)⟩
 stop:=λH ok=>⟨xs,h H ok,aam _⟩
theorem Gr {K:abg} {a:Addr} {xs:List V} {Ok:Hp->Prop} (h:∀H,Ok H->gP K H a xs):Src (P5 K a) Ok xs.length (λi x H H3=>H3=H/\xs[i]?=some x) where
 go:=λi H hi ok=>⟨xs,xs[i],h H ok,by simp [hi]⟩
 yB:=λi H x H3 hi ok ⟨e,y⟩=>⟨e,y xs (h H ok)⟩
 stop:=λH ok=>⟨xs,h H ok,aam _⟩
theorem src_range {lo:Int} {n:Nat} {Ok:Hp->Prop}:Src (LS lo n) Ok n (λi x H H3=>H3=H/\x=.int (lo+i)) where
 go:=λ_ _ hi _=>hi
 yB:=λ_ _ _ _ _ _ y=>y
 stop:=λ_ _=>aam _
theorem oM {J:It} {g:TG} {tc:TT} {te:TE} {σ0:St} {H1:Hp} {fin:List V->Hp->Prop} {n:Nat} {Item:Nat->V->Hp->Hp->Prop} (S:Src J (aB H1) n Item) (JK:St->Prop) (h0:JK σ0) (P:Nat->List V->Hp->Prop) (p0:P 0 [] H1) (hz:n<=sizeLine)
  (hs:∀i x σ H ys H3 (Q:St->V->Hp->Prop) (N:St->Hp->Prop),i<n->aB H1 H->P i ys H->ys.length<=i->JK σ->Item i x H H3->
   (∀σ3 y H6,JK σ3->aB H1 H6->P (i+1) (ys++ [y]) H6->Q σ3 y H6)->(∀σ3 H5,JK σ3->aB H1 H5->P (i+1) ys H5->N σ3 H5)->
   g x σ H3 λσ3 H4=>tc σ3 H4 λb H5=>if b=true then te σ3 H5 λy H6=>Q σ3 y H6 else N σ3 H5)
  (oN:∀ys H,aB H1 H->P n ys H->ys.length<=n->fin ys H):hX J g tc te σ0 H1 fin:=by
 refine⟨λi m ys σ H=>m=n - i/\i<=n/\ys.length<=i/\JK σ/\aB H1 H/\P i ys H,⟨n,by simp,aap _,aam _,h0,aB.refl _,p0⟩,?_⟩;rintro i m ys σ H ⟨rfl,hi,hl,ow,sm,p⟩;by_cases gC:i<n
 ·refine .inr ⟨S.go i H gC sm,λx H3 y=>hs i x σ H ys H3 (λσ3 y H6=>ys.length<sizeLine/\∃m',m'<n - i/\m'=n - (i+1)/\i+1<=n/\(ys++ [y]).length<=i+1/\JK σ3/\aB H1 H6/\P (i+1) (ys++ [y]) H6)
   (λσ3 H5=>∃m',m'<n - i/\m'=n - (i+1)/\i+1<=n/\ys.length<=i+1/\JK σ3/\aB H1 H5/\P (i+1) ys H5) gC sm p hl ow (S.yB i H x H3 gC sm y) (λσ3 y H6 o s6 q=>?_) (λσ3 H5 o s5 q=>?_)⟩
  ·exact⟨by lia,n - (i+1),by lia,rfl,gC,by rw[aaq,aaH];lia,o,s6,q⟩
  ·exact⟨n - (i+1),by lia,rfl,gC,by lia,o,s5,q⟩
 ·have e:i=n:=by lia
  subst e;exact .inl ⟨S.stop H sm,oN ys H sm p hl⟩
theorem comp_map {J:It} {te:TE} {tl:St} {H1:Hp} {fin:List V->Hp->Prop} {n:Nat} {Item:Nat->V->Hp->Hp->Prop} (S:Src J (aB H1) n Item) (sub:∀i x H H3,Item i x H H3->aB H H3) (hz:n<=sizeLine)
  (R:Nat->V->Hp->Prop) (mono:∀i y H H',aB H H'->R i y H->R i y H')
  (hs:∀i x w H H3 (Q:VK),i<n->aB H1 H->Item i x H H3->(∀y H6,aB H3 H6->R i y H6->Q y H6)->te ((w::tl).set 0 (some x)) H3 Q)
  (oN:∀ys H,aB H1 H->ys.length=n->(∀i y,ys[i]?=some y->R i y H)->fin ys H):hX J (gName 0) vE te (none::tl) H1 fin:=by
 refine⟨λi m ys σ H=>m=n - i/\i<=n/\ys.length=i/\(∃w,σ=w::tl)/\aB H1 H/\∀j y,ys[j]?=some y->R j y H,⟨n,by simp,aap _,rfl,⟨_,rfl⟩,aB.refl _,λj y e=>by simp at e⟩,?_⟩;rintro i m ys σ H ⟨rfl,hi,hl,⟨w,rfl⟩,sm,p⟩;by_cases gC:i<n
 ·refine .inr ⟨S.go i H gC sm,λx H3 y=>?_⟩;have it:=S.yB i H x H3 gC sm y;have s3:=sub i x H H3 it;unfold gName vE;refine Jy ?_;refine hs i x w H H3 _ gC sm it λy H6 s6 r=>⟨by lia,n - (i+1),by lia,rfl,gC,by rw[aaq,aaH];lia,⟨_,rfl⟩,sm.trans (s3.trans s6),λj z e=>?_⟩;by_cases hj:j<i
  ·rw[aa5 (by lia)] at e;exact mono j z _ _ (s3.trans s6) (p j z e)
  ·rw[aba (by lia)] at e;have e2:j - ys.length=0:=by
    by_cases q:j - ys.length=0
    ·exact q
    ·rw[aa3 (by simp;lia)] at e;cases e
   rw[e2] at e;simp at e;subst e
   have:j=i:=by lia
   subst this;exact r
 ·have e:i=n:=by lia
  subst e;exact .inl ⟨S.stop H sm,oN ys H sm hl p⟩
noncomputable def HQ (J:It) (g:TG) (tb:TS) (D:Ends) (σ:St) (H:Hp):Prop:=
 ∃W:Nat->Nat->St->Hp->Prop,(∃m,W 0 m σ H)/\∀i m σ H,W i m σ H->
  (J.stop i H/\D.nx σ H)\/(J.go i H/\∃N:St->Hp->Prop,(∀σ' H',N σ' H'->∃m',m'<m/\W (i+1) m' σ' H')/\∀x H',J.yB i H x H'->g x σ H' λσ2 H2=>tb {D with nx:=N,ct:=N,bk:=D.nx} σ2 H2)
theorem tFor_eq {wi:TI} {g:TG} {tb:TS} {D:Ends} {σ:St} {H:Hp}:LV wi g tb D σ H=wi σ H λJ H1=>HQ J g tb D σ H1:=rfl
theorem b9 {J:It} {g:TG} {tb:TS} {D:Ends} {σ:St} {H:Hp} {n:Nat} {Item:Nat->V->Hp->Hp->Prop} {Ok:Hp->Prop} (S:Src J Ok n Item) (Pv:Nat->St->Hp->Prop) (h0:Pv 0 σ H) (bT:∀i σ H,i<=n->Pv i σ H->Ok H)
  (hs:∀i x σ H H3,i<n->Pv i σ H->Item i x H H3->g x σ H3 λσ2 H2=>tb {D with nx:=Pv (i+1),ct:=Pv (i+1),bk:=D.nx} σ2 H2) (hd:∀σ H,Pv n σ H->D.nx σ H):HQ J g tb D σ H:=by
 refine⟨λi m σ H=>m=n - i/\i<=n/\Pv i σ H,⟨n,by simp,aap _,h0⟩,?_⟩;rintro i m σ H ⟨rfl,hi,p⟩;by_cases gC:i<n
 ·exact .inr ⟨S.go i H gC (bT i σ H hi p),Pv (i+1),λσ' H' p'=>⟨n - (i+1),by lia,rfl,gC,p'⟩,λx H' y=>hs i x σ H H' gC p (S.yB i H x H' gC (bT i σ H hi p) y)⟩
 ·have e:i=n:=by lia
  subst e;exact .inl ⟨S.stop H (bT i σ H hi p),hd σ H p⟩
theorem iu {K:abg} {J:It} {te:TE} {tl:St} {H1:Hp} {fin:List V->Hp->Prop} {n:Nat} {Item:Nat->V->Hp->Hp->Prop} (S:Src J (aB H1) n Item) (Ml:Nat->V->V->Hp->Prop)
  (tp:∀i x H H3,i<n->aB H1 H->Item i x H H3->aB H H3/\∃p a b,x=.ref p/\gP K H3 p [a,b]/\Ml i a b H3) (hz:n<=sizeLine)
  (R:Nat->V->Hp->Prop) (mono:∀i y H H',aB H H'->R i y H->R i y H')
  (hs:∀i a b H3 (Q:VK),i<n->aB H1 H3->Ml i a b H3->(∀y H6,aB H3 H6->R i y H6->Q y H6)->te (some a::some b::tl) H3 Q)
  (oN:∀ys H,aB H1 H->ys.length=n->(∀(i:Nat) y,ys[i]?=some y->R i y H)->fin ys H):hX J (FR K 2 (gCons (gName 0) (gCons (gName 1) gNil))) vE te (none::none::tl) H1 fin:=by
 refine⟨λi m ys σ H=>m=n - i/\i<=n/\ys.length=i/\(∃w w',σ=w::w'::tl)/\aB H1 H/\∀(j:Nat) y,ys[j]?=some y->R j y H,⟨n,by simp,aap _,rfl,⟨_,_,rfl⟩,aB.refl _,λj y e=>by simp at e⟩,?_⟩;rintro i m ys σ H ⟨rfl,hi,hl,⟨w,w',rfl⟩,sm,p⟩;by_cases gC:i<n
 ·refine .inr ⟨S.go i H gC sm,λx H3 y=>?_⟩;obtain⟨s3,q,a,b,rfl,sq,it⟩:=tp i x H H3 gC sm (S.yB i H x H3 gC sm y);refine⟨q,_,rfl,sq,rfl,_,_,rfl,_,_,rfl,rfl,?_⟩;unfold vE;refine Jy ?_;refine hs i a b H3 _ gC (sm.trans s3) it λy H6 s6 r=>⟨by lia,n - (i+1),by lia,rfl,gC,by rw[aaq,aaH];lia,⟨_,_,rfl⟩,sm.trans (s3.trans s6),λj z e=>?_⟩;by_cases hj:j<i
  ·rw[aa5 (by lia)] at e;exact mono j z _ _ (s3.trans s6) (p j z e)
  ·rw[aba (by lia)] at e;have e2:j - ys.length=0:=by
    by_cases q:j - ys.length=0
    ·exact q
    ·rw[aa3 (by simp;lia)] at e;cases e
   rw[e2] at e;simp at e;subst e
   have:j=i:=by lia
   subst this;exact r
 ·have e:i=n:=by lia
  subst e;exact .inl ⟨S.stop H sm,oN ys H sm hl p⟩
end L2
namespace L2
open PySem PySem.Spec PyProof.Rows
section
variable {X : Cx} {pins : List (Addr × Obj)} {σ : St} {H : Hp} {s : Shared}
theorem Inv.moved {h':Heap} {t':Nat} {ch:List Addr} (I:Inv X pins σ H s) (f:∀b∈ch,ke X pins H b) (k:∀b o,b∉ch->s.heap.get? b=some o->h'.get? b=some o):Inv X pins σ H {s with heap:=h',toks:=t'}:=by
 have HA:∀b u,H b=some u->b∉ch:=λb u e z=>by rw[(f b z).1] at e;cases e
 refine I.step (g':=s.gens) (d':=s.drawn) (ch:=ch) (λb hb=>⟨(f b hb).2.2.2.1,(f b hb).2.1,(f b hb).2.2.2.2.1,(f b hb).2.2.2.2.2⟩) (λb o _ _ hc e _=>k b o hc e) (λb o _ _ hc e _=>⟨o.slots,k b o hc e⟩) (λ_ _ _ _ n=>n)
  (λb o hc e=>⟨o,k b o hc e⟩) (λ_ _ e=>e) (λ_ _ _ e=>e) (λb ps e=>⟨#[],by rw[e];simp⟩) (λm hm=>?_) (λb u e=>?_) I.bare
 ·obtain⟨o,es,ep,ho,r⟩:=hm;exact⟨o,es,ep,k _ o (λz=>(f _ z).2.1 rfl) ho,r⟩
 ·refine(I.bT b u e).rJ (λc v hc q=>k c v ?_ q) (λ_ q=>q) λ_ _ q=>q;rcases hc with z | z
  ·rw[z];exact HA b u e
  ·exact HA c _ z
theorem Inv.take {ad:Addr} {o:HO} (I:Inv X pins σ H s) (f:ke X pins H ad) (new:X.s₀.heap.objs.size<=ad) (ok:cS X.prog X.w (upd H ad o) s.heap ad o):Inv X pins σ (upd H ad o) s:=by
 obtain⟨hn,nL,nf,_,nc,np⟩:=f;have tk:∀b u,H b=some u->b≠ad:=λb u e z=>by rw[z,hn] at e;cases e
 refine⟨I.ok,I.os,I.bare,⟨I.base.keep,I.base.slot,λb ob e m hx=>?_,I.base.there,λb xs e=>?_,λb ob u e=>?_,λb ps e=>?_⟩,I.loc,I.cell,?_,λx c e=>?_,λp hp=>?_,λb u e=>?_,I.len⟩
 ·rw[aA (aas (aaC (abt e) new))];exact I.base.free b ob e m hx
 ·have q:=I.base.ij b xs e;rw[aA (tk b _ q)];exact q
 ·have q:=I.base.hU b ob u e;rw[aA (tk b _ q)];exact q
 ·obtain⟨mo,q⟩:=I.base.iN b ps e;exact⟨mo,by rw[aA (tk b _ q)];exact q⟩
 ·rw[aA (Ne.symm nL)];exact I.free
 ·rw[aA (nc x c e)];exact I.gz x c e
 ·obtain⟨a,b,c⟩:=I.pin p hp;exact⟨a,by rw[aA (np p hp)];exact b,c⟩
 ·by_cases hb:b=ad
  ·subst hb;rw[aj] at e;cases e;exact ok
  ·rw[aA hb] at e;exact(I.bT b u e).rJ (λ_ _ _ q=>q) (λc r=>by rw[aA (tk _ _ r)];exact r) λc xs r=>by rw[aA (tk _ _ r)];exact r
end
noncomputable def Itz (K:abg) (a b:Addr):It:=
 ⟨λi H=>∃xs ys x y,bH K H a xs/\bH K H b ys/\xs[i]?=some x/\ys[i]?=some y,
  λi H v H'=>∃p,H p=none/\v=.ref p/\∃x y,(∀xs,bH K H a xs->xs[i]?=some x)/\(∀ys,bH K H b ys->ys[i]?=some y)/\H'=upd H p (.tup [x,y]),
  λi H=>∃xs ys,bH K H a xs/\bH K H b ys/\(i=min xs.length ys.length)⟩
noncomputable def Qt (K:abg) (a:Addr):It:=
 ⟨λi H=>∃xs x,bH K H a xs/\xs[i]?=some x,
  λi H v H'=>∃p,H p=none/\v=.ref p/\∃x,(∀xs,bH K H a xs->xs[i]?=some x)/\H'=upd H p (.tup [.int i,x]),
  λi H=>∃xs,bH K H a xs/\xs.length=i⟩
theorem BQ {P:Program} {w:World} {K:abg} {elts:List Expr} {k:Nat} {pos:Pos} (e it a:Addr) (XA:e≠it) (hle:a≠e) (XB:a≠it):
  Turn P w K (.Tuple elts k pos) (Qt K a) [e,it] e (λi h=>(∃old,IsEnum h e it i old)/\h.IsListIter it a i) where
 mem:=by simp
 obj:=λi h st c hc=>by
  obtain⟨⟨old,he⟩,⟨o1,e1,_,d1⟩⟩:=st;simp only[aaR,aa9,or_false] at hc;rcases hc with rfl | rfl
  ·exact⟨_,he,λv q=>by cases q⟩
  ·exact⟨_,e1,λv q=>by rw[d1] at q;cases q⟩
 keep:=λi h h' st kp=>by
  obtain⟨⟨old,he⟩,h1⟩:=st;exact⟨⟨old,kp e (by simp) _ he⟩,h1.at λo q=>kp it (by simp) o q⟩
 item:=by
  intro X hP hw hK hc i pins s σ H E I hf st hg;subst hP hw hK;obtain⟨xs,x,Fs,hx⟩:=hg;obtain⟨zf,r1,p1,z1⟩:=I.list Fs;obtain⟨u,eu,ru⟩:=r1.get hx;obtain⟨he,h1⟩:=st;have W:=WalksT.enumerate (prog:=X.prog) (w:=X.w) (I.ok.hd hc) e it a XA hle XB zf.toArray;have li:i<zf.toArray.size:=by
   have a1:=(abn.mp eu).1;simp only[aax];lia
  refine W.item i s _ _ li ⟨he,h1,p1.isList⟩ λT vals h' tk hpt hT hI hm kk=>?_;have I1:Inv X pins σ H {s with heap:=h',toks:=tk}:=I.moved (ch:=[e,it]) hf kk;have fT:ke X pins H T:=I.CP hT (I.bT.fresh hT);refine⟨_,rfl,W.go elts k pos i T _ _ _ hm λQu yO XC=>?_⟩;have I2:Inv X pins σ H {s with heap:=Qu,toks:=tk}:=I1.moved (s:={s with heap:=h',toks:=tk}) (t':=tk) (ch:=[e,it]) hf XC;obtain⟨t,x',ex,rfl⟩:=hpt;have LM:zf[i]?=some x':=by simpa using ex
  rw[eu] at LM;cases LM;have apT:=W.apart _ _ _ hm;obtain⟨oT,eT,cT,nT,dT⟩:=hI;have hI2:IsTup Qu T #[.int i t,u]:=⟨oT,XC _ _ apT eT,cT,nT,dT⟩;have I3:Inv X pins σ (upd H T (.tup [.int i,x])) {s with heap:=Qu,toks:=tk}:=
   I2.take fT (aay I.sz hT) ⟨by show 2<=sizeLine;decide,[.int i t,u],.cons ⟨t,rfl⟩ (.cons ru .nil),hI2⟩
  obtain⟨b1,b2,_⟩:=yO;refine⟨.ref T,_,I3,rfl,⟨T,fT.1,rfl,x,λFt q=>?_,rfl⟩,⟨b1,b2⟩,λc hc=>?_⟩
  ·rw[I.w6 q Fs];exact hx
  ·rw[aA (λq=>?_)]
   ·exact(hf c hc).1
   ·subst q;obtain⟨o,e,_⟩:∃o,s.heap.get? c=some o/\True:=by
     simp only[aaR,aa9,or_false] at hc;obtain⟨old,he⟩:=he;obtain⟨o1,e1,_⟩:=h1;rcases hc with rfl | rfl
     ·exact⟨_,he,trivial⟩
     ·exact⟨_,e1,trivial⟩
    exact absurd (abt e) (Nat.not_lt.mpr hT)
 done:=by
  intro X hP hw hK hc i pins s σ H E I hf st hg;subst hP hw hK;obtain⟨xs,Fs,hi⟩:=hg;obtain⟨zf,r1,p1,z1⟩:=I.list Fs;obtain⟨he,h1⟩:=st;have W:=WalksT.enumerate (prog:=X.prog) (w:=X.w) (I.ok.hd hc) e it a XA hle XB zf.toArray;have l1:=r1.length;have e:i=zf.toArray.size:=by simp only[aax];lia
  subst e;exact W.done s _ _ ⟨he,h1,p1.isList⟩ λh' tk kk=>⟨rfl,I.moved (ch:=[_,it]) hf kk⟩
 self:=λ_ _ _ _ _ st h=>by
  obtain⟨⟨old,he⟩,_⟩:=st;exact wpAny_pyIter_enum he h
section
variable {X : Cx} {elts : List Expr} {kk : Nat} {t9 : Pos}
noncomputable def iEnum (K:abg) (ta:TA):TI:=λσ H R=>ta σ H λvs H1=>∃a,vs=[.ref a]/\(∃xs,bH K H1 a xs)/\R (Qt K a) H1
theorem vF {a:Expr} {ta:TA} {p pos:Pos} (hg:Gl X "enumerate") (hm:X.mg "enumerate"=none) (ha:PA X [a] ta) (hs:starEach [a] X.env=[(false,eval a X.env)]:=by rfl):
  PI X (.Tuple elts kk t9) (.Call (.Name "enumerate" p) [a] [] pos) (iEnum X.K ta):=by
 intro pins s σ H R I h;refine Call_ (ji I hg hm rfl (PyProof.Rows.callWith_type1 (cU (ha pos pins s σ H _ I h) λus s1 dX=>?_) hs rfl));obtain⟨vs,H1,I1,r1,q1⟩:=dX;obtain⟨a,e,⟨xs,q1⟩,q⟩:=q1;subst e;obtain⟨u,rfl,ra⟩:=vals1 r1;cases ra;obtain⟨zf,v1,p1,z1⟩:=I1.list q1;refine call_enumerate_list p1.isList λh' b1 b2 b3 kp=>?_;refine wpAny_pyIter_enum b1 ?_;have I2:Inv X pins σ H1 {s1 with heap:=h'}:=I1.kept (t':=s1.toks) kp;have la:a<s1.heap.objs.size:=by obtain⟨o,e,_⟩:=p1.isList;exact abt e
 refine⟨s1.heap.objs.size+1,[s1.heap.objs.size+1,s1.heap.objs.size],_,_,H1,rfl,I2,
  BQ (s1.heap.objs.size+1) s1.heap.objs.size a (Nat.ne_of_gt (aaZ _)) (aas (Nat.lt_succ_of_lt la)) (aas la),⟨⟨_,b1⟩,b2⟩,λc hc=>?_,q⟩
 have XD:s1.heap.objs.size<=c:=by
  simp only[aaR,aa9,or_false] at hc;rcases hc with rfl | rfl <;>lia
 exact I1.CP XD (I1.bT.fresh XD)
end
theorem Dw {K:abg} {a:Addr} {xs:List V} {Ok:Hp->Prop} (h1:∀H,Ok H->bH K H a xs):
  Src (Qt K a) Ok xs.length (λi v H H3=>∃p x,H p=none/\v=.ref p/\xs[i]?=some x/\H3=upd H p (.tup [.int i,x])) where
 go:=λi H hi ok=>⟨xs,xs[i],h1 H ok,by simp [hi]⟩
 yB:=λi H x H3 hi ok ⟨p,n,e,u,e1,e3⟩=>⟨p,u,n,e,e1 xs (h1 H ok),e3⟩
 stop:=λH ok=>⟨xs,h1 H ok,rfl⟩
end L2
namespace L2
open PySem PySem.Spec PyProof.Rows
inductive Dat where
 | dI | bl (b:Bool) | int (i:Int) | str (x:Str) | tup (l:List Dat) | lst (l:List Dat)
mutual
noncomputable def Rep (H:Hp):Dat->V->Prop
 | .dI,v=>v=.dI
 | .bl b,v=>v=.bl b
 | .int i,v=>v=.int i
 | .str x,v=>v=.str x
 | .tup ds,v=>∃p vs,v=.ref p/\H p=some (.tup vs)/\bq H ds vs
 | .lst ds,v=>∃p vs,v=.ref p/\H p=some (.lst vs)/\bq H ds vs
noncomputable def bq (H:Hp):List Dat->List V->Prop
 | [],vs=>vs=[]
 | d::ds,vs=>∃v r,vs=v::r/\Rep H d v/\bq H ds r
end
mutual
theorem Rep.mono {H H':Hp} (s:aB H H'):∀{d:Dat} {v:V},Rep H d v->Rep H' d v
 | .dI,_,h=>by rw[Rep] at *;exact h
 | .bl _,_,h=>by rw[Rep] at *;exact h
 | .int _,_,h=>by rw[Rep] at *;exact h
 | .str _,_,h=>by rw[Rep] at *;exact h
 | .tup _,_,h=>by
  rw[Rep] at *;obtain⟨p,vs,e,hp,r⟩:=h;exact⟨p,vs,e,s _ _ hp,bq.mono s r⟩
 | .lst _,_,h=>by
  rw[Rep] at *;obtain⟨p,vs,e,hp,r⟩:=h;exact⟨p,vs,e,s _ _ hp,bq.mono s r⟩
theorem bq.mono {H H':Hp} (s:aB H H'):∀{ds:List Dat} {vs:List V},bq H ds vs->bq H' ds vs
 | [],_,h=>by rw[bq] at *;exact h
 | _::_,_,h=>by
  rw[bq] at *;obtain⟨v,r,e,h1,h2⟩:=h;exact⟨v,r,e,Rep.mono s h1,bq.mono s h2⟩
end
theorem bq.length {H:Hp}:∀{ds:List Dat} {vs:List V},bq H ds vs->ds.length=vs.length
 | [],_,h=>by rw[bq] at h;subst h;rfl
 | _::_,_,h=>by
  rw[bq] at h;obtain⟨v,r,rfl,_,h2⟩:=h;simp [h2.length]
theorem bq.get {H:Hp}:∀{ds:List Dat} {vs:List V} {i:Nat} {v:V},bq H ds vs->vs[i]?=some v->∃d,ds[i]?=some d/\Rep H d v
 | [],_,i,v,h,e=>by rw[bq] at h;subst h;simp at e
 | d::ds,_,i,v,h,e=>by
  rw[bq] at h;obtain⟨v',r,rfl,h1,h2⟩:=h;cases i with
  | zero=>simp at e;subst e;exact⟨d,rfl,h1⟩
  | succ i=>simp at e;obtain⟨d',e',r'⟩:=h2.get e;exact⟨d',by simpa using e',r'⟩
theorem bq.at {H:Hp}:∀{ds:List Dat} {vs:List V} {i:Nat} {d:Dat},bq H ds vs->ds[i]?=some d->∃v,vs[i]?=some v/\Rep H d v
 | [],_,i,v,h,e=>by simp at e
 | d::ds,_,i,d',h,e=>by
  rw[bq] at h;obtain⟨v',r,rfl,h1,h2⟩:=h;cases i with
  | zero=>simp at e;subst e;exact⟨v',rfl,h1⟩
  | succ i=>simp at e;obtain⟨v,e',r'⟩:=h2.at e;exact⟨v,by simpa using e',r'⟩
theorem bq.of {H:Hp}:∀{ds:List Dat} {vs:List V},ds.length=vs.length->(∀(i:Nat) d v,ds[i]?=some d->vs[i]?=some v->Rep H d v)->bq H ds vs
 | [],[],_,_=>by rw[bq]
 | [],_::_,h,_=>by simp at h
 | _::_,[],h,_=>by simp at h
 | d::ds,v::vs,h,k=>by
  rw[bq];exact⟨v,vs,rfl,k 0 d v rfl rfl,bq.of (by simpa using h) λi d' v' e1 e2=>k (i+1) d' v' (by simpa using e1) (by simpa using e2)⟩
theorem bq.append {H:Hp}:∀{as bs:List Dat} {us vs:List V},bq H as us->bq H bs vs->bq H (as++bs) (us++vs)
 | [],_,_,_,h,k=>by rw[bq] at h;subst h;exact k
 | _::_,_,_,_,h,k=>by
  rw[bq] at h;obtain⟨v,r,rfl,h1,h2⟩:=h;show bq H (_::(_++_)) (_::(_++_));rw[bq];exact⟨_,_,rfl,h1,h2.append k⟩
theorem bq.ints {H:Hp}:∀(ns:List Int),bq H (ns.map Dat.int) (ns.map V.int)
 | []=>by simp only[aaO];rw[bq]
 | n::ns=>by
  simp only[aan];rw[bq];exact⟨_,_,rfl,by rw[Rep],bq.ints ns⟩
noncomputable def depth:Dat->Nat
 | .tup l=>1+dL l
 | .lst l=>1+dL l
 | _=>0
where dL:List Dat->Nat
 | []=>0
 | d::ds=>max (depth d) (dL ds)
section
variable {X : Cx} {pins : List (Addr × Obj)} {σ : St} {H : Hp} {s : Shared}
end
section
variable {X : Cx}
end
end L2
namespace Nm
noncomputable def ins (x:Int):List Int->List Int
 | []=>[x]
 | y::r=>if x<=y then x::y::r else y::ins x r
noncomputable def vG:List Int->List Int
 | []=>[]
 | x::r=>ins x (vG r)
theorem rV (x:Int):∀l,(ins x l).Perm (x::l)
 | []=>.refl _
 | y::r=>by
  unfold ins;split
  ·exact .refl _
  ·exact((rV x r).cons y).trans (.swap ..)
theorem nh:∀l,(vG l).Perm l
 | []=>.refl _
 | x::r=>(rV x _).trans ((nh r).cons x)
set_option tactic.hygienic true in
theorem Az (x:Int):∀l:List Int,l.Pairwise (·<=·)->(ins x l).Pairwise (·<=·)
 | [],_=>by unfold ins;simp
 | y::r,h=>by
  unfold ins;rw[List.pairwise_cons] at h;split
  ·rename_i c;rw[List.pairwise_cons,List.pairwise_cons];refine⟨λz hz=>?_,h.1,h.2⟩;rcases aaR.mp hz with rfl | hz
   ·exact c
   ·have:=h.1 z hz;lia
  ·rename_i c;rw[List.pairwise_cons];refine⟨λz hz=>?_,Az x r h.2⟩;rcases aaR.mp ((rV x r).mem_iff.mp hz) with rfl | hz
   ·lia
   ·exact h.1 z hz
theorem AA:∀l:List Int,(vG l).Pairwise (·<=·)
 | []=>by unfold vG;simp
 | x::r=>Az x _ (AA r)
theorem iS (l:List Int):(vG l).length=l.length:=(nh l).length_eq
theorem AB:∀{a b:List Int},a.Perm b->a.Pairwise (·<=·)->b.Pairwise (·<=·)->a=b
 | [],b,p,_,_=>by simpa using p.symm.eq_nil
 | x::a,[],p,_,_=>by simpa using p.eq_nil
 | x::a,y::b,p,ha,hb=>by
  rw[List.pairwise_cons] at ha hb;have e:x=y:=by
   have h1:y∈x::a:=p.mem_iff.mpr aaz;have h2:x∈y::b:=p.mem_iff.mp aaz;rcases aaR.mp h1 with h1 | h1
   ·exact h1.symm
   ·rcases aaR.mp h2 with h2 | h2
    ·exact h2
    ·have:=ha.1 y h1
     have:=hb.1 x h2
     lia
  subst e;rw[AB ((List.perm_cons x).mp p) ha.2 hb.2]
theorem vH {a b:List Int} (p:a.Perm b) (o:a.Pairwise (·<=·)):a=vG b:=AB (p.trans (nh b).symm) o (AA b)
theorem Gs {a:Int} {l:List Int}:a∈vG l↔a∈l:=(nh l).mem_iff
end Nm
namespace L2
open PySem PySem.Spec PyProof.Rows PySem.W
section
variable {X : Cx}
theorem zg {us:List Value} {ns:List Int} (h:IntsAre us ns):∃xs,us.toArray=intItems xs/\preSum (numAt xs) xs.size=ns.sum:=by
 obtain⟨xs,hx⟩:=h.allInts.items;refine⟨xs,hx,?_⟩;have e1:ns=xs.toList.map (·.1):=by
  rw[<-nums_intItems,<-hx];exact h.numsOf.symm
 rw[preSum_eq,aaA (by simp),e1]
theorem zh (hc:X.calm=true):dh X (.builtin "sum") (λxs H Q=>∃p ns,xs=[.ref p]/\bH X.K H p (List.map V.int ns)/\Q (.int ns.sum) H):=by
 intro pins s σ H xs us Q I r h;obtain⟨p,ns,rfl,hq,q⟩:=h;obtain⟨u,rfl,rx⟩:=vals1 r;cases rx;obtain⟨bE,rv,pl,hz⟩:=I.list hq;obtain⟨ys,e1,e2⟩:=zg (intsAre_of rv);have hl:=pl.isList;rw[e1] at hl;refine sum_intListG (I.ok.hd hc) hl λh' tk t' hk=>⟨.int ns.sum,H,I.kept (t':=tk) hk,⟨t',?_⟩,q⟩;rw[e2]
theorem iT {us:List Value} {ns:List Int} (h:IntsAre us ns):bJ (ns.map V.int) us:=by
 induction h with
 | nil=>exact .nil
 | cons n t _ ih=>exact .cons ⟨t,rfl⟩ ih
theorem ud:dh X (.builtin "sorted") (λxs H Q=>∃p ns,xs=[.ref p]/\bH X.K H p (List.map V.int ns)/\ns.length<64/\∀l,H l=none->Q (.ref l) (upd H l (.lst (List.map V.int (Nm.vG ns))))):=by
 intro pins s σ H xs us Q I r h;obtain⟨p,ns,rfl,hq,hn,q⟩:=h;obtain⟨u,rfl,rx⟩:=vals1 r;cases rx;obtain⟨bE,rv,pl,hz⟩:=I.list hq;have hl:=rv.length;rw[aak] at hl;refine sorted_ints pl.isList (intsAre_of rv) (by lia) λout Mm a1 a2 a3=>?_;obtain rfl:=Nm.vH a2 a3;obtain⟨e,he⟩:=sortedAll_at s.heap bE out;have fr:=I.bT.fresh (a:=s.heap.objs.size+1) (Nat.le_succ _);refine⟨.ref (s.heap.objs.size+1),_,I.laid (t':=s.toks) (λ_ _=>sortedAll_old) (Nat.le_succ _) (o:=.lst (List.map V.int (Nm.vG ns))) ⟨?_,out.toList,e,iT a1,?_⟩,rfl,q _ fr⟩
 ·rw[aak,Nm.iS,sizeLine_eq];lia
 ·exact he
noncomputable def lC (kvs:List (Key×V)):List Int:=kvs.map λp=>match p.1 with | .inl i=>i | .inr _=>0
noncomputable def allI (kvs:List (Key×V)):Prop:=∀p∈kvs,∃i,p.1=Sum.inl i
theorem ue (hc:X.calm=true):dh X (.builtin "sorted") (λxs H Q=>∃d kvs,xs=[.ref d]/\Rd H d (.dK kvs)/\allI kvs/\kvs.length<64/\∀l,H l=none->Q (.ref l) (upd H l (.lst (List.map V.int (Nm.vG (lC kvs)))))):=by
 intro pins s σ H xs us Q I r h;obtain⟨d,kvs,rfl,hd,BK,hn,q⟩:=h;obtain⟨u,rfl,rx⟩:=vals1 r;cases rx;obtain⟨hz,lo,vs,kv,dd⟩:=p8 I.bT hd;have hlen:kvs.length=vs.length:=Paired.length kv;obtain⟨ep,qV⟩:=dd.dictAt;refine Calls.call_function_entry kind_sorted plain_sorted entry_sorted (args_sorted1 _) ?_;unfold Builtin.«sorted»;refine wpAny_bind (m:=checkCount "sorted" 1 1 _) (wpAny_pure ?_);refine wpAny_bind (kdu_collect (A:=X.A.in1) (kdl_dict (kvs:=vs) (ep:=ep) lo) (I.ok.hd hc) qV (by rw[<-hlen,sizeLine_eq];lia) λh' tk acc hk Gn=>?_);have hl:acc.toList.length=vs.length:=by rw[Array.length_toList];exact Gn.1
 have hI:IntsAre acc.toList (lC kvs):=by
  have all:∀(j:Nat) v,acc.toList[j]?=some v->∃i t,v=Value.int i t/\(lC kvs)[j]?=some i:=λj v e=>by
   obtain⟨k,x,hx,hk⟩:=Gn.2 j v (by rw[<-Array.getElem?_toList];exact e);obtain⟨p,e1,e2⟩:∃p,kvs[j]?=some p/\p.1=k:=by
    have:∀{as:List (Key×V)} {bs:List (Key×Value)} (j:Nat) {b},KV as bs->bs[j]?=some b->∃a,as[j]?=some a/\a.1=b.1:=by
     intro as bs j b r;induction r generalizing j with
     | nil=>intro e;simp at e
     | cons r1 r2 ih=>
      intro e;cases j with
      | zero=>simp at e;subst e;exact⟨_,rfl,r1.1⟩
      | succ j=>simp at e;obtain⟨a,e1,e2⟩:=ih j e;exact⟨a,by simpa using e1,e2⟩
    obtain⟨a,e1,e2⟩:=this j kv hx;exact⟨a,e1,e2⟩
   obtain⟨i,hi⟩:=BK p (aar e1);rw[<-e2,hi] at hk;have hk:rH (.inl i) v=true:=hk;rcases c5 hk with ⟨i',t,e3,e4⟩ | ⟨x',t,e3,_⟩
   ·cases e3;refine⟨i,t,e4,?_⟩;unfold lC;rw[aal,e1];simp [hi]
   ·cases e3
  have go:∀(us:List Value) (ns:List Int),us.length=ns.length->(∀(j:Nat) v,us[j]?=some v->∃i t,v=Value.int i t/\ns[j]?=some i)->IntsAre us ns:=by
   intro us;induction us with
   | nil=>intro ns hl _;cases ns with | nil=>exact .nil | cons _ _=>simp at hl
   | cons u us ih=>
    intro ns hl k;cases ns with
    | nil=>simp at hl
    | cons n ns=>
     obtain⟨i,t,rfl,e⟩:=k 0 u rfl;simp at e;subst e;exact .cons n t (ih ns (by simpa using hl) λj v e=>by
      obtain⟨i,t,e1,e2⟩:=k (j+1) v (by simpa using e);exact⟨i,t,e1,by simpa using e2⟩)
  refine go _ _ ?_ all;unfold lC;rw[aak,hl,hlen]
 refine wpAny_bind (wpAny_newList ?_ (by rw[hl,<-hlen,sizeLine_eq];lia));have LP:(h'.push (seqObj "list" acc.toList.toArray 0)).get? h'.objs.size=some (seqObj "list" acc.toList.toArray 0):=abr _ rfl;have I1:Inv X pins σ H {s with heap:=h',toks:=tk}:=I.kept (t':=tk) hk;refine wpAny_bind (wpAny_holding (wpAny_call_entry slot_list_sort ⟨_,LP,rfl⟩ entry_list_sort (list_sort_tree LP hI (by lia) λout Mm a1 a2 a3=>⟨_,rfl,?_⟩) (args_list_sort _)));obtain rfl:=Nm.vH a2 a3;obtain⟨e,he⟩:=sortedHeap_at (out:=out) LP;have fr:=I1.bT.fresh (a:=h'.objs.size) (aam _);refine wpAny_pure ⟨_,rfl,.ref h'.objs.size,_,I1.laid (t':=tk) (λb o eb=>?_) (aam _) (o:=.lst (List.map V.int (Nm.vG (lC kvs)))) ⟨?_,out.toList,e,iT a1,?_⟩,rfl,q _ fr⟩
 ·rw[sortedHeap_old (aas (abt eb)) (by rw[Heap.size_push];exact Nat.lt_succ_of_lt (abt eb))];exact abq _ eb
 ·rw[aak,Nm.iS,sizeLine_eq];unfold lC;rw[aak];lia
 ·exact he
end
section
variable {X : Cx} {pins : List (Addr × Obj)} {σ : St} {H : Hp} {s : Shared}
end
noncomputable def Itd (d:Addr) (o:Obj) (kvs:List (Key×V)):It:=
 ⟨λi H=>H d=some (.wM o (.dK kvs))/\i<kvs.length,λi H x H'=>H'=H/\∃p,kvs[i]?=some p/\x=kV p.1,λi H=>H d=some (.wM o (.dK kvs))/\i=kvs.length⟩
section
variable {X : Cx} {x : Str} {aaa : Pos}
end
end L2
namespace L2
open PySem PySem.Spec PyProof.Rows PySem.W
section
variable {X : Cx} {K : abg}
theorem bC {tg l:Expr} {tl:TE} (hl:PE X l tl) (hK:X.K=K:=by rfl):PI X tg l (iList K tl):=by subst hK;exact FV hl
theorem Gu {tg l:Expr} {tl:TE} (hl:PE X l tl) (hK:X.K=K:=by rfl):PI X tg l (iTup K tl):=by subst hK;exact Jf hl
theorem uf {elts:List Expr} {kk:Nat} {t9:Pos} {a:Expr} {ta:TA} {p pos:Pos} (hg:Gl X "enumerate") (hm:X.mg "enumerate"=none) (ha:PA X [a] ta) (n1:noStar a=true:=by rfl) (hK:X.K=K:=by rfl):
  PI X (.Tuple elts kk t9) (.Call (.Name "enumerate" p) [a] [] pos) (iEnum K ta):=by subst hK;exact vF hg hm ha (by rw[se n1];rfl)
theorem di {es:List Expr} {k:Nat} {t:HF} {n:Nat} {pos:Pos} (hc:X.calm=true) (h:K7 X es t) (hn:(assignEach es X.env).length=n:=by rfl) (hst:(assignEach es X.env).findIdx? (·.1)=none:=by rfl) (hK:X.K=K:=by rfl):PG X (.Tuple es k pos) (FR K n t):=by
 subst hK;exact Jd hc h hn hst
theorem uV (hK:X.K=K:=by rfl):HH X (Jz K):=by subst hK;exact Dh
theorem me (hK:X.K=K:=by rfl):dh X (.builtin "len") (λxs H Q=>∃p ns,xs=[.ref p]/\bH K H p (List.map V.int ns)/\Q (.int (List.length ns:Nat)) H):=by subst hK;exact BN
theorem dP (hK:X.K=K:=by rfl):dh X (.type "list") (λxs H Q=>∃p ys,xs=[.ref p]/\(bH K H p ys\/gP K H p ys)/\∀l,H l=none->Q (.ref l) (upd H l (.lst ys))):=by subst hK;exact vA
theorem rW (hK:X.K=K:=by rfl):dh X (.type "tuple") (λxs H Q=>∃p ys,xs=[.ref p]/\((bH K H p ys/\∀l,H l=none->Q (.ref l) (upd H l (.tup ys)))\/(gP K H p ys/\Q (.ref p) H))):=by subst hK;exact uc
theorem oO (hK:X.K=K:=by rfl):dh X (.builtin "isinstance") (λxs H Q=>∃x c t b,xs=[x,.ty c]/\jg K H x t/\PySem.W.kitOne K t (.type c)=some b/\Q (.bl b) H):=by subst hK;exact Di
theorem oP (hK:X.K=K:=by rfl):dh X (.builtin "isinstance") (λxs H Q=>∃ad C c v b,xs=[.ref ad,c]/\H ad=some (JE ad (.ref C))/\gB K C/\Qn c=some v/\kitOne K (.ref C) v=some b/\Q (.bl b) H):=by subst hK;exact Dv
theorem js (hc:X.calm=true:=by rfl) (hK:X.K=K:=by rfl):dh X (.builtin "sum") (λxs H Q=>∃p ns,xs=[.ref p]/\bH K H p (List.map V.int ns)/\Q (.int ns.sum) H):=by subst hK;exact zh hc
theorem rX (hK:X.K=K:=by rfl):dh X (.builtin "sorted") (λxs H Q=>∃p ns,xs=[.ref p]/\bH K H p (List.map V.int ns)/\ns.length<64/\∀l,H l=none->Q (.ref l) (upd H l (.lst (List.map V.int (Nm.vG ns))))):=by subst hK;exact ud
theorem rY (hc:X.calm=true:=by rfl):dh X (.builtin "sorted") (λxs H Q=>∃d kvs,xs=[.ref d]/\Rd H d (.dK kvs)/\allI kvs/\kvs.length<64/\∀l,H l=none->Q (.ref l) (upd H l (.lst (List.map V.int (Nm.vG (lC kvs)))))):=ue hc
theorem ni (hK:X.K=K:=by rfl):OQ X (rSlL K):=by subst hK;exact F5
theorem Jo.r {id:String} {r:V->List V->Hp->VK->Prop} (h:Jo X id r):K8 X id r:=h
end
end L2
namespace Nm
abbrev Ws:=List (Int×Int)
noncomputable def keys (ws:Ws):List Int:=ws.map (·.1)
noncomputable def look:Ws->Int->Int
 | [],_=>0
 | p::r,k=>if p.1=k then p.2 else look r k
noncomputable def put:Ws->Int->Int->Ws
 | [],k,v=>[(k,v)]
 | p::r,k,v=>if p.1=k then (k,v)::r else p::put r k v
noncomputable def rZ (ws:Ws):Int:=(ws.map (·.2)).sum
noncomputable def kf (ws:Ws) (k x:Int):Ws:=put ws k (look ws k+x)
noncomputable def aL (ws ps:Ws):Ws:=ps.foldl (λacc p=>kf acc p.1 p.2) ws
noncomputable def cnt (ps:Ws) (s:Int):Int:=(ps.map λp=>if p.1=s then p.2 else 0).sum
set_option tactic.hygienic true in
theorem xB:∀(ws:Ws) (k v j:Int),look (put ws k v) j=if k=j then v else look ws j
 | [],k,v,j=>by simp [put,look]
 | p::r,k,v,j=>by
  unfold put;split
  ·rename_i c;simp only[look];by_cases e:k=j
   ·simp [e]
   ·rw[if_neg e,if_neg e,if_neg (by lia)]
  ·rename_i c;simp only[look];by_cases e:p.1=j
   ·rw[if_pos e,if_neg (by lia),if_pos e]
   ·rw[if_neg e,if_neg e];exact xB r k v j
set_option tactic.hygienic true in
theorem AD {ws:Ws} {k v j:Int}:j∈keys (put ws k v)↔j=k\/j∈keys ws:=by
 induction ws with
 | nil=>simp [put,keys]
 | cons p r ih=>
  unfold put;split
  ·rename_i c;simp only[keys,aan,aaR];rw[c]
   constructor
   ·intro h;exact .inr h
   ·rintro(h | h)
    ·exact .inl h
    ·exact h
  ·simp only[keys,aan,aaR] at ih ⊢;rw[ih]
   constructor
   ·rintro(h | h | h)
    ·exact .inr (.inl h)
    ·exact .inl h
    ·exact .inr (.inr h)
   ·rintro(h | h | h)
    ·exact .inr (.inl h)
    ·exact .inl h
    ·exact .inr (.inr h)
set_option tactic.hygienic true in
theorem BR {ws:Ws} (k v:Int) (h:(keys ws).Nodup):(keys (put ws k v)).Nodup:=by
 induction ws with
 | nil=>simp [put,keys]
 | cons p r ih=>
  have h':p.1∉keys r/\(keys r).Nodup:=by simpa [keys] using h
  unfold put;split
  ·rename_i c
   have:k∉keys r/\(keys r).Nodup:=by rw[<-c];exact h'
   simpa [keys] using this
  ·rename_i c;have i:=ih h'.2;have n:p.1∉keys (put r k v):=λz=>by
    rcases AD.mp z with z | z
    ·exact c z
    ·exact h'.1 z
   have:p.1∉keys (put r k v)/\(keys (put r k v)).Nodup:=⟨n,i⟩
   simpa [keys] using this
theorem xC:∀(ws:Ws) (k x:Int),rZ (kf ws k x)=rZ ws+x
 | [],k,x=>by simp [kf,put,look,rZ]
 | p::r,k,x=>by
  have ih:=xC r k x;unfold kf rZ at *;unfold put look;by_cases c:p.1=k
  ·rw[if_pos c,if_pos c];simp only[aan,aa7];lia
  ·rw[if_neg c,if_neg c];simp only[aan,aa7];lia
theorem Gv (ws:Ws) (k v:Int):(put ws k v).length<=ws.length+1:=by
 induction ws with
 | nil=>simp [put]
 | cons p r ih=>
  unfold put;split
  ·simp
  ·simp only[aaB];lia
theorem p9:∀(ps ws:Ws) (s:Int),look (aL ws ps) s=look ws s+cnt ps s
 | [],ws,s=>by simp [aL,cnt]
 | p::r,ws,s=>by
  have ih:=p9 r (kf ws p.1 p.2) s;show look (aL (kf ws p.1 p.2) r) s=_;rw[ih];unfold kf cnt;rw[xB];simp only[aan,aa7];by_cases c:p.1=s
  ·rw[if_pos c,if_pos c,c];lia
  ·rw[if_neg c,if_neg c];lia
theorem mh {s:Int}:∀{ps ws:Ws},s∈keys (aL ws ps)↔s∈keys ws\/s∈keys ps
 | [],ws=>by simp [aL,keys]
 | p::r,ws=>by
  show s∈keys (aL (kf ws p.1 p.2) r)↔_;rw[mh];unfold kf;rw[AD];simp only[keys,aan,aaR]
  constructor
  ·rintro((h | h) | h)
   ·exact .inr (.inl h)
   ·exact .inl h
   ·exact .inr (.inr h)
  ·rintro(h | h | h)
   ·exact .inl (.inr h)
   ·exact .inl (.inl h)
   ·exact .inr h
theorem nj:∀{ps ws:Ws},(keys ws).Nodup->(keys (aL ws ps)).Nodup
 | [],_,h=>h
 | p::r,ws,h=>by
  show(keys (aL (kf ws p.1 p.2) r)).Nodup
  exact nj (BR _ _ h)
theorem sf:∀(ps ws:Ws),rZ (aL ws ps)=rZ ws+rZ ps
 | [],ws=>by simp [aL,rZ]
 | p::r,ws=>by
  show rZ (aL (kf ws p.1 p.2) r)=_;rw[sf,xC];unfold rZ;simp only[aan,aa7];lia
theorem sg:∀(ps ws:Ws),(aL ws ps).length<=ws.length+ps.length
 | [],ws=>by simp [aL]
 | p::r,ws=>by
  have h:=sg r (kf ws p.1 p.2);have h2:=Gv ws p.1 (look ws p.1+p.2)
  show(aL (kf ws p.1 p.2) r).length<=_
  unfold kf at *;simp only[aaB];lia
structure Over (as ws:Ws) (B T:Int):Prop where
 nd:(keys ws).Nodup
 perm:(keys as).Perm (keys ws)
 val:∀k∈keys ws,look as k*T=look ws k*B
theorem fk {ws:Ws} {p:Int×Int} (h:(keys ws).Nodup) (hp:p∈ws):look ws p.1=p.2:=by
 induction ws with
 | nil=>cases hp
 | cons q r ih=>
  have h':q.1∉keys r/\(keys r).Nodup:=by simpa [keys] using h
  unfold look;rcases aaR.mp hp with rfl | hp
  ·rw[if_pos rfl]
  ·rw[if_neg (λz=>h'.1 (by rw[z];exact abo.mpr ⟨p,hp,rfl⟩))];exact ih h'.2 hp
noncomputable def rowsOf (ws:Ws) (B:Int):List (Int×Int×Int):=(vG (keys ws)).map λv=>(v,st (look ws v) B,sb (look ws v) B)
noncomputable def weigh (rows:List (Int×Int×Int)) (B:Int):Ws:=rows.map λr=>(r.1,r.2.1* (B / r.2.2))
theorem ug (ws p q:Ws):aL ws (p++q)=aL (aL ws p) q:=by
 unfold aL;rw[aa4]
theorem jt (ws p:Ws) (k x:Int):aL ws (p++ [(k,x)])=kf (aL ws p) k x:=by
 rw[ug]
 rfl
theorem AE:∀{l:List Int},0<l.length->(∀x∈l,0<x)->0<l.sum
 | [],h,_=>by simp at h
 | x::r,_,h=>by
  have hx:=h x aaz;rw[aa7];by_cases c:0<r.length
  ·have:=AE c λy hy=>h y (aau _ hy)
   lia
  ·have:r=[]:=List.eq_nil_of_length_eq_zero (by lia)
   subst this;simpa using hx
theorem JL {ws:Ws} (nd:(keys ws).Nodup) {P:Int->Prop} (h:∀k∈keys ws,P (look ws k)):∀x∈ws.map (·.2),P x:=λx hx=>by
 obtain⟨p,hp,rfl⟩:=abo.mp hx
 have:=h p.1 (abo.mpr ⟨p,hp,rfl⟩)
 rwa [fk nd hp] at this
theorem Gw {ws:Ws} (h:0<ws.length) (nd:(keys ws).Nodup) (w:∀k∈keys ws,0<look ws k):0<rZ ws:=
 AE (by rw[aak];exact h) (JL nd w)
theorem JM {ps:Ws} (h:∀p∈ps,0<p.2) (s:Int):0<=cnt ps s:=by
 induction ps with
 | nil=>simp [cnt]
 | cons p r ih=>
  have i:=ih λq hq=>h q (aau _ hq);have hp:=h p aaz;unfold cnt at *;rw[aan,aa7];split <;>lia
theorem qX {ps:Ws} (h:∀p∈ps,0<p.2) {s:Int} (hs:s∈keys ps):0<cnt ps s:=by
 induction ps with
 | nil=>simp [keys] at hs
 | cons p r ih=>
  have h':∀q∈r,0<q.2:=λq hq=>h q (aau _ hq);have hp:=h p aaz;have n:=JM h' s;have e:cnt (p::r) s=(if p.1=s then p.2 else 0)+cnt r s:=by unfold cnt;rw[aan,aa7]
  rw[e];by_cases c:p.1=s
  ·rw[if_pos c];lia
  ·rw[if_neg c];have Gq:s∈keys r:=by
    unfold keys at hs ⊢;rw[aan] at hs;rcases aaR.mp hs with z | z
    ·exact absurd z.symm c
    ·exact z
   have:=ih h' Gq
   lia
end Nm
namespace L2
open PySem PySem.Spec PyProof.Rows
noncomputable def enc (ws:Nm.Ws):List (Key×V):=ws.map λp=>(Sum.inl p.1,V.int p.2)
theorem vI (ws:Nm.Ws):(enc ws).length=ws.length:=by unfold enc;rw[aak]
theorem BU (ws:Nm.Ws):lC (enc ws)=Nm.keys ws:=by
 unfold lC enc Nm.keys;rw[aaM]
 rfl
theorem Dx (ws:Nm.Ws):allI (enc ws):=λp hp=>by
 unfold enc at hp;obtain⟨q,_,rfl⟩:=abo.mp hp;exact⟨q.1,rfl⟩
theorem AF (ws:Nm.Ws) (k:Int):dZ (enc ws) (Sum.inl k)=if k∈Nm.keys ws then some (.int (Nm.look ws k)) else none:=by
 induction ws with
 | nil=>simp [enc,dZ,Nm.keys]
 | cons p r ih=>
  unfold dZ at *;unfold enc at *;rw[aan,aaQ];unfold Nm.look;by_cases c:p.1=k
  ·rw[show decide ((Sum.inl p.1:Key)=Sum.inl k)=true by rw[c];simp];simp [Nm.keys,c]
  ·rw[show decide ((Sum.inl p.1:Key)=Sum.inl k)=false by simpa using c];simp only[ih];have e:(k∈Nm.keys (p::r))=(k∈Nm.keys r):=by
    unfold Nm.keys;rw[aan,aaR];apply propext
    constructor
    ·rintro(h | h)
     ·exact absurd h.symm c
     ·exact h
    ·exact .inr
   simp only[e,if_neg c]
theorem Gx {ws:Nm.Ws} (nd:(Nm.keys ws).Nodup) (k v:Int):putK (enc ws) (Sum.inl k) (.int v)=enc (Nm.put ws k v):=by
 have key:∀{ws:Nm.Ws},k∉Nm.keys ws->(enc ws).map (λkv=>if kv.1=(Sum.inl k:Key) then (kv.1,V.int v) else kv)=enc ws:=by
  intro ws h;unfold enc;rw[aaM];apply List.map_congr_left;intro p hp
  have:p.1≠k:=λz=>h (by rw[<-z];exact abo.mpr ⟨p,hp,rfl⟩)
  simp [this]
 have any:∀ws:Nm.Ws,((enc ws).any λkv=>decide (kv.1=(Sum.inl k:Key)))=decide (k∈Nm.keys ws):=by
  intro ws;induction ws with
  | nil=>simp [enc,Nm.keys]
  | cons p r ih=>
   unfold enc at *;rw[aan,List.any_cons,ih];unfold Nm.keys;rw[aan];by_cases c:p.1=k
   ·simp [c]
   ·have c2:¬k=p.1:=λz=>c z.symm;simp [c,c2]
 unfold putK;rw[any];clear any;by_cases c:k∈Nm.keys ws
 ·rw[if_pos (by simpa using c)];induction ws with
  | nil=>simp [Nm.keys] at c
  | cons p r ih=>
   have h':p.1∉Nm.keys r/\(Nm.keys r).Nodup:=by simpa [Nm.keys] using nd
   unfold Nm.put;by_cases e:p.1=k
   ·rw[if_pos e]
    have:=key (ws:=r) (by rw[<-e];exact h'.1)
    unfold enc at *;rw[aan,aan,this,aan];simp [e]
   ·rw[if_neg e];have c':k∈Nm.keys r:=by
     unfold Nm.keys at c ⊢;rw[aan] at c;rcases aaR.mp c with z | z
     ·exact absurd z.symm e
     ·exact z
    have:=ih h'.2 c'
    unfold enc at *;rw[aan,aan,this,aan];simp [e]
 ·rw[if_neg (by simpa using c)];induction ws with
  | nil=>simp [enc,Nm.put]
  | cons p r ih=>
   have h':p.1∉Nm.keys r/\(Nm.keys r).Nodup:=by simpa [Nm.keys] using nd
   have e:¬p.1=k:=λz=>c (by unfold Nm.keys;rw[aan,z];exact aaz);have c':k∉Nm.keys r:=λz=>c (by unfold Nm.keys at *;rw[aan];exact aau _ z);unfold Nm.put;rw[if_neg e]
   have:=ih h'.2 c'
   unfold enc at *;rw[aan,List.cons_append,this,aan]
theorem Gy {H:Hp} {d:Addr} {ws:Nm.Ws} {v:Int} (h:Rd H d (.dK (enc ws))) (hv:v∈Nm.keys ws):lZ H d (.int v) (some (.int (Nm.look ws v))):=
 .inl ⟨_,Sum.inl v,h,rfl,by rw[AF,if_pos hv]⟩
theorem Dy {H:Hp} {d:Addr} {ws:Nm.Ws} {v:Int} (h:H d=some (.dK (enc ws))) (hv:v∈Nm.keys ws):lZ H d (.int v) (some (.int (Nm.look ws v))):=Gy (.inl h) hv
theorem Dz {ws:Nm.Ws} {v:Int} (h:v∉Nm.keys ws):Nm.look ws v=0:=by
 induction ws with
 | nil=>rfl
 | cons p r ih=>
  unfold Nm.keys at h;rw[aan] at h;unfold Nm.look;rw[if_neg (λz=>h (by rw[z];exact aaz))];exact ih λz=>h (aau _ z)
theorem BV {H:Hp} {d:Addr} {ws:Nm.Ws} (v:Int) (h:Rd H d (.dK (enc ws))):∃o,lZ H d (.int v) o/\o.getD (.int 0)=.int (Nm.look ws v):=by
 refine⟨_,.inl ⟨_,Sum.inl v,h,rfl,rfl⟩,?_⟩;rw[AF];by_cases c:v∈Nm.keys ws
 ·rw[if_pos c];rfl
 ·rw[if_neg c,Dz c];rfl
theorem DA {H:Hp} {d:Addr} {ws:Nm.Ws} (v x:Int) (h:H d=some (.dK (enc ws))) (nd:(Nm.keys ws).Nodup) (hl:ws.length<sizeLine):BF H d (.int v) (.int x) (upd H d (.dK (enc (Nm.put ws v x)))):=by
 have:=BF.k (k:=Sum.inl v) (v:=.int x) h (by rw[vI];exact hl)
 rw[Gx nd] at this;exact this
noncomputable def Gz (r:Int×Int×Int):Dat:=.tup [.int r.1,.tup [.int r.2.1,.int r.2.2]]
noncomputable def lD (rows:List (Int×Int×Int)):Dat:=.lst (rows.map Gz)
noncomputable def qd (p:Int×Int):Dat:=.tup [.int p.1,.int p.2]
noncomputable def ju (ws:Nm.Ws):Dat:=.lst (ws.map qd)
theorem nu {H:Hp} {r:Int×Int×Int} {v:V}:Rep H (Gz r) v↔∃p q,v=.ref p/\H p=some (.tup [.int r.1,.ref q])/\H q=some (.tup [.int r.2.1,.int r.2.2]):=by
 unfold Gz;simp only[Rep,bq]
 constructor
 ·rintro⟨p,vs,rfl,hp,a,b,rfl,rfl,c,d,rfl,⟨q,us,rfl,hq,e,f,rfl,rfl,g,h,rfl,rfl,rfl⟩,rfl⟩;exact⟨p,q,rfl,hp,hq⟩
 ·rintro⟨p,q,rfl,hp,hq⟩;exact⟨p,_,rfl,hp,_,_,rfl,rfl,_,_,rfl,⟨q,_,rfl,hq,_,_,rfl,rfl,_,_,rfl,rfl,rfl⟩,rfl⟩
theorem eN {H:Hp} {r:Int×Int} {v:V}:Rep H (qd r) v↔∃p,v=.ref p/\H p=some (.tup [.int r.1,.int r.2]):=by
 unfold qd;simp only[Rep,bq]
 constructor
 ·rintro⟨p,vs,rfl,hp,a,b,rfl,rfl,c,d,rfl,rfl,rfl⟩;exact⟨p,rfl,hp⟩
 ·rintro⟨p,rfl,hp⟩;exact⟨p,_,rfl,hp,_,_,rfl,rfl,_,_,rfl,rfl,rfl⟩
theorem aQ {H:Hp} {ds:List Dat} {v:V}:Rep H (.lst ds) v↔∃p vs,v=.ref p/\H p=some (.lst vs)/\bq H ds vs:=by rw[Rep]
noncomputable def XF (H H':Hp):Prop:=∀p xs,(H p=some (.tup xs)->H' p=some (.tup xs))/\(H p=some (.lst xs)->H' p=some (.lst xs))
mutual
theorem Rep.Mn {H H':Hp} (s:XF H H'):∀{d:Dat} {v:V},Rep H d v->Rep H' d v
 | .dI,_,h=>by rw[Rep] at *;exact h
 | .bl _,_,h=>by rw[Rep] at *;exact h
 | .int _,_,h=>by rw[Rep] at *;exact h
 | .str _,_,h=>by rw[Rep] at *;exact h
 | .tup _,_,h=>by
  rw[Rep] at *;obtain⟨p,vs,e,hp,r⟩:=h;exact⟨p,vs,e,(s _ _).1 hp,bq.Mn s r⟩
 | .lst _,_,h=>by
  rw[Rep] at *;obtain⟨p,vs,e,hp,r⟩:=h;exact⟨p,vs,e,(s _ _).2 hp,bq.Mn s r⟩
theorem bq.Mn {H H':Hp} (s:XF H H'):∀{ds:List Dat} {vs:List V},bq H ds vs->bq H' ds vs
 | [],_,h=>by rw[bq] at *;exact h
 | _::_,_,h=>by
  rw[bq] at *;obtain⟨v,r,e,h1,h2⟩:=h;exact⟨v,r,e,Rep.Mn s h1,bq.Mn s h2⟩
end
theorem none_of {H H':Hp} (s:aB H H') {p:Addr} (h:H' p=none):H p=none:=by
 cases e:H p with
 | none=>rfl
 | some o=>rw[s p o e] at h;cases h
end L2
namespace Nm
end Nm
namespace L2
open PySem PySem.Spec PyProof.Rows
theorem BW {α:Type} {J:It} {tc:TT} {te:TE} {tl:St} {H1:Hp} {fin:List V->Hp->Prop} {Item:Nat->V->Hp->Hp->Prop} (as:List α) (f:α->Option Int) (S:Src J (aB H1) as.length Item) (sub:∀i x H H3,Item i x H H3->H3=H) (hz:as.length<=sizeLine)
  (hs:∀i a x,as[i]?=some a->Item i x H1 H1->∀(Y:VK) (N:Hp->Prop),(∀z,f a=some z->Y (.int z) H1)->(f a=none->N H1)->tc (some x::tl) H1 λb H5=>if b=true then te (some x::tl) H5 Y else N H5)
  (oN:fin (List.map V.int (as.filterMap f)) H1):hX J (gName 0) tc te (none::tl) H1 fin:=by
 refine oM S (λσ=>∃w0,σ=w0::tl) ⟨_,rfl⟩ (λi ys H=>H=H1/\ys=List.map V.int ((as.take i).filterMap f)) ⟨rfl,by simp⟩ hz ?_ ?_
 ·rintro i x σ H ys H3 Q N hi sm ⟨rfl,rfl⟩ hl ⟨w0,rfl⟩ it kq kn;obtain rfl:=sub _ _ _ _ it;have ea:as[i]?=some as[i]:=aat hi;refine hs i _ x ea it _ _ (λz e=>kq _ _ _ ⟨_,rfl⟩ sm ⟨rfl,?_⟩) (λe=>kn _ _ ⟨_,rfl⟩ sm ⟨rfl,?_⟩)
  ·rw[aaG,ea,List.filterMap_append,aaw];simp [e]
  ·rw[aaG,ea,List.filterMap_append,aaw];simp [e]
 ·rintro ys H sm ⟨rfl,rfl⟩ hl;rw[aaA (aam _)];exact oN
theorem GA {α β:Type} (f:α->β) (l:List α):l.filterMap (λa=>some (f a))=l.map f:=by
 rw[<-List.filterMap_eq_map];rfl
end L2
namespace L2
open PySem PySem.Spec PyProof.Rows PySem.W
section
variable {X : Cx} {K : abg}
theorem JN {as:List (Key×V)} {bs:List (Key×Value)} (r:KV as bs):∀(j:Nat) {b},bs[j]?=some b->∃a,as[j]?=some a/\RelV a.2 b.2:=by
 induction r with
 | nil=>intro j b e;simp at e
 | cons r1 r2 ih=>
  intro j b e;cases j with
  | zero=>simp at e;subst e;exact⟨_,rfl,r1.2⟩
  | succ j=>simp at e;obtain⟨a,e1,e2⟩:=ih j e;exact⟨a,by simpa using e1,e2⟩
theorem xD (ns:List Int):preSum (λi=>ns.getD i 0) ns.length=ns.sum:=by
 have e:=preSum_eq (ns.map λn=>(n,(0:Nat))).toArray ns.length;have f:(λi=>ns.getD i 0)=numAt (ns.map λn=>(n,(0:Nat))).toArray:=by
  funext i;unfold numAt;simp only[List.getElem?_toArray,aal,aa6];cases ns[i]? <;>rfl
 rw[f];refine e.trans ?_;rw[aaA (by simp)];congr 1;simp [Function.comp_def]
noncomputable def tSumV (to:TE):TE:=λσ H Q=>to σ H λv H1=>∃d kvs ns,v=.ref d/\H1 d=some (.dK kvs)/\kvs.map (·.2)=List.map V.int ns/\Q (.int ns.sum) H1
theorem zi {o:Expr} {to:TE} {p apos dO pos:Pos} (hc:X.calm=true) (hg:Gl X "sum") (hm:X.mg "sum"=none) (ho:PE X o to)
  (rQ:attributeBase o "values" X.env (eval o X.env)=eval o X.env:=by rfl) (rR:(apos.endLine==dO.line)=true:=by rfl)
  (he:starEach [Expr.Call (.Attribute o "values" apos) [] [] dO] X.env=[(false,eval (.Call (.Attribute o "values" apos) [] [] dO) X.env)]:=by rfl):
  PE X (.Call (.Name "sum" p) [.Call (.Attribute o "values" apos) [] [] dO] [] pos) (tSumV to):=by
 intro pins s σ H Q I h;refine wpAny_Call_Name_kw (ji I hg hm (u:=.builtin "sum") rfl ?_ ∅ ∅);rw[he];refine PySem.callWith_builtin1 ?_;refine wpAny_Call_method0_late rQ rR (cU (ho pins s σ H _ I h) λv s1 dX=>?_);obtain⟨x,H1,I1,r1,q1⟩:=dX;obtain⟨d,kvs,ns,rfl,hd,hv,q⟩:=q1;obtain⟨h1,h2⟩:=y4 (T:="dict") I1 r1 (.inr (.inr (.inl ⟨rfl,.inl ⟨_,hd⟩⟩)));cases r1;obtain⟨hz,lo,vs,kv,dd⟩:=As I1.bT hd;have hlen:kvs.length=vs.length:=Paired.length kv;refine⟨"dict","dict.values",PySem.F.plainAttrs_dict,PySem.F.slot_dict_values,PySem.F.type_dict_values,h1,h2,Calls.callWith_builtin rfl (PySem.evalArgs_none ?_)⟩;refine call_meetsIn PySem.F.slot_dict_values dd.typeIs PySem.F.entry_dict_values (PySem.F.args_dict_values_1 _) (meets_dict_values _ d lo) ⟨⟨vs,dd⟩,?_⟩;have I2:Inv X pins σ H1 {s1 with heap:=s1.heap.push {cls:=.type "dict_values",data:=.fields #[.ref d]}}:=I1.kept (t':=s1.toks) λb o e=>abq _ e;obtain⟨hz,lo,vs,kv,dd⟩:=As I2.bT hd;have hlen:kvs.length=vs.length:=Paired.length kv;obtain⟨ep,qV⟩:=dd.dictAt;have hn:ns.length=vs.length:=by
  have:=congrArg List.length hv
  rw[aak,aak] at this;lia
 have Ks:=kdl_values (prog:=X.prog) (w:=X.w) (r:=s1.heap.objs.size) (d:=d) (knd:=cK X.prog X.w) (kvs:=vs) (ep:=ep);have bT:({s1 with heap:=s1.heap.push {cls:=.type "dict_values",data:=.fields #[.ref d]}}:Shared).heap.IsValuesView s1.heap.objs.size d/\({s1 with heap:=s1.heap.push {cls:=.type "dict_values",data:=.fields #[.ref d]}}:Shared).heap.DictAt (cK X.prog X.w) d vs ep:=⟨⟨_,abr _ rfl,rfl,rfl⟩,qV⟩;refine call_sum_walkAnyS ?_;obtain⟨oI,St,hit,W,st⟩:=Ks.iter X.A.in1 _ (I.ok.hd hc) bT;refine hit _ _ ⟨_,_,_,_,vs.length,_,_,λi=>ns.getD i 0,rfl,W.toS,st,λb hb=>?_,λi v hP=>?_,λs' t' XG=>?_⟩
 ·show b< (Heap.push _ oI).objs.size;rw[size_push'];rcases aaR.mp hb with e | hb
  ·rw[e];exact aaZ _
  ·rw[abp.mp hb];exact Nat.lt_succ_of_lt (Ks.there _ bT).2
 ·obtain⟨k,e⟩:=hP;obtain⟨a,e1,e2⟩:=JN kv i e;have e3:(kvs.map (·.2))[i]?=some a.2:=by rw[aal,e1];rfl
  rw[hv,aal] at e3;obtain⟨n,en,ea⟩:=abm.mp e3;rw[<-ea] at e2;obtain⟨t,e2⟩:=e2;refine⟨t,?_⟩;show v=Value.int (ns.getD i 0) t;rw[aa6,en];exact e2
 ·have hk:∀b o,(s1.heap.push {cls:=.type "dict_values",data:=.fields #[.ref d]}).get? b=some o->s'.heap.get? b=some o:=λb o e=>
   XG.heap b o (λhI=>absurd (abt e) (by rw[abp.mp hI];exact aaK _)) (abq _ e)
  rw[Moved.eq_with XG,<-hn,xD];exact⟨.int ns.sum,H1,I2.kept (t':=s'.toks) hk,⟨t',rfl⟩,q⟩
theorem oQ {α:Type} {J:It} {tc:TT} {te:TE} {tl:St} {H1:Hp} {fin:List V->Hp->Prop} {Item:Nat->V->Hp->Hp->Prop} (as:List α) (f:α->Option V) (S:Src J (aB H1) as.length Item) (sub:∀i x H H3,Item i x H H3->H3=H) (hz:as.length<=sizeLine)
  (hs:∀i a x,as[i]?=some a->Item i x H1 H1->∀(Y:VK) (N:Hp->Prop),(∀z,f a=some z->Y z H1)->(f a=none->N H1)->tc (some x::tl) H1 λb H5=>if b=true then te (some x::tl) H5 Y else N H5)
  (oN:fin (as.filterMap f) H1):hX J (gName 0) tc te (none::tl) H1 fin:=by
 refine oM S (λσ=>∃w0,σ=w0::tl) ⟨_,rfl⟩ (λi ys H=>H=H1/\ys=(as.take i).filterMap f) ⟨rfl,by simp⟩ hz ?_ ?_
 ·rintro i x σ H ys H3 Q N hi sm ⟨rfl,rfl⟩ hl ⟨w0,rfl⟩ it kq kn;obtain rfl:=sub _ _ _ _ it;have ea:as[i]?=some as[i]:=aat hi;refine hs i _ x ea it _ _ (λz e=>kq _ _ _ ⟨_,rfl⟩ sm ⟨rfl,?_⟩) (λe=>kn _ _ ⟨_,rfl⟩ sm ⟨rfl,?_⟩)
  ·rw[aaG,ea,List.filterMap_append];simp [e]
  ·rw[aaG,ea,List.filterMap_append];simp [e]
 ·rintro ys H sm ⟨rfl,rfl⟩ hl;rw[aaA (aam _)];exact oN
theorem dt {a b:TS} {D:Ends} {σ:St} {H:Hp} (C:St->Hp->Prop) (hb:∀σ' H',C σ' H'->b D σ' H') (ha:∀N:St->Hp->Prop,(∀σ' H',C σ' H'->N σ' H')->a {D with nx:=N} σ H):tSeq a b D σ H:=ha _ hb
theorem mi {tc:TT} {a b:TS} {D:Ends} {σ:St} {H:Hp} (C1 C2:Hp->Prop) (h1:∀H',C1 H'->a D σ H') (h2:∀H',C2 H'->b D σ H')
  (ht:∀Y N:Hp->Prop,(∀H',C1 H'->Y H')->(∀H',C2 H'->N H')->tc σ H λv H'=>if v=true then Y H' else N H'):tIfS tc a b D σ H:=ht _ _ h1 h2
end
end L2
namespace Nm
noncomputable def pos (ps:Ws):Ws:=ps.filter λp=>decide (0<p.2)
noncomputable def mj (ps:Ws):Ws:=aL [] (pos ps)
noncomputable def bad (ps:Ws):Prop:=(∃p∈ps,p.2<0)\/pos ps=[]
theorem DB (ps:Ws) (p:Int×Int):pos (ps++ [p])=if 0<p.2 then pos ps++ [p] else pos ps:=by
 unfold pos;rw[List.filter_append];by_cases c:0<p.2
 ·rw[if_pos c];simp [c]
 ·rw[if_neg c];simp [c]
theorem DC (ps:Ws) (p:Int×Int):mj (ps++ [p])=if 0<p.2 then kf (mj ps) p.1 p.2 else mj ps:=by
 unfold mj;rw[DB];split
 ·rw[jt]
 ·rfl
theorem oR (ps:Ws):(keys (mj ps)).Nodup:=nj (by simp [keys])
theorem AG (ps:Ws):(mj ps).length<=ps.length:=by
 have:=sg (pos ps) []
 have h2:(pos ps).length<=ps.length:=List.length_filter_le _ _;unfold mj;simp only[aaW] at this;lia
theorem AH {ps:Ws}:mj ps=[]↔pos ps=[]:=by
 constructor
 ·intro h;cases e:pos ps with
  | nil=>rfl
  | cons p r=>
   have m:p.1∈keys (mj ps):=by
    unfold mj;rw[e];exact mh.mpr (.inr (by simp [keys]))
   rw[h] at m;simp [keys] at m
 ·intro h;unfold mj;rw[h]
  rfl
theorem GB (ps:Ws):∀p∈pos ps,0<p.2:=λp hp=>by
 unfold pos at hp;simpa using (List.mem_filter.mp hp).2
theorem GC (ps:Ws):∀k∈keys (mj ps),0<look (mj ps) k:=λk hk=>by
 unfold mj at *;rw[p9];have h:k∈keys (pos ps):=by
  rcases mh.mp hk with z | z
  ·simp [keys] at z
  ·exact z
 have:=qX (GB ps) h
 simp only[look];lia
theorem GD (ps:Ws):rZ (mj ps)=rZ (pos ps):=by
 unfold mj;rw[sf];simp [rZ]
theorem sh {c:Int} (c0:0<=c):∀{ps:Ws},(∀p∈ps,p.2<=c)->rZ (pos ps)<=ps.length*c
 | [],_=>by simp [pos,rZ]
 | p::r,h=>by
  have ih:=sh c0 λq hq=>h q (aau _ hq);have hp:=h p aaz;rw[aaB,Int.natCast_succ,Int.add_mul];unfold pos at *;rw[List.filter_cons];split
  ·rw[show rZ (p::List.filter (λp=>decide (0<p.2)) r)=p.2+rZ (List.filter (λp=>decide (0<p.2)) r) from by unfold rZ;rw[aan,aa7]];lia
  ·lia
end Nm
namespace L2
open PySem PySem.Spec PyProof.Rows PySem.W
section
variable {X : Cx} {K : abg}
theorem mn:dh X (.type "int") (λxs H Q=>∃k,xs=[.bl k]/\Q (.int (if k then 1 else 0)) H):=by
 intro pins s σ H xs us Q I r h;exact Bz pins s σ H xs us Q I r (.inr h)
abbrev TJ:=Str->TE
end
end L2
namespace L2
open PySem PySem.Spec PyProof.Rows PySem.W
inductive Pl where
 | fin (w:Int×Int) | fH (w:Int×Int) (ws:List (Int×Int)) | pck (HR:Int) (to:List Int)
noncomputable def dH (H:Hp) (p:Addr):Hp:=λa=>if a=p then none else H a
theorem bX {H:Hp} {p a:Addr} (h:a≠p):dH H p a=H a:=if_neg h
theorem GF {H:Hp} {p:Addr} {o:HO}:aB (dH H p) (upd H p o):=λa u e=>by
 unfold dH at e;by_cases h:a=p
 ·rw[if_pos h] at e;cases e
 ·rw[if_neg h] at e;rw[aA h];exact e
theorem bM {H:Hp} {p:Addr}:aB (dH H p) H:=λa u e=>by
 unfold dH at e;by_cases h:a=p
 ·rw[if_pos h] at e;cases e
 ·rw[if_neg h] at e;exact e
theorem DE {H0 H:Hp} {p:Addr} (s:aB H0 H) (n:H0 p=none):aB H0 (dH H p):=λa u e=>by
 rw[bX (λz=>by rw[z,n] at e;cases e)];exact s _ _ e
theorem bO {H H':Hp} {p:Addr} (s:aB H H'):aB (dH H p) (dH H' p):=λa u e=>by
 unfold dH at *;by_cases h:a=p
 ·rw[if_pos h] at e;cases e
 ·rw[if_neg h] at e ⊢;exact s _ _ e
theorem bI {H0 H:Hp} {p:Addr} {o:HO} (s:aB H0 H) (n:H0 p=none):aB H0 (upd H p o):=(DE s n).trans GF
theorem DF {xs:List V} {k:Int} (h:0<=k):xk xs none (some k)=xs.take k.toNat:=by
 unfold xk;obtain⟨n,rfl⟩:=Int.eq_ofNat_of_zero_le h;rw[HT.xj,show((n:Nat):Int)=Int.ofNat n from rfl];rw[show HT.wN xs.length xs.length (some (Int.ofNat n))=min n xs.length from HT.Ao _ _ n];rw[List.drop_zero,Nat.sub_zero];show xs.take (min n xs.length)=xs.take n;by_cases h:n<=xs.length
 ·rw[Nat.min_eq_left h]
 ·rw[Nat.min_eq_right (by lia),aaA (aam _),aaA (by lia)]
section
variable {X : Cx} {K : abg}
end
end L2
namespace PySem
section
variable {prog : Program} {w : World} {A : Around} {E : Value -> Shared -> Prop} {s : Shared}
end
end PySem
namespace L2
open PySem PySem.Spec PyProof.Rows PySem.W
section
variable {X : Cx} {K : abg}
end
end L2
namespace PySem
open Builtin Builtin.Str
section
variable {prog : Program} {w : World} {A : Around} {E : Value -> Shared -> Prop} {s : Shared} {x y : Str} {t u : Tok} {Q : Value -> Shared -> Prop}
end
end PySem
namespace L2
open PySem PySem.Spec PyProof.Rows PySem.W
section
variable {X : Cx} {K : abg}
noncomputable def Its (z:Str):It:=⟨λi _=>i<z.cps.size,λi H x H'=>H'=H/\∃c,z.cps[i]?=some c/\x=.str ⟨#[c]⟩,λi _=>z.cps.size<=i⟩
theorem BX {K:abg} {J:It} {te:TE} {tl:St} {H1:Hp} {fin:List V->Hp->Prop} {n:Nat} {Item:Nat->V->Hp->Hp->Prop} (S:Src J (aB H1) n Item) (Ml:Nat->V->V->V->Hp->Prop)
  (tp:∀i x H H3,i<n->aB H1 H->Item i x H H3->aB H H3/\∃p a b c,x=.ref p/\gP K H3 p [a,b,c]/\Ml i a b c H3) (hz:n<=sizeLine)
  (R:Nat->V->Hp->Prop) (mono:∀i y H H',aB H H'->R i y H->R i y H')
  (hs:∀i a b c H3 (Q:VK),i<n->aB H1 H3->Ml i a b c H3->(∀y H6,aB H3 H6->R i y H6->Q y H6)->te (some a::some b::some c::tl) H3 Q)
  (oN:∀ys H,aB H1 H->ys.length=n->(∀(i:Nat) y,ys[i]?=some y->R i y H)->fin ys H):hX J (FR K 3 (gCons (gName 0) (gCons (gName 1) (gCons (gName 2) gNil)))) vE te (none::none::none::tl) H1 fin:=by
 refine⟨λi m ys σ H=>m=n - i/\i<=n/\ys.length=i/\(∃w w' XH,σ=w::w'::XH::tl)/\aB H1 H/\∀(j:Nat) y,ys[j]?=some y->R j y H,⟨n,by simp,aap _,rfl,⟨_,_,_,rfl⟩,aB.refl _,λj y e=>by simp at e⟩,?_⟩;rintro i m ys σ H ⟨rfl,hi,hl,⟨w,w',XH,rfl⟩,sm,p⟩;by_cases gC:i<n
 ·refine .inr ⟨S.go i H gC sm,λx H3 y=>?_⟩;obtain⟨s3,q,a,b,c,rfl,sq,it⟩:=tp i x H H3 gC sm (S.yB i H x H3 gC sm y);refine⟨q,_,rfl,sq,rfl,_,_,rfl,_,_,rfl,_,_,rfl,rfl,?_⟩;unfold vE;refine Jy ?_;refine hs i a b c H3 _ gC (sm.trans s3) it λy H6 s6 r=>⟨by lia,n - (i+1),by lia,rfl,gC,by rw[aaq,aaH];lia,⟨_,_,_,rfl⟩,sm.trans (s3.trans s6),λj z e=>?_⟩;by_cases hj:j<i
  ·rw[aa5 (by lia)] at e;exact mono j z _ _ (s3.trans s6) (p j z e)
  ·rw[aba (by lia)] at e;have e2:j - ys.length=0:=by
    by_cases q:j - ys.length=0
    ·exact q
    ·rw[aa3 (by simp;lia)] at e;cases e
   rw[e2] at e;simp at e;subst e
   have:j=i:=by lia
   subst this;exact r
 ·have e:i=n:=by lia
  subst e;exact .inl ⟨S.stop H sm,oN ys H sm hl p⟩
theorem nA {x:Str} {i:Int} {pos:Pos} (hg:Gl X x) (h:∃t,X.mg x=some (.int i t)) (hd:(x==("__debug__":Str))=false:=by decide):PE X (.Name x pos) (tC (.int i)):=by
 obtain⟨t,h⟩:=h;exact qN hg h ⟨t,rfl⟩ hd
theorem DG {o e:Expr} {es:List Expr} {to:TE} {t:TA} {name:Str} {apos dO:Pos} {T id:String} {r:V->List V->Hp->VK->Prop} (pa:PlainAttrs T) (slot:Slot T name id) (L0:typeOf (.builtin id)=pure (.type "method_descriptor")) (hm:K8 X id r) (ho:PE X o to) (ha:PA X (e::es) t)
  (rQ:attributeBase o name X.env (eval o X.env)=eval o X.env:=by rfl)
  (Jn:((backTo dO (starEach (e::es) X.env)).all (λx=>!x.1) && (backToKw dO (keywordEach [] X.env)).all (λx=>x.1.isSome)
   && decide ((e::es).length+ ([]:List Keyword).length+ (if ([]:List Keyword).isEmpty then 0 else 1)<30))=true:=by rfl)
  (rR:(apos.endLine==dO.line)=true:=by rfl) (hs:starEach (e::es) X.env=(false,eval e X.env)::starEach es X.env:=by rfl) (y7:(backTo dO (starEach es X.env)).any (·.1)=false:=by rfl) (hK:X.K=K:=by rfl):
  PE X (.Call (.Attribute o name apos) (e::es) [] dO) (tBM K T r to t):=by subst hK;exact dY pa slot L0 hm ho ha rQ Jn rR hs y7
end
end L2
namespace PySem
end PySem
namespace PySem
section
variable {M : Model} {A : Around} {E : Value -> Shared -> Prop} {s : Shared} {env : Env}
theorem BY {e:Expr} {scope:Scope} {pos:Pos} {DH first:Sem Value} {g:Comprehension} {gs:List Comprehension} {cl:List (Str×Addr)} {Q:Value->Shared->Prop}
  (h1:clausesOf e=g::gs) (h2:∀x,foldedSetIterable g.iter env x=pure x) (h3:closureFor scope env=pure cl) (h4:scope.kind=.function) (h5:∀x∈scope.names,x.2=.local->scope.names.lookup x.1=some .local)
  (h:wpAny M A first (λx t1=>wpAny M A (pyIter x) (λit t2=>wpAny M A DH (λacc t3=>wpAny M A (newFunctionEnv scope env.globals cl [] env.qual none .none (some env)) (λce t4=>
    codeAny M A (.compStart e 0 it acc {ce with scope:=relabel scope env}) (λr t=>∃m,t.heap.Ns ce.locals m/\∀h',Heap.SameBut ce.locals t.heap h'->match r with
     | .ok _=>Q acc {t with heap:=h'}
     | .error x=>wpAny M A (passOn "comprehension.variables-let-go" x {ce with scope:=relabel scope env}:Sem Value) (λ_ _=>False) E {t with heap:=h'}) t4) E t3) E t2) E t1) E s):
  wpAny M A (comprehension e scope env pos DH false first none) Q E s:=by
 unfold comprehension;rw[h3,h1];refine wpAny_bind (wpAny_mono h (λx t1 a1=>?_) λ_ _ y=>y);refine wpAny_bind (wpAny_standAt ?_);refine wpAny_bind (wpAny_of_eq (h2 x) ?_);refine wpAny_bind (wpAny_holding (wpAny_mono a1 (λit t2 a2=>?_) λ_ _ y=>y));refine wpAny_standIf (wpAny_bind (wpAny_mono a2 (λacc t3 a3=>?_) λ_ _ y=>y));refine wpAny_bind (wpAny_pure (wpAny_bind (wpAny_mono a3 (λce t4 a4=>?_) λ_ _ y=>y)));dsimp only;have own:∀x∈(scope.names.filter λy=>(y.2==.local || y.2==.cell) && y.1 !=(".0":Str)).reverse,x.2=.local->Env.kindOf {ce with scope:=relabel scope env} x.1=some .local:=by
  intro x hx hl;have hm:=(List.mem_filter.mp (List.mem_reverse.mp hx)).1;exact lookup_relabel_local (h5 x hm hl)
 refine wpAny_holding (wpAny_bind (wpAny_attempt (wpAny_holding (wpAny_run (codeAny_mono a4 λr t hr=>?_)))));obtain⟨m,hn,hq⟩:=hr;cases r with
 | ok fl=>
  refine wpAny_bind (wpAny_holding (wpAny_comp_letGo (cenv:={ce with scope:=relabel scope env}) h4 _ t m own hn λh' m' _ sb=>?_));exact wpAny_pure (hq h' sb)
 | error x=>
  refine wpAny_bind (wpAny_holding (wpAny_comp_letGo (cenv:={ce with scope:=relabel scope env}) h4 _ t m own hn λh' m' _ sb=>?_));exact wpAny_mono (hq h' sb) (λ_ _ z=>False.elim z) λ_ _ y=>y
end
end PySem
namespace L2
open PySem PySem.Spec PyProof.Rows PySem.W
theorem BZ {x:Value} {e1 e2:Env} (h:e1.frame=e2.frame):noteFrame x e1=noteFrame x e2:=by
 unfold noteFrame PySem.frameOf;simp only[h]
theorem si {C:Addr} {h h' base:Heap} (sb:Heap.SameBut C h h'):∀{l:List Env},h.FunFrames base l->C∉eM l->h'.FunFrames base l
 | [],_,_=>trivial
 | en::r,⟨a1,⟨L,o,b1,b2,b3,b4⟩,a3⟩,n=>by
  have e:eM (en::r)=L::eM r:=by unfold eM;rw[abd,b1]
  rw[e] at n;refine⟨a1,⟨L,o,b1,b2,(sb.2 L λz=>n (by rw[z];exact aaz)).trans b3,b4⟩,?_⟩;exact si sb a3 λz=>n (aau _ z)
section
variable {M : Model} {A : Around} {E : Value -> Shared -> Prop} {s : Shared} {B : Heap} {l : List Env} {ad L : Addr} {cls a0 : Value}
theorem B1 {Qv:String} {ce:Env} {Q:Value->Shared->Prop} (hh:Heap.HeldW B l ad cls a0 L s.heap) (hf:ce.frame=some L)
  (k:∀h',Heap.HeldW B l ad cls a0 L h'->s.heap.UpToSlots h'->E (.ref ad) {s with heap:=h'}):wpAny M A (PySem.passOn Qv (.ref ad) ce:Sem Value) Q E s:=by
 obtain⟨st,na,ff,oe,vs,T,oT,ts,g1,g2,g3,g4,g5,g6,g7,g8,g9⟩:=id hh;have sz:3<ts.size:=(Array.getElem?_eq_some_iff.mp g9).1;unfold PySem.passOn;refine wpAny_bind (wpAny_field g1 g3 g4 ?_);have nz:¬(Value.ref T==Value.none)=true:=by simp
 rw[if_neg nz,hf];have ot:∀{f:Obj->Obj} b,b≠T->(s.heap.update T f).get? b=s.heap.get? b:=λb hb=>Heap.get?_update_other _ _ (Ne.symm hb);have nr:∀b o,s.heap.get? b=some o->(∀us,o.data≠.fields us)->b≠T:=λb o e nf z=>by
  rw[z,g7] at e;cases e;exact nf ts g8
 have fin:wpAny M A (setFlight (.ref ad) (some L)) (λ_ s1=>wpAny M A (throw (.ref ad):Sem Value) Q E s1) E s:=by
  unfold setFlight;refine wpAny_bind (wpAny_field g1 g3 g4 ?_);have yz:(Value.ref T !=Value.none)=true:=by simp
  rw[if_pos yz];refine wpAny_setField g7 g8 sz (wpAny_throw (k _ ⟨λb o e=>?_,na,?_,?_⟩ λb o e nf=>?_))
  ·refine(ot b λz=>?_).trans (st b o e);rw[z,g5] at e;cases e
  ·exact Heap.FunFrames.of_keeps (λb o e nf=>⟨o,(ot b (nr b o e nf)).trans e,rfl⟩) ff
  ·exact⟨oe,vs,T,_,_,(ot ad (Ne.symm g6)).trans g1,g2,g3,g4,g5,g6,Heap.get?_update_self _ g7 (Obj.isFreed_of_fields (Obj.data_mapFields g8 _)),Obj.data_mapFields g8 _,by simp [sz]⟩
  ·exact⟨o.slots,(ot b (nr b o e nf)).trans e⟩
 first
  | exact wpAny_bind (wpAny_pure (wpAny_bind fin))
  | exact wpAny_bind fin
theorem leave_held {en:Env} {r:List Env} {Q:Unit->Shared->Prop} (hf:en.frame=some L) (hh:Heap.HeldW B (en::r) ad cls a0 L s.heap)
  (k:∀h',Heap.FlyingW B r ad cls a0 h'->s.heap.UpToSlots h'->Q () {s with heap:=h'}):wpAny M A (leaving en (.ref ad)) Q E s:=by
 have lands:wpAny M A (setFlight (.ref ad) none) Q E s:=wpAny_landsW hh λh' fl up=>by
  obtain⟨p1,p2,p3,p4⟩:=fl;exact k h' ⟨p1,p2,p3.2.2,p4⟩ up
 unfold leaving;exact wpAny_bind (wpAny_noteFrame_againW hf hh.2.2.2 lands)
end
section
variable {P : Program} {w : World} {K : abg} {mg : Str -> Option Value} {base : Heap} {N : List Str} {qual : Str} {scope : Scope} {f : Addr} {cw : Value} {A : Around} {outer : List Env} {s0 : Shared} {H0 : Hp} {E : XK}
theorem DI {N':List Str} {xE:Scope} {cl:List (Str×Addr)} {C:Addr} {fp:List Addr} {HS HU:List (Addr×Obj)} {σD σ4:St} {H2 H4 H':Hp} {s2 s4 s':Shared} {ad:Addr} {cls:Value} {QE:Value->Shared->Prop} {ce:Env}
  (I2:Inv (eE (bL P w) P w K mg base N qual scope f cw A outer s0 H0 E) HS σD H2 s2) (hC:s2.heap.objs.size<C) (f2:∀b∈fp,ke (eE (bL P w) P w K mg base N qual scope f cw A outer s0 H0 E) HS H2 b)
  (I4:Inv (md (eE (bL P w) P w K mg base N qual scope f cw A outer s0 H0 E) N' xE cl C s2 H2 fp) HU σ4 H4 s4) (F:Gc P w (envOfC qual scope s0.heap.objs.size f cw::outer) H4 s4 H' ad cls s') (he:E cls none H')
  (hce:ce.frame=some s0.heap.objs.size):
  wpAny (model P w) (A.deeper (envOfC qual scope s0.heap.objs.size f cw)) (noteFrame (.ref ad) (compEnvC xE cl C (envOfC qual scope s0.heap.objs.size f cw)))
   (λ_ s5=>∃m,s5.heap.Ns C m/\∀h',Heap.SameBut C s5.heap h'->wpAny (model P w) (A.deeper (envOfC qual scope s0.heap.objs.size f cw)) (PySem.passOn "comprehension.variables-let-go" (.ref ad) ce:Sem Value) (λ_ _=>False)
    (eE (bL P w) P w K mg base N qual scope f cw A outer s0 H0 E).xe {s5 with heap:=h'}) QE s':=by
 generalize Lc:envOfC qual scope s0.heap.objs.size f cw=en at *;have Qw:en.frame=some s0.heap.objs.size:=by rw[<-Lc];rfl
 have HN:eM (en::outer)=s0.heap.objs.size::eM outer:=by unfold eM;rw[abd,Qw]
 have D0:Un (eM outer) [] H0 H2 s0.heap s2.heap:=I2.base;have D2:Un (eM (en::outer)) fp H2 H4 s2.heap s4.heap:=by rw[<-Lc];exact I4.base
 have D4:Un (eM (en::outer)) [] H4 H' s4.heap s'.heap:=F.un;have ST:s2.heap.FunFrames base (en::outer):=by rw[<-Lc];exact I2.stack
 have zd:∀b o,s0.heap.get? b=some o->b∉eM outer->b∉eM (en::outer):=λb o q hb z=>by
  rw[HN] at z;rcases aaR.mp z with z | z
  ·rw[z] at q;exact absurd (abt q) (aaK _)
  ·exact hb z
 have Mo:∀b o,s0.heap.get? b=some o->b∉fp:=λb o q z=>by
  rcases(f2 b z).2.2.2.1 with m | m
  ·exact absurd (show b∈([]:List Addr) from m) (by simp)
  ·exact absurd (abt q) (Nat.not_lt.mpr m)
 have XI:∀b∈eM (en::outer),b∉fp:=λb hb z=>by
  have q:=(f2 b z);rw[HN] at hb;rcases aaR.mp hb with e | e
  ·exact q.2.1 (by rw[e];rfl)
  ·exact q.2.2.1 e
 have XJ:∀b∈eM (en::outer),∃o,s2.heap.get? b=some o/\(∀us,o.data≠.fields us):=λb hb=>by
  obtain⟨_,o,q,nf⟩:=ST.mem hb;exact⟨o,q,nf⟩
 have Qx:C∉eM (en::outer):=λz=>by
  obtain⟨o,q,_⟩:=XJ C z;exact absurd (aaT (abt q) hC) (aaK _)
 have Mh:∀b∈eM (en::outer),H2 b=none:=λb hb=>I2.qM b (by show b∈eM (envOfC qual scope s0.heap.objs.size f cw::outer);rw[Lc];exact hb);obtain⟨B,a0,fl,c0,c2,c1⟩:=F.fl;obtain⟨m4,hn4,_⟩:=I4.loc;obtain⟨oC,es,ep,O2,dC,rC⟩:=hn4;have O2:s4.heap.get? C=some oC:=O2;have O1:H4 C=none:=I4.free;have hC':s'.heap.get? C=some oC:=D4.keep C oC O2 O1 Qx (by simp);have nC':H' C=none:=D4.free C oC O2 O1 (by simp);have JD:∀b o,(hideAll B [C]).get? b=some o->B.get? b=some o/\b≠C:=λb o q=>⟨of_hideAll _ q,λz=>by
  rw[z,hideAll_none [C] aaz] at q;cases q⟩
 have Qy:∀b o,B.get? b=some o->b≠C->(hideAll B [C]).get? b=some o:=λb o q n=>hideAll_get _ q (by simpa using n);have fl:Heap.FlyingW (hideAll B [C]) (en::outer) ad cls a0 s'.heap:=flyingW_base (λb o q=>(JD b o q).1) fl;rw[BZ (e2:=en) (show(compEnvC xE cl C en).frame=en.frame from rfl)];refine wpAny_looks_onW (L:=s0.heap.objs.size) (by rw[<-Lc];exact I2.ok.frames) Qw fl λh5 Mp OX=>?_;have XM:h5.Ns C m4:=OX.ns ⟨oC,es,ep,hC',dC,rC⟩;refine⟨m4,XM,λh6 Mq=>?_⟩;have Mr:Heap.HeldW (hideAll B [C]) (en::outer) ad cls a0 s0.heap.objs.size h6:=by
  obtain⟨q1,q2,q3,oe,vs,T,oT,ts,g1,g2,g3,g4,g5,g6,g7,g8,g9⟩:=Mp;obtain⟨o5,es5,ep5,e5,d5,_⟩:=XM;have Ms:ad≠C:=λz=>by
   rw[z,e5] at g1;cases g1;rw[d5] at g3;cases g3
  have nT:T≠C:=λz=>by
   rw[z,e5] at g7;cases g7;rw[d5] at g8;cases g8
  exact⟨λb o q=>(Mq.2 b (JD b o q).2).trans (q1 b o q),q2,si Mq q3 Qx,oe,vs,T,oT,ts,(Mq.2 ad Ms).trans g1,g2,g3,g4,g5,g6,(Mq.2 T nT).trans g7,g8,g9⟩
 refine B1 Mr hce λh7 Mt up7=>?_;show wpAny (model P w) (A.deeper (envOfC qual scope s0.heap.objs.size f cw)) (leaving (envOfC qual scope s0.heap.objs.size f cw) (.ref ad)) (λ_ ua=>bL P w outer H0 s0 E (.ref ad) ua) (λe' ua=>bL P w outer H0 s0 E e' ua) _;rw[Lc];refine leave_held Qw Mt λh8 Mu up8=>?_;have fr8:∀b∈eM (en::outer),∀o,s'.heap.get? b=some o->(∀us,o.data≠.fields us)->∃sl,h8.get? b=some {o with slots:=sl}:=λb hb o q nf=>by
  have nb:b≠C:=λz=>Qx (by rw[<-z];exact hb);obtain⟨x1,q1⟩:=OX b o q nf;have q2:=(Mq.2 b nb).trans q1;obtain⟨x3,q3⟩:=up7 b _ q2 nf;obtain⟨x4,q4⟩:=up8 b _ q3 nf;exact⟨x4,q4⟩
 have slot:∀b o,s2.heap.get? b=some o->b∈eM (en::outer)->∃sl,h8.get? b=some {o with slots:=sl}:=λb o q hb=>by
  obtain⟨o',q',nf⟩:=XJ b hb;rw[q] at q';cases q';obtain⟨x1,q1⟩:=D2.slot b o q (Mh b hb) hb (XI b hb);obtain⟨x2,q2⟩:=D4.slot b _ q1 (D2.free b o q (Mh b hb) (XI b hb)) hb (by simp);obtain⟨x3,q3⟩:=fr8 b hb _ q2 nf;exact⟨x3,q3⟩
 have low:∀b o,s2.heap.get? b=some o->b≠C:=λb o q=>aas (aaT (abt q) hC);have HV:∀b o,s0.heap.get? b=some o->H0 b=none->b∉eM outer->(hideAll B [C]).get? b=some o:=λb o q n hb=>by
  have q1:=D0.keep b o q n hb (by simp);have n1:=D0.free b o q n (by simp);have q2:=D2.keep b o q1 n1 (zd b o q hb) (Mo b o q);exact Qy b o (c0 b o q2 (D2.free b o q1 n1 (Mo b o q)) (zd b o q hb)) (low b o q1)
 have DJ:∀b o,s0.heap.get? b=some o->b∉eM outer->∃o',(hideAll B [C]).get? b=some o':=λb o q hb=>by
  obtain⟨o1,q1⟩:=D0.there b o q (by simp);obtain⟨o2,q2⟩:=D2.there b o1 q1 (Mo b o q);obtain⟨o3,q3⟩:=c2 b o2 q2 (zd b o q hb);exact⟨o3,Qy b o3 q3 (low b o1 q1)⟩
 have XN:∀b u o,H' b=some u->s'.heap.get? b=some o->(hideAll B [C]).get? b=some o:=λb u o e q=>Qy b o (c1 b u o e q) λz=>by
  rw[z,nC'] at e;cases e
 refine⟨ad,cls,H',rfl,⟨(F.os.trans I4.os).trans I2.os,F.bare,⟨λb o q n hb hx=>Mu.1 b o (HV b o q n hb),λb o q n hb hx=>?_,λb o q n hx=>?_,λb o q hx=>?_,λb xs q=>D4.ij b xs (D2.ij b xs (D0.ij b xs q)),λb o u q=>D4.hU b o u (D2.hU b o u (D0.hU b o u q)),λb ps q=>?_⟩,F.bT.JD XN Mu.1,
  ⟨hideAll B [C],a0,Mu,HV,DJ,λb u o e q=>?_⟩⟩,he⟩
 ·obtain⟨x1,q1⟩:=D0.slot b o q n hb hx;obtain⟨x2,q2⟩:=slot b _ q1 (by rw[HN];exact aau _ hb);exact⟨x2,q2⟩
 ·have q1:=(D0.there b o q hx).choose_spec;have n1:=D0.free b o q n hx;obtain⟨o2,q2⟩:=D2.there b _ q1 (Mo b o q);exact D4.free b o2 q2 (D2.free b _ q1 n1 (Mo b o q)) hx
 ·by_cases hb:b∈eM outer
  ·obtain⟨o1,q1⟩:=D0.there b o q hx;obtain⟨x2,q2⟩:=slot b o1 q1 (by rw[HN];exact aau _ hb);exact⟨_,q2⟩
  ·obtain⟨o1,q1⟩:=DJ b o q hb;exact⟨o1,Mu.1 b o1 q1⟩
 ·obtain⟨m1,e1⟩:=D0.iN b ps q;obtain⟨m2,e2⟩:=D2.iN b _ e1;obtain⟨m3,e3⟩:=D4.iN b _ e2;exact⟨m1++m2++m3,by rw[e3,Array.append_assoc,Array.append_assoc,Array.append_assoc]⟩
 ·obtain⟨o1,q1⟩:=(F.bT b u e).get;have q2:=XN b u o1 e q1;have q3:=Mu.1 b o1 q2;rw[q] at q3;cases q3;exact q2
noncomputable def Qz (X:Cx) (N':List Str) (xE:Scope) (E:XK):List (Str×Addr)->Addr->Shared->Hp->List Addr->Value->Shared->Prop:=λcl C s H ex e s'=>
 ∃pins σ H4 s4,Inv (md X N' xE cl C s H ex) pins σ H4 s4/\bL X.prog X.w X.stack H4 s4 E e s'
theorem DK {N':List Str} {xE:Scope} {cl:List (Str×Addr)} {C:Addr} {s:Shared} {H:Hp} {ex:List Addr}:
  eW (bL P w) ((md (eE (bL P w) P w K mg base N qual scope f cw A outer s0 H0 E) N' xE cl C s H ex).kc (Qz (eE (bL P w) P w K mg base N qual scope f cw A outer s0 H0 E) N' xE E cl C s H ex)) E:=
 λpins σ H4 s4 _ _ I c=>⟨pins,σ,H4,s4,I.fO,c⟩
theorem DL {elt target iter:Expr} {ifs:List Expr} {xE so:Scope} {pos:Pos} {wi:TI} {g:TG} {tc:TT} {te:TE} {k:Nat} {fr:List Nat} {N1 N':List Str} (hc:(eE (bL P w) P w K mg base N qual scope f cw A outer s0 H0 E).calm=true) (hN:N=N1)
  (Mi:(eE (bL P w) P w K mg base N qual scope f cw A outer s0 H0 E).env.scope=so) (S:fF N1 so N' xE k fr) (hi:PI (eE (bL P w) P w K mg base N qual scope f cw A outer s0 H0 E) target iter wi)
  (hg:∀cl C s H ex,PG (md (eE (bL P w) P w K mg base N qual scope f cw A outer s0 H0 E) N' xE cl C s H ex) target g) (ht:∀cl C s H ex,HP (md (eE (bL P w) P w K mg base N qual scope f cw A outer s0 H0 E) N' xE cl C s H ex) ifs tc)
  (he:∀cl C s H ex,PE ((md (eE (bL P w) P w K mg base N qual scope f cw A outer s0 H0 E) N' xE cl C s H ex).kc (Qz (eE (bL P w) P w K mg base N qual scope f cw A outer s0 H0 E) N' xE E cl C s H ex)) elt te)
  (hs:∀x,foldedSetIterable iter (eE (bL P w) P w K mg base N qual scope f cw A outer s0 H0 E).env x=pure x:=by intro _;rfl):
  PE (eE (bL P w) P w K mg base N qual scope f cw A outer s0 H0 E) (.ListComp elt [⟨target,iter,ifs,0⟩] xE pos) (tComp wi g tc te k fr):=by
 subst hN Mi;intro pins s σ H Q I h;rw[eval_ListComp];obtain⟨cl,gq,c1,c2,c3⟩:=hV (env:=(eE (bL P w) P w K mg base N qual scope f cw A outer s0 H0 E).env) (scope:=xE) λn hn=>I.ok.has n (S.outer _ hn rfl);refine BY (cl:=cl) rfl hs gq S.kind S.locs ?_;refine cU (hi pins s σ H _ I h) λv s1 h1=>cU h1 λFT s2 h2=>?_;obtain⟨it,fp,tn,J,H2,rfl,I2,T,yO,f2,hb⟩:=h2;refine wpAny_newObj_type (gR ?_);refine xA (XE:=Qz (eE (bL P w) P w K mg base N qual scope f cw A outer s0 H0 E) N' xE E) hc S c1 c2 (λx c m=>⟨x,(c3 x c m).1⟩) (λx hx c m=>(S.Gj _ hx rfl).2 (c3 x c m).2) hg ht he I2 T yO f2 hb ?_ ?_
 ·intro C e s' m ys bE n H' hC hn vl sz hD nD nC fin os bare un bT;subst e;exact⟨m,hn,λh' Gq=>⟨.ref _,_,comp_back I2 f2 hC vl sz hD nD nC os bare un bT Gq,rfl,fin _ (I2.bT.fresh (aam _)) nD⟩⟩
 ·rintro cl' C x s' e hC ⟨HU,σ4,H4,s4,I4,ad,cls,H',rfl,F,he'⟩;subst e;exact DI I2 hC f2 I4 F he' rfl
end
end L2
namespace L2
open PySem PySem.Spec PyProof.Rows PySem.W
section
variable {X : Cx}
end
end L2
namespace L2
open PySem PySem.Spec PyProof.Rows PySem.W
abbrev XO (h:Heap) (T:Addr) (a b c:Value):Prop:=h.get? T=some {cls:=.type "tuple",data:=.seq #[a,b,c]}
structure Ap3 (z TI TO i1 i2 i3 a b c:Addr):Prop where
 TIz:TI≠z
 TOz:TO≠z
 i1z:i1≠z
 i2z:i2≠z
 i3z:i3≠z
 TITO:TI≠TO
 TI1:TI≠i1
 TI2:TI≠i2
 TI3:TI≠i3
 TO1:TO≠i1
 TO2:TO≠i2
 TO3:TO≠i3
 i12:i1≠i2
 i13:i1≠i3
 i23:i2≠i3
 az:a≠z
 bz:b≠z
 cz:c≠z
 bTO:b≠TO
 cTO:c≠TO
 b1:b≠i1
 c1:c≠i1
 c2:c≠i2
section
variable {prog : Program} {w : World} {A : Around} {E : Value -> Shared -> Prop} {s : Shared}
end
abbrev XQ (h:Heap) (la:Addr):Heap:=h.push {cls:=.type "list_iterator",data:=.fields #[.ref la,.int 0 0]}
abbrev XR (h:Heap) (la lb:Addr):Heap:=(XQ h la).push {cls:=.type "list_iterator",data:=.fields #[.ref lb,.int 0 0]}
abbrev XS (h:Heap) (la lb lc:Addr):Heap:=(XR h la lb).push {cls:=.type "list_iterator",data:=.fields #[.ref lc,.int 0 0]}
abbrev XT (h:Heap) (la lb lc:Addr):Heap:=(XS h la lb lc).push {cls:=.type "tuple",data:=.seq #[.ref h.objs.size,.ref (XQ h la).objs.size,.ref (XR h la lb).objs.size]}
abbrev z3e (h:Heap) (la lb lc:Addr):Heap:=(XT h la lb lc).push {cls:=.type "tuple",data:=.seq #[.none,.none,.none]}
abbrev z3f (h:Heap) (la lb lc:Addr):Heap:=(z3e h la lb lc).push {cls:=.type "zip",data:=.fields #[.none,.bool false,.bool false,.ref (XS h la lb lc).objs.size,.ref (XT h la lb lc).objs.size]}
section
variable {prog : Program} {w : World} {A : Around} {E : Value -> Shared -> Prop} {s : Shared}
end
section
variable {X : Cx} {elts : List Expr} {kk : Nat} {t9 : Pos} {K : abg}
end
end L2
namespace L2
open PySem PySem.Spec PyProof.Rows PySem.W
section
variable {X : Cx} {K : abg}
noncomputable def tSortR (K:abg) (te:TE):TE:=λσ H Q=>te σ H λv H1=>∃p ns,v=.ref p/\bH K H1 p (List.map V.int ns)/\ns.length<64/\∀l,H1 l=none->Q (.ref l) (upd H1 l (.lst (List.map V.int (Nm.vG ns).reverse)))
theorem DM {e d:Expr} {te:TE} {p1 pos kp:Pos} (hg:Gl X "sorted") (hm:X.mg "sorted"=none) (he:PE X e te) (hd:PE X d (tC (.bl true))) (n1:noStar e=true:=by rfl):
  PE X (.Call (.Name "sorted" p1) [e] [⟨some "reverse",d,kp⟩] pos) (tSortR X.K te):=by
 intro pins s σ H Q I h;refine wpAny_Call_Name_kw (ji I hg hm (u:=.builtin "sorted") rfl ?_ ∅ ∅);refine PyProof.Rows.callWith_kw (e:=e) (rest:=[]) ?_ (by rw[se n1];rfl) (by rw[se n1];rfl) rfl rfl;rw[se n1];show wpAny _ _ (spliced [(false,eval e X.env)]) _ _ s;refine Calls.spliced_cons (cU (he pins s σ H _ I h) λu s1 ⟨x,H1,I1,r1,q1⟩=>Calls.spliced_nil ?_);refine PyProof.Rows.kws_cons (cU (hd pins s1 σ H1 (λv H2=>v=.bl true/\H2=H1) I1 ⟨rfl,rfl⟩) λdv s2 ⟨y,H2,I2,r2,ey,eh⟩=>PyProof.Rows.kws_nil ?_);subst ey;subst eh;have r2:dv=.bool true:=r2;subst r2;obtain⟨p,ns,rfl,hq,hn,q⟩:=q1;cases r1;obtain⟨bE,rv,pl,hz⟩:=I2.list hq;have hl:=rv.length;rw[aak] at hl;show wpAny _ _ (call (.builtin "sorted") [.ref p] [(aaj "reverse",.bool true)]) _ _ _;refine sorted_ints_rev pl.isList (intsAre_of rv) (by lia) λout Mm a1 a2 a3=>?_;have a3:Mm.Pairwise (·≥·):=a3;have e3:Mm=(Nm.vG ns).reverse:=by
  have:=Nm.vH ((List.reverse_perm Mm).trans a2) (List.pairwise_reverse.mpr a3)
  rw[<-this,List.reverse_reverse]
 subst e3;obtain⟨e,he⟩:=sortedAll_at s2.heap bE out;have fr:=I2.bT.fresh (a:=s2.heap.objs.size+1) (Nat.le_succ _);refine⟨.ref (s2.heap.objs.size+1),_,I2.laid (t':=s2.toks) (λ_ _=>sortedAll_old) (Nat.le_succ _) (o:=.lst (List.map V.int (Nm.vG ns).reverse)) ⟨?_,out.toList,e,iT a1,?_⟩,rfl,q _ fr⟩
 ·rw[aak,List.length_reverse,Nm.iS,sizeLine_eq];lia
 ·exact he
theorem B2 {e d:Expr} {te:TE} {p1 pos kp:Pos} (hg:Gl X "sorted") (hm:X.mg "sorted"=none) (he:PE X e te) (hd:PE X d (tC (.bl true))) (n1:noStar e=true:=by rfl) (hK:X.K=K:=by rfl):
  PE X (.Call (.Name "sorted" p1) [e] [⟨some "reverse",d,kp⟩] pos) (tSortR K te):=by subst hK;exact DM hg hm he hd n1
end
end L2
namespace PySem.SeqAt
open AutoSeq1 (wpAny_loadPart')
open MeetsSeq MeetsSeq2 MeetsSeq3
end PySem.SeqAt
namespace L2
open PySem PySem.Spec PyProof.Rows PySem.W
noncomputable def HW:List Int->List Int->Bool
 | [],[]=>true
 | [],_::_=>false
 | _::_,[]=>true
 | a::r,b::q=>if a=b then HW r q else decide (b<=a)
section
variable {X : Cx} {K : abg}
end
end L2
namespace PySem.UL
section
variable {prog : Program} {w : World} {A : Around} {E : Value -> Shared -> Prop} {s : Shared}
end
end PySem.UL
namespace L2
open PySem PySem.Spec PyProof.Rows PySem.W
section
variable {X : Cx} {K : abg}
end
end L2
namespace L2
open PySem PySem.Spec PyProof.Rows
structure sj (P:Program) (w:World) (K:abg) (mg:Str->Option Value) (base:Heap) (CX:pX) (k:Nat) (x:Str) (C:Addr) (ps:List Str) (sp:Sp):Prop where
 ex:∃f fd,Mk K C f/\gn P w K mg base CX k f fd ps sp/\mg x=some (.ref C)/\Binds K fd ps []
section
variable {X : Cx}
theorem Mv {CX:pX} {k:Nat} {x:Str} {C:Addr} {ps:List Str} {sp:Sp} {E:XK} {e:Expr} {es:List Expr} {t:TA} {p pos:Pos} (M:sj X.prog X.w X.K X.mg X.base CX k x C ps sp) (hr:eC (k+1) X.A) (hg:Gl X x) (hx:eW CX X E) (ha:PA X (e::es) t)
  (rP:(x==("__debug__":Str))=false:=by decide) (he:starEach (e::es) X.env=(false,eval e X.env)::starEach es X.env:=by rfl) (hpl:(backTo pos (starEach es X.env)).any (·.1)=false:=by rfl):
  PE X (.Call (.Name x p) (e::es) [] pos) (uH C sp [] E t):=by
 obtain⟨f,fd,m,F,hm,hb⟩:=M.ex;exact F1 m F hr hg hm hb .nil hx ha rP he hpl
end
structure O3 (K:abg) (mg:Str->Option Value) (x qual:Str) (st:Stmt) (C:Addr):Prop where
 ex:∃f fd,zc K "__init__" qual st f fd/\Mk K C f/\mg x=some (.ref C)
theorem O3.fE {P:Program} {w:World} {K:abg} {mg:Str->Option Value} {base:Heap} {CX:pX} {x qual:Str} {st:Stmt} {C:Addr} {ps:List Str} {k:Nat} {sp:Sp} (D:O3 K mg x qual st C)
  (hb:∀(kV doc pm:Value) (an:Option Addr) (cw ct:Value) (us:List Value),us.length=ps.length->bindArgs (abj "__init__" qual (bh st) (ba st) (aq st) .none kV doc pm an cw ct) ⟨us,[]⟩=pure (ps.zip us))
  (h:∀f fd,zc K "__init__" qual st f fd->gn P w K mg base CX k f fd ps sp):sj P w K mg base CX k x C ps sp:=by
 obtain⟨f,fd,F,m,hm⟩:=D.ex;exact⟨f,fd,m,h f fd F,hm,F.binds hb⟩
end L2
namespace L2
open PySem PySem.Spec PyProof.Rows
noncomputable instance Ld:DecidableEq PyData:=λ_ _=>Classical.propDecidable _
mutual
noncomputable def dQ:PyData->Bool
 | .int _=>true
 | .str x=>PyData.canLay0 (.str x)
 | .tuple xs=>jv xs
 | _=>false
noncomputable def jv:List PyData->Bool
 | []=>true
 | x::xs=>dQ x && jv xs
end
mutual
theorem qY:∀(d:PyData),dQ d=true->d.canLay0=true
 | .none,h=>by simp [dQ] at h
 | .bool _,h=>by simp [dQ] at h
 | .int _,_=>by simp [PyData.canLay0]
 | .str x,h=>by rw[dQ] at h;exact h
 | .list _,h=>by simp [dQ] at h
 | .tuple xs,h=>by rw[dQ] at h;rw[PyData.canLay0];exact xF xs h
 | .dict _,h=>by simp [dQ] at h
theorem xF:∀(xs:List PyData),jv xs=true->PyData.canLayAll0 xs=true
 | [],_=>by simp [PyData.canLayAll0]
 | x::xs,h=>by
  rw[jv,aaX] at h;rw[PyData.canLayAll0,aaX];exact⟨qY x h.1,xF xs h.2⟩
end
mutual
theorem DN:∀(x y:PyData),dQ x=true->dQ y=true->PyData.eqv x y=decide (x=y)
 | .int i,y,_,hy=>by
  cases y with
  | int j=>
   rw[PyData.eqv];by_cases c:i=j
   ·subst c;simp
   ·rw[decide_eq_false (λe=>c (by injection e))];simp [c]
  | str _=>simp [PyData.eqv]
  | tuple _=>simp [PyData.eqv]
  | _=>simp [dQ] at hy
 | .str a,y,_,hy=>by
  cases y with
  | str b=>
   rw[PyData.eqv];by_cases c:a=b
   ·subst c;simp
   ·rw[decide_eq_false (λe=>c (by injection e))];simp [c]
  | int _=>simp [PyData.eqv]
  | tuple _=>simp [PyData.eqv]
  | _=>simp [dQ] at hy
 | .tuple xs,y,hx,hy=>by
  cases y with
  | tuple ys=>
   rw[dQ] at hx hy;rw[PyData.eqv,AI xs ys hx hy];by_cases c:xs=ys
   ·subst c;simp
   ·rw[decide_eq_false c,decide_eq_false (λe=>c (by injection e))]
  | int _=>simp [PyData.eqv]
  | str _=>simp [PyData.eqv]
  | _=>simp [dQ] at hy
 | .none,_,h,_=>by simp [dQ] at h
 | .bool _,_,h,_=>by simp [dQ] at h
 | .list _,_,h,_=>by simp [dQ] at h
 | .dict _,_,h,_=>by simp [dQ] at h
theorem AI:∀(xs ys:List PyData),jv xs=true->jv ys=true->PyData.eqvAll xs ys=decide (xs=ys)
 | [],[],_,_=>by simp [PyData.eqvAll]
 | [],_::_,_,_=>by simp [PyData.eqvAll]
 | _::_,[],_,_=>by simp [PyData.eqvAll]
 | x::xs,y::ys,hx,hy=>by
  rw[jv,aaX] at hx hy;rw[PyData.eqvAll,DN x y hx.1 hy.1,AI xs ys hx.2 hy.2];by_cases c:x=y
  ·subst c;by_cases d:xs=ys
   ·subst d;simp
   ·rw[decide_eq_false d,decide_eq_false (λe=>d (List.cons.inj e).2)];simp
  ·rw[decide_eq_false c,decide_eq_false (λe=>c (List.cons.inj e).1)];simp
end
mutual
theorem su {h h':Heap} {d:Addr} {o:Obj} {es ep} (ho:h.get? d=some o) (hd:o.data=.dict es ep) (hs:Heap.SameBut d h h'):∀(x:PyData) (v:Value) (as:List Addr),dQ x=true->Reads h v x as->Reads h' v x as
 | .int _,_,_,_,r=>by cases r;exact .int _ _
 | .str _,_,_,_,r=>by cases r;exact .str _ _
 | .tuple xs,_,_,hx,r=>by
  rw[dQ] at hx;cases r with
  | @tuple a o' vs n _ _ e c q t=>
   have ne:a≠d:=λz=>by
    subst z;rw[ho] at e;cases e;rw[hd] at q;cases q
   exact .tuple ((hs.2 a ne).trans e) c q (qe ho hd hs xs _ _ hx t)
 | .none,_,_,h,_=>by simp [dQ] at h
 | .bool _,_,_,h,_=>by simp [dQ] at h
 | .list _,_,_,h,_=>by simp [dQ] at h
 | .dict _,_,_,h,_=>by simp [dQ] at h
theorem qe {h h':Heap} {d:Addr} {o:Obj} {es ep} (ho:h.get? d=some o) (hd:o.data=.dict es ep) (hs:Heap.SameBut d h h'):∀(xs:List PyData) (vs:List Value) (as:List Addr),jv xs=true->ReadsAll h vs xs as->ReadsAll h' vs xs as
 | [],_,_,_,r=>by cases r;exact .nil
 | x::xs,_,_,hx,r=>by
  rw[jv,aaX] at hx;cases r with
  | cons r1 r2=>exact .cons (su ho hd hs x _ _ hx.1 r1) (qe ho hd hs xs _ _ hx.2 r2)
end
mutual
noncomputable def xG (w:World):PyData->Int
 | .int i=>IM w (.inl i)
 | .str x=>IM w (.inr x)
 | .tuple xs=>reduceHash (Builtin.Tuple.tupleHashOf (gS w xs))
 | _=>0
noncomputable def gS (w:World):List PyData->List Int
 | []=>[]
 | x::xs=>xG w x::gS w xs
end
mutual
noncomputable def Mw:PyData->Nat
 | .tuple xs=>sx xs+1
 | _=>1
noncomputable def sx:List PyData->Nat
 | []=>0
 | x::xs=>Mw x+sx xs
end
section
variable {prog : Program} {w : World}
noncomputable def PH (prog:Program) (w:World) (m:Nat) (h:Heap) (d:PyData) (v:Value):Prop:=∀(A:Around) (E:Value->Shared->Prop) (s:Shared) (Q:Int->Shared->Prop),s.heap=h->A.units+m<cLine->
 Q (xG w d) {s with toks:=s.toks+Mw d}->wpAny (model prog w) A (pyHash v) Q E s
inductive HX (prog:Program) (w:World) (m:Nat) (h:Heap):List PyData->List Value->Prop
 | nil:HX prog w m h [] []
 | cons {d v ds vs}:PH prog w m h d v->HX prog w m h ds vs->HX prog w m h (d::ds) (v::vs)
theorem B3 (xs ys:List PyData):gS w (xs++ys)=gS w xs++gS w ys:=by
 induction xs with
 | nil=>simp [gS]
 | cons x xs ih=>simp [gS,ih]
theorem DO (xs ys:List PyData):sx (xs++ys)=sx xs+sx ys:=by
 induction xs with
 | nil=>simp [sx]
 | cons x xs ih=>simp [sx,ih,Nat.add_assoc]
theorem DP {m:Nat} {h:Heap} {ds:List PyData} {a:Addr} {o:Obj} {items n} (ho:h.get? a=some o) (hc:o.cls=.type "tuple") (hd:o.data=.seq items n) (hi:HX prog w m h ds items.toList):PH prog w (m+1) h (.tuple ds) (.ref a):=by
 intro A E s Q hh hu hq;subst hh;have hT:s.TypeIs (.ref a) "tuple":=⟨o,ho,hc⟩;have Qk:A.units<cLine:=by lia
 unfold pyHash
 first | unfold pyHashByItsType | skip
 first | refine wpAny_bind (wpAny_cRoomFor_or (.inr Qk) ?_) | skip
 refine wpAny_bind (wpAny_specialOf hT F.slot_tuple_hash.lookup ?_);show wpAny _ _ (if (some (Value.builtin "tuple.__hash__")==some Value.none)=true then _ else _) Q E s;rw[if_neg (by rw[beq_builtin_none];exact aaF)];refine wpAny_bind (wpAny_specialOf hT F.slot_tuple_hash.lookup ?_);show wpAny _ _ (callSpecialIfBoundUnlessNone? (.ref a) "__hash__" _ >>=_) Q E s;refine wpAny_bind (wpAny_callSpecialIfBoundUnlessNone?_slot hT F.slot_tuple_hash (wpAny_call_entry F.slot_tuple_hash hT F.entry_tuple_hash ?_ (F.args_tuple_hash_1 _)));show wpAny _ _ (Builtin.Tuple.tupleItemsOf (.ref a) >>=_) _ _ s;refine wpAny_bind (wpAny_tupleItemsOf ho hd ?_);refine wpAny_bind ?_;rw[<-Array.forIn_toList];refine wpAny_forIn_list _
  (λrest (b:Array Int) s'=>∃done left,ds=done++left/\HX prog w m s.heap left rest/\b.toList=gS w done/\s'={s with toks:=s.toks+sx done})
  _ ?_ ?_ _ _ ⟨[],ds,rfl,hi,rfl,rfl⟩
 ·rintro x rest b s' ⟨done,left,rfl,hl,hb,rfl⟩;cases hl with
  | @cons k _ XU _ h1 Le=>
   refine wpAny_bind (h1 _ _ _ _ rfl (by show A.units+1+m<cLine;lia) ?_);have e1:(b.push (xG w k)).toList=gS w (done++ [k]):=by rw[B3];simp [hb,gS]
   have e2:s.toks+sx done+Mw k=s.toks+sx (done++ [k]):=by rw[DO];simp [sx,Nat.add_assoc]
   first
    | exact wpAny_pure ⟨done++ [k],XU,by simp,Le,e1,by rw[<-e2]⟩
    | exact wpAny_bind (wpAny_pure (wpAny_pure ⟨done++ [k],XU,by simp,Le,e1,by rw[<-e2]⟩))
 ·rintro b s' ⟨done,left,rfl,hl,hb,rfl⟩;cases hl;rw[aaN] at hq;show wpAny _ _ (retInt (Builtin.Tuple.tupleHashOf b.toList)) _ _ _;rw[hb];refine wpAny_ret_mkInt ?_;show wpAny _ _ (if (decide (-(2:Int)^63<=Builtin.Tuple.tupleHashOf (gS w done)) && decide (Builtin.Tuple.tupleHashOf (gS w done)<2^63))=true then _ else _) Q E _;rw[xG,Mw] at hq;unfold reduceHash at hq;by_cases hr:(decide (-(2:Int)^63<=Builtin.Tuple.tupleHashOf (gS w done)) && decide (Builtin.Tuple.tupleHashOf (gS w done)<2^63))=true
  ·rw[if_pos hr];rw[if_pos hr] at hq;exact wpAny_pure (by simpa [Nat.add_assoc] using hq)
  ·rw[if_neg hr];rw[if_neg hr] at hq;exact wpAny_bind (wpAny_rule (wpAny_pure (by simpa [Nat.add_assoc] using hq)))
mutual
theorem DQ {h:Heap}:∀(d:PyData) (v:Value) (as:List Addr),dQ d=true->Reads h v d as->PH prog w d.depth h d v
 | .int i,_,_,_,r=>by
  cases r with
  | int _ t=>
   intro A E s Q _ _ hq;exact(cK prog w).pyHash (k:=.inl i) (jq (k:=.inl i) ⟨t,rfl⟩) hq
 | .str x,_,_,_,r=>by
  cases r with
  | str _ t=>
   intro A E s Q _ _ hq;exact(cK prog w).pyHash (k:=.inr x) (jq (k:=.inr x) ⟨t,rfl⟩) hq
 | .tuple xs,_,_,hx,r=>by
  rw[dQ] at hx;cases r with
  | tuple e c q t=>exact DP e c q (AJ xs _ _ hx t)
 | .none,_,_,h,_=>by simp [dQ] at h
 | .bool _,_,_,h,_=>by simp [dQ] at h
 | .list _,_,_,h,_=>by simp [dQ] at h
 | .dict _,_,_,h,_=>by simp [dQ] at h
theorem AJ {h:Heap}:∀(ds:List PyData) (vs:List Value) (as:List Addr),jv ds=true->ReadsAll h vs ds as->HX prog w (PyData.depthAll ds) h ds vs
 | [],_,_,_,r=>by cases r;exact .nil
 | x::xs,_,_,hx,r=>by
  rw[jv,aaX] at hx;cases r with
  | cons r1 r2=>
   have p1:=DQ x _ _ hx.1 r1;have p2:=AJ xs _ _ hx.2 r2;have up:∀{m m':Nat} {ds:List PyData} {vs:List Value},m<=m'->HX prog w m h ds vs->HX prog w m' h ds vs:=λl q=>by
    induction q with
    | nil=>exact .nil
    | cons p _ ih=>exact .cons (λA E s Q e u=>p A E s Q e (by lia)) ih
   refine .cons (λA E s Q e u=>p1 A E s Q e ?_) (up ?_ p2)
   ·rw[PyData.depthAll] at u;lia
   ·rw[PyData.depthAll];lia
end
theorem xH {h:Heap} {k:Nat} {a:Addr} {o:Obj} {items n} (ho:h.get? a=some o) (hc:o.cls=.type "tuple") (hd:o.data=.seq items n) (hi:∀v∈items.toList,∀(A:Around) (E:Value->Shared->Prop) (s:Shared) (Q:Bool->Shared->Prop),s.heap=h->Q true s->wpAny (model prog w) A (eqIsQuiet k v) Q E s)
  (A:Around) (E:Value->Shared->Prop) (s:Shared) (Q:Bool->Shared->Prop) (hh:s.heap=h) (hq:Q true s):wpAny (model prog w) A (eqIsQuiet (k+1) (.ref a)) Q E s:=by
 subst hh;have hT:s.TypeIs (.ref a) "tuple":=⟨o,ho,hc⟩;unfold eqIsQuiet;refine wpAny_bind (wpAny_specialOf hT F.slot_tuple_eq.lookup ?_);show wpAny _ _ (isInstance (.ref a) (.type "tuple") >>=_) _ _ s;refine wpAny_bind (wpAny_isInstance hT isSubtype_tuple_tuple ?_);simp only[Bool.not_true,Bool.false_eq_true,if_false];refine wpAny_bind (wpAny_seqItems ho hd ?_);refine wpAny_bind ?_;show wpAny _ _ (forIn items _ _) _ _ s;rw[<-Array.forIn_toList];refine wpAny_forIn_list _ (λrest r s'=>r.1=none/\s'=s/\∀v∈rest,v∈items.toList) _ ?_ ?_ _ _ ⟨rfl,rfl,λ_ h=>h⟩
 ·rintro v rest r s' ⟨hr,rfl,BK⟩;refine wpAny_bind (hi v (BK v aaz) _ _ _ _ rfl ?_);simp only[Bool.not_true,Bool.false_eq_true,if_false];exact wpAny_pure ⟨rfl,rfl,λu Mx=>BK u (aau _ Mx)⟩
 ·rintro⟨r1,r2⟩ s' ⟨hr,rfl,_⟩;simp only at hr;subst hr;exact wpAny_pure hq
mutual
theorem uW {h:Heap}:∀(d:PyData) (v:Value) (as:List Addr) (k:Nat),dQ d=true->d.depth<=k->Reads h v d as->∀(A:Around) (E:Value->Shared->Prop) (s:Shared) (Q:Bool->Shared->Prop),s.heap=h->Q true s->wpAny (model prog w) A (eqIsQuiet k v) Q E s
 | .int _,_,_,_,_,_,r=>by
  cases r;intro A E s Q _ hq;rw[eqIsQuiet_byValue _ rfl];exact wpAny_pure hq
 | .str _,_,_,_,_,_,r=>by
  cases r;intro A E s Q _ hq;rw[eqIsQuiet_byValue _ rfl];exact wpAny_pure hq
 | .tuple xs,_,_,k,hx,hk,r=>by
  rw[dQ] at hx;rw[PyData.depth] at hk;cases k with
  | zero=>lia
  | succ k=>
   cases r with
   | tuple e c q t=>exact xH e c q (sy xs _ _ k hx (by lia) t)
 | .none,_,_,_,h,_,_=>by simp [dQ] at h
 | .bool _,_,_,_,h,_,_=>by simp [dQ] at h
 | .list _,_,_,_,h,_,_=>by simp [dQ] at h
 | .dict _,_,_,_,h,_,_=>by simp [dQ] at h
theorem sy {h:Heap}:∀(ds:List PyData) (vs:List Value) (as:List Addr) (k:Nat),jv ds=true->PyData.depthAll ds<=k->ReadsAll h vs ds as->∀v∈vs,∀(A:Around) (E:Value->Shared->Prop) (s:Shared) (Q:Bool->Shared->Prop),s.heap=h->Q true s->wpAny (model prog w) A (eqIsQuiet k v) Q E s
 | [],_,_,_,_,_,r=>by
  cases r;intro v hv;simp at hv
 | x::xs,_,_,k,hx,hk,r=>by
  rw[jv,aaX] at hx;rw[PyData.depthAll] at hk;cases r with
  | cons r1 r2=>
   intro v hv;rcases aaR.mp hv with rfl | hv
   ·exact uW x _ _ k hx.1 (by lia) r1
   ·exact sy xs _ _ k hx.2 (by lia) r2 v hv
end
noncomputable def IsN (h:Heap) (k:PyData) (a:Addr):Prop:=dQ k=true/\k.depth<=8/\∃as,Reads h (.ref a) k as
noncomputable def iw (prog:Program) (w:World):HeapKind prog w PyData where
 is:=IsN
 hash:=xG w
 draws:=Mw
 room:=λA=>A.units+8<cLine
 inj:=fun⟨hx,_,_,rx⟩ ⟨_,_,_,ry⟩=>SeqAt.Reads.unique _ _ _ _ _ (qY _ hx) rx ry
 keeps:=fun⟨hx,hd,as,r⟩ ho hdd hs=>⟨hx,hd,as,su ho hdd hs _ _ _ hx r⟩
 pyHash:=λhu ⟨hx,hd,_,r⟩ h=>DQ _ _ _ hx r _ _ _ _ rfl (by lia) h
 eqBool:=λ{A E s x y a b Q} hu ⟨hx,dx,_,rx⟩ ⟨hy,dy,_,ry⟩ h=>SeqAt.eqBoolOverData _ _ _ _ _ _ _ _ _ _ _ _ rx ry (qY _ hx) (qY _ hy) (by lia) (by rw[DN _ _ hx hy];exact h)
 quiet:=fun⟨hx,hd,_,r⟩ h=>uW _ _ _ 8 hx hd r _ _ _ _ rfl h
end
end L2
namespace L2
open PySem PySem.Spec PyProof.Rows
mutual
noncomputable def df:Dat->PyData
 | .dI=>.none
 | .bl b=>.bool b
 | .int i=>.int i
 | .str x=>.str x
 | .tup l=>.tuple (iy l)
 | .lst l=>.list (iy l)
noncomputable def iy:List Dat->List PyData
 | []=>[]
 | d::ds=>df d::iy ds
end
section
variable {P : Program} {w : World} {H : Hp} {h : Heap}
mutual
theorem fm (ok:hJ P w H h):∀(d:Dat) (v:V) (u:Value),Rep H d v->RelV v u->∃as,Reads h u (df d) as
 | .dI,v,u,r,q=>by
  rw[Rep] at r;subst r;cases (show u=Value.none from q);exact⟨_,.none⟩
 | .bl b,v,u,r,q=>by
  rw[Rep] at r;subst r;cases (show u=Value.bool b from q);exact⟨_,.bool b⟩
 | .int i,v,u,r,q=>by
  rw[Rep] at r;subst r;obtain⟨t,rfl⟩:=(show ∃t,u=Value.int i t from q);exact⟨_,.int i t⟩
 | .str x,v,u,r,q=>by
  rw[Rep] at r;subst r;obtain⟨t,rfl⟩:=(show ∃t,u=Value.str x t from q);exact⟨_,.str x t⟩
 | .tup l,v,u,r,q=>by
  rw[Rep] at r;obtain⟨p,vs,rfl,hp,rl⟩:=r;cases (show u=Value.ref p from q);obtain⟨_,bE,rv,o,h1,h2,n,h3⟩:=(show cS P w H h p (.tup vs) from ok p _ hp);obtain⟨as,ra⟩:=oS ok l vs bE rl rv;exact⟨as,.tuple h1 h2 h3 (by simpa using ra)⟩
 | .lst l,v,u,r,q=>by
  rw[Rep] at r;obtain⟨p,vs,rfl,hp,rl⟩:=r;cases (show u=Value.ref p from q);obtain⟨_,bE,n,rv,h1⟩:=(show cS P w H h p (.lst vs) from ok p _ hp);obtain⟨as,ra⟩:=oS ok l vs bE rl rv;exact⟨p::as,.list h1 rfl rfl (by simpa using ra)⟩
theorem oS (ok:hJ P w H h):∀(ds:List Dat) (vs:List V) (us:List Value),bq H ds vs->bJ vs us->∃as,ReadsAll h us (iy ds) as
 | [],vs,us,r,q=>by
  rw[bq] at r;subst r;cases q;exact⟨_,.nil⟩
 | d::ds,vs,us,r,q=>by
  rw[bq] at r;obtain⟨v,rest,rfl,r1,r2⟩:=r;cases q with
  | cons q1 q2=>
   obtain⟨a1,h1⟩:=fm ok d v _ r1 q1;obtain⟨a2,h2⟩:=oS ok ds rest _ r2 q2;exact⟨_,.cons h1 h2⟩
end
end
noncomputable def kh (H:Hp) (d:Dat) (b:Addr):Prop:=dQ (df d)=true/\(df d).depth<=8/\Rep H d (.ref b)
theorem kh.mono {H H':Hp} {d:Dat} {b:Addr} (s:aB H H') (k:kh H d b):kh H' d b:=⟨k.1,k.2.1,k.2.2.mono s⟩
theorem kh.is {P:Program} {w:World} {H:Hp} {h:Heap} {d:Dat} {b:Addr} (ok:hJ P w H h) (k:kh H d b):(iw P w).is h (df d) b:=⟨k.1,k.2.1,fm ok d _ _ k.2.2 rfl⟩
abbrev Rows:=List (Dat×Addr×Int)
noncomputable def xI (H:Hp) (ks:Rows):Prop:=∀p∈ks,kh H p.1 p.2.1
theorem xI.mono {H H':Hp} {ks:Rows} (s:aB H H') (k:xI H ks):xI H' ks:=λp hp=>(k p hp).mono s
noncomputable def iY (ks:Rows) (k:PyData):Option Int:=(ks.find? λp=>decide (df p.1=k)).map (·.2.2)
abbrev Lf:Rows->List (PyData×Addr×Value)->Prop:=Paired λp q=>df p.1=q.1/\p.2.1=q.2.1/\∃t,q.2.2=Value.int p.2.2 t
noncomputable def Fu (P:Program) (w:World) (a:Addr) (ks:Rows):HO:=.ext λh=>∃o es ep xs,h.get? a=some o/\o.ExactDict/\o.data=.dict es ep/\es.toList=xs.map (entryOfKey (iw P w))/\(xs.map (·.1)).Nodup/\Lf ks xs/\ks.length<=sizeLine/\(a==sysModules)=false
section
variable {P : Program} {w : World} {H : Hp} {h : Heap} {a : Addr}
theorem DR {ks:Rows} {xs:List (PyData×Addr×Value)} {o es ep} (h1:h.get? a=some o) (h2:o.ExactDict) (h3:o.data=.dict es ep) (h4:es.toList=xs.map (entryOfKey (iw P w))) (h5:(xs.map (·.1)).Nodup) (h6:Lf ks xs) (h7:ks.length<=sizeLine) (h8:(a==sysModules)=false):cS P w H h a (Fu P w a ks):=
 ⟨⟨o,es,ep,xs,h1,h2,h3,h4,h5,h6,h7,h8⟩,⟨o,h1⟩,λ_ _ ⟨o,es,ep,xs,g1,g⟩ k=>⟨o,es,ep,xs,k _ g1,g⟩⟩
theorem DS {ks:Rows} (ok:hJ P w H h) (e:H a=some (Fu P w a ks)) (al:xI H ks):ks.length<=sizeLine/\(a==sysModules)=false/\∃xs,Lf ks xs/\h.DictOfH (iw P w) a xs:=by
 obtain⟨⟨o,es,ep,xs,g1,g2,g3,g4,g5,g6,g7,g8⟩,_⟩:=(show cS P w H h a (Fu P w a ks) from ok a _ e);refine⟨g7,g8,xs,g6,o,es,ep,g1,g2,g3,g4,λx hx=>?_,g5⟩;have all:∀{l:Rows} {m:List (PyData×Addr×Value)},Lf l m->xI H l->∀x∈m,(iw P w).is h x.1 x.2.1:=by
  intro l m q;induction q with
  | nil=>intro _ x hx;exact nomatch hx
  | @cons p q ps qs hq t ih=>
   intro al x hx;rcases aaR.mp hx with e | hx
   ·subst e;rw[<-hq.1,<-hq.2.1];exact(al p aaz).is ok
   ·exact ih (λp hp=>al p (aau _ hp)) x hx
 exact all g6 al x hx
theorem Lf.val {ks:Rows} {xs:List (PyData×Addr×Value)} (r:Lf ks xs) (k:PyData):(iY ks k=none/\atKey xs k=none)\/∃i t b,iY ks k=some i/\atKey xs k=some (b,Value.int i t):=by
 induction r with
 | nil=>exact .inl ⟨rfl,rfl⟩
 | @cons p q ps qs h t ih=>
  obtain⟨h1,h2,tk,h3⟩:=h;by_cases e:df p.1=k
  ·have e':q.1=k:=h1.symm.trans e;refine .inr ⟨p.2.2,tk,q.2.1,?_,?_⟩
   ·unfold iY;rw[aaQ,decide_eq_true e]
    rfl
   ·unfold atKey;rw[aaQ,decide_eq_true e',<-h3]
    rfl
  ·have e':¬q.1=k:=λz=>e (h1.trans z);have a1:iY (p::ps) k=iY ps k:=by
    unfold iY;rw[aaQ,decide_eq_false e]
   have a2:atKey (q::qs) k=atKey qs k:=by
    unfold atKey;rw[aaQ,decide_eq_false e']
   rw[a1,a2];exact ih
end
noncomputable def DT (P:Program) (w:World):TE:=λ_ H Q=>∀p,H p=none->Q (.ref p) (upd H p (Fu P w p []))
noncomputable def My (P:Program) (w:World) (H:Hp) (x y:V) (o:Option Int):Prop:=∃a b d ks,x=.ref a/\y=.ref b/\H a=some (Fu P w a ks)/\xI H ks/\kh H d b/\o=iY ks (df d)
noncomputable def HY (P:Program) (w:World) (td ty:TE):TE:=λσ H Q=>td σ H λx H1=>ty σ H1 λy H2=>∃i,My P w H2 x y (some i)/\Q (.int i) H2
noncomputable def AK (P:Program) (w:World) (ty td:TE):TE:=λσ H Q=>ty σ H λy H1=>td σ H1 λx H2=>∃o,My P w H2 x y o/\Q (.bl (!o.isSome)) H2
noncomputable def HZ (P:Program) (w:World) (td ty tv:TE):TS:=λD σ H=>tv σ H λv H1=>td σ H1 λx H2=>ty σ H2 λy H3=>∃a b d ks i,x=.ref a/\y=.ref b/\v=.int i/\H3 a=some (Fu P w a ks)/\xI H3 ks/\kh H3 d b/\iY ks (df d)=none/\ks.length<sizeLine/\D.nx σ (upd H3 a (Fu P w a (ks++ [(d,b,i)])))
section
variable {X : Cx} {P : Program} {w : World} {o i e value : Expr} {pos pos' t9 : Pos} {td ty tv : TE}
theorem DU (hP:X.prog=P:=by rfl) (hw:X.w=w:=by rfl):PE X (.Dict [] [] pos) (DT P w):=λpins s σ H Q I h=>by
 subst hP hw;exact wpAny_Dict_empty ⟨.ref s.heap.objs.size,_,I.laid (a:=s.heap.objs.size) (o:=Fu X.prog X.w s.heap.objs.size []) (t':=s.toks) (λ_ _ q=>abq _ q) (aam _) (DR (xs:=[]) (abr _ rfl) ⟨rfl,rfl,rfl⟩ rfl rfl List.nodup_nil .nil (aap _) (beq_eq_false_iff_ne.mpr (Ne.symm (aas I.L5)))),rfl,h _ (I.bT.fresh (aam _))⟩
theorem DV {A:Around} (hu:A.units+64<cLine):(iw P w).room A.in1:=(by show A.units+1+8<cLine;lia)
theorem GG (hu:X.A.units+64<cLine) (ho:PE X o td) (hi:PE X i ty) (hs:Jt i) (hP:X.prog=P:=by rfl) (hw:X.w=w:=by rfl):PE X (.Subscript o i pos) (HY P w td ty):=by
 subst hP hw;intro pins s σ H Q I h;refine Au PySem.F.slot_dict_getitem.lookup hs (cU (ho pins s σ H _ I h) λu s1 ⟨x,H1,I1,rx,q1⟩=>cU (hi pins s1 σ H1 _ I1 q1) λiv s2 dX=>?_);obtain⟨y,H2,I2,ry,j,⟨a,b,d,ks,ex,ey,ea,al,kn,lo⟩,q2⟩:=dX;subst ex ey;obtain rfl:u=Value.ref a:=rx;obtain rfl:iv=Value.ref b:=ry;obtain⟨z,hd,xs,rel,dd⟩:=DS I2.bT ea al;refine⟨dd.typeIs,?_⟩;rcases rel.val (df d) with ⟨l1,_⟩ | ⟨j',t,b',l1,l2⟩
 ·rw[l1] at lo;cases lo
 ·rw[l1] at lo;cases lo;exact wpAny_getItem_heap (DV hu) (kn.is I2.bT) dd l2 ⟨.int j,H2,I2.tok _,⟨t,rfl⟩,q2⟩
theorem B4 (hu:X.A.units+64<cLine) (hi:PE X i ty) (ho:PE X o td) (hP:X.prog=P:=by rfl) (hw:X.w=w:=by rfl):PC X .NotIn i o (AK P w ty td):=by
 subst hP hw;intro pins s σ H Q I h;refine cU (hi pins s σ H _ I h) λiv s1 ⟨y,H1,I1,ry,q1⟩=>cU (ho pins s1 σ H1 _ I1 q1) λu s2 dX=>?_;obtain⟨x,H2,I2,rx,ov,⟨a,b,d,ks,ex,ey,ea,al,kn,lo⟩,q2⟩:=dX;subst ex ey;obtain rfl:u=Value.ref a:=rx;obtain rfl:iv=Value.ref b:=ry;obtain⟨z,hd,xs,rel,dd⟩:=DS I2.bT ea al;refine wpAny_notIn_heap (DV hu) (kn.is I2.bT) hd dd ?_
 have:(atKey xs (df d)).isSome=ov.isSome:=by
  rcases rel.val (df d) with ⟨l1,l2⟩ | ⟨j',t,b',l1,l2⟩
  ·rw[lo,l1,l2]
   rfl
  ·rw[lo,l1,l2]
   rfl
 rw[this];exact⟨.bl (!ov.isSome),H2,I2.tok _,rfl,q2⟩
theorem GH (hu:X.A.units+64<cLine) (ho:PE X o td) (hi:PE X i ty) (hv:PE X value tv) (hs:swapsWith value (some (.Subscript o i pos')) pos.line X.env=pure false) (hP:X.prog=P:=by rfl) (hw:X.w=w:=by rfl):
  PS X (.Assign [.Subscript o i pos'] value pos) (HZ P w td ty tv):=by
 subst hP hw;intro pins s σ H D I h;refine wpAny_Assign_Subscript (cU (hv pins s σ H _ I h) λr s1 ⟨v,H1,I1,rv,q1⟩=>cU (ho pins s1 σ H1 _ I1 q1) λu s2 ⟨x,H2,I2,rx,q2⟩=>cU (hi pins s2 σ H2 _ I2 q2) λiv s3 dX=>?_) hs;obtain⟨y,H3,I3,ry,a,b,d,ks,j,ex,ey,ev,ea,al,kn,lo,ln,q3⟩:=dX;subst ex ey ev;obtain rfl:u=Value.ref a:=rx;obtain rfl:iv=Value.ref b:=ry;obtain⟨t,rfl⟩:=(show ∃t,r=Value.int j t from rv);obtain⟨z,hd,xs,rel,dd⟩:=DS I3.bT ea al;have hz:xs.length<=sizeLine:=by rw[<-Paired.length rel];exact z
 have la:atKey xs (df d)=none:=by
  rcases rel.val (df d) with ⟨l1,l2⟩ | ⟨j',t,b',l1,l2⟩
  ·exact l2
  ·rw[l1] at lo;cases lo
 refine wpAny_setItem_heap (hsz:=hz) (DV hu) (kn.is I3.bT) dd λh' BI hs=>⟨σ,_,?_,q3⟩;rw[storedH_new la] at BI;obtain⟨q,es,ep,hq,h2,h3,h4,_,h5⟩:=BI;exact qS I3 (by rw[ea];exact True.intro) hs ⟨q,hq⟩ (DR hq h2 h3 h4 h5 (Paired.snoc rel ⟨rfl,rfl,t,rfl⟩) (by rw[aaq];exact ln) hd)
end
end L2
namespace L2
open PySem PySem.Spec PyProof.Rows PySem.W
section
variable {X : Cx} {K : abg}
theorem j3 {P:Program} {w:World} {H:Hp} {h:Heap} (ok:hJ P w H h) {ds:List Dat} {xs:List V} {us:List Value} (r:bq H ds xs) (v:bJ xs us) {i:Nat} {u:Value} (e:us[i]?=some u):∃d as,ds[i]?=some d/\Reads h u (df d) as:=by
 have l1:=r.length;have l2:=v.length;have hi:=(abn.mp e).1;have ex:xs[i]?=some (xs[i]'(by lia)):=aat (by lia);obtain⟨u',e1,rv⟩:=v.get ex;rw[e] at e1;cases e1;obtain⟨d,ed,rd⟩:=r.get ex;obtain⟨as,ra⟩:=fm ok d _ _ rd rv;exact⟨d,as,ed,ra⟩
end
end L2
namespace L2
open PySem PySem.Spec PyProof.Rows
structure cG (P:Program) (w:World) (K:abg) (mg:Str->Option Value) (base:Heap) (CX:pX) (k:Nat) (C:Addr) (m:Str) (ps:List Str) (sp:Sp):Prop where
 ex:∃f fd,C3 K C m f/\gn P w K mg base CX k f fd ps sp/\Binds K fd ps []
section
variable {X : Cx} {CX : pX} {k : Nat} {C : Addr} {m : Str} {ps : List Str} {sp : Sp} {E : XK} {e o : Expr} {es : List Expr} {ta : TE} {t : TA} {pos apos : Pos} {pl : Sem Bool}
theorem dU (M:cG X.prog X.w X.K X.mg X.base CX k C m ps sp) (c:An X.K C) (he:PE X o ta) (hr:eC k X.A) (hx:eW CX X E) (ha:PA X (e::es) t)
  (hst:starEach (e::es) X.env=(false,eval e X.env)::starEach es X.env:=by rfl) (hpl:(backTo pos (starEach es X.env)).any (·.1)=false:=by rfl)
  (ht:eval (.Call (.Attribute o m apos) (e::es) [] pos) X.env=(do
   let ov <-eval o X.env
   standAt apos.atName
   let (f,first) <-holding [ov] (getMethod ov m pl)
   callWith pos f first (backTo pos (starEach (e::es) X.env)) (backToKw pos (keywordEach [] X.env))):=by rfl):
  PE X (.Call (.Attribute o m apos) (e::es) [] pos) (dq C m sp [] E ta t):=by
 obtain⟨f,fd,hm,F,hb⟩:=M.ex;exact F0 he c hm F hr hb .nil hx ha hst hpl ht
theorem JO (M:cG X.prog X.w X.K X.mg X.base CX k C m ps sp) (c:An X.K C) (he:PE X o ta) (hr:eC k X.A) (hx:eW CX X E)
  (ht:eval (.Call (.Attribute o m apos) [] [] pos) X.env=(do
   let ov <-eval o X.env
   standAt apos.atName
   let (f,first) <-holding [ov] (getMethod ov m pl)
   callWith pos f first (backTo pos (starEach [] X.env)) (backToKw pos (keywordEach [] X.env))):=by rfl):
  PE X (.Call (.Attribute o m apos) [] [] pos) (dq C m sp [] E ta tNil):=by
 obtain⟨f,fd,hm,F,hb⟩:=M.ex;exact C4 he c hm F hr hb .nil hx ht
theorem JP {x:Str} {p:Pos} (M:sj X.prog X.w X.K X.mg X.base CX k x C ps sp) (hr:eC (k+1) X.A) (hg:Gl X x) (hx:eW CX X E) (rP:(x==("__debug__":Str))=false:=by decide):
  PE X (.Call (.Name x p) [] [] pos) (uH C sp [] E tNil):=by
 obtain⟨f,fd,m,F,hm,hb⟩:=M.ex;exact C6 m F hr hg hm hb .nil hx rP
end
structure zj (K:abg) (C:Addr) (m qual:Str) (st:Stmt):Prop where
 ex:∃f fd,zc K m qual st f fd/\C3 K C m f
theorem zj.fE {P:Program} {w:World} {K:abg} {mg:Str->Option Value} {base:Heap} {CX:pX} {m qual:Str} {st:Stmt} {C:Addr} {ps:List Str} {k:Nat} {sp:Sp} (D:zj K C m qual st)
  (hb:∀(kV doc pm:Value) (an:Option Addr) (cw ct:Value) (us:List Value),us.length=ps.length->bindArgs (abj m qual (bh st) (ba st) (aq st) .none kV doc pm an cw ct) ⟨us,[]⟩=pure (ps.zip us))
  (h:∀f fd,zc K m qual st f fd->gn P w K mg base CX k f fd ps sp):cG P w K mg base CX k C m ps sp:=by
 obtain⟨f,fd,F,hm⟩:=D.ex;exact⟨f,fd,hm,h f fd F,F.binds hb⟩
end L2
namespace L2
open PySem PySem.Spec PyProof.Rows PySem.W
mutual
noncomputable def sC:PyData->Bool
 | .none=>true
 | .int _=>true
 | .str x=>PyData.canLay0 (.str x)
 | .tuple xs=>sE xs
 | .list xs=>sE xs
 | _=>false
noncomputable def sE:List PyData->Bool
 | []=>true
 | x::xs=>sC x && sE xs
end
mutual
theorem gT:∀(d:PyData),sC d=true->d.canLay0=true
 | .none,_=>by simp [PyData.canLay0]
 | .bool _,h=>by simp [sC] at h
 | .int _,_=>by simp [PyData.canLay0]
 | .str x,h=>by rw[sC] at h;exact h
 | .list xs,h=>by rw[sC] at h;rw[PyData.canLay0];exact sG xs h
 | .tuple xs,h=>by rw[sC] at h;rw[PyData.canLay0];exact sG xs h
 | .dict _,h=>by simp [sC] at h
theorem sG:∀(xs:List PyData),sE xs=true->PyData.canLayAll0 xs=true
 | [],_=>by simp [PyData.canLayAll0]
 | x::xs,h=>by
  rw[sE,aaX] at h;rw[PyData.canLayAll0,aaX];exact⟨gT x h.1,sG xs h.2⟩
end
mutual
theorem qZ:∀(x y:PyData),sC x=true->sC y=true->PyData.eqv x y=decide (x=y)
 | .none,y,_,hy=>by cases y <;>simp [PyData.eqv]
 | .int i,y,_,hy=>by
  cases y with
  | int j=>
   rw[PyData.eqv];by_cases c:i=j
   ·subst c;simp
   ·rw[decide_eq_false (λe=>c (by injection e))];simp [c]
  | bool _=>simp [sC] at hy
  | _=>simp [PyData.eqv]
 | .str a,y,_,hy=>by
  cases y with
  | str b=>
   rw[PyData.eqv];by_cases c:a=b
   ·subst c;simp
   ·rw[decide_eq_false (λe=>c (by injection e))];simp [c]
  | _=>simp [PyData.eqv]
 | .tuple xs,y,hx,hy=>by
  cases y with
  | tuple ys=>
   rw[sC] at hx hy;rw[PyData.eqv,sI xs ys hx hy];by_cases c:xs=ys
   ·subst c;simp
   ·rw[decide_eq_false c,decide_eq_false (λe=>c (by injection e))]
  | _=>simp [PyData.eqv]
 | .list xs,y,hx,hy=>by
  cases y with
  | list ys=>
   rw[sC] at hx hy;rw[PyData.eqv,sI xs ys hx hy];by_cases c:xs=ys
   ·subst c;simp
   ·rw[decide_eq_false c,decide_eq_false (λe=>c (by injection e))]
  | _=>simp [PyData.eqv]
 | .bool _,_,h,_=>by simp [sC] at h
 | .dict _,_,h,_=>by simp [sC] at h
theorem sI:∀(xs ys:List PyData),sE xs=true->sE ys=true->PyData.eqvAll xs ys=decide (xs=ys)
 | [],[],_,_=>by simp [PyData.eqvAll]
 | [],_::_,_,_=>by simp [PyData.eqvAll]
 | _::_,[],_,_=>by simp [PyData.eqvAll]
 | x::xs,y::ys,hx,hy=>by
  rw[sE,aaX] at hx hy;rw[PyData.eqvAll,qZ x y hx.1 hy.1,sI xs ys hx.2 hy.2];by_cases c:x=y
  ·subst c;by_cases d:xs=ys
   ·subst d;simp
   ·rw[decide_eq_false d,decide_eq_false (λe=>d (List.cons.inj e).2)];simp
  ·rw[decide_eq_false c,decide_eq_false (λe=>c (List.cons.inj e).1)];simp
end
section
variable {X : Cx} {K : abg}
noncomputable def Ke (d:Dat):Prop:=sC (df d)=true/\(df d).depth<=8
theorem DW {A:Around} {s:Shared} {a b:PyData} {u v:Value} {as bs:List Addr} (ra:Reads s.heap u a as) (rb:Reads s.heap v b bs) (ha:sC a=true) (hb:sC b=true) (da:a.depth<=8) (db:b.depth<=8) (hu:A.units+8<cLine):SeqAt.EqAt A s u v (decide (a=b)):=λprog w E Q h=>
 SeqAt.eqBoolOverData _ _ _ _ _ _ _ _ _ _ _ _ ra rb (gT _ ha) (gT _ hb) (by lia) (by rw[qZ _ _ ha hb];exact h)
theorem uX {s:Shared} {ds:List Dat} {d:Dat} (zk:∀e∈ds,Ke e) {u:Value} {e:Dat} {bs:List Addr} [Decidable (∃cs,Reads s.heap u (df d) cs)] (he:e∈ds) (re:Reads s.heap u (df e) bs):decide (∃cs,Reads s.heap u (df d) cs)=decide (df e=df d):=by
 by_cases c:df e=df d
 ·rw[decide_eq_true c,decide_eq_true ⟨bs,by rw[<-c];exact re⟩]
 ·rw[decide_eq_false c,decide_eq_false];rintro⟨cs,rc⟩;exact c (SeqAt.Reads.unique _ _ _ _ _ (gT _ (zk e he).1) re rc)
noncomputable def Mz (neg:Bool):R2:=λx y H Q=>∃p xs ds d,y=.ref p/\H p=some (.lst xs)/\bq H ds xs/\(∀e∈ds,Ke e)/\Rep H d x/\Ke d/\Q (.bl (if neg=true then !decide (df d∈ds.map df) else decide (df d∈ds.map df))) H
theorem QA (hu:X.A.units+64<cLine) {pins:List (Addr×Obj)} {s:Shared} {σ:St} {H:Hp} {x:V} {v:Value} {p:Addr} {xs:List V} {ds:List Dat} {d:Dat} (I:Inv X pins σ H s) (rx:RelV x v) (hp:H p=some (.lst xs)) (rd:bq H ds xs) (zk:∀e∈ds,Ke e) (MA:Rep H d x) (hd:Ke d):
  ∃(bE:List Value) (f:Value->Bool),s.heap.IsList p bE.toArray/\(∀u∈bE.toArray,SeqAt.EqAt X.A.in1 s u v (f u))/\bE.toArray.any f=decide (df d∈ds.map df):=by
 classical
 obtain⟨bE,r,pl,hz⟩:=I.list (bH.of hp);obtain⟨as,ra⟩:=fm I.bT d x v MA rx;have each:∀u∈bE,∃e bs,e∈ds/\Reads s.heap u (df e) bs:=λu hu=>by
  obtain⟨i,ei⟩:=List.getElem?_of_mem hu;obtain⟨e,bs,ed,re⟩:=j3 I.bT rd r ei;exact⟨e,bs,aar ed,re⟩
 refine⟨bE,λu=>decide (∃cs,Reads s.heap u (df d) cs),pl.isList,λu Mx=>?_,?_⟩
 ·obtain⟨e,bs,he,re⟩:=each u (List.mem_toArray.mp Mx);show SeqAt.EqAt _ _ _ _ (decide _);rw[uX zk he re];exact DW re ra (zk e he).1 hd.1 (zk e he).2 hd.2 (by show X.A.units+1+8<cLine;lia)
 ·rw[List.any_toArray];by_cases c:df d∈ds.map df
  ·rw[decide_eq_true c,List.any_eq_true];obtain⟨e,he,ee⟩:=abo.mp c;obtain⟨i,ei⟩:=List.getElem?_of_mem he;have hi:=(abn.mp ei).1;have l1:=rd.length;have l2:=r.length;have eu:bE[i]?=some (bE[i]'(by lia)):=aat (by lia);obtain⟨e',bs,ed,re⟩:=j3 I.bT rd r eu;rw[ei] at ed;cases ed;exact⟨_,aar eu,by rw[uX zk he re,decide_eq_true ee]⟩
  ·rw[decide_eq_false c,List.any_eq_false];intro u Mx;obtain⟨e,bs,he,re⟩:=each u Mx;rw[uX zk he re,decide_eq_false λz=>c (abo.mpr ⟨e,he,z⟩)];decide
theorem B5 (hu:X.A.units+64<cLine):ox X (compareOp .NotIn) (Mz true):=by
 intro pins s σ H x y v u Q I rx ry h;obtain⟨p,xs,ds,d,rfl,hp,rd,zk,MA,hd,q⟩:=h;cases ry;obtain⟨bE,f,a,b,c⟩:=QA hu I rx hp rd zk MA hd;refine SeqAt.notIn_listAt f a b ⟨.bl _,H,I,rfl,?_⟩;rw[c];exact q
noncomputable def GI:V->List V->Hp->VK->Prop:=λx vs H Q=>∃l xs ds v d i,x=.ref l/\vs=[v]/\H l=some (.lst xs)/\bq H ds xs/\(∀e∈ds,Ke e)/\Rep H d v/\Ke d/\(ds.map df)[i]?=some (df d)/\(∀j,j<i->(ds.map df)[j]?≠some (df d))/\i<100000/\Q (.int (i:Nat)) H
theorem oU (hu:X.A.units+64<cLine):K8 X "list.index" GI:=by
 classical
 intro pins s σ H x vs v us Q I rx rv h;obtain⟨l,xs,ds,y,d,i,rfl,rfl,hp,rd,zk,MA,hd,hi,hno,i6,q⟩:=h;cases rx;obtain⟨u,rfl,ru⟩:=vals1 rv;obtain⟨bE,r,pl,hz⟩:=I.list (bH.of hp);obtain⟨as,ra⟩:=fm I.bT d y u MA ru;have l1:=rd.length;have l2:=r.length;have at_:∀(j:Nat) (hj:j<bE.length),∃e bs,ds[j]?=some e/\e∈ds/\Reads s.heap bE[j] (df e) bs:=λj hj=>by
  obtain⟨e,bs,ed,re⟩:=j3 I.bT rd r (aat hj);exact⟨e,bs,ed,aar ed,re⟩
 have hil:i<bE.length:=by
  have:=(abn.mp hi).1
  rw[aak] at this;lia
 obtain⟨⟨c1,d1,d2,sl⟩,ho,e1,m,e2⟩:=pl.isList;cases e1;cases e2;have hit:decide (∃cs,Reads s.heap bE[i] (df d) cs)=true:=by
  obtain⟨e,bs,ed,he,re⟩:=at_ i hil;rw[uX zk he re];rw[aal,ed] at hi;exact decide_eq_true (aaE hi)
 refine call_meets PySem.F.slot_list_index ⟨_,ho,rfl⟩ PySem.F.entry_list_index (PySem.F.args_list_index_2 _ _) (PySem.SeqAt.list_indexAt l bE.toArray m d1 sl u (λu=>decide (∃cs,Reads s.heap u (df d) cs)) i (by rw[aax];lia) (by lia) hit (λj hj hl=>?_)) ⟨ho,λy hy=>?_,⟨.int _,H,I.tok _,⟨_,rfl⟩,q⟩⟩
 ·rw[aax] at hj;obtain⟨e,bs,ed,he,re⟩:=at_ j hj;show decide (∃cs,Reads s.heap bE[j] (df d) cs)=false;rw[uX zk he re];refine decide_eq_false λz=>hno j hl ?_;rw[aal,ed];exact congrArg some z
 ·obtain⟨j,ej⟩:=List.getElem?_of_mem (List.mem_toArray.mp hy);obtain⟨e,bs,ed,re⟩:=j3 I.bT rd r ej;have he:=aar ed;show SeqAt.EqAt _ _ _ _ (decide _);rw[uX zk he re];exact DW re ra (zk e he).1 hd.1 (zk e he).2 hd.2 (by show X.A.units+1+8<cLine;lia)
noncomputable def B6 (b:Bool):R2:=λx y H Q=>∃d e,Rep H d x/\Rep H e y/\Ke d/\Ke e/\Q (.bl (if b=true then decide (df d=df e) else !decide (df d=df e))) H
theorem DX (hu:X.A.units+64<cLine):ox X (compareOp .Eq) (B6 true):=by
 intro pins s σ H x y v u Q I rx ry h;obtain⟨d,e,h1,h2,k1,k2,q⟩:=h;obtain⟨as,ra⟩:=fm I.bT d x v h1 rx;obtain⟨bs,rb⟩:=fm I.bT e y u h2 ry
 have:=k1.2
 have:=k2.2
 refine SeqAt.compareEq_reads ra rb (gT _ k1.1) (gT _ k2.1) (by lia) ⟨.bl _,H,I,rfl,?_⟩;rw[qZ _ _ k1.1 k2.1];exact q
theorem DY (hu:X.A.units+64<cLine):ox X (compareOp .NotEq) (B6 false):=by
 intro pins s σ H x y v u Q I rx ry h;obtain⟨d,e,h1,h2,k1,k2,q⟩:=h;obtain⟨as,ra⟩:=fm I.bT d x v h1 rx;obtain⟨bs,rb⟩:=fm I.bT e y u h2 ry
 have:=k1.2
 have:=k2.2
 refine SeqAt.compareNe_reads ra rb (gT _ k1.1) (gT _ k2.1) (by lia) ⟨.bl _,H,I,rfl,?_⟩;rw[qZ _ _ k1.1 k2.1];exact q
end
end L2
namespace PySem.Dfl
open PySem PyProof.Rows
theorem GJ:typeLookup (.type "list") "keys"=pure none:=PySem.am_miss_of_fast (by kernel_rfl)
theorem sJ:entryFor table "dict.update.loop"=some Builtin.«dict.update.loop»:=entryFor_of_tree (by kernel_rfl)
theorem iU:plainId "dict.update.loop"=true:=∅
section
variable {prog : Program} {w : World} {A : Around} {E : Value -> Shared -> Prop} {s : Shared}
theorem B7 {a:Addr} {o:Obj} {xs:Array Value} {k:Nat} {Q:Option Value->Shared->Prop}
  (hx:s.heap.get? a=some o) (hc:o.cls=.type "list") (DZ:o.data=.seq xs k) (hd:o.dict=none) (hA:A.handled=none)
  (h:∀h' tk,(∀b ob,s.heap.get? b=some ob->h'.get? b=some ob)->Q none {s with heap:=h',toks:=tk}):
  wpAny (model prog w) A (getAttr? (.ref a) "keys") Q E s:=by
 obtain⟨c,dct,dat,sl⟩:=o;simp only at hc DZ hd;subst hc DZ hd;obtain⟨hp,g,d,tk,os⟩:=s;have hT:∀O4,(⟨hp,g,d,O4,os⟩:Shared).TypeIs (.ref a) "list":=λ_=>⟨_,hx,rfl⟩;have f1:=sub_AttributeError;have f3:=F.slot_list_getattribute.lookup;have f4:=F.slot_list_getattribute.bind (.ref a);have f5:=am_list_getattr_none;unfold getAttr? getAttrBy? getAttrBy
 repeat (any_goals (first | assumption | exact hT _ | ((with_reducible show wpAny _ _ (call (Value.builtin "list.__getattribute__") _ _) _ _ _);refine call_meets F.slot_list_getattribute (hT _) am_entry_list_getattribute (F.args_list_getattribute_2 _ _) (meets_getattribute_miss_list a xs k sl "keys" _ GJ (by decide) (by size_fits)) ⟨hx,hA,λh' O4 e XW=>?_⟩) | wp_step))
 obtain⟨t',u',he⟩:=XW.there;show wpAny _ _ (getattributeRaised _ _ _ _ _ _ _) _ _ _;unfold getattributeRaised
 repeat (any_goals (first | assumption | wp_step))
 exact h _ _ XW.keeps
end
section
variable {prog : Program} {w : World} {K : Type} [DecidableEq K] {knd : KeyKind prog w K} {A : Around} {R : Result -> Shared -> Prop} {I : Addr} {fp wr : List Addr} {G : Array GenState -> Array GenState -> Prop} {n : Nat} {P : Nat -> Value -> Prop} {St : Nat -> Shared -> Prop}
theorem pair_items {A:Around} {E:Value->Shared->Prop} {s:Shared} {t:Addr} {k v:Value} {Q:List Value->Shared->Prop} (ht:s.heap.IsTuple t #[k,v]) (h:Q [k,v] s):wpAny (model prog w) A (Builtin.Dict.pairItems (.ref t)) Q E s:=by
 obtain⟨o,ho,hc,n,hd⟩:=ht;unfold Builtin.Dict.pairItems;have hT:s.TypeIs (.ref t) "tuple":=⟨o,ho,hc⟩;refine wpAny_bind (wpAny_typeOf hT ?_);rw[if_pos ∅];exact wpAny_bind (wpAny_seqItems ho hd (wpAny_pure h))
theorem D1 (W:WalksS prog w A.in1 I fp wr G n P St) (D:Addr) (XX:D∉fp) (ta:Nat->Addr) (ky vl:Nat->Value) (kk:Nat->K) (QB:∀i v,P i v->v=.ref (ta i)) (CY:∀i,i<n->knd.is (kk i) (ky i)=true)
  (O5:∀i,i<n->ta i∉D::wr) (hb:n<=sizeLine):
  ∀(k i:Nat) (s:Shared) (j:Int) (tj:Tok),n - i=k->i<=n->St i s->s.heap.DictOf knd D (merged [] ((List.range i).map λj=>(kk j,vl j)))->(∀j,j<n->s.heap.IsTuple (ta j) #[ky j,vl j])->
   (∀s',Moved (D::wr) G s s'->s'.heap.DictOf knd D (merged [] ((List.range n).map λj=>(kk j,vl j)))->R (.ok (.ret .none)) s')->
   codeAny (model prog w) A (.builtin "dict.update.loop" ⟨[.ref D,.ref I,.int j tj,.none],[]⟩) R s:=by
 have XY:D∉wr:=λh=>XX (W.sub _ h);intro k;induction k with
 | zero=>
  intro i s j tj hk hi hst hS MB hR;obtain rfl:i=n:=by lia
  refine codeAny_builtin sJ ?_;rw[Around.under_plainId iU _];show wpAny _ A.in1 (pyNext (.ref I) >>=_) _ _ s;refine wpAny_bind (W.done s _ _ hst λs' hm=>?_);show wpAny _ _ (Builtin.Dict.addKeywords D [] >>=_) _ _ _;refine wpAny_bind (wpAny_pure (wpAny_pure (hR s' (hm.mono λb hb=>aau _ hb) ?_)));obtain⟨o,es,ep,ho,rest⟩:=hS;exact⟨o,es,ep,hm.heap D _ XY ho,rest⟩
 | succ k ih=>
  intro i s j tj hk hi hst hS MB hR;have gC:i<n:=by lia
  refine codeAny_builtin sJ ?_;rw[Around.under_plainId iU _];show wpAny _ A.in1 (pyNext (.ref I) >>=_) _ _ s;refine wpAny_bind (W.item i s _ _ gC hst λv s' hP QC hm=>?_);obtain rfl:=QB i v hP;have MC:∀j,j<n->s'.heap.IsTuple (ta j) #[ky j,vl j]:=λj hj=>by
   obtain⟨o,ho,r⟩:=MB j hj;exact⟨o,hm.heap _ _ (λh=>O5 j hj (aau _ h)) ho,r⟩
  have QD:s'.heap.DictOf knd D (merged [] ((List.range i).map λj=>(kk j,vl j))):=by
   obtain⟨o,es,ep,ho,rest⟩:=hS;exact⟨o,es,ep,hm.heap D _ XY ho,rest⟩
  dsimp only;refine wpAny_bind (wpAny_holding (wpAny_bind (wpAny_tryCatch (pair_items (MC i gC) ?_))));dsimp only;refine wpAny_holding (wpAny_dictSet_pairs (CY i gC) QD (λh' QF QG=>?_) ?_)
  ·have e:merged [] ((List.range (i+1)).map λj=>(kk j,vl j))=stored (merged [] ((List.range i).map λj=>(kk j,vl j))) (kk i) (vl i):=by
    simp [merged,List.range_succ,aa4]
   refine wpAny_pure ⟨plainId_quiet iU _,ih (i+1) _ _ _ (by lia) gC (W.frame _ s' _ _ QC (Nat.le_succ _) λb hb o e=>?_) (by rw[e];exact QF) (λj hj=>?_) λua QH QI=>?_⟩
   ·rw[QG.2 b (λh:b=D=>XX (by rw[<-h];exact hb))];exact e
   ·obtain⟨o,ho,r⟩:=MC j hj;exact⟨o,(QG.2 _ λh=>O5 j hj (by rw[h];exact aaz)).trans ho,r⟩
   ·refine hR ua (Moved.trans W.gtrans ((hm.mono λb hb=>aau _ hb).then_heap (Nat.le_succ _) λb o hb e=>?_) QH) QI;rw[QG.2 b (λh:b=D=>hb (by rw[h];exact aaz))];exact e
  ·have:=merged_length_le ([]:List (K×Value)) ((List.range i).map λj=>(kk j,vl j))
   rw[aak,List.length_range] at this;simp only[aaW,aaY] at this;lia
end
end PySem.Dfl
namespace PySem.Dfl
open PySem PyProof.Rows
section
variable {prog : Program} {w : World} {K : Type} [DecidableEq K] {knd : KeyKind prog w K} {A : Around} {E : Value -> Shared -> Prop} {s : Shared}
set_option maxHeartbeats 1600000 in
theorem call_dict {l:Addr} {o:Obj} {items:Array Value} {nl:Nat} (ta:Nat->Addr) (ky vl:Nat->Value) (kk:Nat->K) {Q:Value->Shared->Prop} (hh:A.handled=none)
  (hl:s.heap.get? l=some o) (hc:o.cls=.type "list") (DZ:o.data=.seq items nl) (hdi:o.dict=none) (hit:∀i v,items[i]?=some v->v=Value.ref (ta i)) (CY:∀i,i<items.size->knd.is (kk i) (ky i)=true)
  (MB:∀j,j<items.size->s.heap.IsTuple (ta j) #[ky j,vl j]) (hb:items.size<=sizeLine)
  (h:∀(h':Heap) (tk:Nat),h'.DictOf knd s.heap.objs.size (merged [] ((List.range items.size).map λj=>(kk j,vl j)))->
   (∀b o,b<s.heap.objs.size->s.heap.get? b=some o->h'.get? b=some o)->Q (.ref s.heap.objs.size) {s with heap:=h',toks:=tk}):
  wpAny (model prog w) A (call (.type "dict") [.ref l]) Q E s:=by
 refine callType_codes (Q₁:=λobj s₁=>obj=.ref s.heap.objs.size/\s₁={s with heap:=s.heap.push {cls:=.type "dict",data:=.dict #[]}}) F.kt_called_dict (F.kt_typeCall_dict_1 _) F.entry_dict_init (kt_code_dict_new _ ⟨rfl,rfl⟩) ?_;rintro obj s₁ ⟨rfl,rfl⟩;have Df:(s.heap.push {cls:=.type "dict",data:=.dict #[]}).DictOf knd s.heap.objs.size []:=Heap.DictOf.new s.heap;have Le:(s.heap.push {cls:=.type "dict",data:=.dict #[]}).get? l=some o:=abq _ hl;have hT:Shared.TypeIs {s with heap:=s.heap.push {cls:=.type "dict",data:=.dict #[]}} (.ref l) "list":=⟨_,Le,hc⟩;refine⟨Df.typeIs,F.args_dict_init_2 _ _,?_⟩;unfold Builtin.«dict.__init__»;refine wpAny_bind ?_;unfold Builtin.Dict.selfAndRest;refine wpAny_bind (wpAny_notOrdered_dict Df.typeIs ?_);show wpAny _ _ (pure (s.heap.objs.size,[Value.ref l])) _ _ _;refine wpAny_pure ?_;show wpAny _ _ (Builtin.Dict.updateFrom "dict.__init__" s.heap.objs.size (.ref l) [] .none) _ _ _;unfold Builtin.Dict.updateFrom;refine wpAny_bind (wpAny_typeOf hT ?_);rw[if_pos ∅];refine wpAny_bind (B7 Le hc DZ hdi (by simp [hh]) λh1 JQ Ia=>?_);rw[if_pos (by rfl)];have XZ:Heap.IsList h1 l items:=⟨o,Ia _ _ Le,hc,nl,DZ⟩;refine wpAny_bind (wpAny_rule (wpAny_bind (wpAny_pyIter_list XZ ?_)));refine wpAny_pure ⟨plainId_quiet iU _,?_⟩;dsimp only;have X0:h1.DictOf knd s.heap.objs.size []:=by
  obtain⟨o',es,ep,ho,rest⟩:=Df;exact⟨o',es,ep,Ia _ _ ho,rest⟩
 have Lg:s.heap.objs.size<h1.objs.size:=by
  obtain⟨o',es,ep,ho,rest⟩:=X0;exact abt ho
 have X1:l<s.heap.objs.size:=abt hl;have hh2:A.in1.in1.handled=none:=by simp [hh]
 have QJ:l≠h1.objs.size:=aas (aaT X1 Lg);have hSf:s.heap.objs.size∉[h1.objs.size,l]:=by
  simp only[aaR,abp,aa9,or_false,not_or];exact⟨aas Lg,Nat.ne_of_gt X1⟩
 have O5:∀i,i<items.size->ta i∉s.heap.objs.size::[h1.objs.size]:=λi hi=>by
  obtain⟨_,ho,_⟩:=MB i hi
  have:=abt ho
  simp only[aaR,abp,aa9,or_false,not_or];exact⟨aas this,aas (aaT this Lg)⟩
 refine D1 (knd:=knd) ((Walks.list hh2 _ l QJ items).toS) s.heap.objs.size hSf ta ky vl kk (λi v hv=>hit i v hv) CY O5 hb (items.size - 0) 0 _ 0 0 (by lia) (aap _)
  ⟨⟨_,abr _ rfl,rfl,rfl⟩,(XZ.push _)⟩ (X0.push _) (λj hj=>?_) λs' hm QD=>?_
 ·obtain⟨o',ho,r⟩:=MB j hj;exact⟨o',abq _ (Ia _ _ (abq _ ho)),r⟩
 ·obtain⟨h',g',d',O4,P8⟩:=s';have eg:g'=s.gens:=hm.gens;have ed:d'=s.drawn:=hm.drawn;have eo:P8=s.os:=hm.os;subst eg;subst ed;subst eo;refine⟨rfl,h h' O4 QD λb o hb e=>hm.heap b o ?_ (abq _ (Ia _ _ (abq _ e)))⟩;simp only[aaR,abp,aa9,or_false,not_or];exact⟨aas hb,aas (aaT hb Lg)⟩
end
end PySem.Dfl
namespace L2
open PySem PyProof.Rows
section
variable {X : Cx} {P : Program} {w : World} {K : abg}
theorem uY {h:Heap}:∀{rows:List (Addr×Key×V)},(∀r∈rows,∃k v,RelV (kV r.2.1) k/\RelV r.2.2 v/\h.IsTuple r.1 #[k,v])->
  ∃zs:List (Value×Value),zs.length=rows.length/\KV (rows.map (·.2)) (List.zipWith (λr z=>(r.2.1,z.2)) rows zs)/\
   ∀(i:Nat) r z,rows[i]?=some r->zs[i]?=some z->RelV (kV r.2.1) z.1/\h.IsTuple r.1 #[z.1,z.2]
 | [],_=>⟨[],rfl,.nil,λi r z e _=>by simp at e⟩
 | r::rs,all=>by
  obtain⟨k,v,h1,h2,h3⟩:=all r aaz;obtain⟨zs,e1,e2,e3⟩:=uY λx hx=>all x (aau _ hx);refine⟨(k,v)::zs,by simp [e1],.cons ⟨rfl,h2⟩ e2,λi r' z a b=>?_⟩;cases i with
  | zero=>
   simp only[List.getElem?_cons_zero,Option.some.injEq] at a b;subst a b;exact⟨h1,h3⟩
  | succ i=>
   simp only[List.getElem?_cons_succ] at a b;exact e3 i r' z a b
theorem xJ (hc:X.calm=true):dh X (.type "dict") (λxs H Q=>∃p,∃rows:List (Addr×Key×V),xs=[.ref p]/\bH X.K H p (rows.map λr=>V.ref r.1)/\(∀r∈rows,gP X.K H r.1 [kV r.2.1,r.2.2])/\
  (rows.map (·.2.1)).Nodup/\∀l,H l=none->Q (.ref l) (upd H l (.dK (rows.map (·.2))))):=by
 intro pins s σ H xs us Q I r h;obtain⟨p,rows,rfl,hq,ht,hn,q⟩:=h;obtain⟨u,rfl,rx⟩:=vals1 r;cases rx;obtain⟨bE,rv,pl,hz⟩:=I.list hq;obtain⟨ol,nl,e1,e2,e3,e4⟩:=pl;have hl:=rv.length;rw[aak] at hl hz;have fr:=I.bT.fresh (a:=s.heap.objs.size) (aam _);obtain⟨zs,z1,z2,z3⟩:=uY (h:=s.heap) (rows:=rows) λr hr=>by
  obtain⟨is,a,b,_⟩:=I.tuple (ht r hr);obtain⟨k,v,rfl,a1,a2⟩:=vals2 a;exact⟨k,v,a1,a2,b⟩
 have hsz:(bE.toArray).size=rows.length:=by simp [hl]
 have at_:∀i,i< (bE.toArray).size->∃r z,rows[i]?=some r/\zs[i]?=some z:=λi hi=>by
  rw[hsz] at hi;exact⟨rows[i],zs[i]'(by lia),aat hi,aat (by lia)⟩
 refine PySem.Dfl.call_dict (knd:=cK X.prog X.w) (o:=ol) (nl:=nl) (items:=bE.toArray) (λi=>(rows.getD i (0,.inl 0,.dI)).1) (λi=>(zs.getD i (.none,.none)).1) (λi=>(zs.getD i (.none,.none)).2) (λi=>(rows.getD i (0,.inl 0,.dI)).2.1) (I.ok.hd hc) e1 e2 e4 e3
  (λi v hv=>?_) (λi hi=>?_) (λi hi=>?_) (by rw[hsz];exact hz) λh' tk hS hk=>?_
 ·have hi:i<rows.length:=by
   have:=(abn.mp (show bE[i]?=some v by simpa using hv)).1
   lia
  obtain⟨u,a,b⟩:=rv.get (i:=i) (x:=V.ref (rows[i]).1) (by simp [hi]);rw[show bE[i]?=some v by simpa using hv] at a;cases a;cases b;simp [List.getD,hi]
 ·obtain⟨r,z,a,b⟩:=at_ i hi;simp only[List.getD,a,b,Option.getD_some];exact jq (z3 i r z a b).1
 ·obtain⟨r,z,a,b⟩:=at_ i hi;simp only[List.getD,a,b,Option.getD_some];exact(z3 i r z a b).2
 ·have e:((List.range (bE.toArray).size).map λj=>((rows.getD j (0,.inl 0,.dI)).2.1,(zs.getD j (.none,.none)).2))=List.zipWith (λr z=>(r.2.1,z.2)) rows zs:=by
   rw[hsz];refine List.ext_getElem (by simp [z1]) λi h1 h2=>?_;have hi:i<rows.length:=by simpa using h1
   have hi2:i<zs.length:=by lia
   simp [List.getD,hi,hi2]
  rw[e] at hS;have nd:((List.zipWith (fun(r:Addr×Key×V) (z:Value×Value)=>(r.2.1,z.2)) rows zs).map (·.1)).Nodup:=by
   have:(List.zipWith (fun(r:Addr×Key×V) (z:Value×Value)=>(r.2.1,z.2)) rows zs).map (·.1)=rows.map (·.2.1):=by
    refine List.ext_getElem (by simp [z1]) λi h1 h2=>?_;simp
   rw[this];exact hn
  rw[merged_nil_of_nodup _ nd] at hS;exact⟨.ref s.heap.objs.size,_,I.laid (t':=tk) (λb o eb=>hk b o (abt eb) eb) (aam _) (o:=.dK (rows.map (·.2))) (zb (by rw[aak];exact hz) (beq_eq_false_iff_ne.mpr (Ne.symm (aas I.L5))) z2 hS),rfl,q _ fr⟩
theorem d3 (hc:X.calm=true:=by rfl) (hK:X.K=K:=by rfl):dh X (.type "dict") (λxs H Q=>∃p,∃rows:List (Addr×Key×V),xs=[.ref p]/\bH K H p (rows.map λr=>V.ref r.1)/\(∀r∈rows,gP K H r.1 [kV r.2.1,r.2.2])/\
  (rows.map (·.2.1)).Nodup/\∀l,H l=none->Q (.ref l) (upd H l (.dK (rows.map (·.2))))):=by subst hK;exact xJ hc
end
end L2
namespace L2
open PySem PyProof.Rows
section
variable {X : Cx}
end
end L2
namespace L2
open PySem PyProof.Rows
structure DnA (K:abg) (mg:Str->Option Value) (g x:Str) (st:Stmt):Prop where
 ex:∃f fd,zc K x x st f fd/\mg g=some (.ref f)
end L2
namespace L2
open PySem PyProof.Rows
theorem exV {b:V} {Q:V->Prop}:(∃v,(some (some b):Option (Option V))=some (some v)/\Q v)=Q b:=propext ⟨fun⟨_,e,h⟩=>by cases e;exact h,λh=>⟨b,rfl,h⟩⟩
theorem exI {a:Int} {Q:Int->Prop}:(∃i,V.int a=V.int i/\Q i)=Q a:=propext ⟨fun⟨_,e,h⟩=>by cases e;exact h,λh=>⟨a,rfl,h⟩⟩
theorem exB {a:Bool} {Q:Bool->Prop}:(∃i,V.bl a=V.bl i/\Q i)=Q a:=propext ⟨fun⟨_,e,h⟩=>by cases e;exact h,λh=>⟨a,rfl,h⟩⟩
theorem exR {a:Addr} {Q:Addr->Prop}:(∃i,V.ref a=V.ref i/\Q i)=Q a:=propext ⟨fun⟨_,e,h⟩=>by cases e;exact h,λh=>⟨a,rfl,h⟩⟩
theorem exS {a:Str} {Q:Str->Prop}:(∃i,V.str a=V.str i/\Q i)=Q a:=propext ⟨fun⟨_,e,h⟩=>by cases e;exact h,λh=>⟨a,rfl,h⟩⟩
theorem exII {a b:Int} {Q:Int->Int->Prop}:(∃i j,V.int a=V.int i/\V.int b=V.int j/\Q i j)=Q a b:=propext ⟨fun⟨_,_,e,f,h⟩=>by cases e;cases f;exact h,λh=>⟨a,b,rfl,rfl,h⟩⟩
theorem exRI {a:Addr} {k:Int} {Q:Addr->List V->Int->V->Prop}:(∃p xs i v,V.ref a=V.ref p/\V.int k=V.int i/\Q p xs i v)=∃xs v,Q a xs k v:=propext ⟨fun⟨_,xs,_,v,e,f,h⟩=>by cases e;cases f;exact⟨xs,v,h⟩,fun⟨xs,v,h⟩=>⟨a,xs,k,v,rfl,rfl,h⟩⟩
theorem exRa {α:Type} {a:Addr} {Q:Addr->α->Prop}:(∃p v,V.ref a=V.ref p/\Q p v)=∃v,Q a v:=propext ⟨fun⟨_,v,e,h⟩=>by cases e;exact⟨v,h⟩,fun⟨v,h⟩=>⟨a,v,rfl,h⟩⟩
theorem exRb {α β:Type} {a:Addr} {Q:Addr->α->β->Prop}:(∃p v u,V.ref a=V.ref p/\Q p v u)=∃v u,Q a v u:=propext ⟨fun⟨_,v,u,e,h⟩=>by cases e;exact⟨v,u,h⟩,fun⟨v,u,h⟩=>⟨a,v,u,rfl,h⟩⟩
theorem scal_ss {a b:Str}:yQ (.str a) (.str b)=true:=rfl
theorem scal_ii {a b:Int}:yQ (.int a) (.int b)=true:=rfl
theorem scal_bb {a b:Bool}:yQ (.bl a) (.bl b)=true:=rfl
theorem scal_si {a:Str} {b:Int}:yQ (.str a) (.int b)=true:=rfl
theorem scal_is {a:Int} {b:Str}:yQ (.int a) (.str b)=true:=rfl
end L2
namespace L2
open PySem PySem.Spec PyProof.Rows PySem.W
section
variable {X : Cx}
noncomputable def X2 (JQ O6 O7 O8 O9 Pa:TE):TE:=λσ H Q=>∀d,H d=none->JQ σ (upd H d (.dK [])) λx1 H1=>O6 σ H1 λv1 H2=>O7 σ H2 λx2 H3=>O8 σ H3 λv2 H4=>O9 σ H4 λx3 H5=>Pa σ H5 λv3 H6=>
 ∃k1 k2 k3,x1=kV k1/\x2=kV k2/\x3=kV k3/\k1≠k2/\k1≠k3/\k2≠k3/\H6 d=some (.dK [])/\Q (.ref d) (upd H6 d (.dK [(k1,v1),(k2,v2),(k3,v3)]))
theorem GK {κ:Type} [DecidableEq κ] {k1 k2 k3:κ} {a b c:Value} (h1:k1≠k2) (h2:k1≠k3) (h3:k2≠k3):merged [] [(k1,a),(k2,b),(k3,c)]=[(k1,a),(k2,b),(k3,c)]:=by
 simp [merged,stored,Ne.symm h1,Ne.symm h2,Ne.symm h3,h1,h2,h3]
theorem MD {QK QL QM QN QO QP:Expr} {JQ O6 O7 O8 O9 Pa:TE} {pos:Pos} (Ia:PE X QK JQ) (hv1:PE X QL O6) (JR:PE X QM O7) (hv2:PE X QN O8) (hk3:PE X QO O9) (hv3:PE X QP Pa):PE X (.Dict [some QK,some QM,some QO] [QL,QN,QP] pos) (X2 JQ O6 O7 O8 O9 Pa):=by
 intro pins s σ H Q I h;refine wpAny_Dict_pairs (knd:=cK X.prog X.w) (pairs:=[(eval QK X.env,do let x <-eval QL X.env;standAt pos;pure x),(eval QM X.env,do let x <-eval QN X.env;standAt pos;pure x),(eval QO X.env,do let x <-eval QP X.env;standAt pos;pure x)]) rfl (by simp) (by simp) ?_;have fr:=I.bT.fresh (a:=s.heap.objs.size) (aam _);have I1:Inv X pins σ (upd H s.heap.objs.size (.dK [])) {s with heap:=s.heap.push {cls:=.type "dict",data:=.dict #[]}}:=I.laid (t':=s.toks) (λ_ _ q=>abq _ q) (aam _) (xu s.heap I.L5);unfold evalPairs;refine wpAny_bind (cU (Ia pins _ σ _ _ I1 (h _ fr)) λku1 s1 dX=>?_);obtain⟨x1,H1,I2,rx1,q1⟩:=dX;refine wpAny_bind (wpAny_holding (wpAny_bind (cU (hv1 pins _ σ _ _ I2 q1) λX3 s2 ⟨v1,H2,I3,QQ,q2⟩=>wpAny_bind (wpAny_standAt (wpAny_pure ?_)))));unfold evalPairs;refine wpAny_bind (wpAny_holding (wpAny_bind (cU (JR pins _ σ _ _ I3 q2) λku2 s3 dX=>?_)));obtain⟨x2,H3,I4,rx2,q3⟩:=dX;refine wpAny_bind (wpAny_holding (wpAny_bind (cU (hv2 pins _ σ _ _ I4 q3) λX4 s4 ⟨v2,H4,I5,Ib,q4⟩=>wpAny_bind (wpAny_standAt (wpAny_pure ?_)))));unfold evalPairs;refine wpAny_bind (wpAny_holding (wpAny_bind (cU (hk3 pins _ σ _ _ I5 q4) λku3 s5 dX=>?_)));obtain⟨x3,H5,I6,rx3,q5⟩:=dX;refine wpAny_bind (wpAny_holding (wpAny_bind (cU (hv3 pins _ σ _ _ I6 q5) λX5 s6 hh=>wpAny_bind (wpAny_standAt (wpAny_pure ?_)))));obtain⟨v3,H6,I7,D3,k1,k2,k3,e1,e2,e3,n12,n13,n23,hd,q⟩:=hh;subst e1 e2 e3;obtain⟨z,lo,vs,kv,dd⟩:=As I7.bT hd;cases kv;unfold evalPairs;refine wpAny_bind (wpAny_holding (wpAny_pure (wpAny_pure (wpAny_pure (wpAny_pure ⟨[(k1,X3),(k2,X4),(k3,X5)],⟨jq rx1,rfl,jq rx2,rfl,jq rx3,rfl,trivial⟩,dd,λh' BI hs=>?_⟩)))));have BI:h'.DictOf (cK X.prog X.w) s.heap.objs.size [(k1,X3),(k2,X4),(k3,X5)]:=by rw[GK n12 n13 n23] at BI;exact BI
 have he:∃q,h'.get? s.heap.objs.size=some q:=let ⟨q,_,_,hq,_⟩:=BI;⟨q,hq⟩
 exact⟨.ref s.heap.objs.size,_,qS I7 (by rw[hd];exact True.intro) hs he (zb (kvs:=[(k1,v1),(k2,v2),(k3,v3)]) (by rw[sizeLine_eq];simp) lo (.cons ⟨rfl,QQ⟩ (.cons ⟨rfl,Ib⟩ (.cons ⟨rfl,D3⟩ .nil))) BI),rfl,q⟩
end
end L2
namespace L2
open PySem PySem.Spec PyProof.Rows PySem.W
section
variable {X : Cx} {k : Nat} {x : Str} {ps : List Str} {sp : Sp} {e : Expr} {es : List Expr} {t : TA} {p pos : Pos}
variable {cx n : Str} {np Ge Me t9 : Pos} {b₀ : Stmt} {uS : List Stmt} {i : Nat} {ts : TS} {C2 : Addr}
noncomputable def Ic (K:abg) (sp:Sp) (t:TA) (C2:Addr) (i:Nat) (ts:TS):TS:=λD σ H=>t σ H λvs H1=>sp vs H1 (λv H2=>D.rt v H2) (Md K C2 i ts D σ)
theorem GL (C:dj X.prog X.w X.K X.mg X.base (bL X.prog X.w) k x ps sp) (hr:eC k X.A) (hg:Gl X x) (ha:PA X.K6 (e::es) t) (hst:X.stack=X.env::X.outer) (hf:X.env.frame=some X.env.locals)
  (hgc:Gl X cx) (hm:X.mg cx=some (.ref C2)) (hN:X.N.Nodup) (hi:X.N[i]?=some n) (hl:X.env.scope.names.lookup n=some .local) (hs:∀ad,wZ (X.mark ad) (b₀::uS) ts)
  (rP:(x==("__debug__":Str))=false:=by decide) (hdc:(cx==("__debug__":Str))=false:=by decide)
  (he:starEach (e::es) X.env=(false,eval e X.env)::starEach es X.env:=by rfl) (hpl:(backTo pos (starEach es X.env)).any (·.1)=false:=by rfl):
  PS X (.Try [.Return (some (.Call (.Name x p) (e::es) [] pos)) Me] [.ExceptHandler (some (.Name cx np)) (some n) (b₀::uS) Ge] [] [] t9) (Ic X.K sp t C2 i ts):=by
 intro pins s σ H D I h;refine wpAny_Try_except (wpAny_execs_cons (wpAny_Return_some (cU (Gg C hr hg ha I h (λH1 s1 e1 s' I1 ⟨ad,cls,H',ee,F,hx,q⟩=>?_) rP he hpl) λv s1 ⟨y,H1,I1,r1,q1⟩=>?_)))
 ·subst ee;exact JF I1 F hst hf hgc hm hx hN hi hl (hs ad) (q ad F.tracked) hdc
 ·exact⟨y,σ,H1,I1,r1,q1⟩
end
end L2
namespace K57
open PySem PySem.Spec PyProof.Rows L2
set_option maxHeartbeats 4000000
local macro_rules | `(tactic| simp! only [$ls,*]) => `(tactic| simp only [↓exV, ↓exI, ↓exB, ↓exR, ↓exS, ↓exII, ↓exRI, ↓exRa, ↓exRb, L2.start, Pr, tSortR, tSl, tNoPart, tPart, rSlL, tDNotIn, gSub, rSetL, tLst, tDNewK, tComp, L2.stC, tFor_eq, iList, iTup, iRng1, iRng2, iEnum, tChain, tSumV, tBM, tRaise, tDGet, tDGet2, sDPut, Option.join_some, List.getElem?_nil, tSeq, tRet, tIfS, tTest, tB, tOp, tUn, tVar, tC, tCB, tCons, tNil, tCall, tTupS, tAsg, gName, gNil, gCons, tNext, tDrop, tAnd, tOr, tNot, tIf, rI, rI0, rU, rIxTH, rIxLH, rEq, rNe, scal_ss, scal_ii, scal_bb, scal_si, scal_is, at0, at1, at2, List.map_cons, List.map_nil, List.length_cons, List.length_nil, Nat.reduceSub, Nat.reduceAdd, Nat.zero_add, List.replicate_zero, List.reduceReplicate, List.append_nil, List.nil_append, List.cons_append, List.getElem?_cons_zero, List.getElem?_cons_succ, List.set_cons_zero, List.set_cons_succ, Option.some.injEq, exists_eq_left', exists_eq_left, V.ref.injEq, V.int.injEq, V.bl.injEq, V.str.injEq, V.ty.injEq, HO.tup.injEq, HO.lst.injEq, List.cons.injEq, and_true, true_and, and_assoc, exists_and_left, decide_eq_true_eq, Bool.not_eq_true', decide_eq_false_iff_not, ite_true, ite_false, if_true, if_false, Int.reduceToNat, eq_self_iff_true, $ls,*])
local macro_rules | `(tactic| dsimp? [$ls,*]) => `(tactic| (first | ((dsimp (config := { zetaDelta := true }) only [L2.start, Pr, tSortR, tSl, tNoPart, tPart, rSlL, tDNotIn, gSub, rSetL, tLst, tDNewK, tComp, L2.stC, tFor_eq, iList, iTup, iRng1, iRng2, iEnum, tChain, tSumV, tBM, tRaise, tDGet, tDGet2, sDPut, tSeq, tRet, tIfS, tTest, tB, tOp, tUn, tVar, tC, tCB, tCons, tNil, tCall, tTupS, tAsg, gName, gNil, gCons, tNext, tDrop, tAnd, tOr, tNot, tIf, rI, rI0, rU, rIxTH, rIxLH, rEq, rNe, scal_ss, scal_ii, scal_bb, scal_si, scal_is, List.getElem?_cons_zero, List.getElem?_cons_succ, List.set_cons_zero, List.set_cons_succ]); try simp! only [$ls,*]) | simp! only [$ls,*] | simp_all only [$ls,*]))
seal L2.PE L2.PT L2.PW L2.PA L2.PS L2.wZ L2.PG L2.K7 L2.PI L2.HP L2.PO L2.ox L2.ON L2.dh L2.HH L2.OQ L2.K8 L2.Jo
theorem aO {P:Program} {w:World}:vB (bL P w):=Ax P w
set_option genInjectivity false in
set_option genSizeOf false in
structure Txt (K:abg) (mg:Str->Option Value) (aG aI aJ aE aK ag aF:Addr):Prop where
 z_abs:mg "abs"=none
 z_dict:mg "dict"=none
 z_enumerate:mg "enumerate"=none
 z_int:mg "int"=none
 z_isinstance:mg "isinstance"=none
 z_len:mg "len"=none
 z_list:mg "list"=none
 z_max:mg "max"=none
 z_min:mg "min"=none
 z_range:mg "range"=none
 z_sorted:mg "sorted"=none
 z_sum:mg "sum"=none
 z_tuple:mg "tuple"=none
 oV:Dn K mg "common_divisor" (top 7)
 GN:Dn K mg "share" (top 8)
 qC:Dn K mg "common_bottom" (top 9)
 mq:Dn K mg "table_by_weights" (top 11)
 zm:Dn K mg "table_of" (top 12)
 xK:Dn K mg "bottom_of" (top 13)
 B8:Dn K mg "weighed" (top 14)
 GO:Dn K mg "power" (top 18)
 vJ:Dn K mg "most_faces" (top 19)
 uh:Dn K mg "part_bottom" (top 20)
 vK:Dn K mg "part_count" (top 21)
 vL:Dn K mg "check_size" (top 22)
 vM:Dn K mg "dice_faces" (top 23)
 ui:Dn K mg "again_faces" (top 24)
 uj:Dn K mg "burst_faces" (top 25)
 vN:Dn K mg "part_faces" (top 26)
 zo:Dn K mg "value_of" (top 27)
 qD:Dn K mg "sides_product" (top 28)
 uk:Dn K mg "part_throws" (top 29)
 mr:Dn K mg "throws_by_bottom" (top 30)
 vO:Dn K mg "pool_table" (top 31)
 zp:Dn K mg "own_rows" (top 34)
 zq:Dn K mg "own_what" (top 35)
 vP:Dn K mg "throw_ways" (top 38)
 xM:Dn K mg "pick_ways" (top 39)
 zr:Dn K mg "taken_up" (top 40)
 Ea:Dn K mg "spread" (top 41)
 B9:Dn K mg "_law_at" (top 43)
 vQ:Dn K mg "_law_deeds" (top 44)
 xN:Dn K mg "_law_what" (top 45)
 xO:Dn K mg "_law_game" (top 46)
 sL:Dn K mg "_law_arrived" (top 47)
 um:Dn K mg "_law_behind" (top 48)
 vR:Dn K mg "_law_table" (top 49)
 xP:Dn K mg "_law_ways" (top 50)
 vS:Dn K mg "_law_place" (top 51)
 zt:Dn K mg "_law_due" (top 52)
 xQ:Dn K mg "_law_told" (top 53)
 c_MOST_THROWS:∃t,mg "MOST_THROWS"=some (.int 1296 t)
 c_MOST_BOTTOM:∃t,mg "MOST_BOTTOM"=some (.int 1000000 t)
 c_MOST_STATES:∃t,mg "MOST_STATES"=some (.int 120 t)
 k_LuckError:mg "LuckError"=some (.ref aG)
 k_NoShare:mg "NoShare"=some (.ref aI)
 k_NoTable:mg "NoTable"=some (.ref aJ)
 k_TooMany:mg "TooMany"=some (.ref aE)
 k_NoWay:mg "NoWay"=some (.ref aK)
 k_Course:mg "Course"=some (.ref ag)
 k_Finder:mg "Finder"=some (.ref aF)
 x_NoShare:PySem.W.excIn K aI vD m9=true
 x_NoTable:PySem.W.excIn K aJ vD m9=true
 x_TooMany:PySem.W.excIn K aE vD m9=true
 x_NoWay:PySem.W.excIn K aK vD m9=true
 oW:gB K aE
 vT:gB K aK
 e_NoWay_LuckError:PySem.W.exmOne K (.ref aK) (.ref aG)=some true
 e_TooMany_LuckError:PySem.W.exmOne K (.ref aE) (.ref aG)=some true
 i_NoWay_NoWay:PySem.W.kitOne K (.ref aK) (.ref aK)=some true
 i_TooMany_TooMany:PySem.W.kitOne K (.ref aE) (.ref aE)=some true
 n_NoWay_TooMany:PySem.W.kitOne K (.ref aK) (.ref aE)=some false
 n_TooMany_NoWay:PySem.W.kitOne K (.ref aE) (.ref aK)=some false
 aR:An K ag
 cu:An K aF
 na_Course_first:abl K (.ref ag) "first"=some none
 na_Course_mosts:abl K (.ref ag) "mosts"=some none
 na_Course_spots:abl K (.ref ag) "spots"=some none
 na_Course_tables:abl K (.ref ag) "tables"=some none
 na_Course_whats:abl K (.ref ag) "whats"=some none
 na_Finder_numbers:abl K (.ref aF) "numbers"=some none
 na_Finder_states:abl K (.ref aF) "states"=some none
 Ca:O3 K mg "Course" "Course.__init__" (inClass (top 36) 0) ag
 Cb:O3 K mg "Finder" "Finder.__init__" (inClass (top 37) 0) aF
 qE:zj K ag "asked" "Course.asked" (inClass (top 36) 3)
 oX:zj K ag "by_row" "Course.by_row" (inClass (top 36) 6)
 mv:zj K ag "by_value" "Course.by_value" (inClass (top 36) 7)
 vU:zj K ag "do" "Course.do" (inClass (top 36) 2)
 ki:zj K ag "end_worth" "Course.end_worth" (inClass (top 36) 12)
 qF:zj K ag "holds" "Course.holds" (inClass (top 36) 9)
 kj:zj K ag "open_rows" "Course.open_rows" (inClass (top 36) 10)
 uo:zj K ag "put" "Course.put" (inClass (top 36) 1)
 qG:zj K ag "start" "Course.start" (inClass (top 36) 4)
 mw:zj K ag "table_at" "Course.table_at" (inClass (top 36) 8)
 nB:zj K ag "what_at" "Course.what_at" (inClass (top 36) 5)
 my:zj K ag "words_at" "Course.words_at" (inClass (top 36) 11)
 kl:zj K aF "number_of" "Finder.number_of" (inClass (top 37) 1)
theorem QR {C:List Value->Prop} (k:C []):∀us:List Value,us.length=0->C us:=λus h=>by
 cases us with
 | nil=>exact k
 | cons a us=>cases h
theorem Eb {C:List Value->Prop} {n:Nat} (k:∀a (us:List Value),us.length=n->C (a::us)):∀us:List Value,us.length=n+1->C us:=λus h=>by
 cases us with
 | nil=>cases h
 | cons a us=>exact k a us (Nat.succ.inj h)
theorem hZ {C:List Value->Prop} (k:∀a,C [a]):∀us:List Value,us.length=1->C us:=Eb λa=>QR (C:=λus=>C (a::us)) (k a)
theorem iz {C:List Value->Prop} (k:∀a b,C [a,b]):∀us:List Value,us.length=2->C us:=Eb λa=>hZ (C:=λus=>C (a::us)) (k a)
theorem xR {C:List Value->Prop} (k:∀a b c,C [a,b,c]):∀us:List Value,us.length=3->C us:=Eb λa=>iz (C:=λus=>C (a::us)) (k a)
theorem zu {C:List Value->Prop} (k:∀a b c d,C [a,b,c,d]):∀us:List Value,us.length=4->C us:=Eb λa=>xR (C:=λus=>C (a::us)) (k a)
theorem QS {C:List Value->Prop} (k:∀a b c d e,C [a,b,c,d,e]):∀us:List Value,us.length=5->C us:=Eb λa=>zu (C:=λus=>C (a::us)) (k a)
noncomputable def Al {α:Type} (R:α->V->Prop):List α->List V->Prop
 | [],[]=>True
 | a::as,v::vs=>R a v/\Al R as vs
 | _,_=>False
theorem Al.length {α:Type} {R:α->V->Prop}:∀{as:List α} {vs:List V},Al R as vs->vs.length=as.length
 | [],[],_=>rfl
 | a::as,v::vs,h=>by simp [Al.length h.2]
theorem Al.imp {α:Type} {R S:α->V->Prop} (f:∀a v,R a v->S a v):∀{as:List α} {vs:List V},Al R as vs->Al S as vs
 | [],[],_=>trivial
 | a::as,v::vs,h=>⟨f _ _ h.1,Al.imp f h.2⟩
theorem Al.append {α:Type} {R:α->V->Prop}:∀{as bs:List α} {us vs:List V},Al R as us->Al R bs vs->Al R (as++bs) (us++vs)
 | [],_,[],_,_,k=>k
 | a::as,_,v::vs,_,h,k=>⟨h.1,Al.append h.2 k⟩
theorem Al.one {α:Type} {R:α->V->Prop} {a:α} {v:V} (h:R a v):Al R [a] [v]:=⟨h,trivial⟩
theorem Al.Cc {α:Type} {H:Hp} {f:α->Dat}:∀{as:List α} {vs:List V},Al (λa v=>Rep H (f a) v) as vs->bq H (as.map f) vs
 | [],[],_=>by simp [bq]
 | a::as,v::vs,h=>by
  rw[aan,bq];exact⟨v,vs,rfl,h.1,Al.Cc h.2⟩
theorem Al.get {α:Type} {R:α->V->Prop}:∀{as:List α} {vs:List V} {i:Nat} {v:V},Al R as vs->vs[i]?=some v->∃a,as[i]?=some a/\R a v:=by
 intro as;induction as with
 | nil=>
  intro vs i v h e;cases vs with
  | nil=>simp at e
  | cons u vs=>exact h.elim
 | cons a as ih=>
  intro vs i v h e;cases vs with
  | nil=>exact h.elim
  | cons u vs=>
   cases i with
   | zero=>cases e;exact⟨a,rfl,h.1⟩
   | succ i=>exact ih (vs:=vs) (i:=i) h.2 e
theorem Al.at {α:Type} {R:α->V->Prop}:∀{as:List α} {vs:List V} {i:Nat} {a:α},Al R as vs->as[i]?=some a->∃v,vs[i]?=some v/\R a v:=by
 intro as;induction as with
 | nil=>
  intro vs i v h e;simp at e
 | cons a as ih=>
  intro vs i v h e;cases vs with
  | nil=>exact h.elim
  | cons u vs=>
   cases i with
   | zero=>cases e;exact⟨u,rfl,h.1⟩
   | succ i=>exact ih (vs:=vs) (i:=i) h.2 e
theorem Al.of {α:Type} {R:α->V->Prop}:∀{as:List α} {vs:List V},vs.length=as.length->(∀(i:Nat) v a,vs[i]?=some v->as[i]?=some a->R a v)->Al R as vs
 | [],[],_,_=>trivial
 | [],_::_,l,_=>by simp at l
 | _::_,[],l,_=>by simp at l
 | a::as,u::vs,l,h=>⟨h 0 u a rfl rfl,Al.of (by simpa using l) λi v b e1 e2=>h (i+1) v b (by simpa using e1) (by simpa using e2)⟩
noncomputable def Ec:Sp:=λvs H Q _=>∃a b,vs=[.int a,.int b]/\Q (.int (Nm.g a b)) H
noncomputable def JS (qn:Addr):Sp:=λvs H Q E=>∃a b,vs=[.int a,.int b]/\Bt 5000 b/\(b=0->E (.ref qn) none H)/\(b≠0->∀p H',aB H H'->H p=none->H' p=some (.tup (Pr (Nm.st a b) (Nm.sb a b)))->Q (.ref p) H')
noncomputable def GP:Sp:=λvs H Q _=>∃d B ws,vs=[.ref d,.int B]/\H d=some (.dK (enc ws))/\(Nm.keys ws).Nodup/\ws.length<64/\B≠0/\Bt 5000 B/\∀p H',aB H H'->H p=none->Rep H' (lD (Nm.rowsOf ws B)) (.ref p)->Q (.ref p) H'
noncomputable def JT (qt:Addr):Sp:=λvs H Q E=>∃v ps,vs=[v]/\Rep H (ju ps) v/\ps.length<=1296/\(∀p∈ps,p.2<=10^12)/\(Nm.mj ps).length<64/\
 (Nm.bad ps->∀H',aB H H'->E (.ref qt) none H')/\
 (¬Nm.bad ps->∀p H',aB H H'->H p=none->Rep H' (lD (Nm.rowsOf (Nm.mj ps) (Nm.rZ (Nm.mj ps)))) (.ref p)->Q (.ref p) H')
noncomputable def Fv (s:Nat):Nat->List (List Int)
 | 0=>[[]]
 | d+1=>(Fv s d).flatMap λf=>(List.range s).map λi:Nat=>f++ [((i:Nat):Int)+1]
theorem nE (s:Nat):∀d,(Fv s d).length=s^d
 | 0=>rfl
 | d+1=>by
  have h:∀l:List (List Int),(l.flatMap λf=>(List.range s).map λi:Nat=>f++ [((i:Nat):Int)+1]).length=l.length*s:=by
   intro l;induction l with
   | nil=>simp
   | cons a r ih=>rw[List.flatMap_cons,aaq,ih,aak,List.length_range,aaB,Nat.succ_mul,Nat.add_comm]
  rw[Fv,h,nE s d,Nat.pow_succ]
theorem rf (s:Nat):∀d,∀f∈Fv s d,f.length=d/\∀x∈f,1<=x/\x<=(s:Int)
 | 0,f,h=>by
  rw[abp.mp h];exact⟨rfl,by simp⟩
 | d+1,f,h=>by
  obtain⟨g,hg,hf⟩:=List.mem_flatMap.mp h;obtain⟨i,hi,rfl⟩:=abo.mp hf;obtain⟨l,k⟩:=rf s d g hg
  have:=List.mem_range.mp hi
  refine⟨by rw[aaq,l];rfl,λx hx=>?_⟩;rcases List.mem_append.mp hx with h | h
  ·exact k x h
  ·rw[abp.mp h];lia
noncomputable def Lt (f g:List Int):Prop:=HW f g=false
noncomputable def Lh (low s:Nat):List (List Int):=(List.range s).flatMap λi:Nat=>if i<low then (List.range s).map λj:Nat=>[((i:Nat):Int)+1,((j:Nat):Int)+1] else [[((i:Nat):Int)+1]]
theorem AL {low s:Nat}:∀f∈Lh low s,(∀x∈f,1<=x/\x<=(s:Int))/\((∃a b:Int,f=[a,b]/\a<=(low:Int))\/∃a:Int,f=[a]/\(low:Int)<a):=by
 intro f hf;obtain⟨i,hi,hf⟩:=List.mem_flatMap.mp hf;have hi:=List.mem_range.mp hi;by_cases c:i<low
 ·rw[if_pos c] at hf;obtain⟨j,hj,rfl⟩:=abo.mp hf;have hj:=List.mem_range.mp hj;refine⟨λx hx=>?_,.inl ⟨_,_,rfl,by lia⟩⟩;simp only[aaR,aa9,or_false] at hx;rcases hx with rfl | rfl <;>lia
 ·rw[if_neg c] at hf;rw[abp.mp hf];refine⟨λx hx=>?_,.inr ⟨_,rfl,by lia⟩⟩;rw[abp.mp hx];lia
theorem GQ (low s:Nat):(Lh low s).length=((List.range s).map λi=>if i<low then s else 1).sum:=by
 unfold Lh
 have:∀l:List Nat,(l.flatMap λi:Nat=>if i<low then (List.range s).map λj:Nat=>[((i:Nat):Int)+1,((j:Nat):Int)+1] else [[((i:Nat):Int)+1]]).length=(l.map λi=>if i<low then s else 1).sum:=by
  intro l;induction l with
  | nil=>rfl
  | cons a r ih=>
   rw[List.flatMap_cons,aaq,ih,aan,aa7];congr 1;split <;>simp
 exact this _
inductive Pt
 | num (n:Nat)
 | fB (m s:Nat)
 | hits (n m s:Nat)
 | again (n s:Nat)
noncomputable def mT:Pt->List V
 | .num n=>[.str "number",.int (n:Int)]
 | .fB m s=>[.str "dice",.int (m:Int),.int (s:Int)]
 | .hits n m s=>[.str "hits",.int (n:Int),.int (m:Int),.int (s:Int)]
 | .again n s=>[.str "again",.int (n:Int),.int (s:Int)]
noncomputable def vV:Pt->Dat
 | .num n=>.tup [.str "number",.int (n:Int)]
 | .fB m s=>.tup [.str "dice",.int (m:Int),.int (s:Int)]
 | .hits n m s=>.tup [.str "hits",.int (n:Int),.int (m:Int),.int (s:Int)]
 | .again n s=>.tup [.str "again",.int (n:Int),.int (s:Int)]
noncomputable def lst:Pt->Nat
 | .num n=>n
 | .fB _ s=>s
 | .hits _ _ s=>s
 | .again _ s=>s
noncomputable def sd:Pt->Nat
 | .num _=>1
 | p=>lst p
noncomputable def Fw:Pt->Nat
 | .num _=>0
 | .fB m _=>m
 | .hits _ m _=>m
 | .again n _=>if 0<n then 2 else 1
noncomputable def bot (p:Pt):Nat:=sd p^Fw p
noncomputable def cnt:Pt->Nat
 | .num _=>1
 | .again n s=>min n s*s+ (s - min n s)
 | p=>bot p
noncomputable def GR:Pt->List (List Int)
 | .num _=>[[]]
 | .fB m s=>Fv s m
 | .hits _ m s=>Fv s m
 | .again n s=>Lh n s
noncomputable def val:Pt->List Int->Int
 | .num n,_=>n
 | .hits n _ _,f=>((f.filter λx=>decide ((n:Int)<=x)).length:Nat)
 | .again _ _,f=>f.getLastD 0
 | .fB _ _,f=>f.sum
noncomputable def eO:Pt->Prop
 | .num n=>n<=99
 | .fB m s=>1<=s/\s<=20/\m<=6
 | .hits n m s=>1<=s/\s<=20/\m<=6/\n<=20
 | .again n s=>1<=s/\s<=20/\n<=20
theorem vW {p:Pt} (g:eO p):1<=sd p/\sd p<=20:=by
 cases p <;>simp only[sd,lst,eO] at *<;>lia
theorem JU {p:Pt} (g:eO p):lst p<=99:=by
 cases p <;>simp only[lst,eO] at *<;>lia
theorem sM {p:Pt} (g:eO p):Fw p<=7:=by
 cases p <;>simp only[Fw,eO] at *<;>(try split) <;>lia
theorem Cd {s e:Nat} (hs:s<=20) (he:e<=10):s^e<=10240000000000:=
 aay (Nat.pow_le_pow_left hs e) (aay (Nat.pow_le_pow_right ∅ he) ∅)
theorem AM (low c:Nat):∀k,((List.range k).map λi=>if i<low then c else 1).sum=min low k*c+ (k - min low k)
 | 0=>by simp
 | k+1=>by
  rw[List.range_succ,aaw,List.sum_append_nat,AM low c k,aan,aaO,aa7,List.sum_nil];by_cases h:k<low
  ·rw[if_pos h,Nat.min_eq_right (by lia),Nat.min_eq_right (by lia),Nat.succ_mul];lia
  ·rw[if_neg h,Nat.min_eq_left (by lia),Nat.min_eq_left (by lia)];lia
theorem nF (p:Pt):(GR p).length=cnt p:=by
 cases p with
 | num n=>rfl
 | fB m s=>exact nE s m
 | hits n m s=>exact nE s m
 | again n s=>show(Lh n s).length=min n s*s+ (s - min n s);rw[GQ,AM]
theorem nG {p:Pt} (g:eO p):∀f∈GR p,(∀x∈f,1<=x/\x<=(lst p:Int))/\f.length<=Fw p:=by
 intro f hf;cases p with
 | num n=>rw[abp.mp hf];simp
 | fB m s=>obtain⟨a,b⟩:=rf s m f hf;exact⟨b,Nat.le_of_eq a⟩
 | hits n m s=>obtain⟨a,b⟩:=rf s m f hf;exact⟨b,Nat.le_of_eq a⟩
 | again n s=>
  obtain⟨a,b⟩:=AL f hf;refine⟨a,?_⟩;show f.length<=if 0<n then 2 else 1
  rcases b with ⟨x,y,rfl,h⟩ | ⟨x,rfl,h⟩
  ·have:=(a x (by simp)).1
   rw[if_pos (by lia)];simp
  ·simp;split <;>lia
theorem GS {p:Pt} (g:eO p) {f:List Int} (hf:f∈GR p):1<=sd p^f.length/\sd p^f.length<=bot p:=
 ⟨Nat.pow_pos (vW g).1,Nat.pow_le_pow_right (vW g).1 (nG g f hf).2⟩
abbrev Row:=List Int×Int×Nat
noncomputable def Fx (p:Pt):List Row:=(GR p).map λf=>(f,val p f,sd p^f.length)
noncomputable def Ie (rs:List Row) (p:Pt):List Row:=rs.flatMap λr=>(Fx p).map λq=>(r.1++q.1,r.2.1+q.2.1,r.2.2*q.2.2)
noncomputable def fH (ps:List Pt):List Row:=ps.foldl Ie [([],0,1)]
theorem sN (ps:List Pt) (p:Pt):fH (ps++ [p])=Ie (fH ps) p:=by unfold fH;rw[aa4];rfl
noncomputable def mz:List Nat->Nat
 | []=>1
 | a::r=>a*mz r
theorem iA (l:List Nat) (a:Nat):mz (l++ [a])=mz l*a:=by
 induction l with
 | nil=>simp [mz]
 | cons b r ih=>simp only[List.cons_append,mz,ih,Nat.mul_assoc]
theorem AN {l:List Nat} (h:∀a∈l,1<=a):1<=mz l:=by
 induction l with
 | nil=>simp [mz]
 | cons b r ih=>
  have h1:=h b (by simp);have h2:=ih λa ha=>h a (aau _ ha);exact Nat.mul_le_mul h1 h2
theorem xS {l:List Nat} (h:∀a∈l,1<=a):∀i,mz (l.take i)<=mz l:=by
 induction l with
 | nil=>intro i;simp
 | cons b r ih=>
  intro i;have h1:=h b (by simp);have h0:∀a∈r,1<=a:=λa ha=>h a (aau _ ha);cases i with
  | zero=>exact Nat.mul_le_mul h1 (AN h0)
  | succ i=>exact Nat.mul_le_mul (aam _) (ih h0 i)
theorem GU (rs:List Row) (p:Pt):(Ie rs p).length=rs.length*cnt p:=by
 unfold Ie;induction rs with
 | nil=>simp
 | cons r t ih=>
  rw[List.flatMap_cons,aaq,ih,aak,aaB,Nat.succ_mul];unfold Fx;rw[aak,nF];lia
theorem take_snoc {α:Type} {l:List α} {i:Nat} (h:i<l.length):l.take (i+1)=l.take i++ [l[i]]:=by
 rw[aaG,aat h]
 rfl
theorem rh (ps:List Pt):(fH ps).length=mz (ps.map cnt):=by
 have:∀i,i<=ps.length->(fH (ps.take i)).length=mz ((ps.take i).map cnt):=by
  intro i;induction i with
  | zero=>intro _;rfl
  | succ i ih=>
   intro h;rw[take_snoc (by lia),sN,GU,ih (by lia),aaw,aan,aaO,iA]
 have:=this ps.length (aam _)
 rwa [aaA (aam _)] at this
theorem qX {p:Pt} (g:eO p):1<=cnt p:=by
 cases p with
 | num n=>simp [cnt]
 | fB m s=>exact Nat.pow_pos g.1
 | hits n m s=>exact Nat.pow_pos g.1
 | again n s=>
  simp only[cnt,eO] at *;by_cases h:s - min n s=0
  ·have:min n s=s:=by lia
   rw[this]
   have:1*1<=s*s:=Nat.mul_le_mul g.1 g.1
   lia
  ·lia
theorem AO {p:Pt} (g:eO p):1<=bot p:=Nat.pow_pos (vW g).1
noncomputable def uZ (ps:List Pt):Prop:=(∀p∈ps,eO p)/\mz (ps.map cnt)<=1296/\mz (ps.map bot)<=1000000
theorem oY {ps:List Pt} (g:uZ ps) (i:Nat):mz ((ps.take i).map cnt)<=1296:=by
 rw[List.map_take];exact aay (xS (λa ha=>by obtain⟨p,hp,rfl⟩:=abo.mp ha;exact qX (g.1 p hp)) i) g.2.1
theorem oZ {ps:List Pt} (g:uZ ps) (i:Nat):mz ((ps.take i).map bot)<=1000000:=by
 rw[List.map_take];exact aay (xS (λa ha=>by obtain⟨p,hp,rfl⟩:=abo.mp ha;exact AO (g.1 p hp)) i) g.2.2
theorem AQ {l:List Nat} (h:∀a∈l,1<=a):∀a∈l,a<=mz l:=by
 induction l with
 | nil=>intro a ha;cases ha
 | cons b r ih=>
  intro a ha;have h1:=h b (by simp);have h0:∀a∈r,1<=a:=λa ha=>h a (aau _ ha);rw[mz];rcases aaR.mp ha with rfl | ha
  ·have:=Nat.mul_le_mul (aam a) (AN h0)
   lia
  ·have:=Nat.mul_le_mul h1 (ih h0 a ha)
   lia
theorem o4 {ps:List Pt} (g:uZ ps) {p:Pt} (hp:p∈ps):eO p/\cnt p<=1296/\bot p<=1000000:=
 ⟨g.1 p hp,aay (AQ (λa ha=>by obtain⟨p,hp,rfl⟩:=abo.mp ha;exact qX (g.1 p hp)) _ (List.mem_map_of_mem hp)) g.2.1,
  aay (AQ (λa ha=>by obtain⟨p,hp,rfl⟩:=abo.mp ha;exact AO (g.1 p hp)) _ (List.mem_map_of_mem hp)) g.2.2⟩
theorem AR {ps:List Pt} (g:∀p∈ps,eO p):∀i,i<=ps.length->∀r∈fH (ps.take i),r.1.length<=7*i/\1<=r.2.2/\r.2.2<=mz ((ps.take i).map bot):=by
 intro i;induction i with
 | zero=>intro _ r hr;rw[abp.mp hr];simp [mz]
 | succ i ih=>
  intro h r hr;rw[take_snoc (by lia),sN] at hr;obtain⟨r0,h0,hr⟩:=List.mem_flatMap.mp hr;obtain⟨q,hq,rfl⟩:=abo.mp hr;obtain⟨f,hf,rfl⟩:=abo.mp hq;obtain⟨a,b,c⟩:=ih (by lia) r0 h0;have gp:=g _ (List.getElem_mem (show i<ps.length by lia));obtain⟨d,e⟩:=GS gp hf;have l:=(nG gp f hf).2;have m:=sM gp;rw[take_snoc (by lia),aaw,aan,aaO,iA];refine⟨by rw[aaq];show r0.1.length+f.length<=_;lia,Nat.mul_le_mul b d,Nat.mul_le_mul c e⟩
noncomputable def Fa (H:Hp) (f:List Int) (v:V):Prop:=∃q,v=.ref q/\H q=some (.lst (List.map V.int f))
theorem Fa.mono {H H':Hp} {f:List Int} {v:V} (s:aB H H'):Fa H f v->Fa H' f v:=fun⟨q,e,h⟩=>⟨q,e,s _ _ h⟩
noncomputable def TR (G H:Hp) (r:Row) (v:V):Prop:=∃a q,v=.ref a/\H a=some (.tup [.ref q,.int r.2.1,.int (r.2.2:Int)])/\H q=some (.lst (List.map V.int r.1))/\G q=none
theorem TR.mono {G H H':Hp} {r:Row} {v:V} (s:aB H H'):TR G H r v->TR G H' r v:=fun⟨a,q,e,h,k,n⟩=>⟨a,q,e,s _ _ h,s _ _ k,n⟩
noncomputable def JV (H:Hp) (l:Addr) (ps:List Pt):Prop:=∃xs,H l=some (.lst xs)/\Al (λp v=>∃q,v=.ref q/\H q=some (.tup (mT p))) ps xs
theorem JV.mono {H H':Hp} {l:Addr} {ps:List Pt} (s:aB H H'):JV H l ps->JV H' l ps:=fun⟨xs,h,a⟩=>⟨xs,s _ _ h,a.imp λ_ _ ⟨q,e,k⟩=>⟨q,e,s _ _ k⟩⟩
theorem rj {H:Hp} {p:Addr} {o:HO}:dH (upd H p o) p=dH H p:=by
 funext a;unfold dH;by_cases c:a=p
 ·rw[if_pos c,if_pos c]
 ·rw[if_neg c,if_neg c,aA c]
theorem Ed (p:Pt):j2 (mT p) (-1)=some (.int (lst p:Int)):=by cases p <;>rfl
noncomputable def kd:Pt->Str
 | .num _=>aaj "number"
 | .fB _ _=>aaj "dice"
 | .hits _ _ _=>aaj "hits"
 | .again _ _=>aaj "again"
noncomputable def JW:Sp:=λvs H Q _=>∃b e:Nat,vs=[.int (b:Int),.int (e:Int)]/\(1<=b\/e=0)/\e<=10/\b^e<=1000000/\Q (.int ((b^e:Nat):Int)) H
noncomputable def Ee:Sp:=λvs H Q _=>∃q p,vs=[.ref q]/\H q=some (.tup (mT p))/\Q (.int (Fw p:Int)) H
noncomputable def vX:Sp:=λvs H Q _=>∃q p,vs=[.ref q]/\H q=some (.tup (mT p))/\eO p/\bot p<=1000000/\Q (.int (bot p:Int)) H
noncomputable def JX:Sp:=λvs H Q _=>∃q p,vs=[.ref q]/\H q=some (.tup (mT p))/\eO p/\bot p<=1000000/\Q (.int (cnt p:Int)) H
noncomputable def JY:Sp:=λvs H Q _=>∃l ps,vs=[.ref l]/\JV H l ps/\uZ ps/\Q .dI H
noncomputable def GV:Sp:=λvs H Q _=>∃d s:Nat,vs=[.int (d:Int),.int (s:Int)]/\1<=s/\s<=20/\d<=6/\s^d<=1296/\∀l H' xs,aB H H'->H' l=some (.lst xs)->Al (Fa H') (Fv s d) xs->Q (.ref l) H'
noncomputable def JZ:Sp:=λvs H Q _=>∃n s:Nat,vs=[.int (n:Int),.int (s:Int)]/\s<=20/\∀l H' xs,aB H H'->H' l=some (.lst xs)->Al (Fa H') (Lh n s) xs->Q (.ref l) H'
noncomputable def J0:Sp:=λvs H Q _=>∃q p,vs=[.ref q]/\H q=some (.tup (mT p))/\eO p/\cnt p<=1296/\∀l H' xs,aB H H'->H' l=some (.lst xs)->Al (Fa H') (GR p) xs->Q (.ref l) H'
noncomputable def J1:Sp:=λvs H Q _=>∃q p l f,vs=[.ref q,.ref l]/\H q=some (.tup (mT p))/\H l=some (.lst (List.map V.int f))/\eO p/\f∈GR p/\∀H',aB H H'->Q (.int (val p f)) H'
noncomputable def J2:Sp:=λvs H Q _=>∃q p l f,vs=[.ref q,.ref l]/\H q=some (.tup (mT p))/\H l=some (.lst (List.map V.int f))/\eO p/\f∈GR p/\Q (.int ((sd p^f.length:Nat):Int)) H
noncomputable def J3:Sp:=λvs H Q _=>∃q p,vs=[.ref q]/\H q=some (.tup (mT p))/\eO p/\cnt p<=1296/\∀l H' xs,aB H H'->H' l=some (.lst xs)->Al (TR (λ_=>none) H') (Fx p) xs->Q (.ref l) H'
noncomputable def J4:Sp:=λvs H Q _=>∃a ps,vs=[.ref a]/\JV H a ps/\uZ ps/\ps.length<=4/\∀l H' xs,aB H H'->H' l=some (.lst xs)->Al (TR H H') (fH ps) xs->Q (.ref l) H'
noncomputable def ME:Sp:=λ_ _ _ _=>False
noncomputable def zv:List (List Pt):=[[.fB 1 2],[.fB 1 3],[.hits 2 2 2],[.again 1 3],[.num 2]]
theorem Ef {ps:List Pt} (g:ps∈zv):uZ ps:=by
 simp only[zv,aaR,aa9,or_false] at g;rcases g with rfl | rfl | rfl | rfl | rfl <;>exact⟨by simp [eO],by decide +kernel,by decide +kernel⟩
noncomputable def GW (C:Nat) (rs:List Row):Nm.Ws:=rs.map λr=>(r.2.1,((C / r.2.2:Nat):Int))
noncomputable def Fy (ps:List Pt):Nm.Ws:=GW (mz (ps.map bot)) (fH ps)
noncomputable def fh (ps:List Pt):List (Int×Int×Int):=Nm.rowsOf (Nm.mj (Fy ps)) (Nm.rZ (Nm.mj (Fy ps)))
noncomputable def lE (ps:List Pt):Prop:=ps∈zv
noncomputable def uq (ps:List Pt):Int:=(mz (ps.map bot):Int)
noncomputable def GoodR (W:Int) (rows:List (Int×Int×Int)):Prop:=0<W/\W<=1000000/\rows.length<=1296/\∀r∈rows,0<r.2.2/\r.2.2∣W/\0<=r.2.1/\r.2.1<=W
theorem j4 {ps:List Pt} (g:lE ps):GoodR (uq ps) (fh ps):=by
 have h:∀ps∈zv,0<uq ps/\uq ps<=1000000/\(fh ps).length<=1296/\∀r∈fh ps,0<r.2.2/\r.2.2∣uq ps/\0<=r.2.1/\r.2.1<=uq ps:=∅
 exact h ps g
theorem AS:∀ps∈zv,(∀x∈Fy ps,0<x.2/\x.2<=10^12)/\(Fy ps).length<=1296/\(Nm.mj (Fy ps)).length<64/\Nm.pos (Fy ps)≠[]:=∅
theorem J5 {ps:List Pt} (g:lE ps):¬Nm.bad (Fy ps):=λb=>by
 obtain⟨h1,_,_,h4⟩:=AS ps g;rcases b with ⟨x,hx,c⟩ | c
 ·have:=h1 x hx;lia
 ·exact h4 c
theorem GX {p q:Pt} (h:vV p=vV q):p=q:=by
 cases p <;>cases q <;>simp only[vV,Dat.tup.injEq,List.cons.injEq,Dat.str.injEq,Dat.int.injEq,and_true,Int.natCast_inj] at h <;>first | exact absurd h.1 (by decide +kernel) | (obtain⟨_,rfl⟩:=h;rfl) | (obtain⟨_,rfl,rfl⟩:=h;rfl) | (obtain⟨_,rfl,rfl,rfl⟩:=h;rfl)
noncomputable def J6:Sp:=λvs H Q _=>∃a ps,vs=[.ref a]/\JV H a ps/\lE ps/\ps.length<=4/\∀p H',aB H H'->H p=none->Rep H' (lD (fh ps)) (.ref p)->Q (.ref p) H'
inductive Dd
 | set (n:Str) (k:Int)
 | plus (n:Str) (k:Int)
 | face (n:Str)
 | move (n m:Str)
noncomputable def xT:Dd->Dat
 | .set n k=>.tup [.str "set",.str n,.int k]
 | .plus n k=>.tup [.str "plus",.str n,.int k]
 | .face n=>.tup [.str "face",.str n]
 | .move n m=>.tup [.str "move",.str n,.str m]
structure Rw where
 word:Str
 wh:Option (Str×Str×Int)
 ds:List Dd
 to:Str
noncomputable def Ig:Option (Str×Str×Int)->Dat
 | none=>.dI
 | some (a,b,k)=>.tup [.str a,.str b,.int k]
abbrev R4:=Dat×Dat×List Dat×Dat
noncomputable def u9 (r:R4):Dat:=.tup [r.1,r.2.1,.lst r.2.2.1,r.2.2.2]
noncomputable def GY (r:Rw):R4:=(.str r.word,Ig r.wh,r.ds.map xT,.str r.to)
abbrev Tw:=Int×Int×List Dd×Str
noncomputable def J7 (r:Tw):R4:=(.int r.1,.int r.2.1,r.2.2.1.map xT,.str r.2.2.2)
inductive Wt
 | ask (c:Str) (k:Int) (one other:Str)
 | fin (t b:Int)
 | score (c:Str)
 | pick (HR:Int) (rs:List Rw)
 | fH (fP:List Dat) (t b:Int) (rs:List Tw)
noncomputable def qH:Wt->Dat
 | .ask c k a b=>.tup [.str "ask",.str c,.int k,.str a,.str b]
 | .fin t b=>.tup [.str "end",.tup [.int t,.int b]]
 | .score c=>.tup [.str "score",.str c]
 | .pick w rs=>.tup [.str "pick",.int w,.lst ((rs.map GY).map u9)]
 | .fH fP t b rs=>.tup [.str "throw",.lst fP,.tup [.int t,.int b],.lst ((rs.map J7).map u9)]
structure Gm where
 cs:List (Str×Int)
 ps:List (Str×Wt)
noncomputable def Pb (cs:List (Str×Int)):Dat:=.lst (cs.map λc=>.tup [.str c.1,.int c.2])
noncomputable def psD (ps:List (Str×Wt)):Dat:=.lst (ps.map λp=>.tup [.str p.1,qH p.2])
noncomputable def CF (g:Gm):Dat:=.tup [Pb g.cs,psD g.ps]
noncomputable def bU (cs:List (Str×Int)) (n:Str):Nat:=(cs.map (·.1)).idxOf n
noncomputable def most (cs:List (Str×Int)) (i:Nat):Int:=(cs.map (·.2)).getD i 0
noncomputable def o6 (cs:List (Str×Int)) (ns:List Int) (i:Nat) (k:Int):List Int:=ns.set i (min k (most cs i))
noncomputable def fV (cs:List (Str×Int)) (v:Int) (ns:List Int):Dd->List Int
 | .set n k=>o6 cs ns (bU cs n) k
 | .plus n k=>o6 cs ns (bU cs n) (ns.getD (bU cs n) 0+k)
 | .face n=>o6 cs ns (bU cs n) (ns.getD (bU cs n) 0+v)
 | .move n m=>(o6 cs ns (bU cs m) (ns.getD (bU cs m) 0+ns.getD (bU cs n) 0)).set (bU cs n) 0
noncomputable def vc (cs:List (Str×Int)):Dd->Prop
 | .set n _=>n∈cs.map (·.1)
 | .plus n _=>n∈cs.map (·.1)
 | .face n=>n∈cs.map (·.1)
 | .move n m=>n∈cs.map (·.1)/\m∈cs.map (·.1)
theorem bZ {cs:List (Str×Int)} {n:Str} (h:n∈cs.map (·.1)):bU cs n<cs.length:=by
 have:=List.idxOf_lt_length_of_mem h
 rwa [aak] at this
theorem gE {cs:List (Str×Int)} {ns:List Int} {i:Nat} {k:Int}:(o6 cs ns i k).length=ns.length:=by unfold o6;rw[aaP]
theorem GZ {cs:List (Str×Int)} {v:Int} {ns:List Int}:∀d:Dd,(fV cs v ns d).length=ns.length
 | .set _ _=>gE
 | .plus _ _=>gE
 | .face _=>gE
 | .move _ _=>by unfold fV;rw[aaP,gE]
noncomputable def look (ps:List (Str×Wt)) (n:Str):Option Wt:=(ps.find? λp=>decide (p.1=n)).map (·.2)
noncomputable def eF (g:Gm) (ns:List Int):Nat->Str->Option Str
 | 0,_=>none
 | f+1,nm=>match look g.ps nm with
  | some (.ask c k a b)=>if k<=ns.getD (bU g.cs c) 0 then eF g ns f a else eF g ns f b
  | some _=>some nm
  | none=>none
noncomputable def d4 (cs:List (Str×Int)) (ns:List Int):Option (Str×Str×Int)->Bool
 | none=>true
 | some (n,x,k)=>if n∈cs.map (·.1) then (if x=aaj "from" then decide (k<=ns.getD (bU cs n) 0) else decide (ns.getD (bU cs n) 0<k)) else false
noncomputable def Ih (cs:List (Str×Int)):Wt->Prop
 | .ask c _ _ _=>c∈cs.map (·.1)
 | .fin _ _=>True
 | .score c=>c∈cs.map (·.1)
 | .pick _ rs=>rs.length<=100/\∀r∈rs,r.ds.length<=100/\∀d∈r.ds,vc cs d
 | .fH fP _ _ rs=>fP.length<=100/\rs.length<=100/\∀r∈rs,r.2.2.1.length<=100/\∀d∈r.2.2.1,vc cs d
structure GoodG (g:Gm):Prop where
 nc:(g.cs.map (·.1)).Nodup
 np:(g.ps.map (·.1)).Nodup
 lc:g.cs.length<=100
 lp:g.ps.length<=100
 p0:0<g.ps.length
 wt:∀p∈g.ps,Ih g.cs p.2
theorem fk {ps:List (Str×Wt)} {n:Str} {x:Wt} (h:look ps n=some x):(n,x)∈ps:=by
 unfold look at h;obtain⟨p,hp,rfl⟩:=abm.mp h;have e:=List.find?_some hp;have e:p.1=n:=by simpa using e
 subst e;exact List.mem_of_find?_eq_some hp
noncomputable def km:List (Str×Int)->Nat->List (Key×V)
 | [],_=>[]
 | c::cs,i=>(Sum.inr c.1,V.int (i:Int))::km cs (i+1)
theorem AU:∀(cs:List (Str×Int)) (i:Nat),(km cs i).length=cs.length
 | [],_=>rfl
 | _::cs,i=>by rw[km,aaB,AU cs,aaB]
theorem xU (c:Str×Int):∀(cs:List (Str×Int)) (i:Nat),km (cs++ [c]) i=km cs i++ [(Sum.inr c.1,V.int ((i+cs.length:Nat):Int))]
 | [],i=>rfl
 | d::cs,i=>by
  rw[List.cons_append,km,xU c cs (i+1),km,aaB,show i+1+cs.length=i+ (cs.length+1) by lia]
  rfl
theorem vY {n:Str}:∀{cs:List (Str×Int)} {i:Nat},n∈cs.map (·.1)->dZ (km cs i) (Sum.inr n)=some (.int ((i+bU cs n:Nat):Int))
 | [],_,h=>by simp at h
 | c::cs,i,h=>by
  rw[km];by_cases e:c.1=n
  ·rw[jo (by rw[e])]
   have:bU (c::cs) n=0:=by unfold bU;rw[aan,e,List.idxOf_cons_self]
   rw[this]
   rfl
  ·rw[gA (λz=>e (by injection z)),vY (cs:=cs) (i:=i+1) (by simpa [Ne.symm e] using h)]
   have:bU (c::cs) n=bU cs n+1:=by unfold bU;rw[aan,List.idxOf_cons,beq_false_of_ne e];rfl
   rw[this,show i+1+bU cs n=i+ (bU cs n+1) by lia]
theorem sO {n:Str}:∀{cs:List (Str×Int)} {i:Nat},n∉cs.map (·.1)->dZ (km cs i) (Sum.inr n)=none
 | [],_,_=>rfl
 | c::cs,i,h=>by
  rw[km,gA (λz=>h (by injection z with z;simp [z])),sO (cs:=cs) (i:=i+1) (λz=>h (by rw[aan];exact aau _ z))]
theorem rq {κ:Type} [DecidableEq κ] {kvs:List (κ×V)} {k:κ} {v:V} (h:dZ kvs k=none):putK kvs k v=kvs++ [(k,v)]:=by
 unfold putK;rw[if_neg];intro c;obtain⟨x,hx,e⟩:=List.any_eq_true.mp c;unfold dZ at h
 have:kvs.find? (λkv=>decide (kv.1=k))=none:=by simpa using h
 exact absurd e (by simpa using List.find?_eq_none.mp this x hx)
noncomputable def sP (H:Hp):List (Str×Wt)->List (Key×V)->Prop
 | [],us=>us=[]
 | p::ps,us=>∃v r,us=(Sum.inr p.1,v)::r/\Rep H (qH p.2) v/\sP H ps r
theorem sP.mono {H H':Hp} (s:aB H H'):∀{ps:List (Str×Wt)} {us:List (Key×V)},sP H ps us->sP H' ps us
 | [],_,h=>h
 | _::_,_,⟨v,r,e,h1,h2⟩=>⟨v,r,e,h1.mono s,h2.mono s⟩
theorem sP.len {H:Hp}:∀{ps:List (Str×Wt)} {us:List (Key×V)},sP H ps us->us.length=ps.length
 | [],_,h=>by rw[sP] at h;subst h;rfl
 | _::_,_,⟨v,r,e,h1,h2⟩=>by rw[e,aaB,h2.len,aaB]
theorem sP.snoc {H:Hp} {p:Str×Wt} {v:V} (k:Rep H (qH p.2) v):∀{ps:List (Str×Wt)} {us:List (Key×V)},sP H ps us->sP H (ps++ [p]) (us++ [(Sum.inr p.1,v)])
 | [],_,h=>by rw[sP] at h;subst h;exact⟨v,[],rfl,k,rfl⟩
 | _::_,_,⟨u,r,e,h1,h2⟩=>by rw[e];exact⟨u,_,rfl,h1,h2.snoc k⟩
theorem sP.val {H:Hp} {n:Str}:∀{ps:List (Str×Wt)} {us:List (Key×V)},sP H ps us->(∃x v,look ps n=some x/\dZ us (Sum.inr n)=some v/\Rep H (qH x) v)\/(look ps n=none/\dZ us (Sum.inr n)=none)
 | [],_,h=>by rw[sP] at h;subst h;exact .inr ⟨rfl,rfl⟩
 | p::ps,_,⟨u,r,e,h1,h2⟩=>by
  subst e;by_cases c:p.1=n
  ·exact .inl ⟨p.2,u,by unfold look;rw[List.find?_cons_of_pos (by simpa using c)];rfl,jo (by rw[c]),h1⟩
  ·rcases h2.val (n:=n) with ⟨x,v,a,b,d⟩ | ⟨a,b⟩
   ·exact .inl ⟨x,v,by unfold look at *;rw[List.find?_cons_of_neg (by simpa using c)];exact a,by rw[gA (λz=>c (by injection z))];exact b,d⟩
   ·exact .inr ⟨by unfold look at *;rw[List.find?_cons_of_neg (by simpa using c)];exact a,by rw[gA (λz=>c (by injection z))];exact b⟩
theorem Ce {ps:List (Str×Wt)} {n:Str} (h:n∉ps.map (·.1)):look ps n=none:=by
 unfold look;rw[Option.map_eq_none_iff,List.find?_eq_none];intro p hp c;exact h (abo.mpr ⟨p,hp,by simpa using c⟩)
theorem iB {cs:List (Str×Int)} {v:Int}:∀(ds:List Dd) (ns:List Int),(ds.foldl (fV cs v) ns).length=ns.length
 | [],_=>rfl
 | d::ds,ns=>by rw[List.foldl_cons,iB ds,GZ]
noncomputable def cQ (cs:List (Str×Int)) (ns:List Int):Wt->List Rw
 | .pick _ rs=>rs.filter λr=>d4 cs ns r.wh
 | _=>[]
noncomputable def G0 (cs:List (Str×Int)) (ns:List Int):Wt->Option (Int×Int)
 | .fin t b=>some (t,b)
 | .score c=>some (ns.getD (bU cs c) 0,1)
 | _=>none
theorem aZ {a b:TS} {D:Ends} {σ:L2.St} {H:Hp} (C:(L2.St->Hp->Prop)->Prop) (hb:C (b D)) (ha:∀N:L2.St->Hp->Prop,C N->a {D with nx:=N} σ H):tSeq a b D σ H:=ha _ hb
noncomputable def wO (q:Addr) (H:Hp) (c:Addr) (g:Gm):Prop:=∃dx sp mo wh tb us ft,H c=some (.ins q dx [(aaj "spots",.ref sp),(aaj "mosts",.ref mo),(aaj "first",.str ft),(aaj "whats",.ref wh),(aaj "tables",.ref tb)])/\
 H sp=some (.dK (km g.cs 0))/\H mo=some (.lst ((g.cs.map (·.2)).map V.int))/\H wh=some (.dK us)/\sP H g.ps us/\(g.ps.map (·.1)).head?=some ft
theorem wO.mono {q:Addr} {H H':Hp} {c:Addr} {g:Gm} (s:aB H H'):wO q H c g->wO q H' c g:=λhh=>by
 obtain⟨dx,sp,mo,wh,tb,us,ft,h1,h2,h3,h4,h5,h6⟩:=hh;exact⟨dx,sp,mo,wh,tb,us,ft,s _ _ h1,s _ _ h2,s _ _ h3,s _ _ h4,h5.mono s,h6⟩
noncomputable def yC (H:Hp) (v:V) (nm:Str) (ns:List Int):Prop:=∃a l,v=.ref a/\H a=some (.tup [.str nm,.ref l])/\H l=some (.lst (ns.map V.int))
theorem yC.mono {H H':Hp} {v:V} {nm:Str} {ns:List Int} (s:aB H H'):yC H v nm ns->yC H' v nm ns:=fun⟨a,l,e,h1,h2⟩=>⟨a,l,e,s _ _ h1,s _ _ h2⟩
noncomputable def zw:Sp:=λvs H Q _=>∃v,∃rs:List R4,vs=[v]/\Rep H (.lst (rs.map u9)) v/\rs.length<=100/\(∀r∈rs,r.2.2.1.length<=100)/\∀p H',aB H H'->Rep H' (.lst (rs.map u9)) (.ref p)->Q (.ref p) H'
noncomputable def J8:Sp:=λvs H Q _=>∃v x cs,vs=[v]/\Rep H (qH x) v/\Ih cs x/\∀u H',aB H H'->Rep H' (qH x) u->Q u H'
noncomputable def vd (q:Addr):Sp:=λvs H Q _=>∃c l i k g ns,vs=[.ref c,.ref l,.int ((i:Nat):Int),.int k]/\wO q (dH H l) c g/\H l=some (.lst (List.map V.int ns))/\i<g.cs.length/\ns.length=g.cs.length/\Q .dI (upd H l (.lst ((o6 g.cs ns i k).map V.int)))
noncomputable def J9 (q:Addr):Sp:=λvs H Q _=>∃c l dv v g ns d,vs=[.ref c,.ref l,dv,.int v]/\wO q (dH H l) c g/\H l=some (.lst (List.map V.int ns))/\Rep (dH H l) (xT d) dv/\vc g.cs d/\ns.length=g.cs.length/\Q .dI (upd H l (.lst ((fV g.cs v ns d).map V.int)))
noncomputable def xV (q:Addr):Sp:=λvs H Q _=>∃c nm l g ns f gF,vs=[.ref c,.str nm,.ref l]/\wO q H c g/\GoodG g/\H l=some (.lst (List.map V.int ns))/\ns.length=g.cs.length/\eF g ns f nm=some gF/\∀a H',aB H H'->H a=none->H' a=some (.tup [.str gF,.ref l])->Q (.ref a) H'
noncomputable def Eg (q:Addr):Sp:=λvs H Q _=>∃c g f ft gF,vs=[.ref c]/\wO q H c g/\GoodG g/\(g.ps.map (·.1)).head?=some ft/\eF g (abu g.cs.length 0) f ft=some gF/\∀a l H',aB H H'->H a=none->H l=none->H' a=some (.tup [.str gF,.ref l])->H' l=some (.lst ((abu g.cs.length (0:Int)).map V.int))->Q (.ref a) H'
noncomputable def iZ (q:Addr):Sp:=λvs H Q _=>∃c v H0 g nm ns x,vs=[.ref c,v]/\aB H0 H/\wO q H0 c g/\yC H v nm ns/\look g.ps nm=some x/\∀u,Rep H0 (qH x) u->Q u H
noncomputable def Eh (q:Addr):Sp:=λvs H Q _=>∃c v l g ns wh,vs=[.ref c,v,.ref l]/\wO q H c g/\Rep H (Ig wh) v/\H l=some (.lst (List.map V.int ns))/\ns.length=g.cs.length/\Q (.bl (d4 g.cs ns wh)) H
noncomputable def xW (q:Addr):Sp:=λvs H Q _=>∃c sv rv v g nm ns a b ds to f gF,vs=[.ref c,sv,rv,.int v]/\wO q H c g/\GoodG g/\yC H sv nm ns/\Rep H (u9 (a,b,List.map xT ds,.str to)) rv/\(∀d∈ds,vc g.cs d)/\ds.length<=100/\ns.length=g.cs.length/\
 eF g (ds.foldl (fV g.cs v) ns) f to=some gF/\∀p l H',aB H H'->H p=none->H l=none->H' p=some (.tup [.str gF,.ref l])->H' l=some (.lst ((ds.foldl (fV g.cs v) ns).map V.int))->Q (.ref p) H'
theorem gU {H:Hp} {ds:List Dat} {v:V}:Rep H (.tup ds) v↔∃p vs,v=.ref p/\H p=some (.tup vs)/\bq H ds vs:=by rw[Rep]
theorem aM {H:Hp} {d:Dat} {ds:List Dat} {vs:List V}:bq H (d::ds) vs↔∃v r,vs=v::r/\Rep H d v/\bq H ds r:=by rw[bq]
theorem bx {H:Hp} {vs:List V}:bq H [] vs↔vs=[]:=by rw[bq]
theorem aH {H:Hp} {x:Str} {v:V}:Rep H (.str x) v↔v=.str x:=by rw[Rep]
theorem bb {H:Hp} {x:Int} {v:V}:Rep H (.int x) v↔v=.int x:=by rw[Rep]
theorem bo {H:Hp} {a b:Dat} {v:V}:Rep H (.tup [a,b]) v↔∃p x y,v=.ref p/\H p=some (.tup [x,y])/\Rep H a x/\Rep H b y:=by
 rw[gU]
 constructor
 ·rintro⟨p,vs,e,h,r⟩;obtain⟨x,r1,rfl,hx,r⟩:=aM.mp r;obtain⟨y,r2,rfl,hy,r⟩:=aM.mp r;rw[bx.mp r] at h;exact⟨p,x,y,e,h,hx,hy⟩
 ·rintro⟨p,x,y,e,h,hx,hy⟩;exact⟨p,_,e,h,aM.mpr ⟨x,_,rfl,hx,aM.mpr ⟨y,_,rfl,hy,bx.mpr rfl⟩⟩⟩
theorem cP {H:Hp} {a b c:Dat} {v:V}:Rep H (.tup [a,b,c]) v↔∃p x y z,v=.ref p/\H p=some (.tup [x,y,z])/\Rep H a x/\Rep H b y/\Rep H c z:=by
 rw[gU]
 constructor
 ·rintro⟨p,vs,e,h,r⟩;obtain⟨x,r1,rfl,hx,r⟩:=aM.mp r;obtain⟨y,r2,rfl,hy,r⟩:=aM.mp r;obtain⟨z,r3,rfl,hz,r⟩:=aM.mp r;rw[bx.mp r] at h;exact⟨p,x,y,z,e,h,hx,hy,hz⟩
 ·rintro⟨p,x,y,z,e,h,hx,hy,hz⟩;exact⟨p,_,e,h,aM.mpr ⟨x,_,rfl,hx,aM.mpr ⟨y,_,rfl,hy,aM.mpr ⟨z,_,rfl,hz,bx.mpr rfl⟩⟩⟩⟩
theorem dm {H:Hp} {a b c d:Dat} {v:V}:Rep H (.tup [a,b,c,d]) v↔∃p x y z u,v=.ref p/\H p=some (.tup [x,y,z,u])/\Rep H a x/\Rep H b y/\Rep H c z/\Rep H d u:=by
 rw[gU]
 constructor
 ·rintro⟨p,vs,e,h,r⟩;obtain⟨x,r1,rfl,hx,r⟩:=aM.mp r;obtain⟨y,r2,rfl,hy,r⟩:=aM.mp r;obtain⟨z,r3,rfl,hz,r⟩:=aM.mp r;obtain⟨u,r4,rfl,hu,r⟩:=aM.mp r;rw[bx.mp r] at h;exact⟨p,x,y,z,u,e,h,hx,hy,hz,hu⟩
 ·rintro⟨p,x,y,z,u,e,h,hx,hy,hz,hu⟩;exact⟨p,_,e,h,aM.mpr ⟨x,_,rfl,hx,aM.mpr ⟨y,_,rfl,hy,aM.mpr ⟨z,_,rfl,hz,aM.mpr ⟨u,_,rfl,hu,bx.mpr rfl⟩⟩⟩⟩⟩
theorem o7 {H:Hp} {a b c d f:Dat} {v:V}:Rep H (.tup [a,b,c,d,f]) v↔∃p x y z u t,v=.ref p/\H p=some (.tup [x,y,z,u,t])/\Rep H a x/\Rep H b y/\Rep H c z/\Rep H d u/\Rep H f t:=by
 rw[gU]
 constructor
 ·rintro⟨p,vs,e,h,r⟩;obtain⟨x,r1,rfl,hx,r⟩:=aM.mp r;obtain⟨y,r2,rfl,hy,r⟩:=aM.mp r;obtain⟨z,r3,rfl,hz,r⟩:=aM.mp r;obtain⟨u,r4,rfl,hu,r⟩:=aM.mp r;obtain⟨t,r5,rfl,ht,r⟩:=aM.mp r;rw[bx.mp r] at h;exact⟨p,x,y,z,u,t,e,h,hx,hy,hz,hu,ht⟩
 ·rintro⟨p,x,y,z,u,t,e,h,hx,hy,hz,hu,ht⟩;exact⟨p,_,e,h,aM.mpr ⟨x,_,rfl,hx,aM.mpr ⟨y,_,rfl,hy,aM.mpr ⟨z,_,rfl,hz,aM.mpr ⟨u,_,rfl,hu,aM.mpr ⟨t,_,rfl,ht,bx.mpr rfl⟩⟩⟩⟩⟩⟩
theorem eJ {k k':Str} {v:V} {l:List (Str×V)} (h:(k==k')=false):List.lookup k ((k',v)::l)=List.lookup k l:=by rw[aaL,h]
theorem lF {a b c d e:V}:List.lookup (aaj "spots") [(aaj "spots",a),(aaj "mosts",b),(aaj "first",c),(aaj "whats",d),(aaj "tables",e)]=some a:=aa8
theorem Ii {a b c d e:V}:List.lookup (aaj "mosts") [(aaj "spots",a),(aaj "mosts",b),(aaj "first",c),(aaj "whats",d),(aaj "tables",e)]=some b:=by
 rw[eJ ∅];exact aa8
theorem MF {a b c d e:V}:List.lookup (aaj "first") [(aaj "spots",a),(aaj "mosts",b),(aaj "first",c),(aaj "whats",d),(aaj "tables",e)]=some c:=by
 rw[eJ ∅,eJ ∅];exact aa8
theorem AV {a b c d e:V}:List.lookup (aaj "whats") [(aaj "spots",a),(aaj "mosts",b),(aaj "first",c),(aaj "whats",d),(aaj "tables",e)]=some d:=by
 rw[eJ ∅,eJ ∅,eJ ∅];exact aa8
theorem fc {a b c d e:V} {k:Str} (h1:(k==aaj "spots")=false) (h2:(k==aaj "mosts")=false) (h3:(k==aaj "first")=false) (h4:(k==aaj "whats")=false) (h5:(k==aaj "tables")=false):
  List.lookup k [(aaj "spots",a),(aaj "mosts",b),(aaj "first",c),(aaj "whats",d),(aaj "tables",e)]=none:=by
 rw[eJ h1,eJ h2,eJ h3,eJ h4,eJ h5];rfl
theorem gW {n i:Nat} (h:i<n):F3 n (i:Int)=some i:=by
 unfold F3;rw[if_pos (by lia),if_pos (by lia),aaS]
theorem du {ns:List Int} {i:Nat} (h:i<ns.length):j2 (List.map V.int ns) (i:Int)=some (.int (ns.getD i 0)):=by
 have:=xy (ns:=ns) (i:=(i:Int)) (by lia) (by lia)
 rwa [aaS] at this
theorem G1 {cs:List (Str×Int)} {i:Nat} (h:i<cs.length):j2 (List.map V.int (cs.map (·.2))) (i:Int)=some (.int (most cs i)):=du (by rw[aak];exact h)
theorem iV {H:Hp} {sp:Addr} {cs:List (Str×Int)} {n:Str} (h:H sp=some (.dK (km cs 0))) (hn:n∈cs.map (·.1)):lZ H sp (.str n) (some (.int ((bU cs n:Nat):Int))):=
 .inl ⟨_,Sum.inr n,.inl h,rfl,by rw[vY hn,aaY]⟩
theorem nH {H:Hp} {p:Addr} {o:HO}:dH (upd H p o) p=dH H p:=by
 funext a;unfold dH;by_cases c:a=p
 ·rw[if_pos c,if_pos c]
 ·rw[if_neg c,if_neg c,aA c]
theorem AW {c:TT} {tb:TS} {D:Ends} {σ:L2.St} {H:Hp} (Pv:Nat->L2.St->Hp->Prop) {m:Nat} (h0:Pv m σ H)
  (hs:∀m σ H,Pv m σ H->∃b:Bool,(∀Q:Bool->Hp->Prop,Q b H->c σ H Q)/\if b=true then tb {D with nx:=λσ' H'=>∃m',m'<m/\Pv m' σ' H',ct:=λσ' H'=>∃m',m'<m/\Pv m' σ' H',bk:=D.nx} σ H else D.nx σ H):vx c tb D σ H:=by
 refine⟨Pv,⟨m,h0⟩,?_⟩;intro m σ H p;obtain⟨b,k,q⟩:=hs m σ H p;refine k _ ?_;cases b with
 | true=>exact⟨_,λσ' H' h=>h,q⟩
 | false=>exact q
theorem Ei {H:Hp} {p:Addr} (h:H p=none):dH H p=H:=by
 funext a;unfold dH;by_cases c:a=p
 ·rw[if_pos c,c,h]
 ·rw[if_neg c]
theorem sQ {H H':Hp} {p:Addr} (h:dH H' p=H):aB H H':=by rw[<-h];exact bM
theorem Ej (n:Nat):(abu n [V.int 0]).flatten=List.map V.int (abu n 0):=by
 induction n with
 | zero=>rfl
 | succ n ih=>rw[abf,List.flatten_cons,ih,abf];rfl
noncomputable def xX (q:Addr):Sp:=λvs H Q _=>∃c v H0 g nm ns x,vs=[.ref c,v]/\aB H0 H/\wO q H0 c g/\GoodG g/\yC H v nm ns/\ns.length=g.cs.length/\look g.ps nm=some x/\∀p xs H',aB H H'->H p=none->H' p=some (.lst xs)->bq H0 (((cQ g.cs ns x).map GY).map u9) xs->Q (.ref p) H'
noncomputable def Ek (q:Addr):Sp:=λvs H Q _=>∃c v g nm ns x,vs=[.ref c,v]/\wO q H c g/\GoodG g/\yC H v nm ns/\ns.length=g.cs.length/\look g.ps nm=some x/\∀p H',aB H H'->H p=none->Rep H' (.lst ((cQ g.cs ns x).map λr=>Dat.str r.word)) (.ref p)->Q (.ref p) H'
noncomputable def AX (q:Addr):Sp:=λvs H Q _=>∃c v g nm ns x t b,vs=[.ref c,v]/\wO q H c g/\GoodG g/\yC H v nm ns/\ns.length=g.cs.length/\look g.ps nm=some x/\G0 g.cs ns x=some (t,b)/\∀u H',aB H H'->Rep H' (.tup [.int t,.int b]) u->Q u H'
theorem sR {H:Hp} {p:Rw->Bool}:∀{rs:List Rw} {xs:List V},bq H ((rs.map GY).map u9) xs->bq H (((rs.filter p).map GY).map u9) ((xs.zip rs).filterMap λx=>if p x.2=true then some x.1 else none)
 | [],xs,h=>by rw[List.zip_nil_right];exact bx.mpr rfl
 | r::rs,xs,h=>by
  obtain⟨v,ys,rfl,h1,h2⟩:=aM.mp h;have ih:=sR (p:=p) h2;rw[List.zip_cons_cons,abd];by_cases c:p r=true
  ·simp only[c,if_true];rw[List.filter_cons_of_pos c,aan,aan];exact aM.mpr ⟨v,_,rfl,h1,ih⟩
  ·simp only[c];rw[List.filter_cons_of_neg c];exact ih
theorem ve {H:Hp}:∀{rs:List Rw} {xs:List V},bq H ((rs.map GY).map u9) xs->bq H (rs.map λr=>Dat.str r.word) (rs.map λr=>V.str r.word)
 | [],xs,h=>bx.mpr rfl
 | r::rs,xs,h=>by
  obtain⟨v,ys,rfl,h1,h2⟩:=aM.mp h;exact aM.mpr ⟨_,_,rfl,aH.mpr rfl,ve h2⟩
theorem AY {H:Hp} {rs:List Rw} {xs:List V} {i:Nat} {x:V} (h:bq H ((rs.map GY).map u9) xs) (e:xs[i]?=some x):∃r p a b c d,rs[i]?=some r/\x=.ref p/\H p=some (.tup [.str r.word,b,c,d])/\Rep H (Ig r.wh) b/\a=r:=by
 obtain⟨dd,ed,rd⟩:=h.get e;rw[aal,aal] at ed;obtain⟨r4,e4,rfl⟩:=abm.mp ed;obtain⟨r,er,rfl⟩:=abm.mp e4;obtain⟨p,x1,x2,x3,x4,rfl,hp,r1,r2,r3,r4⟩:=dm.mp (show Rep H (.tup _) x from rd);have r1:x1=.str r.word:=aH.mp r1;subst r1;exact⟨r,p,r,x2,x3,x4,er,rfl,hp,r2,rfl⟩
theorem dE {tc:TT} {a b:TS} {D:Ends} {σ:L2.St} {H:Hp} (h:∀Y N:Hp->Prop,Y H->tc σ H λv H'=>if v=true then Y H' else N H') (k:a D σ H):tIfS tc a b D σ H:=mi (λH'=>H'=H) (λ_=>False) (λ_ e=>e▸k) (λ_ f=>f.elim) λY N hY _=>h Y N (hY _ rfl)
theorem c6 {tc:TT} {a b:TS} {D:Ends} {σ:L2.St} {H:Hp} (h:∀Y N:Hp->Prop,N H->tc σ H λv H'=>if v=true then Y H' else N H') (k:b D σ H):tIfS tc a b D σ H:=mi (λ_=>False) (λH'=>H'=H) (λ_ f=>f.elim) (λ_ e=>e▸k) λY N _ hN=>h Y N (hN _ rfl)
abbrev bV:=Str×List Int
noncomputable def iC (s:bV):Dat:=.tup [.str s.1,.tup (s.2.map .int)]
theorem o8:∀ns:List Int,iy (ns.map Dat.int)=ns.map PyData.int
 | []=>by simp [iy]
 | n::ns=>by rw[aan,iy,o8 ns,df,aan]
theorem rA (s:bV):df (iC s)=.tuple [.str s.1,.tuple (s.2.map PyData.int)]:=by
 unfold iC;rw[df,iy,iy,iy,df,df,o8]
theorem G3 {s t:bV}:df (iC s)=df (iC t)↔s=t:=by
 rw[rA,rA]
 constructor
 ·intro h;injection h with h;injection h with h1 h;injection h with h2 _;injection h1 with h1;injection h2 with h2
  have:s.2=t.2:=by
   have:∀{a b:List Int},a.map PyData.int=b.map PyData.int->a=b:=by
    intro a;induction a with
    | nil=>intro b h;cases b with | nil=>rfl | cons _ _=>cases h
    | cons x a ih=>
     intro b h;cases b with
     | nil=>cases h
     | cons y b=>
      rw[aan,aan] at h;injection h with h1 h2;injection h1 with h1;rw[h1,ih h2]
   exact this h2
  exact Prod.ext h1 this
 ·rintro rfl;rfl
theorem vf:∀ns:List Int,jv (ns.map PyData.int)=true
 | []=>rfl
 | n::ns=>by rw[aan,jv,vf ns];rfl
theorem vg:∀ns:List Int,PyData.depthAll (ns.map PyData.int)<=1
 | []=>by simp [PyData.depthAll]
 | n::ns=>by
  have:=vg ns
  rw[aan,PyData.depthAll,PyData.depth];lia
noncomputable def mB:List bV->Rows->Nat->Prop
 | [],ks,_=>ks=[]
 | s::ss,ks,i=>∃b r,ks=(iC s,b,(i:Int))::r/\mB ss r (i+1)
theorem mB.len:∀{ss:List bV} {ks:Rows} {i:Nat},mB ss ks i->ks.length=ss.length
 | [],_,_,h=>by rw[mB] at h;subst h;rfl
 | _::_,_,_,⟨b,r,e,h⟩=>by rw[e,aaB,h.len,aaB]
theorem mB.snoc {s:bV} {b:Addr}:∀{ss:List bV} {ks:Rows} {i:Nat},mB ss ks i->mB (ss++ [s]) (ks++ [(iC s,b,((i+ss.length:Nat):Int))]) i
 | [],_,i,h=>by rw[mB] at h;subst h;exact⟨b,[],rfl,rfl⟩
 | t::ss,_,i,⟨b',r,e,h⟩=>by
  rw[e];refine⟨b',_,rfl,?_⟩
  have:=h.snoc (s:=s) (b:=b)
  rw[show i+1+ss.length=i+ (t::ss).length by rw[aaB];lia] at this;exact this
theorem mB.look {s:bV}:∀{ss:List bV} {ks:Rows} {i:Nat},mB ss ks i->iY ks (df (iC s))=if s∈ss then some ((i+ss.idxOf s:Nat):Int) else none
 | [],_,_,h=>by rw[mB] at h;subst h;rfl
 | t::ss,_,i,⟨b,r,e,h⟩=>by
  subst e;unfold iY;by_cases c:t=s
  ·subst c;rw[List.find?_cons_of_pos (by simp),if_pos aaz,List.idxOf_cons_self]
   rfl
  ·rw[List.find?_cons_of_neg (by simpa [G3] using c)];have ih:=h.look (s:=s);unfold iY at ih;rw[ih];have e:(t::ss).idxOf s=ss.idxOf s+1:=by rw[List.idxOf_cons,beq_false_of_ne c];rfl
   rw[e,show i+1+ss.idxOf s=i+ (ss.idxOf s+1) by lia];by_cases d:s∈ss
   ·rw[if_pos d,if_pos (aau _ d)]
   ·rw[if_neg d,if_neg (λz=>by rcases aaR.mp z with z | z;exact c z.symm;exact d z)]
noncomputable def fQ (ss:List bV) (s:bV):List bV:=if s∈ss then ss else ss++ [s]
theorem Ka {H:Hp} {s:bV} {b t:Addr} (h:dQ (.str s.1)=true) (hb:H b=some (.tup [.str s.1,.ref t])) (ht:H t=some (.tup (s.2.map V.int))):kh H (iC s) b:=by
 refine⟨?_,?_,?_⟩
 ·rw[rA,dQ,jv,h,jv,dQ,vf]
  rfl
 ·rw[rA]
  have:=vg s.2
  simp only[PyData.depth,PyData.depthAll];lia
 ·unfold iC;exact bo.mpr ⟨b,_,_,rfl,hb,aH.mpr rfl,gU.mpr ⟨t,_,rfl,ht,bq.ints _⟩⟩
noncomputable abbrev cb (H:Hp) (l n:Addr):Hp:=dH (dH H l) n
theorem aT {H:Hp} {l n:Addr}:aB (cb H l n) H:=λa o e=>bM _ _ (bM _ _ e)
noncomputable def zx (Fr:Addr->Prop) (H:Hp) (v:V) (nm:Str) (ns:List Int):Prop:=∃a l,v=.ref a/\H a=some (.tup [.str nm,.ref l])/\H l=some (.lst (ns.map V.int))/\Fr l
theorem zx.mono {Fr:Addr->Prop} {H H':Hp} {v:V} {nm:Str} {ns:List Int} (s:aB H H'):zx Fr H v nm ns->zx Fr H' v nm ns:=fun⟨a,l,e,h1,h2,h3⟩=>⟨a,l,e,s _ _ h1,s _ _ h2,h3⟩
theorem zx.st {Fr:Addr->Prop} {H:Hp} {v:V} {nm:Str} {ns:List Int}:zx Fr H v nm ns->yC H v nm ns:=fun⟨a,l,e,h1,h2,_⟩=>⟨a,l,e,h1,h2⟩
noncomputable def mC (P:Program) (w:World) (q:Addr) (Fr:Addr->Prop) (H:Hp) (f l n:Addr) (ss:List bV):Prop:=∃dx xs ks,cb H l n f=some (.ins q dx [(aaj "states",.ref l),(aaj "numbers",.ref n)])/\l≠n/\H l=some (.lst xs)/\Al (λs v=>zx Fr (cb H l n) v s.1 s.2) ss xs/\
 H n=some (Fu P w n ks)/\xI (cb H l n) ks/\mB ss ks 0/\ss.length<=120
theorem lG {a b:V}:List.lookup (aaj "states") [(aaj "states",a),(aaj "numbers",b)]=some a:=aa8
theorem El {a b:V}:List.lookup (aaj "numbers") [(aaj "states",a),(aaj "numbers",b)]=some b:=by
 rw[eJ ∅];exact aa8
theorem zy {a b:V} {k:Str} (h1:(k==aaj "states")=false) (h2:(k==aaj "numbers")=false):List.lookup k [(aaj "states",a),(aaj "numbers",b)]=none:=by
 rw[eJ h1,eJ h2];rfl
noncomputable def Kb (P:Program) (w:World) (q:Addr):Sp:=λvs H Q _=>∃f dx,vs=[.ref f]/\H f=some (.ins q dx [])/\∀l n H',H l=none->H n=none->(∀a o,a≠f->H a=some o->cb H' l n a=some o)->(∀Fr,mC P w q Fr H' f l n [])->Q .dI H'
theorem cM {H:Hp} {l n a:Addr} (h1:a≠l) (h2:a≠n):cb H l n a=H a:=by
 show dH (dH H l) n a=_;rw[bX h2,bX h1]
theorem iD {H:Hp} {l n a:Addr} {o:HO} (e:cb H l n a=some o):a≠l/\a≠n:=by
 have e:(if a=n then none else if a=l then none else H a)=some o:=e;refine⟨λz=>?_,λz=>?_⟩
 ·by_cases c:a=n
  ·rw[if_pos c] at e;cases e
  ·rw[if_neg c,if_pos z] at e;cases e
 ·rw[if_pos z] at e;cases e
theorem bG {H H':Hp} {l n:Addr} (s:aB H H'):aB (cb H l n) (cb H' l n):=λa o e=>by
 obtain⟨h1,h2⟩:=iD e;rw[cM h1 h2] at e ⊢;exact s _ _ e
theorem Cf {H:Hp} {l n:Addr} {o:HO}:cb (upd H l o) l n=cb H l n:=by show dH (dH (upd H l o) l) n=_;rw[nH]
theorem Cg {H:Hp} {l n:Addr} {o:HO} (h:l≠n):cb (upd H n o) l n=cb H l n:=by
 funext a
 show(if a=n then none else if a=l then none else upd H n o a)=if a=n then none else if a=l then none else H a
 by_cases c:a=n
 ·rw[if_pos c,if_pos c]
 ·rw[if_neg c,if_neg c,aA c]
theorem sS (ss:List bV) (s:bV):s∈fQ ss s:=by
 unfold fQ;split
 ·assumption
 ·simp
set_option tactic.hygienic true in
theorem sU (ss:List bV) (s:bV):(fQ ss s).idxOf s=ss.idxOf s:=by
 unfold fQ;split
 ·rfl
 ·rename_i h;rw[List.idxOf_append,if_neg h,List.idxOf_cons_self,List.idxOf_eq_length h];lia
theorem mC.mono {P:Program} {w:World} {q:Addr} {Fr:Addr->Prop} {H H':Hp} {f l n:Addr} {ss:List bV} (s:aB H H'):mC P w q Fr H f l n ss->mC P w q Fr H' f l n ss:=λhh=>by
 obtain⟨dx,xs,ks,h1,h2,h3,h4,h5,h6,h7,h8⟩:=hh;exact⟨dx,xs,ks,bG s _ _ h1,h2,s _ _ h3,h4.imp λ_ _ k=>k.mono (bG s),s _ _ h5,h6.mono (bG s),h7,h8⟩
noncomputable def Kp (H H':Hp):Prop:=∀a,(∀vs,H a=some (.tup vs)->H' a=some (.tup vs))/\∀vs,H a=some (.lst vs)->H' a=some (.lst vs)
theorem Kp.of {H H':Hp} (s:aB H H'):Kp H H':=λa=>⟨λ_=>s _ _,λ_=>s _ _⟩
theorem Kp.upd {H:Hp} {p:Addr} {o:HO} (h1:∀vs,H p≠some (.tup vs)) (h2:∀vs,H p≠some (.lst vs)):Kp H (upd H p o):=λa=>by
 by_cases c:a=p
 ·subst c;exact⟨λvs e=>absurd e (h1 vs),λvs e=>absurd e (h2 vs)⟩
 ·rw[aA c];exact⟨λ_ h=>h,λ_ h=>h⟩
theorem Kp.trans {H H' H2:Hp} (a:Kp H H') (b:Kp H' H2):Kp H H2:=λx=>⟨λ_ h=>(b x).1 _ ((a x).1 _ h),λ_ h=>(b x).2 _ ((a x).2 _ h)⟩
mutual
theorem Kp.rep {H H':Hp} (s:Kp H H'):∀{d:Dat} {v:V},Rep H d v->Rep H' d v
 | .dI,_,h=>by rw[Rep] at *;exact h
 | .bl _,_,h=>by rw[Rep] at *;exact h
 | .int _,_,h=>by rw[Rep] at *;exact h
 | .str _,_,h=>by rw[Rep] at *;exact h
 | .tup ds,_,h=>by
  rw[Rep] at *;obtain⟨p,vs,e,hp,r⟩:=h;exact⟨p,vs,e,(s p).1 _ hp,s.Cc r⟩
 | .lst ds,_,h=>by
  rw[Rep] at *;obtain⟨p,vs,e,hp,r⟩:=h;exact⟨p,vs,e,(s p).2 _ hp,s.Cc r⟩
theorem Kp.Cc {H H':Hp} (s:Kp H H'):∀{ds:List Dat} {vs:List V},bq H ds vs->bq H' ds vs
 | [],_,h=>by rw[bq] at *;exact h
 | d::ds,_,h=>by
  rw[bq] at *;obtain⟨v,r,e,h1,h2⟩:=h;exact⟨v,r,e,s.rep h1,s.Cc h2⟩
end
theorem Kp.QT {H H':Hp} (s:Kp H H'):∀{ps:List (Str×Wt)} {us:List (Key×V)},sP H ps us->sP H' ps us
 | [],_,h=>h
 | _::_,_,⟨v,r,e,h1,h2⟩=>⟨v,r,e,s.rep h1,s.QT h2⟩
theorem sP.none {H:Hp} {ps:List (Str×Wt)} {us:List (Key×V)} {n:Str} (h:sP H ps us) (nn:n∉ps.map (·.1)):dZ us (Sum.inr n)=none:=by
 rcases h.val (n:=n) with ⟨x,v,a,_,_⟩ | ⟨_,b⟩
 ·rw[Ce nn] at a;cases a
 ·exact b
theorem xY {α:Type} {l:List α} (h:l.Nodup) {i:Nat} {x:α} (e:l[i]?=some x):x∉l.take i:=by
 intro m;obtain⟨j,hj,ej⟩:=List.getElem_of_mem m;rw[aa1] at hj;rw[List.getElem_take] at ej;obtain⟨hi,ei⟩:=abn.mp e
 have:=(List.getElem_inj h).mp (ej.trans ei.symm)
 lia
noncomputable def aL (ss ts:List bV):List bV:=ts.foldl fQ ss
noncomputable def o9 (ss SS:List bV):Prop:=∃r,SS=ss++r
theorem o9.refl (ss:List bV):o9 ss ss:=⟨[],(aaN _).symm⟩
theorem o9.trans {a b c:List bV}:o9 a b->o9 b c->o9 a c:=fun⟨r,e⟩ ⟨t,f⟩=>⟨r++t,by rw[f,e,List.append_assoc]⟩
theorem Em (ss:List bV) (s:bV):o9 ss (fQ ss s):=by
 unfold fQ;split
 ·exact o9.refl _
 ·exact⟨_,rfl⟩
theorem eY:∀(ts ss:List bV),o9 ss (aL ss ts)
 | [],ss=>o9.refl _
 | t::ts,ss=>(Em ss t).trans (eY ts (fQ ss t))
theorem o9.idx {ss SS:List bV} {s:bV} (h:s∈ss):o9 ss SS->SS.idxOf s=ss.idxOf s:=fun⟨r,e⟩=>by rw[e,List.idxOf_append,if_pos h]
theorem o9.len {ss SS:List bV}:o9 ss SS->ss.length<=SS.length:=fun⟨r,e⟩=>by rw[e,aaq];lia
noncomputable def G4 (g:Gm) (ns:List Int) (r:Rw):Option bV:=(eF g (r.ds.foldl (fV g.cs 0) ns) (g.ps.length+1) r.to).map λnm=>(nm,r.ds.foldl (fV g.cs 0) ns)
noncomputable def Goes (g:Gm) (st:bV) (ts:List bV):Prop:=match look g.ps st.1 with
 | some (.pick w rs)=>cQ g.cs st.2 (.pick w rs)≠[]/\ts.length=(cQ g.cs st.2 (.pick w rs)).length/\∀(i:Nat) r,(cQ g.cs st.2 (.pick w rs))[i]?=some r->∃t,ts[i]?=some t/\G4 g st.2 r=some t/\dQ (.str t.1)=true
 | some (.fin _ _)=>ts=[]
 | some (.score _)=>ts=[]
 | _=>False
noncomputable def vZ (g:Gm) (SS:List bV) (st:bV) (ts:List bV):Dat:=match look g.ps st.1 with
 | some (.pick w _)=>.tup [.str "pick",.int w,.lst (ts.map λt=>.int ((SS.idxOf t:Nat):Int))]
 | some x=>.tup [.str "end",.tup [.int ((G0 g.cs st.2 x).getD (0,1)).1,.int ((G0 g.cs st.2 x).getD (0,1)).2]]
 | none=>.dI
theorem En {J:It} {g:TG} {tc:TT} {te:TE} {σ0:L2.St} {H1:Hp} {fin:List V->Hp->Prop} {n:Nat} {Item:Nat->V->Hp->Hp->Prop} {Ok:Hp->Prop} (S:Src J Ok n Item) (W:Nat->List V->L2.St->Hp->Prop) (p0:W 0 [] σ0 H1) (bT:∀i ys σ H,W i ys σ H->Ok H) (hz:n<=sizeLine)
  (hs:∀i x σ H ys H3 (Q:L2.St->V->Hp->Prop) (N:L2.St->Hp->Prop),i<n->W i ys σ H->Item i x H H3->
   (∀σ3 y H6,W (i+1) (ys++ [y]) σ3 H6->Q σ3 y H6)->(∀σ3 H5,W (i+1) ys σ3 H5->N σ3 H5)->
   g x σ H3 λσ3 H4=>tc σ3 H4 λb H5=>if b=true then te σ3 H5 λy H6=>Q σ3 y H6 else N σ3 H5)
  (oN:∀ys σ H,W n ys σ H->fin ys H):hX J g tc te σ0 H1 fin:=by
 refine⟨λi m ys σ H=>m=n - i/\i<=n/\ys.length<=i/\W i ys σ H,⟨n,by simp,aap _,aam _,p0⟩,?_⟩;rintro i m ys σ H ⟨rfl,hi,hl,p⟩;by_cases gC:i<n
 ·refine .inr ⟨S.go i H gC (bT _ _ _ _ p),λx H3 y=>hs i x σ H ys H3 (λσ3 y H6=>ys.length<sizeLine/\∃m',m'<n - i/\m'=n - (i+1)/\i+1<=n/\(ys++ [y]).length<=i+1/\W (i+1) (ys++ [y]) σ3 H6)
   (λσ3 H5=>∃m',m'<n - i/\m'=n - (i+1)/\i+1<=n/\ys.length<=i+1/\W (i+1) ys σ3 H5) gC p (S.yB i H x H3 gC (bT _ _ _ _ p) y) (λσ3 y H6 q=>?_) (λσ3 H5 q=>?_)⟩
  ·exact⟨by lia,n - (i+1),by lia,rfl,gC,by rw[aaq,aaH];lia,q⟩
  ·exact⟨n - (i+1),by lia,rfl,gC,by lia,q⟩
 ·have e:i=n:=by lia
  subst e;exact .inl ⟨S.stop H (bT _ _ _ _ p),oN ys σ H p⟩
theorem mC.fr {P:Program} {w:World} {q:Addr} {Fr Kc:Addr->Prop} {H:Hp} {f l n:Addr} {ss:List bV} (k:∀a o,H a=some o->Fr a->Kc a):mC P w q Fr H f l n ss->mC P w q Kc H f l n ss:=λhh=>by
 obtain⟨dx,xs,ks,h1,h2,h3,h4,h5,h6,h7,h8⟩:=hh;refine⟨dx,xs,ks,h1,h2,h3,h4.imp λ_ _ hh=>?_,h5,h6,h7,h8⟩;obtain⟨a,b,e,a1,a2,a3⟩:=hh;exact⟨a,b,e,a1,a2,k _ _ (aT _ _ a2) a3⟩
theorem kh.tup {H H':Hp} {s:bV} {b:Addr} (k:∀a vs,H a=some (.tup vs)->H' a=some (.tup vs)):kh H (iC s) b->kh H' (iC s) b:=fun⟨h1,h2,h3⟩=>by
 refine⟨h1,h2,?_⟩;unfold iC at h3 ⊢;obtain⟨p,x,y,e,hp,r1,r2⟩:=bo.mp h3;obtain⟨t,vs,e2,ht,r3⟩:=gU.mp r2;refine bo.mpr ⟨p,x,y,e,k _ _ hp,aH.mpr (aH.mp r1),gU.mpr ⟨t,vs,e2,k _ _ ht,?_⟩⟩
 have:vs=s.2.map V.int:=by
  have:∀{ns:List Int} {vs:List V},bq H (ns.map Dat.int) vs->vs=ns.map V.int:=by
   intro ns;induction ns with
   | nil=>intro vs h;exact bx.mp h
   | cons x ns ih=>
    intro vs h;obtain⟨v,r,rfl,h1,h2⟩:=aM.mp h;rw[bb.mp h1,ih h2]
    rfl
  exact this r3
 rw[this];exact bq.ints _
theorem mB.key:∀{ss:List bV} {ks:Rows} {i:Nat},mB ss ks i->∀p∈ks,∃s,p.1=iC s
 | [],_,_,h,p,hp=>by rw[mB] at h;subst h;cases hp
 | s::ss,_,_,⟨b,r,e,h⟩,p,hp=>by
  subst e;rcases aaR.mp hp with rfl | hp
  ·exact⟨s,rfl⟩
  ·exact h.key p hp
theorem mC.MG {P:Program} {w:World} {q:Addr} {Fr:Addr->Prop} {H:Hp} {f l n b:Addr} {ss:List bV} {ys Li:List V} (k:∀a,Fr a->a≠b) (hb:H b=some (.lst ys)) (bl:b≠l):mC P w q Fr H f l n ss->mC P w q Fr (upd H b (.lst Li)) f l n ss:=fun⟨dx,xs,ks,h1,h2,h3,h4,h5,h6,h7,h8⟩=>by
 have bn:b≠n:=λz=>by rw[z,h5] at hb;cases hb
 have up:∀a o,a≠b->cb H l n a=some o->cb (upd H b (.lst Li)) l n a=some o:=λa o ab e=>by
  obtain⟨e1,e2⟩:=iD e;rw[cM e1 e2] at e ⊢;rw[aA ab];exact e
 have tp:∀a vs,cb H l n a=some (.tup vs)->cb (upd H b (.lst Li)) l n a=some (.tup vs):=λa vs e=>up a _ (λz=>by have:=aT _ _ e;rw[z,hb] at this;cases this) e;refine⟨dx,xs,ks,up _ _ (λz=>by have:=aT _ _ h1;rw[z,hb] at this;cases this) h1,h2,by rw[aA (Ne.symm bl)];exact h3,h4.imp λ_ _ ⟨a,c,e,a1,a2,a3⟩=>⟨a,c,e,tp _ _ a1,up _ _ (k _ a3) a2,a3⟩,by rw[aA (Ne.symm bn)];exact h5,λp hp=>?_,h7,h8⟩;obtain⟨s,es⟩:=h7.key p hp
 have:=h6 p hp
 rw[es] at this ⊢;exact kh.tup tp this
noncomputable def eK (g:Gm) (st:bV):Dat:=.lst ((cQ g.cs st.2 ((look g.ps st.1).getD (.fin 0 1))).map λr=>Dat.str r.word)
theorem AZ {H:Hp} {p:Pt} {v:V} (h:Rep H (vV p) v):∃q,v=.ref q/\H q=some (.tup (mT p)):=by
 cases p with
 | num n=>obtain⟨q,x,y,e,hq,a,b⟩:=bo.mp (show Rep H (.tup _) v from h);rw[aH.mp a,bb.mp b] at hq;exact⟨q,e,hq⟩
 | fB n s=>obtain⟨q,x,y,z,e,hq,a,b,c⟩:=cP.mp (show Rep H (.tup _) v from h);rw[aH.mp a,bb.mp b,bb.mp c] at hq;exact⟨q,e,hq⟩
 | hits n d s=>obtain⟨q,x,y,z,u,e,hq,a,b,c,f⟩:=dm.mp (show Rep H (.tup _) v from h);rw[aH.mp a,bb.mp b,bb.mp c,bb.mp f] at hq;exact⟨q,e,hq⟩
 | again n s=>obtain⟨q,x,y,z,e,hq,a,b,c⟩:=cP.mp (show Rep H (.tup _) v from h);rw[aH.mp a,bb.mp b,bb.mp c] at hq;exact⟨q,e,hq⟩
noncomputable def Fz (q:Addr) (H:Hp) (c:Addr) (g:Gm) (tb:Addr):Prop:=∃dx sp mo wh us ft,H c=some (.ins q dx [(aaj "spots",.ref sp),(aaj "mosts",.ref mo),(aaj "first",.str ft),(aaj "whats",.ref wh),(aaj "tables",.ref tb)])/\
 H sp=some (.dK (km g.cs 0))/\H mo=some (.lst ((g.cs.map (·.2)).map V.int))/\H wh=some (.dK us)/\sP H g.ps us/\(g.ps.map (·.1)).head?=some ft
theorem Fz.co {q:Addr} {H:Hp} {c:Addr} {g:Gm} {tb:Addr}:Fz q H c g tb->wO q H c g:=λhh=>by
 obtain⟨dx,sp,mo,wh,us,ft,h1,h2,h3,h4,h5,h6⟩:=hh;exact⟨dx,sp,mo,wh,tb,us,ft,h1,h2,h3,h4,h5,h6⟩
theorem Fz.mono {q:Addr} {H H':Hp} {c:Addr} {g:Gm} {tb:Addr} (s:aB H H'):Fz q H c g tb->Fz q H' c g tb:=λhh=>by
 obtain⟨dx,sp,mo,wh,us,ft,h1,h2,h3,h4,h5,h6⟩:=hh;exact⟨dx,sp,mo,wh,us,ft,s _ _ h1,s _ _ h2,s _ _ h3,s _ _ h4,h5.mono s,h6⟩
theorem Kp.dH {H:Hp} {tb:Addr} {kvs:List (Key×V)} (h:H tb=some (.dK kvs)):Kp H (dH H tb):=λa=>by
 by_cases c:a=tb
 ·subst c;rw[h];exact⟨(λ_ e=>by cases e),(λ_ e=>by cases e)⟩
 ·rw[bX c];exact⟨λ_ e=>e,λ_ e=>e⟩
noncomputable def Kd (q:Addr):Sp:=λvs H Q _=>∃c dx gv g,vs=[.ref c,gv]/\H c=some (.ins q dx [])/\Rep H (CF g) gv/\GoodG g/\∀tb H',(∀a o,a≠c->H a=some o->H' a=some o)->H tb=none->H' tb=some (.dK [])->Fz q (dH H' tb) c g tb->Q .dI H'
noncomputable abbrev cW (H:Hp) (l n tb:Addr):Hp:=dH (cb H l n) tb
theorem c4 {H:Hp} {l n tb:Addr}:aB (cW H l n tb) H:=bM.trans aT
theorem c9 {H:Hp} {l n tb a:Addr} (h1:a≠l) (h2:a≠n) (h3:a≠tb):cW H l n tb a=H a:=by
 show dH (cb H l n) tb a=_;rw[bX h3,cM h1 h2]
theorem gG {H:Hp} {l n tb a:Addr} {o:HO} (e:cW H l n tb a=some o):a≠l/\a≠n/\a≠tb:=by
 have h3:a≠tb:=λz=>by
  have e:(if a=tb then none else cb H l n a)=some o:=e;rw[if_pos z] at e;cases e
 have e:dH (cb H l n) tb a=some o:=e;rw[bX h3] at e;obtain⟨h1,h2⟩:=iD e;exact⟨h1,h2,h3⟩
theorem Eo {H:Hp} {l n tb:Addr}:aB (cW H l n tb) (dH H tb):=λa o e=>by
 obtain⟨h1,h2,h3⟩:=gG e;rw[c9 h1 h2 h3] at e;rw[bX h3];exact e
theorem sV {rows:List (Int×Int×Int)} {B C:Int} (h:0<B/\(∀r∈rows,r.2.2∣B)/\∀M,(∀r∈rows,r.2.2∣M)->B∣M) (k:0<C/\(∀r∈rows,r.2.2∣C)/\∀M,(∀r∈rows,r.2.2∣M)->C∣M):B=C:=
 Int.le_antisymm (Int.le_of_dvd k.1 (h.2.2 C k.2.1)) (Int.le_of_dvd h.1 (k.2.2 B h.2.1))
theorem G5 {H H':Hp} {l n tb:Addr} (s:aB (dH H tb) (dH H' tb)):aB (cW H l n tb) (cW H' l n tb):=λa o e=>by
 obtain⟨h1,h2,h3⟩:=gG e;rw[c9 h1 h2 h3] at e ⊢
 have:=s a o (by rw[bX h3];exact e)
 rwa [bX h3] at this
theorem mC.tb {P:Program} {w:World} {q:Addr} {Fr:Addr->Prop} {H H':Hp} {f l n tb:Addr} {ss:List bV} {kvs:List (Key×V)} (s:aB (dH H tb) (dH H' tb)) (ht:H tb=some (.dK kvs)):mC P w q Fr H f l n ss->mC P w q Fr H' f l n ss:=fun⟨dx,xs,ks,h1,h2,h3,h4,h5,h6,h7,h8⟩=>by
 have up:∀a o,H a=some o->(∀kvs,o≠.dK kvs)->H' a=some o:=λa o e no=>by
  have ne:a≠tb:=λz=>by rw[z,ht] at e;cases e;exact no _ rfl
  have:=s a o (by rw[bX ne];exact e)
  rwa [bX ne] at this
 have QU:∀a o,cb H l n a=some o->(∀kvs,o≠.dK kvs)->cb H' l n a=some o:=λa o e no=>by
  obtain⟨e1,e2⟩:=iD e;rw[cM e1 e2] at e ⊢;exact up a o e no
 have tp:∀a vs,cb H l n a=some (.tup vs)->cb H' l n a=some (.tup vs):=λa vs e=>QU _ _ e (λ_ z=>by cases z);refine⟨dx,xs,ks,QU _ _ h1 (λ_ z=>by cases z),h2,up _ _ h3 (λ_ z=>by cases z),h4.imp λ_ _ ⟨a,c,e,a1,a2,a3⟩=>⟨a,c,e,tp _ _ a1,QU _ _ a2 (λ_ z=>by cases z),a3⟩,up _ _ h5 (λ_ z=>by cases z),λp hp=>?_,h7,h8⟩;obtain⟨s,es⟩:=h7.key p hp
 have:=h6 p hp
 rw[es] at this ⊢;exact kh.tup tp this
noncomputable def MH (rows:List (Int×Int×Int)) (B:Int):Prop:=0<B/\(∀r∈rows,r.2.2∣B)/\∀M,(∀r∈rows,r.2.2∣M)->B∣M
noncomputable def qg (rs:List Tw) (v:Int):Option Tw:=rs.find? λr=>decide (r.1<=v) && decide (v<=r.2.1)
noncomputable def Ci (g:Gm) (ns:List Int) (r:Tw) (v:Int):Option bV:=(eF g (r.2.2.1.foldl (fV g.cs v) ns) (g.ps.length+1) r.2.2.2).map λnm=>(nm,r.2.2.1.foldl (fV g.cs v) ns)
noncomputable def b6 (g:Gm) (st:bV) (ts:List (Int×bV)):Prop:=match look g.ps st.1 with
 | some (.pick _ _)=>Goes g st (ts.map (·.2))
 | some (.fH fP _ _ rs)=>∃ps B,fP=ps.map vV/\lE ps/\ps.length<=4/\MH (fh ps) B/\ts.length=(fh ps).length/\∀(i:Nat) x,(Nm.weigh (fh ps) B)[i]?=some x->∃r s,qg rs x.1=some r/\ts[i]?=some (x.2,s)/\Ci g st.2 r x.1=some s/\dQ (.str s.1)=true
 | some (.fin _ _)=>ts=[]
 | some (.score _)=>ts=[]
 | _=>False
noncomputable def wa (SS:List bV) (x:Int×bV):Dat:=.tup [.int x.1,.int ((SS.idxOf x.2:Nat):Int)]
noncomputable def eP (g:Gm) (SS:List bV) (st:bV) (ts:List (Int×bV)):Dat:=match look g.ps st.1 with
 | some (.fH _ t b _)=>.tup [.str "throw",.tup [.int t,.int b],.lst (ts.map (wa SS))]
 | _=>vZ g SS st (ts.map (·.2))
theorem mD {g:Gm} {st:bV} {ts:List (Int×bV)} (h:b6 g st ts):∃x,look g.ps st.1=some x:=by
 unfold b6 at h;cases lk:look g.ps st.1 with
 | none=>rw[lk] at h;exact h.elim
 | some x=>exact⟨x,rfl⟩
noncomputable def Cj (H X:Hp) (tb:Addr) (g:Gm) (m:Nat) (Fr:Addr->Prop):Prop:=∃kvs,H tb=some (.dK kvs)/\kvs.length<=m/\∀nm v,dZ kvs (Sum.inr nm)=some v->∃ps t b rs,look g.ps nm=some (.fH (ps.map vV) t b rs)/\(∃p,v=.ref p/\Fr p)/\Rep X (lD (fh ps)) v
theorem Cj.mono {H X X':Hp} {tb:Addr} {g:Gm} {m m':Nat} {Fr:Addr->Prop} (s:aB X X') (hm:m<=m'):Cj H X tb g m Fr->Cj H X' tb g m' Fr:=fun⟨kvs,h1,h2,h3⟩=>⟨kvs,h1,by lia,λnm v e=>by obtain⟨ps,t,b,rs,a1,fp,a2⟩:=h3 nm v e;exact⟨ps,t,b,rs,a1,fp,a2.mono s⟩⟩
theorem Cj.heap {H H' X:Hp} {tb:Addr} {g:Gm} {m:Nat} {Fr:Addr->Prop} (e:∀o,H tb=some o->H' tb=some o):Cj H X tb g m Fr->Cj H' X tb g m Fr:=fun⟨kvs,h1,h2,h3⟩=>⟨kvs,e _ h1,h2,h3⟩
theorem xZ {kvs:List (Key×V)} {k:Key} {v:V} (h:dZ kvs k=none) (k':Key):dZ (kvs++ [(k,v)]) k'=if k=k' then some v else dZ kvs k':=by
 unfold dZ at *;rw[List.find?_append];by_cases c:k=k'
 ·subst c;rw[if_pos rfl]
  have:kvs.find? (λkv=>decide (kv.1=k))=none:=by simpa using h
  rw[this];simp
 ·rw[if_neg c]
  have:List.find? (λkv:Key×V=>decide (kv.1=k')) [(k,v)]=none:=by simp [c]
  rw[this];simp
theorem rB:∀{ps qs:List Pt},ps.map vV=qs.map vV->ps=qs
 | [],[],_=>rfl
 | [],_::_,h=>by cases h
 | _::_,[],h=>by cases h
 | p::ps,q::qs,h=>by
  rw[aan,aan] at h;injection h with h1 h2;rw[GX h1,rB h2]
theorem G6 {H:Hp} {v:V} {ps:List Pt} (h:Rep H (.lst (ps.map vV)) v):∃a,v=.ref a/\JV H a ps:=by
 obtain⟨a,xs,e,ha,r⟩:=aQ.mp h;refine⟨a,e,xs,ha,?_⟩
 have:∀{ps:List Pt} {xs:List V},bq H (ps.map vV) xs->Al (λp v=>∃q,v=.ref q/\H q=some (.tup (mT p))) ps xs:=by
  intro ps;induction ps with
  | nil=>intro xs h;rw[bx.mp h];trivial
  | cons p ps ih=>
   intro xs h;obtain⟨v,r,rfl,h1,h2⟩:=aM.mp h;exact⟨AZ h1,ih h2⟩
 exact this r
theorem A0 {H X:Hp} {rows:List (Int×Int×Int)} {p:Addr} (h:Rep H (lD rows) (.ref p)) (kp:∀o,H p=some o->X p=some o) (kt:∀a vs,H a=some (.tup vs)->X a=some (.tup vs)):Rep X (lD rows) (.ref p):=by
 obtain⟨a,xs,e,ha,r⟩:=aQ.mp h;cases e;refine aQ.mpr ⟨_,xs,rfl,kp _ ha,?_⟩;refine bq.of r.length λi d v ed ev=>?_;obtain⟨d',Ij,rd⟩:=r.get ev;rw[ed] at Ij;cases Ij;rw[aal] at ed;obtain⟨x,_,rfl⟩:=abm.mp ed;obtain⟨p1,q1,rfl,h1,h2⟩:=nu.mp rd;exact nu.mpr ⟨p1,q1,rfl,kt _ _ h1,kt _ _ h2⟩
theorem Ep {H X:Hp} {ws:Nm.Ws} {p:Addr} (h:Rep H (ju ws) (.ref p)) (kp:∀o,H p=some o->X p=some o) (kt:∀a vs,H a=some (.tup vs)->X a=some (.tup vs)):Rep X (ju ws) (.ref p):=by
 obtain⟨a,xs,e,ha,r⟩:=aQ.mp h;cases e;refine aQ.mpr ⟨_,xs,rfl,kp _ ha,?_⟩;refine bq.of r.length λi d v ed ev=>?_;obtain⟨d',Ij,rd⟩:=r.get ev;rw[ed] at Ij;cases Ij;rw[aal] at ed;obtain⟨x,_,rfl⟩:=abm.mp ed;obtain⟨q1,rfl,h1⟩:=eN.mp rd;exact eN.mpr ⟨q1,rfl,kt _ _ h1⟩
noncomputable def Kf:Sp:=λvs H Q _=>∃v ps W,vs=[v]/\Rep H (ju ps) v/\0<W/\W<=1000000/\ps.length<=1296/\(∀p∈ps,0<p.2/\p.2∣W)/\∀B,0<B->(∀M,(∀p∈ps,p.2∣M)->B∣M)->(∀p∈ps,p.2∣B)->Q (.int B) H
noncomputable def Er:Sp:=λvs H Q _=>∃v rows W,vs=[v]/\Rep H (lD rows) v/\GoodR W rows/\∀B H',aB H H'->MH rows B->Q (.int B) H'
noncomputable def Kg:Sp:=λvs H Q _=>∃v rows W B,vs=[v,.int B]/\Rep H (lD rows) v/\GoodR W rows/\MH rows B/\∀p H',aB H H'->H p=none->Rep H' (ju (Nm.weigh rows B)) (.ref p)->Q (.ref p) H'
theorem Es {a b W:Int} (h1:a∣W) (h2:b∣W):a / Nm.g a b*b∣W:=by
 rw[Nm.uR,<-Int.mul_ediv_assoc _ (Nm.qU a b)];have e:a*b / Nm.g a b=a*b / ((Int.gcd a b:Nat):Int):=rfl;rw[e];refine Int.natAbs_dvd_natAbs.mp ?_;rw[Int.natAbs_ediv_of_dvd (Int.dvd_trans (Int.gcd_dvd_left ..) (Int.dvd_mul_right ..)),Int.natAbs_mul,Int.natAbs_natCast];exact Nat.lcm_dvd (Int.natAbs_dvd_natAbs.mpr h1) (Int.natAbs_dvd_natAbs.mpr h2)
theorem Kh {W B:Int} {rows:List (Int×Int×Int)} (g:GoodR W rows) (gb:MH rows B):B<=1000000:=Int.le_trans (Int.le_of_dvd g.1 (gb.2.2 W λr hr=>(g.2.2.2 r hr).2.1)) g.2.1
noncomputable def Et (q:Addr):Sp:=λvs H Q _=>∃c sv g nm ns tb kvs ps t b rs,vs=[.ref c,sv]/\Fz q (dH H tb) c g tb/\yC H sv nm ns/\H tb=some (.dK kvs)/\kvs.length<=1000/\look g.ps nm=some (.fH (ps.map vV) t b rs)/\lE ps/\ps.length<=4/\
 (∀v,dZ kvs (Sum.inr nm)=some v->Q v H)/\(dZ kvs (Sum.inr nm)=none->∀p H1,aB H H1->H p=none->Rep H1 (lD (fh ps)) (.ref p)->Q (.ref p) (upd H1 tb (.dK (kvs++ [(Sum.inr nm,.ref p)]))))
noncomputable def Ki (q:Addr):Sp:=λvs H Q _=>∃c sv v g nm ns fP t b rs r f gF,vs=[.ref c,sv,.int v]/\wO q H c g/\GoodG g/\yC H sv nm ns/\ns.length=g.cs.length/\look g.ps nm=some (.fH fP t b rs)/\qg rs v=some r/\eF g (r.2.2.1.foldl (fV g.cs v) ns) f r.2.2.2=some gF/\
 ∀p l H',aB H H'->H p=none->H l=none->H' p=some (.tup [.str gF,.ref l])->H' l=some (.lst ((r.2.2.1.foldl (fV g.cs v) ns).map V.int))->Q (.ref p) H'
noncomputable def dF (ts:List (Int×bV)):List bV:=ts.map (·.2)
noncomputable def zz (g:Gm) (SS:List bV) (tss:List (List (Int×bV))):List Dat:=(SS.zip tss).map λx=>eP g SS x.1 x.2
theorem vh {H:Hp} {p:Tw->Bool}:∀{rs:List Tw} {xs:List V},bq H ((rs.map J7).map u9) xs->bq H (((rs.filter p).map J7).map u9) ((xs.zip rs).filterMap λx=>if p x.2=true then some x.1 else none)
 | [],xs,h=>by rw[List.zip_nil_right];exact bx.mpr rfl
 | r::rs,xs,h=>by
  obtain⟨v,ys,rfl,h1,h2⟩:=aM.mp h;have ih:=vh (p:=p) h2;rw[List.zip_cons_cons,abd];by_cases c:p r=true
  ·simp only[c,if_true];rw[List.filter_cons_of_pos c,aan,aan];exact aM.mpr ⟨v,_,rfl,h1,ih⟩
  ·simp only[c];rw[List.filter_cons_of_neg c];exact ih
set_option tactic.hygienic true in
theorem zA {ss:List bV} {s:bV} (h:ss.Nodup):(fQ ss s).Nodup:=by
 unfold fQ;split
 ·exact h
 ·rename_i c;rw[List.nodup_append];exact⟨h,List.pairwise_singleton _ _,λa ha b hb=>by rw[abp.mp hb];exact λz=>c (z▸ha)⟩
theorem nI:∀{ts ss:List bV},ss.Nodup->(aL ss ts).Nodup
 | [],_,h=>h
 | _::ts,_,h=>nI (ts:=ts) (zA h)
set_option tactic.hygienic true in
theorem Ck {ss:List bV} {s x:bV}:x∈fQ ss s↔x∈ss\/x=s:=by
 unfold fQ;split
 ·rename_i c;exact⟨.inl,λh=>h.elim id λz=>z▸c⟩
 ·rw[List.mem_append,abp]
theorem fe:∀{ts ss:List bV} {x:bV},x∈aL ss ts↔x∈ss\/x∈ts
 | [],_,_=>by
  unfold aL;simp
 | t::ts,ss,x=>by
  show x∈aL (fQ ss t) ts↔_;rw[fe (ts:=ts),Ck,aaR,or_assoc]
theorem sW {g:Gm} {st:bV} {ts us:List (Int×bV)} (np:∀wo rs,look g.ps st.1≠some (.pick wo rs)) (h:b6 g st ts) (k:b6 g st us):ts=us:=by
 unfold b6 at h k;cases lk:look g.ps st.1 with
 | none=>rw[lk] at h;exact h.elim
 | some x=>
  rw[lk] at h k;cases x with
  | pick wo rs=>exact absurd lk (np wo rs)
  | fin _ _=>rw[show ts=[] from h,show us=[] from k]
  | score _=>rw[show ts=[] from h,show us=[] from k]
  | ask _ _ _ _=>exact h.elim
  | fH fP t b rs=>
   obtain⟨ps,B,e1,_,_,ib,l1,a1⟩:=h;obtain⟨qs,C,e2,_,_,ic,l2,a2⟩:=k
   have:ps=qs:=rB (e1.symm.trans e2)
   subst this
   have:=sV ib ic
   subst this;apply List.ext_getElem?;intro i;by_cases hi:i< (fh ps).length
   ·have hw:i< (Nm.weigh (fh ps) B).length:=by unfold Nm.weigh;rw[aak];exact hi
    obtain⟨r,s,ro,et,gt,_⟩:=a1 i _ (aat hw);obtain⟨r',s',X6,et',X7,_⟩:=a2 i _ (aat hw);rw[ro] at X6;cases X6;rw[gt] at X7;cases X7;rw[et,et']
   ·rw[aa3 (by lia),aa3 (by lia)]
noncomputable def lH (g:Gm) (st:bV):Prop:=∃wo rs,look g.ps st.1=some (.pick wo rs)/\cQ g.cs st.2 (.pick wo rs)=[]
theorem b6.stuck {g:Gm} {st:bV} {ts:List (Int×bV)} (h:b6 g st ts):¬lH g st:=by
 rintro⟨wo,rs,lk,e⟩;unfold b6 at h;rw[lk] at h;have h:Goes g st (ts.map (·.2)):=h;unfold Goes at h;rw[lk] at h;exact h.1 e
noncomputable def fW (g:Gm) (o:Nat) (SS:List bV):Nat->List bV->List (List (Int×bV))->Prop
 | i,ss,[]=>o9 ss SS/\(o=0->ss=SS/\i=SS.length)/\(o=1->∃st,ss[i]?=some st/\st.2.length=g.cs.length/\lH g st)/\(o=2->∃st ts,ss[i]?=some st/\st.2.length=g.cs.length/\b6 g st ts/\120< (aL ss (dF ts)).length)
 | i,ss,ts::r=>∃st,ss[i]?=some st/\st.2.length=g.cs.length/\b6 g st ts/\fW g o SS (i+1) (aL ss (dF ts)) r
theorem fW.tY {g:Gm} {o:Nat} {SS:List bV}:∀{r:List (List (Int×bV))} {i:Nat} {ss:List bV},fW g o SS i ss r->o9 ss SS
 | [],_,_,h=>h.1
 | ts::_,_,ss,⟨_,_,_,_,h⟩=>(eY (dF ts) ss).trans h.tY
theorem fW.all {g:Gm} {SS:List bV}:∀{r:List (List (Int×bV))} {i:Nat} {ss:List bV},fW g 0 SS i ss r->i+r.length=SS.length/\∀j,i<=j->j<SS.length->∃st ts,SS[j]?=some st/\st.2.length=g.cs.length/\b6 g st ts/\∀t∈dF ts,t∈SS
 | [],i,ss,h=>⟨(h.2.1 rfl).2,λj h1 h2=>by have:=(h.2.1 rfl).2;lia⟩
 | ts::r,i,ss,⟨st,es,ls,go,h⟩=>by
  obtain⟨a,b⟩:=h.all;refine⟨by rw[aaB];lia,λj h1 h2=>?_⟩;by_cases c:i=j
  ·subst c;obtain⟨q,e⟩:=(eY (dF ts) ss).trans h.tY;obtain⟨q',e'⟩:=h.tY;exact⟨st,ts,by rw[e,aa5 (abn.mp es).1];exact es,ls,go,λt ht=>by rw[e'];exact List.mem_append_left _ (fe.mpr (.inr ht))⟩
  ·exact b j (by lia) h2
theorem fW.ex {g:Gm} {R:bV->Prop} (cl:∀st,R st->st.2.length=g.cs.length/\(lH g st\/∃ts,b6 g st ts/\∀t∈dF ts,R t)):∀(k i:Nat) (ss:List bV),ss.Nodup->(∀s∈ss,R s)->i<=ss.length->ss.length<=120->120<=i+k->∃o SS tss,o<=2/\fW g o SS i ss tss/\SS.length<=120/\SS.Nodup/\(∀s∈SS,R s)/\(o=1->∃st,R st/\lH g st)/\(o=2->∃us:List bV,us.Nodup/\(∀s∈us,R s)/\120<us.length):=by
 intro k;induction k with
 | zero=>
  intro i ss nd sub hi Eu hk;exact⟨0,ss,[],∅,⟨o9.refl _,λ_=>⟨rfl,by lia⟩,(λz=>by cases z),(λz=>by cases z)⟩,Eu,nd,sub,(λz=>by cases z),(λz=>by cases z)⟩
 | succ k ih=>
  intro i ss nd sub hi Eu hk;by_cases e:i=ss.length
  ·exact⟨0,ss,[],∅,⟨o9.refl _,λ_=>⟨rfl,e⟩,(λz=>by cases z),(λz=>by cases z)⟩,Eu,nd,sub,(λz=>by cases z),(λz=>by cases z)⟩
  ·have gC:i<ss.length:=by lia
   have hm:=sub _ (List.getElem_mem gC);have es:=aat gC;obtain⟨l,sk | ⟨ts,go,to⟩⟩:=cl _ hm
   ·exact⟨1,ss,[],∅,⟨o9.refl _,(λz=>by cases z),λ_=>⟨_,es,l,sk⟩,(λz=>by cases z)⟩,Eu,nd,sub,λ_=>⟨_,hm,sk⟩,(λz=>by cases z)⟩
   ·have Ik:(aL ss (dF ts)).Nodup:=nI nd;have MI:∀s∈aL ss (dF ts),R s:=λs hs=>(fe.mp hs).elim (sub s) (to s);by_cases c:(aL ss (dF ts)).length<=120
    ·have a:=(eY (dF ts) ss).len;obtain⟨o,SS,tss,ho,h1,h2⟩:=ih (i+1) (aL ss (dF ts)) Ik MI (by lia) c (by lia);exact⟨o,SS,ts::tss,ho,⟨ss[i],es,l,go,h1⟩,h2⟩
    ·exact⟨2,ss,[],∅,⟨o9.refl _,(λz=>by cases z),(λz=>by cases z),λ_=>⟨_,ts,es,l,go,by lia⟩⟩,Eu,nd,sub,(λz=>by cases z),λ_=>⟨_,Ik,MI,by lia⟩⟩
noncomputable def mE (P:Program) (w:World) (q qm:Addr):Sp:=λvs H Q E=>∃f sv Fr l n ss s,vs=[.ref f,sv]/\mC P w q Fr H f l n ss/\zx Fr (cb H l n) sv s.1 s.2/\dQ (.str s.1)=true/\s.2.length<=100/\(s∉ss->ss.length=120->∀H',aB H H'->E (.ref qm) none H')/\((s∈ss\/ss.length<120)->∀H',aB (cb H l n) (cb H' l n)->mC P w q Fr H' f l n (fQ ss s)->Q (.int ((ss.idxOf s:Nat):Int)) H')
noncomputable def A1 (P:Program) (w:World) (qc qf qn qm:Addr):Sp:=λvs H Q E=>∃c f sv Fr l n g ss st wo rs,vs=[.ref c,.ref f,sv]/\wO qc (cb H l n) c g/\GoodG g/\mC P w qf Fr H f l n ss/\(∀a,H a=none->Fr a)/\yC (cb H l n) sv st.1 st.2/\st.2.length=g.cs.length/\look g.ps st.1=some (.pick wo rs)/\
 (cQ g.cs st.2 (.pick wo rs)=[]->∀H',aB H H'->E (.ref qn) none H')/\
 (cQ g.cs st.2 (.pick wo rs)≠[]->∃ts SS,Goes g st ts/\((aL ss ts).length<=120->o9 (aL ss ts) SS)/\(120< (aL ss ts).length->∀H',aB (cb H l n) (cb H' l n)->E (.ref qm) none H')/\
  ((aL ss ts).length<=120->∀p H',aB (cb H l n) (cb H' l n)->mC P w qf Fr H' f l n (aL ss ts)->H p=none->cb H' l n p=some (.lst (ts.map λt=>V.int ((SS.idxOf t:Nat):Int)))->Q (.ref p) H'))
noncomputable def Ew (P:Program) (w:World) (qc qf qm:Addr):Sp:=λvs H Q E=>∃c f sv Fr l n tb g ss st ts fP t b rs SS m,vs=[.ref c,.ref f,sv]/\Fz qc (cW H l n tb) c g tb/\GoodG g/\mC P w qf Fr H f l n ss/\Cj H (cW H l n tb) tb g m Fr/\m<=200/\(∀a,H a=none->Fr a)/\yC (cW H l n tb) sv st.1 st.2/\st.2.length=g.cs.length/\look g.ps st.1=some (.fH fP t b rs)/\
 b6 g st ts/\((aL ss (dF ts)).length<=120->o9 (aL ss (dF ts)) SS)/\(120< (aL ss (dF ts)).length->∀H',aB (cW H l n tb) (cW H' l n tb)->E (.ref qm) none H')/\
 ((aL ss (dF ts)).length<=120->∀p H',aB (cW H l n tb) (cW H' l n tb)->mC P w qf Fr H' f l n (aL ss (dF ts))->Cj H' (cW H' l n tb) tb g (m+1) Fr->H p=none->Rep (cW H' l n tb) (.lst (ts.map (wa SS))) (.ref p)->Q (.ref p) H')
noncomputable def A2 (P:Program) (w:World) (qc qf qn qm:Addr):Sp:=λvs H Q E=>∃c f sv Fr l n tb g ss st m,vs=[.ref c,.ref f,sv]/\Fz qc (cW H l n tb) c g tb/\GoodG g/\mC P w qf Fr H f l n ss/\Cj H (cW H l n tb) tb g m Fr/\m<=200/\(∀a,H a=none->Fr a)/\yC (cW H l n tb) sv st.1 st.2/\st.2.length=g.cs.length/\
 (lH g st->∀H',aB H H'->E (.ref qn) none H')/\
 (¬lH g st->∃ts SS,b6 g st ts/\((aL ss (dF ts)).length<=120->o9 (aL ss (dF ts)) SS)/\(120< (aL ss (dF ts)).length->∀H',aB (cW H l n tb) (cW H' l n tb)->E (.ref qm) none H')/\
  ((aL ss (dF ts)).length<=120->∀u H',aB (cW H l n tb) (cW H' l n tb)->mC P w qf Fr H' f l n (aL ss (dF ts))->Cj H' (cW H' l n tb) tb g (m+1) Fr->(∀b ys,H b=some (.lst ys)->Rep (dH (cW H' l n tb) b) (eP g SS st ts) u/\∃q vs,u=.ref q/\dH (cW H' l n tb) b q=some (.tup vs)/\∀x y w,vs=[x,y,.ref w]->H w=none)->Q u H'))
noncomputable def Kj (H0 X:Hp) (b l:Addr) (v:V):Prop:=∃q vs,v=.ref q/\X q=some (.tup vs)/\∀x y w,vs=[x,y,.ref w]->H0 w=none/\w≠b/\w≠l
theorem Kj.mono {H0 X X':Hp} {b l:Addr} {v:V} (s:aB X X'):Kj H0 X b l v->Kj H0 X' b l v:=fun⟨q,vs,e,h,k⟩=>⟨q,vs,e,s _ _ h,k⟩
noncomputable def zB (qn qm:Addr):Sp:=λvs H Q E=>∃gv g ft nm F o SS tss,vs=[gv]/\Rep H (CF g) gv/\GoodG g/\(g.ps.map (·.1)).head?=some ft/\eF g (abu g.cs.length 0) F ft=some nm/\dQ (.str nm)=true/\o<=2/\fW g o SS 0 [(nm,abu g.cs.length 0)] tss/\SS.length<=120/\
 (o=1->∀H',aB H H'->E (.ref qn) none H')/\(o=2->∀H',aB H H'->E (.ref qm) none H')/\
 (o=0->∀p b l wl bs xs ws H',aB H H'->H b=none->H wl=none->H' p=some (.tup [.ref b,.ref l,.ref wl])->H' b=some (.lst bs)->bq H' (zz g SS tss) bs->(∀v∈bs,Kj H H' b l v)->H' l=some (.lst xs)->Al (λs v=>zx (λa=>H a=none/\a≠b/\a≠l) H' v s.1 s.2) SS xs->H' wl=some (.lst ws)->bq H' (SS.map (eK g)) ws->Q (.ref p) H')
theorem A3:∀{ps:List (Str×Wt)} {i:Nat} {x:Str×Wt},(ps.map (·.1)).Nodup->ps[i]?=some x->look ps x.1=some x.2
 | [],_,_,_,e=>by simp at e
 | p::ps,i,x,nd,e=>by
  rw[aan,List.nodup_cons] at nd;unfold look;cases i with
  | zero=>
   have e:p=x:=by simpa using e
   subst e;rw[List.find?_cons_of_pos (by simp)]
   rfl
  | succ i=>
   have e:ps[i]?=some x:=by simpa using e
   rw[List.find?_cons_of_neg (by
    intro z;have z:p.1=x.1:=by simpa using z
    exact nd.1 (by rw[z];exact abo.mpr ⟨x,aar e,rfl⟩))]
   exact A3 nd.2 e
theorem x6 {ps:List Pt} (g:lE ps):MH (fh ps) (uq ps):=by
 have h:∀ps∈zv,∃r∈fh ps,r.2.2=uq ps:=∅
 obtain⟨a,b,c,d⟩:=j4 g;obtain⟨r,hr,e⟩:=h ps g;exact⟨a,λr hr=>(d r hr).2.1,λM hM=>by rw[<-e];exact hM r hr⟩
theorem sY {ps:List Pt} (g:lE ps):ps.length<=4/\∀x∈Nm.weigh (fh ps) (uq ps),0<=x.1/\x.1<=9:=by
 have h:∀ps∈zv,ps.length<=4/\∀x∈Nm.weigh (fh ps) (uq ps),0<=x.1/\x.1<=9:=∅
 exact h ps g
noncomputable def x8 (cs:List (Str×Int)) (ns:List Int):Prop:=ns.length=cs.length/\∀(i:Nat) c,cs[i]?=some c->0<=ns.getD i 0/\ns.getD i 0<=c.2
theorem wb {cs:List (Str×Int)} {i:Nat} {c:Str×Int} (e:cs[i]?=some c):most cs i=c.2:=by
 unfold most;rw[aa6,aal,e]
 rfl
theorem iE {l:List Int} {i j:Nat} {v:Int} (h:i<l.length):(l.set i v).getD j 0=if j=i then v else l.getD j 0:=by
 rw[aa6,List.getElem?_set,aa6];by_cases c:i=j
 ·subst c;rw[if_pos rfl,if_pos h,if_pos rfl]
  rfl
 ·rw[if_neg c,if_neg (Ne.symm c)]
theorem we {cs:List (Str×Int)} {ns:List Int} {j:Nat} {k:Int} (h0:∀(i:Nat) c,cs[i]?=some c->0<=c.2) (h:x8 cs ns) (hj:j<cs.length) (k0:0<=k):x8 cs (o6 cs ns j k):=by
 refine⟨gE.trans h.1,λi c ec=>?_⟩;unfold o6;rw[iE (by rw[h.1];exact hj)];by_cases e:i=j
 ·subst e;rw[if_pos rfl,wb ec]
  have:=h0 i c ec
  lia
 ·rw[if_neg e];exact h.2 i c ec
theorem wg {cs:List (Str×Int)} {ns:List Int} {j:Nat} (h:x8 cs ns) (hj:j<cs.length):0<=ns.getD j 0:=(h.2 j _ (aat hj)).1
noncomputable def cN:List Str:=[aaj "one",aaj "two",aaj "go"]
noncomputable def pN:List Str:=[aaj "go",aaj "a",aaj "b",aaj "from",aaj "c",aaj "end"]
theorem Il:cN.Nodup/\∀n:Str,n∈cN->dQ (.str n)=true:=∅
theorem Ey:pN.Nodup/\∀n:Str,n∈pN->dQ (.str n)=true:=∅
noncomputable def qI (cs:List (Str×Int)):Dd->Prop
 | .set n k=>n∈cs.map (·.1)/\0<=k
 | .plus n k=>n∈cs.map (·.1)/\0<=k
 | .face n=>n∈cs.map (·.1)
 | .move n m=>n∈cs.map (·.1)/\m∈cs.map (·.1)/\n≠m
noncomputable def nJ (cs:List (Str×Int)) (ds:List Dd):Prop:=ds.length<=2/\∀d∈ds,qI cs d
theorem qI.good {cs:List (Str×Int)}:∀{d:Dd},qI cs d->vc cs d
 | .set _ _,h=>h.1
 | .plus _ _,h=>h.1
 | .face _,h=>h
 | .move _ _,h=>⟨h.1,h.2.1⟩
noncomputable def MJ (cs:List (Str×Int)) (wh:Option (Str×Str×Int)):Prop:=∀n x k,wh=some (n,x,k)->n∈cs.map (·.1)/\dQ (.str x)=true
noncomputable def mF (n:Nat) (to:Str):Prop:=∃j:Nat,j<n/\pN[j]?=some to
noncomputable def Ez (cs:List (Str×Int)) (n i:Nat):Wt->Prop
 | .ask c _ a b=>c∈cs.map (·.1)/\(∃j:Nat,i<j/\j<n/\pN[j]?=some a)/\∃j:Nat,i<j/\j<n/\pN[j]?=some b
 | .fin _ _=>True
 | .score c=>c∈cs.map (·.1)
 | .pick _ rs=>rs.length<=3/\∀r∈rs,nJ cs r.ds/\mF n r.to/\dQ (.str r.word)=true/\MJ cs r.wh
 | .fH fP _ _ rs=>∃ps cut d1 t1 d2 t2,fP=List.map vV ps/\ps∈zv/\1<=cut/\cut<=3/\rs=[(0,cut,d1,t1),(cut+1,9,d2,t2)]/\nJ cs d1/\nJ cs d2/\mF n t1/\mF n t2
structure ie (g:Gm) (n:Nat):Prop where
 n2:2<=n
 n6:n<=6
 c3:g.cs.length<=3
 cn:∀(i:Nat) c,g.cs[i]?=some c->cN[i]?=some c.1/\1<=c.2/\c.2<=4
 lp:g.ps.length=n
 pn:∀(i:Nat) x,g.ps[i]?=some x->pN[i]?=some x.1/\Ez g.cs n i x.2
theorem A4 {v cut:Int} {d1 d2:List Dd} {t1 t2:Str} (h0:0<=v) (h9:v<=9):qg [(0,cut,d1,t1),(cut+1,9,d2,t2)] v=some (if v<=cut then (0,cut,d1,t1) else (cut+1,9,d2,t2)):=by
 unfold qg;by_cases c:v<=cut
 ·rw[if_pos c];exact List.find?_cons_of_pos (by simp;lia)
 ·rw[if_neg c,List.find?_cons_of_neg (by simp;lia)];exact List.find?_cons_of_pos (by simp;lia)
theorem G7 {cs:List (Str×Int)} {ns:List Int} {j:Nat} (h0:∀(i:Nat) c,cs[i]?=some c->0<=c.2) (h:x8 cs ns) (hj:j<cs.length):x8 cs (ns.set j 0):=by
 refine⟨by rw[aaP];exact h.1,λi c ec=>?_⟩;rw[iE (by rw[h.1];exact hj)];by_cases e:i=j
 ·rw[if_pos e];exact⟨Int.le_refl _,h0 i c ec⟩
 ·rw[if_neg e];exact h.2 i c ec
theorem Im {cs:List (Str×Int)} {v:Int} (h0:∀(i:Nat) c,cs[i]?=some c->0<=c.2) (v0:0<=v):∀{d:Dd} {ns:List Int},qI cs d->x8 cs ns->x8 cs (fV cs v ns d)
 | .set n k,_,d,h=>we h0 h (bZ d.1) d.2
 | .plus n k,ns,d,h=>we h0 h (bZ d.1) (by have:=wg h (bZ d.1);have:=d.2;lia)
 | .face n,ns,d,h=>we h0 h (bZ d) (by have:=wg h (bZ d);lia)
 | .move n m,ns,d,h=>G7 h0 (we h0 h (bZ d.2.1) (by have:=wg h (bZ d.1);have:=wg h (bZ d.2.1);lia)) (bZ d.1)
theorem jw {cs:List (Str×Int)} {v:Int} (h0:∀(i:Nat) c,cs[i]?=some c->0<=c.2) (v0:0<=v):∀{ds:List Dd} {ns:List Int},(∀d∈ds,qI cs d)->x8 cs ns->x8 cs (ds.foldl (fV cs v) ns)
 | [],_,_,h=>h
 | d::ds,ns,k,h=>jw h0 v0 (ds:=ds) (λx hx=>k x (aau _ hx)) (Im h0 v0 (k d aaz) h)
section gok
variable {g : Gm} {n : Nat}
theorem ie.c0 (G:ie g n):∀(i:Nat) c,g.cs[i]?=some c->0<=c.2:=λi c e=>by have:=(G.cn i c e).2.1;lia
theorem ie.X8 (G:ie g n):g.cs.map (·.1)=cN.take g.cs.length:=by
 apply List.ext_getElem?;intro i;rw[aal];cases e:g.cs[i]? with
 | none=>
  have:=List.getElem?_eq_none_iff.mp e
  rw[aa3 (by rw[aa1];lia)]
  rfl
 | some c=>
  rw[List.getElem?_take,if_pos (abn.mp e).1,(G.cn i c e).1]
  rfl
theorem ie.X9 (G:ie g n):g.ps.map (·.1)=pN.take n:=by
 apply List.ext_getElem?;intro i;rw[aal];cases e:g.ps[i]? with
 | none=>
  have:=List.getElem?_eq_none_iff.mp e
  rw[G.lp] at this;rw[aa3 (by rw[aa1];lia)]
  rfl
 | some c=>
  have hi:=(abn.mp e).1;rw[G.lp] at hi;rw[List.getElem?_take,if_pos hi,(G.pn i c e).1]
  rfl
theorem ie.hc (G:ie g n) {x:Str} (h:x∈g.cs.map (·.1)):dQ (.str x)=true:=by
 rw[G.X8] at h;exact Il.2 _ (List.mem_of_mem_take h)
theorem ie.gg (G:ie g n):GoodG g where
 nc:=by
  rw[G.X8];exact Il.1.sublist (List.take_sublist _ _)
 np:=by
  rw[G.X9];exact Ey.1.sublist (List.take_sublist _ _)
 lc:=by have:=G.c3;lia
 lp:=by have:=G.lp;have:=G.n6;lia
 p0:=by have:=G.lp;have:=G.n2;lia
 wt:=λp hp=>by
  obtain⟨i,hi⟩:=List.mem_iff_getElem?.mp hp;have k:=(G.pn i p hi).2;cases e:p.2 with
  | ask c x a b=>rw[e] at k;exact k.1
  | fin t b=>exact trivial
  | score c=>rw[e] at k;exact k
  | pick HR rs=>
   rw[e] at k;obtain⟨l,h⟩:=k;exact⟨by lia,λr hr=>⟨by have:=(h r hr).1.1;lia,λd hd=>((h r hr).1.2 d hd).good⟩⟩
  | fH fP t b rs=>
   rw[e] at k;obtain⟨ps,cut,d1,t1,d2,t2,rfl,hp,_,_,rfl,k1,k2,_⟩:=k
   have:=(sY (show lE ps from hp)).1
   refine⟨by rw[aak];lia,by simp,λr hr=>?_⟩;rcases aaR.mp hr with rfl | hr
   ·exact⟨by have:=k1.1;show d1.length<=100;lia,λd hd=>(k1.2 d hd).good⟩
   ·rw[abp.mp hr];exact⟨by have:=k2.1;show d2.length<=100;lia,λd hd=>(k2.2 d hd).good⟩
theorem ie.look (G:ie g n) {i:Nat} {x:Str×Wt} (e:g.ps[i]?=some x):K57.look g.ps x.1=some x.2:=A3 G.gg.np e
noncomputable def Io (x:Wt):Prop:=∀c k a b,x≠.ask c k a b
theorem ie.ask (G:ie g n) (ns:List Int):∀(f i:Nat) (nm:Str),n - i<=f->i<n->pN[i]?=some nm->∃(j:Nat) (x:Str×Wt),g.ps[j]?=some x/\Io x.2/\eF g ns f nm=some x.1
 | 0,i,nm,h,k,_=>by lia
 | f+1,i,nm,h,k,en=>by
  have hi:i<g.ps.length:=by rw[G.lp];exact k
  have ex:=aat hi;obtain⟨e1,p⟩:=G.pn i _ ex;have lk:=G.look ex;rw[en] at e1;have e1:=aaE e1;rw[<-e1] at lk;unfold eF;rw[lk];cases e:(g.ps[i]).2 with
  | ask c x a b=>
   rw[e] at p;obtain⟨_,⟨ja,ia,la,ea⟩,⟨jb,ib,lb,eb⟩⟩:=p;simp only[];split
   ·exact ie.ask G ns f ja a (by lia) la ea
   ·exact ie.ask G ns f jb b (by lia) lb eb
  | fin t b=>exact⟨i,_,ex,(λ_ _ _ _ z=>by rw[e] at z;cases z),by rw[e1]⟩
  | score c=>exact⟨i,_,ex,(λ_ _ _ _ z=>by rw[e] at z;cases z),by rw[e1]⟩
  | pick HR rs=>exact⟨i,_,ex,(λ_ _ _ _ z=>by rw[e] at z;cases z),by rw[e1]⟩
  | fH fP t b rs=>exact⟨i,_,ex,(λ_ _ _ _ z=>by rw[e] at z;cases z),by rw[e1]⟩
noncomputable def qh (g:Gm) (st:bV):Prop:=(∃(j:Nat) (x:Str×Wt),g.ps[j]?=some x/\Io x.2/\st.1=x.1)/\x8 g.cs st.2
theorem ie.Pc (G:ie g n) {i:Nat} {x:Str×Wt} (e:g.ps[i]?=some x):dQ (.str x.1)=true:=Ey.2 _ (aar (G.pn i x e).1)
theorem ie.at (G:ie g n) {ns:List Int} {to:Str} (t:mF n to) (h:x8 g.cs ns):∃s:bV,((eF g ns (g.ps.length+1) to).map λnm=>(nm,ns))=some s/\dQ (.str s.1)=true/\qh g s/\s.2=ns:=by
 obtain⟨j,lj,ej⟩:=t;obtain⟨k,x,ex,na,e⟩:=G.ask ns (g.ps.length+1) j to (by rw[G.lp];lia) lj ej;exact⟨(x.1,ns),by rw[e];rfl,G.Pc ex,⟨⟨k,x,ex,na,rfl⟩,h⟩,rfl⟩
theorem ie.cl (G:ie g n) (st:bV) (h:qh g st):st.2.length=g.cs.length/\(lH g st\/∃ts,b6 g st ts/\∀t∈dF ts,qh g t):=by
 obtain⟨⟨i,x,ex,na,e1⟩,inr⟩:=h;refine⟨inr.1,?_⟩;have lk:=G.look ex;rw[<-e1] at lk;have p:=(G.pn i x ex).2;cases e:x.2 with
 | ask c k a b=>exact absurd e (na c k a b)
 | fin t b=>exact .inr ⟨[],by unfold b6;rw[lk,e],λt ht=>by cases ht⟩
 | score c=>exact .inr ⟨[],by unfold b6;rw[lk,e],λt ht=>by cases ht⟩
 | pick HR rs=>
  rw[e] at p lk;obtain⟨_,hr⟩:=p;by_cases ne:cQ g.cs st.2 (.pick HR rs)=[]
  ·exact .inl ⟨HR,rs,lk,ne⟩
  have go:∀r∈cQ g.cs st.2 (.pick HR rs),∃s,G4 g st.2 r=some s/\dQ (.str s.1)=true/\qh g s:=λr h=>by
   have h:=(List.mem_filter.mp (show r∈List.filter (λr=>d4 g.cs st.2 r.wh) rs from h)).1;obtain⟨s,a,b,c,_⟩:=G.at (hr r h).2.1 (jw (v:=0) G.c0 ∅ (hr r h).1.2 inr);exact⟨s,a,b,c⟩
  refine .inr ⟨(cQ g.cs st.2 (.pick HR rs)).map λr=>((0:Int),(G4 g st.2 r).getD st),?_,λt ht=>?_⟩
  ·unfold b6;rw[lk];show Goes g st _;unfold Goes;rw[lk];refine⟨ne,by rw[aak,aak],λj r ej=>?_⟩;obtain⟨s,es,hs,_⟩:=go r (aar ej);exact⟨s,by rw[aal,aal,ej];show some ((G4 g st.2 r).getD st)=_;rw[es];rfl,es,hs⟩
  ·unfold dF at ht;rw[aaM] at ht;obtain⟨r,h,rfl⟩:=abo.mp ht;obtain⟨s,es,_,k⟩:=go r h;show qh g ((G4 g st.2 r).getD st);rw[es];exact k
 | fH fP t b rs=>
  rw[e] at p lk;obtain⟨ps,cut,d1,t1,d2,t2,rfl,hp,_,_,rfl,k1,k2,o1,o2⟩:=p;have gl:lE ps:=hp;have go:∀v:Int,0<=v->v<=9->∃r s,qg [(0,cut,d1,t1),(cut+1,9,d2,t2)] v=some r/\Ci g st.2 r v=some s/\dQ (.str s.1)=true/\qh g s:=λv v0 v9=>by
   have h:=A4 (cut:=cut) (d1:=d1) (d2:=d2) (t1:=t1) (t2:=t2) v0 v9;by_cases c:v<=cut
   ·rw[if_pos c] at h;obtain⟨s,a,b,e,_⟩:=G.at o1 (jw G.c0 v0 k1.2 inr);exact⟨_,s,h,a,b,e⟩
   ·rw[if_neg c] at h;obtain⟨s,a,b,e,_⟩:=G.at o2 (jw G.c0 v0 k2.2 inr);exact⟨_,s,h,a,b,e⟩
  obtain⟨l4,pv⟩:=sY gl;refine .inr ⟨(Nm.weigh (fh ps) (uq ps)).map λx=>(x.2,((qg [(0,cut,d1,t1),(cut+1,9,d2,t2)] x.1).bind λr=>Ci g st.2 r x.1).getD st),?_,λt ht=>?_⟩
  ·unfold b6;rw[lk];refine⟨ps,uq ps,rfl,gl,l4,x6 gl,by rw[aak];unfold Nm.weigh;rw[aak],λj x ej=>?_⟩;obtain⟨v0,v9⟩:=pv x (aar ej);obtain⟨r,s,a,b,c,_⟩:=go x.1 v0 v9;exact⟨r,s,a,by rw[aal,ej];show some (x.2,Option.getD (Option.bind _ _) st)=_;rw[a];show some (x.2,(Ci g st.2 r x.1).getD st)=_;rw[b];rfl,b,c⟩
  ·unfold dF at ht;rw[aaM] at ht;obtain⟨x,h,rfl⟩:=abo.mp ht;obtain⟨v0,v9⟩:=pv x h;obtain⟨r,s,a,b,_,k⟩:=go x.1 v0 v9;show qh g (Option.getD (Option.bind _ _) st);rw[a];show qh g ((Ci g st.2 r x.1).getD st);rw[b];exact k
theorem G8 {cs:List (Str×Int)} (h0:∀(i:Nat) c,cs[i]?=some c->0<=c.2):x8 cs (abu cs.length 0):=by
 refine⟨abe,λi c e=>?_⟩;have hi:=(abn.mp e).1;rw[aa6,List.getElem?_replicate,if_pos hi];exact⟨Int.le_refl _,h0 i c e⟩
theorem ie.out (G:ie g n):∃ft nm F o SS tss,(g.ps.map (·.1)).head?=some ft/\eF g (abu g.cs.length 0) F ft=some nm/\dQ (.str nm)=true/\o<=2/\fW g o SS 0 [(nm,abu g.cs.length 0)] tss/\SS.length<=120/\SS.Nodup/\∀s∈SS,qh g s:=by
 have n2:=G.n2;have n6:=G.n6;obtain⟨j,x,ex,na,e⟩:=G.ask (abu g.cs.length 0) n 0 (aaj "go") (by lia) (by lia) rfl;obtain⟨o,SS,tss,o2,sp,l,nd,sub,h1,h2⟩:=fW.ex (g:=g) (R:=qh g) (λst h=>G.cl st h) 120 0 [(x.1,abu g.cs.length 0)] (by simp) (λs hs=>by rw[abp.mp hs];exact⟨⟨j,x,ex,na,rfl⟩,G8 G.c0⟩) (aap _) (by simp) (by lia);refine⟨aaj "go",x.1,n,o,SS,tss,?_,e,G.Pc ex,o2,sp,l,nd,sub⟩;rw[G.X9,List.head?_take,if_neg (by lia)]
 rfl
end gok
noncomputable def A5 (K:abg):Sp:=λvs H Q _=>∃(a:Addr) (ns:List Int),vs=[.ref a]/\bH K H a (ns.map V.int)/\ns.length<=63/\∀H',Q (.bl true) H'
section
variable {P : Program} {w : World} {K : abg} {mg : Str -> Option Value} {base : Heap}
variable {aG aI aJ aE aK ag aF : Addr}
theorem gX:bj ["one","other","rest"] ["one","other"] (aq (top 7)):=⟨rfl,rfl,rfl,∅,rfl,∅,∅⟩
theorem Ip (T:Txt K mg aG aI aJ aE aK ag aF):dj P w K mg base (bL P w) 1 "common_divisor" ["one","other"] Ec:=by
 refine T.oV.fE (λ_ _ _ _ _ _=>iz λ_ _=>rfl) λf fd F=>F.gQ gX (λvs H Q E h=>?_) (λcw A outer s H vs Q E hr h=>?_)
 ·obtain⟨_,_,rfl,_⟩:=h;rfl
 ·symm;obtain⟨a,b,rfl,k⟩:=h;nofun;have nd:=gX.nd;refine⟨_,(ao (aS (i:=0) nd rfl (.inl rfl) (bf xf (by rfl) T.z_abs rfl (aa (pv 0) af (se rfl)) (he:=se rfl) (hpl:=na rfl)))
  (ao (aS (i:=1) nd rfl (.inl rfl) (bf xf (by rfl) T.z_abs rfl (aa (pv 1) af (se rfl)) (he:=se rfl) (hpl:=na rfl)))
  (ao (jl PassesOwn.never (aN CU (pv 1) ae (aX _)) (ao (aS (i:=2) nd rfl (.inl rfl) (aU bS (pv 0) (pv 1)))
  (ao (aS (i:=0) nd rfl (.inl rfl) (pv 1))
  (av (aS (i:=1) nd rfl (.inl rfl) (pv 2))))))
  (av (aW (pv 0)))))),?_⟩
  refine(?_:let cO:TS:=_;let cI:TS:=_;let cJ:TS:=_;let d7:TS:=_;tSeq cO (tSeq cI (tSeq cJ d7)) _ _ _);intro cO cI cJ d7;dsimp?[];refine CS (λσ H1=>H1=H/\∃(x y:Int) (z:Option V),σ=[some (.int x),some (.int y),z]/\0<=x/\0<=y/\Nm.g x y=Nm.g a b) (λσ _=>match σ with | [_,some (.int y),_]=>y.toNat | _=>0) ?_ ?_ ?_
  ·refine⟨rfl,_,_,_,rfl,?_,?_,?_⟩
   ·split <;>lia
   ·split <;>lia
   ·rw[show(if a<0 then -a else a)=(a.natAbs:Int) by split <;>lia,show(if b<0 then -b else b)=(b.natAbs:Int) by split <;>lia,Nm.HK,Nm.Aw]
  ·intro σ H1 dG;symm;obtain⟨rfl,x,y,z,rfl,x0,y0,e⟩:=dG;nofun;dsimp?[];refine oF (λc=>?_) (λc=>?_)
   ·refine⟨by lia,y0,Int.emod_nonneg _ (by lia),by rw[Nm.JB x0 (by lia),e],?_⟩
    have:=Int.emod_lt_of_pos x (show 0<y by lia)
    have:=Int.emod_nonneg x (show y≠0 by lia)
    lia
   ·have z:y=0:=by lia
    subst z;rw[Nm.JC x0] at e;rw[e];exact k
  ·intro σ H1 Q1 Q2 hq hc;simp only[L2.start,Pr,tSortR,tSl,tNoPart,tPart,rSlL,tDNotIn,gSub,rSetL,tLst,tDNewK,tComp,L2.stC,tFor_eq,iList,iTup,iRng1,iRng2,iEnum,tChain,tSumV,tBM,tRaise,tDGet,tDGet2,sDPut,Option.join_some,List.getElem?_nil,tSeq,tRet,tIfS,tTest,tB,tOp,tUn,tVar,tC,tCB,tCons,tNil,tCall,tTupS,tAsg,gName,gNil,gCons,tNext,tDrop,tAnd,tOr,tNot,tIf,rI,rI0,rU,rIxTH,rIxLH,rEq,rNe,scal_ss,scal_ii,scal_bb,scal_si,scal_is,at0,at1,at2,aan,aaO,aaB,aaW,Nat.reduceSub,Nat.reduceAdd,aaY,List.replicate_zero,List.reduceReplicate,aaN,List.nil_append,List.cons_append,List.getElem?_cons_zero,List.getElem?_cons_succ,abb,abc,Option.some.injEq,exists_eq_left',exists_eq_left,V.ref.injEq,V.int.injEq,V.bl.injEq,V.str.injEq,V.ty.injEq,HO.tup.injEq,HO.lst.injEq,List.cons.injEq,and_true,true_and,and_assoc,exists_and_left,decide_eq_true_eq,Bool.not_eq_true',decide_eq_false_iff_not,ite_true,ite_false,if_true,if_false,Int.reduceToNat,eq_self_iff_true] at hc ⊢;symm;obtain⟨v,e1,e2,q⟩:=hc;nofun;exact⟨v,e1,e2,hq _ _ q⟩
theorem x9:bj ["top","bottom","divisor"] ["top","bottom"] (aq (top 8)):=⟨rfl,rfl,rfl,∅,rfl,∅,∅⟩
theorem MK (T:Txt K mg aG aI aJ aE aK ag aF):dj P w K mg base (bL P w) 2 "share" ["top","bottom"] (JS aI):=by
 have fG:dj P w K mg base (bL P w) 1 "common_divisor" ["one","other"] Ec:=Ip T;refine T.GN.fE (λ_ _ _ _ _ _=>iz λ_ _=>rfl) λf fd F=>F.HL x9 (λvs H Q E h=>?_) (λcw A outer s H vs Q E hr h=>?_)
 ·obtain⟨_,_,rfl,_⟩:=h;rfl
 ·symm;obtain⟨a,b,rfl,bt,kE,kQ⟩:=h;nofun;have nd:=x9.nd;have Cm:A.handled=none:=hr.hd;refine⟨_,(ao (bF (aN bY (pv 1) ae (aX _)) (av (iq rfl T.k_NoShare T.x_NoShare Cm (aa aV af (se rfl)) (he:=se rfl) (hpl:=na rfl)))
   br)
  (ao (aS (i:=2) nd rfl (.inl rfl) (bw fG (hr.mono ∅) rfl aO.pass (aa (pv 0) (aa (pv 1) af (se rfl)) (se rfl)) (he:=se rfl) (hpl:=na rfl)))
  (ao (bF (aN mY (pv 1) ae (aX _)) (av (aS (i:=2) nd rfl (.inl rfl) (pU jn (pv 2))))
   br)
  (av (aW (aY (aa (aU xx (pv 0) (pv 2)) (aa (aU xx (pv 1) (pv 2)) af (se rfl)) (se rfl)))))))),?_⟩
  refine(?_:let cO:TS:=_;let cI:TS:=_;let cJ:TS:=_;let d7:TS:=_;tSeq cO (tSeq cI (tSeq cJ d7)) _ _ _);intro cO cI cJ d7;dsimp?[Ec,tRaise];refine oF (λz=>?_) (λz=>?_)
  ·exact⟨∅,kE z⟩
  ·have g0:0<Nm.g a b:=Nm.HJ z;have gb:Bt 5000 (Nm.g a b):=bt.le (by have:=Nm.Dm (a:=a) z;lia);have kq:=kQ z;unfold Nm.st Nm.sb at kq;refine oF (λc=>?_) (λc=>?_)
   ·rw[if_pos c,if_pos c] at kq;rw[Nm.Dr g0 (Nm.vC a b),Nm.Dr g0 (Nm.qU a b)];exact⟨rT.of (by lia) gb.neg,rT.of (by lia) gb.neg,∅,λp H2 s1 n1 e=>kq p H2 s1 n1 e⟩
   ·rw[if_neg c,if_neg c] at kq;rw[Nm.Dq g0,Nm.Dq g0];exact⟨rT.of (by lia) gb,rT.of (by lia) gb,∅,λp H2 s1 n1 e=>kq p H2 s1 n1 e⟩
theorem fX:bj ["weights","bottom"] ["weights","bottom"] (aq (top 11)):=⟨rfl,rfl,rfl,∅,rfl,∅,∅⟩
theorem ML (T:Txt K mg aG aI aJ aE aK ag aF):dj P w K mg base (bL P w) 3 "table_by_weights" ["weights","bottom"] GP:=by
 have G9:dj P w K mg base (bL P w) 2 "share" ["top","bottom"] (JS aI):=MK T;refine T.mq.fE (λ_ _ _ _ _ _=>iz λ_ _=>rfl) λf fd F=>F.gQ fX (λvs H Q E h=>?_) (λcw A outer s H vs Q E hr h=>?_)
 ·obtain⟨_,_,_,rfl,_⟩:=h;rfl
 ·symm;obtain⟨d,B,ws,rfl,hd,ndk,hz,B0,bB,k⟩:=h;nofun;have nd:=fX.nd;refine⟨_,(av (aW (cD rfl (N:=["weights","bottom"]) (so:=aq (top 11)) (N':=["value","weights","bottom"]) (k:=1) (fr:=[0,1]) rfl rfl ⟨rfl,∅,∅,∅,rfl,∅,∅⟩ (bC (K:=K) (bf rY (by rfl) T.z_sorted rfl (aa (pv 0) af (se rfl)) (he:=se rfl) (hpl:=na rfl))) (λ_ _ _ _ _=>(aP (i:=0) (show(["value","weights","bottom"]:List Str).Nodup by decide +kernel) rfl (.inl rfl))) (λ_ _ _ _ _=>cL)
   (λ_ _ _ _ _=>(aY (aa (pv 0) (aa (bw G9 (hr.mono ∅) rfl aO.pass (aa (cR (dr hr) (pv 1) (pv 0) (λ_ _=>rfl)) (aa (pv 2) af (se rfl)) (se rfl)) (he:=se rfl) (hpl:=na rfl)) af (se rfl)) (se rfl))))))),?_⟩
  dsimp?[];refine⟨enc ws,.inl hd,Dx ws,by rw[vI];exact hz,λl nl=>⟨⟨_,bH.of aj⟩,?_⟩⟩;rw[BU];have sm:aB H (upd H l (.lst (List.map V.int (Nm.vG (Nm.keys ws))))):=ai nl;have ll:(List.map V.int (Nm.vG (Nm.keys ws))).length=ws.length:=by rw[aak,Nm.iS];unfold Nm.keys;rw[aak]
  refine comp_map (src_list (λH2 s2=>s2.seq (bH.of aj))) (λ_ _ _ _ h=>by rw[h.1];exact aB.refl _) (by rw[ll,sizeLine_eq];lia) (λi y H2=>∀r,(Nm.rowsOf ws B)[i]?=some r->Rep H2 (Gz r) y) (λi y H2 H3 s3 h r e=>(h r e).mono s3) ?_ ?_
  ·rintro i x w0 H2 H3 Q2 hi s2 ⟨rfl,hx⟩ kq;rw[aal] at hx;symm;obtain⟨v,ev,rfl⟩:=abm.mp hx;nofun;have hv:v∈Nm.keys ws:=Nm.Gs.mp (aar ev);have hd2:=s2 _ _ (sm _ _ hd);dsimp?[JS];refine⟨_,Dy hd2 hv,_,rfl,bB,λz=>absurd z B0,λ_ p H4 s4 _ e4=>⟨∅,λp5 H5 s5 _ e5=>?_⟩⟩;refine kq _ _ (s4.trans s5) λr er=>?_
   have:r=(v,Nm.st (Nm.look ws v) B,Nm.sb (Nm.look ws v) B):=by
    unfold Nm.rowsOf at er;rw[aal,ev] at er;exact(aaE er).symm
   subst this;exact nu.mpr ⟨p5,p,rfl,e5,s5 _ _ e4⟩
  ·intro ys H2 s2 ly hy D n1 n2;refine k _ _ (sm.trans (s2.trans (ai n2))) (none_of sm n1) (aQ.mpr ⟨D,ys,rfl,aj,?_⟩);refine bq.of ?_ λi dd v e1 e2=>?_
   ·rw[aak,ly];unfold Nm.rowsOf;rw[aak,aak]
   ·rw[aal] at e1;symm;obtain⟨r,er,rfl⟩:=abm.mp e1;nofun;exact(hy i v e2 r er).mono (ai n2)
theorem qi:bj ["rows","weights","value","weight"] ["rows"] (aq (top 12)):=⟨rfl,rfl,rfl,∅,rfl,∅,∅⟩
theorem MM (T:Txt K mg aG aI aJ aE aK ag aF):dj P w K mg base (bL P w) 4 "table_of" ["rows"] (JT aJ):=by
 have mG:dj P w K mg base (bL P w) 3 "table_by_weights" ["weights","bottom"] GP:=ML T;refine T.zm.fE (λ_ _ _ _ _ _=>hZ λ_=>rfl) λf fd F=>F.HL qi (λvs H Q E h=>?_) (λcw A outer s H vs Q E hr h=>?_)
 ·obtain⟨_,_,rfl,_⟩:=h;rfl
 ·symm;obtain⟨v,ps,rfl,rp,hz,hb,hw,kE,kQ⟩:=h;nofun;have nd:=qi.nd;have Cm:A.handled=none:=hr.hd;refine⟨_,(ao (aS (i:=1) nd rfl (.inl rfl) m7)
  (ao (cV PassesOwn.leaving rfl (bC (K:=K) (pv 0)) (di (K:=K) (n:=2) rfl (bu (aP (i:=2) nd rfl (.inl rfl)) (bu (aP (i:=3) nd rfl (.inl rfl)) dg))) (ao (bF (aN mY (pv 3) ae (aX _)) (av (iq rfl T.k_NoTable T.x_NoTable Cm (aa aV af (se rfl)) (he:=se rfl) (hpl:=na rfl)))
   br)
  (av (bF (aN lA (pv 3) ae (aX _)) (av (qT (dr hr) (pv 1) (pv 2) (aU bN (Dg (dr hr) (pv 1) (pv 2) ae (by first | exact⟨rfl,rfl,rfl⟩ | constructor <;>rfl)) (pv 3)) rfl))
   br))))
  (ao (bF (aN bY (bf BM (by rfl) T.z_len aav (aa (pv 1) af (se rfl)) (he:=se rfl) (hpl:=na rfl)) ae (aX _)) (av (iq rfl T.k_NoTable T.x_NoTable Cm (aa aV af (se rfl)) (he:=se rfl) (hpl:=na rfl)))
   br)
  (av (aW (bw mG (hr.mono ∅) rfl aO.pass (aa (pv 1) (aa (zi rfl (by rfl) T.z_sum (pv 1) (he:=se rfl)) af (se rfl)) (se rfl)) (he:=se rfl) (hpl:=na rfl))))))),?_⟩
  refine(?_:let cO:TS:=_;let cI:TS:=_;let cJ:TS:=_;let d7:TS:=_;tSeq cO (tSeq cI (tSeq cJ d7)) _ _ _);intro cO cI cJ d7;dsimp?[GP,tRaise];intro d Lj;symm;obtain⟨a,xs,rfl,ha,rl⟩:=aQ.mp rp;nofun;have n1:=rl.length;rw[aak] at n1;have q1:∀o,bH K (upd H d o) a xs:=λo=>bH.of (ai Lj _ _ ha);refine⟨_,rfl,⟨_,q1 _⟩,b9 (src_list (Ok:=λH'=>∃o,H'=upd H d o) (λH' ⟨o,e⟩=>by rw[e];exact q1 o))
   (λi σ H'=>H'=upd H d (.dK (enc (Nm.mj (ps.take i))))/\(∀p∈ps.take i,0<=p.2)/\∃z1 z2,σ=[some (.ref a),some (.ref d),z1,z2])
   ⟨by rw[List.take_zero];rfl,by simp,_,_,rfl⟩ (λ_ _ _ _ h=>⟨_,h.1⟩) ?_ ?_⟩
  ·intro i x σ H' yD hi fR fo;symm;obtain⟨rfl,nn,z1,z2,rfl⟩:=fR;obtain⟨rfl,hx⟩:=fo;obtain⟨dd,ed,rd⟩:=rl.get hx;rw[aal] at ed;obtain⟨p,ep,rfl⟩:=abm.mp ed;obtain⟨q,rfl,hq⟩:=eN.mp rd;nofun;have tk:ps.take (i+1)=ps.take i++ [p]:=by rw[aaG,ep];rfl
   refine⟨q,_,rfl,gP.of (ai Lj _ _ hq),rfl,?_⟩;dsimp?[tRaise];rw[tk,Nm.DC];refine oF (λc=>?_) (λc=>?_)
   ·exact⟨∅,kE (.inl ⟨p,aar ep,c⟩) _ (ai Lj)⟩
   ·have Yb:∀r∈ps.take i++ [p],0<=r.2:=λr hr=>by
     rcases List.mem_append.mp hr with h | h
     ·exact nn r h
     ·have:r=p:=by simpa using h
      subst this;lia
    refine oF (λc2=>?_) (λc2=>?_)
    ·symm;obtain⟨o,ho,eo⟩:=BV (H:=upd H d (.dK (enc (Nm.mj (ps.take i))))) p.1 (.inl aj);nofun;refine⟨.inl ⟨_,.inl aj⟩,o,ho,?_⟩;rw[eo];dsimp?[];refine⟨_,DA _ _ aj (Nm.oR _) ?_,?_,Yb,?_⟩
     ·have:=Nm.AG (ps.take i)
      rw[aa1] at this;rw[sizeLine_eq];lia
     ·rw[vp,if_pos c2]
      rfl
     ·exact⟨_,rfl⟩
    ·refine⟨by rw[if_neg c2],Yb,?_⟩;exact⟨_,rfl⟩
  ·intro σ H' dG;symm;obtain⟨rfl,nn,z1,z2,rfl⟩:=dG;nofun;rw[aaA (by lia)] at nn ⊢;dsimp?[tRaise,GP];have el:(enc (Nm.mj ps)).length=(Nm.mj ps).length:=vI _;refine⟨_,aj,oF (λz=>⟨∅,kE (.inr ?_) _ (ai Lj)⟩) (λz=>?_)⟩
   ·exact Nm.AH.mp (List.eq_nil_of_length_eq_zero (by lia))
   ·have np:Nm.pos ps≠[]:=λe=>by
     have:=Nm.AH.mpr e
     exact z (by rw[el,this];rfl)
    have nb:¬Nm.bad ps:=λb=>by
     rcases b with ⟨p,hp,c⟩ | c
     ·have:=nn p hp
      lia
     ·exact np c
    have T0:=Nm.Gw (show 0< (Nm.mj ps).length by lia) (Nm.oR ps) (Nm.GC ps);have T1:=Nm.sh (c:=10^12) ∅ hb;rw[<-Nm.GD] at T1;have lw:=Nm.AG ps;have ev:List.map (λx:Key×V=>x.2) (enc (Nm.mj ps))=List.map V.int ((Nm.mj ps).map (·.2)):=by
     unfold enc;rw[aaM,aaM]
     rfl
    refine⟨_,aj,_,ev,_,aj,Nm.oR ps,by lia,?_,?_,λp H' s' ya r'=>?_⟩
    ·show Nm.rZ (Nm.mj ps)≠0;lia
    ·show Bt 5000 (Nm.rZ (Nm.mj ps));exact Bt.of (10^16) (by lia) (by lia)
    ·exact kQ nb p H' ((ai Lj).trans s') (none_of (ai Lj) ya) r'
theorem yb:bj ["base","exponent","product","turn"] ["base","exponent"] (aq (top 18)):=⟨rfl,rfl,rfl,∅,rfl,∅,∅⟩
theorem MN (T:Txt K mg aG aI aJ aE aK ag aF):dj P w K mg base (bL P w) 1 "power" ["base","exponent"] JW:=by
 refine T.GO.fE (λ_ _ _ _ _ _=>iz λ_ _=>rfl) λf fd F=>F.gQ yb (λvs H Q E h=>?_) (λcw A outer s H vs Q E hr h=>?_)
 ·obtain⟨_,_,rfl,_⟩:=h;rfl
 ·symm;obtain⟨b,e,rfl,be,e10,hb,kk⟩:=h;nofun;have nd:=yb.nd;refine⟨_,(ao (aS (i:=2) nd rfl (.inl rfl) ae)
  (ao (cV PassesOwn.never rfl (dD rfl T.z_range (aa (pv 1) af (se rfl))) (aP (i:=3) nd rfl (.inl rfl)) (ao (bF (aN lA (pv 2) (nA rfl T.c_MOST_BOTTOM) (aX _)) (av CO)
   br)
  (av (aS (i:=2) nd rfl (.inl rfl) (aU c8 (pv 2) (pv 0))))))
  (av (aW (pv 2))))),?_⟩
  refine(?_:let cO:TS:=_;let cI:TS:=_;let cJ:TS:=_;tSeq cO (tSeq cI cJ) _ _ _);intro cO cI cJ;have sl:=sizeLine_eq;dsimp?[];refine⟨by lia,by lia,b9 (src_range (Ok:=λ_=>True)) (λi σ H'=>H=H'/\∃z,σ=[some (.int (b:Int)),some (.int (e:Int)),some (.int ((b^i:Nat):Int)),z]) ⟨rfl,_,rfl⟩ (λ_ _ _ _ _=>trivial) ?_ ?_⟩
  ·intro i x σ H' yD hi fR fo;symm;obtain⟨rfl,z,rfl⟩:=fR;obtain⟨rfl,rfl⟩:=fo;nofun;have b1:1<=b:=by lia
   have le:b^i<=b^e:=Nat.pow_le_pow_right b1 (by lia);dsimp?[];rw[if_neg (by lia)];refine⟨eX (by lia) (by lia),?_,_,rfl⟩;rw[Nat.pow_succ,Int.natCast_mul]
  ·intro σ H' dG;symm;obtain⟨rfl,z,rfl⟩:=dG;nofun;rw[aaS];dsimp?[];exact kk
theorem lI:bj ["part"] ["part"] (aq (top 19)):=⟨rfl,rfl,rfl,∅,rfl,∅,∅⟩
theorem EA (T:Txt K mg aG aI aJ aE aK ag aF):dj P w K mg base (bL P w) 1 "most_faces" ["part"] Ee:=by
 refine T.vJ.fE (λ_ _ _ _ _ _=>hZ λ_=>rfl) λf fd F=>F.gQ lI (λvs H Q E h=>?_) (λcw A outer s H vs Q E hr h=>?_)
 ·obtain⟨_,_,rfl,_⟩:=h;rfl
 ·symm;obtain⟨q,p,rfl,hq,kk⟩:=h;nofun;have nd:=lI.nd;refine⟨_,(ao (bF (aN bY (aD au (pv 0) ae (λ_ _=>rfl)) aV (aX _)) (av (aW ae))
   br)
  (ao (bF (aN bY (aD au (pv 0) ae (λ_ _=>rfl)) aV (aX _)) (av (aW (mX (aN lA (aD au (pv 0) ae (λ_ _=>rfl)) ae (aX _)) ae ae)))
   br)
  (ao (bF (aN bY (aD au (pv 0) ae (λ_ _=>rfl)) aV (aX _)) (av (aW (aU bN (bf (uG rfl) (by rfl) T.z_max rfl (aa (aD au (pv 0) ae (λ_ _=>rfl)) (aa ae af (se rfl)) (se rfl)) (he:=se rfl) (hpl:=na rfl)) ae)))
   br)
  (av (aW (aD au (pv 0) (pU jn ae) (λ_ _=>rfl))))))),?_⟩
  refine(?_:let cO:TS:=_;let cI:TS:=_;let cJ:TS:=_;let d7:TS:=_;tSeq cO (tSeq cI (tSeq cJ d7)) _ _ _);intro cO cI cJ d7;cases p with
  | num n=>
   simp only[mT] at hq;dsimp?[hq];exact kk
  | fB m s=>
   simp only[mT] at hq;dsimp?[hq];rw[if_neg ∅,if_neg ∅,if_neg ∅];exact⟨_,rfl,kk⟩
  | hits n m s=>
   simp only[mT] at hq;dsimp?[hq];rw[if_neg ∅,if_neg ∅,if_neg ∅];exact⟨_,rfl,kk⟩
  | again n s=>
   simp only[mT] at hq;dsimp?[hq];rw[if_neg ∅];have e:Fw (.again n s)=if 0<n then 2 else 1:=rfl
   rw[e] at kk;by_cases c:0<n
   ·rw[if_pos (by lia)];rw[if_pos c] at kk;exact kk
   ·rw[if_neg (by lia)];rw[if_neg c] at kk;exact kk
theorem jx:bj ["part"] ["part"] (aq (top 20)):=⟨rfl,rfl,rfl,∅,rfl,∅,∅⟩
theorem EB (T:Txt K mg aG aI aJ aE aK ag aF):dj P w K mg base (bL P w) 2 "part_bottom" ["part"] vX:=by
 have Ha:dj P w K mg base (bL P w) 1 "power" ["base","exponent"] JW:=MN T;have fx:dj P w K mg base (bL P w) 1 "most_faces" ["part"] Ee:=EA T;refine T.uh.fE (λ_ _ _ _ _ _=>hZ λ_=>rfl) λf fd F=>F.gQ jx (λvs H Q E h=>?_) (λcw A outer s H vs Q E hr h=>?_)
 ·obtain⟨_,_,rfl,_⟩:=h;rfl
 ·symm;obtain⟨q,p,rfl,hq,g,hb,kk⟩:=h;nofun;have nd:=jx.nd;refine⟨_,(av (aW (bw Ha (hr.mono ∅) rfl aO.pass (aa (aD au (pv 0) (pU jn ae) (λ_ _=>rfl)) (aa (bw fx (hr.mono ∅) rfl aO.pass (aa (pv 0) af (se rfl)) (he:=se rfl) (hpl:=na rfl)) af (se rfl)) (se rfl)) (he:=se rfl) (hpl:=na rfl)))),?_⟩;dsimp?[JW,Ee];refine⟨_,hq,_,Ed p,p,hq,lst p,rfl,Fw p,rfl,?_,?_,?_,?_⟩
  ·cases p with
   | num n=>exact .inr rfl
   | _=>exact .inl g.1
  ·have:=sM g;lia
  ·have:lst p^Fw p=bot p:=by cases p <;>rfl
   rw[this];exact hb
  ·have:lst p^Fw p=bot p:=by cases p <;>rfl
   rw[this];exact kk
theorem lJ:bj ["part","sides","low"] ["part"] (aq (top 21)):=⟨rfl,rfl,rfl,∅,rfl,∅,∅⟩
theorem MO (T:Txt K mg aG aI aJ aE aK ag aF):dj P w K mg base (bL P w) 3 "part_count" ["part"] JX:=by
 have fx:dj P w K mg base (bL P w) 1 "most_faces" ["part"] Ee:=EA T;have eQ:dj P w K mg base (bL P w) 2 "part_bottom" ["part"] vX:=EB T;refine T.vK.fE (λ_ _ _ _ _ _=>hZ λ_=>rfl) λf fd F=>F.gQ lJ (λvs H Q E h=>?_) (λcw A outer s H vs Q E hr h=>?_)
 ·obtain⟨_,_,rfl,_⟩:=h;rfl
 ·symm;obtain⟨q,p,rfl,hq,g,hb,kk⟩:=h;nofun;have nd:=lJ.nd;refine⟨_,(ao (aS (i:=1) nd rfl (.inl rfl) (aD au (pv 0) (pU jn ae) (λ_ _=>rfl)))
  (ao (bF (aN bY (aD au (pv 0) ae (λ_ _=>rfl)) aV (aX _)) (ao (aS (i:=2) nd rfl (.inl rfl) (bf (uG rfl) (by rfl) T.z_max rfl (aa (bf (oy rfl) (by rfl) T.z_min rfl (aa (aD au (pv 0) ae (λ_ _=>rfl)) (aa (pv 1) af (se rfl)) (se rfl)) (he:=se rfl) (hpl:=na rfl)) (aa ae af (se rfl)) (se rfl)) (he:=se rfl) (hpl:=na rfl)))
  (av (aW (aU lX (aU bN (aU c8 (pv 2) (pv 1)) (pv 1)) (pv 2)))))
   br)
  (ao (bF (aN bY (aD au (pv 0) ae (λ_ _=>rfl)) aV (aX _)) (av (aW (aU bN (aU c8 (bw fx (hr.mono ∅) rfl aO.pass (aa (pv 0) af (se rfl)) (he:=se rfl) (hpl:=na rfl)) (aU lX (pv 1) ae)) ae)))
   br)
  (av (aW (bw eQ (hr.mono ∅) rfl aO.pass (aa (pv 0) af (se rfl)) (he:=se rfl) (hpl:=na rfl))))))),?_⟩
  refine(?_:let cO:TS:=_;let cI:TS:=_;let cJ:TS:=_;let d7:TS:=_;tSeq cO (tSeq cI (tSeq cJ d7)) _ _ _);intro cO cI cJ d7;cases p with
  | num n=>
   simp only[mT] at hq;dsimp?[hq,vX];refine⟨_,rfl,?_⟩;rw[if_neg ∅,if_neg ∅];exact⟨.num n,rfl,g,hb,kk⟩
  | fB m s=>
   simp only[mT] at hq;dsimp?[hq,vX];refine⟨_,rfl,?_⟩;rw[if_neg ∅,if_neg ∅];exact⟨.fB m s,rfl,g,hb,kk⟩
  | hits n m s=>
   simp only[mT] at hq;dsimp?[hq,vX];refine⟨_,rfl,?_⟩;rw[if_neg ∅,if_neg ∅];exact⟨.hits n m s,rfl,g,hb,kk⟩
  | again n s=>
   simp only[mT] at hq;dsimp?[hq];refine⟨_,rfl,?_⟩;dsimp?[];have e:(if (0:Int) >(if (s:Int)< (n:Int) then (s:Int) else (n:Int)) then (0:Int) else (if (s:Int)< (n:Int) then (s:Int) else (n:Int)))=((min n s:Nat):Int):=by
    by_cases c:(s:Int)< (n:Int)
    ·rw[if_pos c,if_neg (by lia),Nat.min_eq_right (by lia)]
    ·rw[if_neg c,if_neg (by lia),Nat.min_eq_left (by lia)]
   have Pd:=g.2.1;rw[e];refine⟨oG (by lia) (by lia),?_⟩;have e2:((min n s:Nat):Int)* (s:Int)+ (s:Int) - ((min n s:Nat):Int)=((min n s*s+ (s - min n s):Nat):Int):=by
    rw[Int.natCast_add,Int.natCast_mul,Int.natCast_sub (Nat.min_le_right n s)];lia
   rw[e2];exact kk
theorem lK:bj ["pool","count","bottom","part"] ["pool"] (aq (top 22)):=⟨rfl,rfl,rfl,∅,rfl,∅,∅⟩
theorem MP (T:Txt K mg aG aI aJ aE aK ag aF):dj P w K mg base (bL P w) 4 "check_size" ["pool"] JY:=by
 have wj:dj P w K mg base (bL P w) 3 "part_count" ["part"] JX:=MO T;have eQ:dj P w K mg base (bL P w) 2 "part_bottom" ["part"] vX:=EB T;refine T.vL.fE (λ_ _ _ _ _ _=>hZ λ_=>rfl) λf fd F=>F.HL lK (λvs H Q E h=>?_) (λcw A outer s H vs Q E hr h=>?_)
 ·obtain⟨_,_,rfl,_⟩:=h;rfl
 ·symm;obtain⟨l,ps,rfl,hp,g,kk⟩:=h;nofun;have nd:=lK.nd;have Cm:A.handled=none:=hr.hd;refine⟨_,(ao (aS (i:=1) nd rfl (.inl rfl) ae)
  (ao (aS (i:=2) nd rfl (.inl rfl) ae)
  (ao (cV PassesOwn.leaving rfl (bC (K:=K) (pv 0)) (aP (i:=3) nd rfl (.inl rfl)) (ao (aS (i:=1) nd rfl (.inl rfl) (aU c8 (pv 1) (bw wj (hr.mono ∅) rfl aO.pass (aa (pv 3) af (se rfl)) (he:=se rfl) (hpl:=na rfl))))
  (av (aS (i:=2) nd rfl (.inl rfl) (aU c8 (pv 2) (bw eQ (hr.mono ∅) rfl aO.pass (aa (pv 3) af (se rfl)) (he:=se rfl) (hpl:=na rfl)))))))
  (av (bF (PW.pt (pw_or (aN lA (pv 1) (nA rfl T.c_MOST_THROWS) (aX _)) (pw_or1 (aN lA (pv 2) (nA rfl T.c_MOST_BOTTOM) (aX _))))) (av (iq rfl T.k_TooMany T.x_TooMany Cm (aa aV af (se rfl)) (he:=se rfl) (hpl:=na rfl)))
   br))))),?_⟩
  refine(?_:let cO:TS:=_;let cI:TS:=_;let cJ:TS:=_;let d7:TS:=_;tSeq cO (tSeq cI (tSeq cJ d7)) _ _ _);intro cO cI cJ d7;symm;obtain⟨xs,hl,al⟩:=hp;nofun;have lx:=al.length;dsimp?[];refine⟨⟨_,bH.of hl⟩,b9 (src_list (Ok:=λH'=>H=H') (λH' e=>by subst e;exact bH.of hl)) (λi σ H'=>H=H'/\∃z,σ=[some (.ref l),some (.int ((mz ((ps.take i).map cnt):Nat):Int)),some (.int ((mz ((ps.take i).map bot):Nat):Int)),z]) ⟨rfl,_,rfl⟩ (λ_ _ _ _ h=>h.1) ?_ ?_⟩
  ·intro i x σ H' yD hi fR fo;symm;obtain⟨rfl,z,rfl⟩:=fR;obtain⟨rfl,ex⟩:=fo;obtain⟨p,ep,q,rfl,hq⟩:=al.get ex;nofun;obtain⟨Hb,Br⟩:=abn.mp ep;have hm:p∈ps:=by rw[<-Br];exact List.getElem_mem Hb
   symm;obtain⟨gp,c1,b1⟩:=o4 g hm;nofun;have c0:=oY g i;have b0:=oZ g i;dsimp?[JX,vX];refine⟨p,hq,gp,b1,eX (by lia) (by lia),p,hq,gp,b1,eX (by lia) (by lia),?_,?_,_,rfl⟩
   ·rw[take_snoc Hb,Br,aaw,aan,aaO,iA,Int.natCast_mul]
   ·rw[take_snoc Hb,Br,aaw,aan,aaO,iA,Int.natCast_mul]
  ·intro σ H' dG;symm;obtain⟨rfl,z,rfl⟩:=dG;nofun;rw[lx,aaA (aam _)];have c0:=g.2.1;have b0:=g.2.2;dsimp?[];rw[if_neg (by lia),if_neg (by lia)];exact kk
theorem lM:bj ["dice","sides","found","turn","longer","faces"] ["dice","sides"] (aq (top 23)):=⟨rfl,rfl,rfl,∅,rfl,∅,∅⟩
theorem MQ (T:Txt K mg aG aI aJ aE aK ag aF):dj P w K mg base (bL P w) 1 "dice_faces" ["dice","sides"] GV:=by
 refine T.vM.fE (λ_ _ _ _ _ _=>iz λ_ _=>rfl) λf fd F=>F.gQ lM (λvs H Q E h=>?_) (λcw A outer s H vs Q E hr h=>?_)
 ·obtain⟨_,_,rfl,_⟩:=h;rfl
 ·symm;obtain⟨d,s',rfl,s1,Pd,d6,hd,kk⟩:=h;nofun;have nd:=lM.nd;refine⟨_,(ao (aS (i:=2) nd rfl (.inl rfl) (bK (aa (bK af) af (se rfl))))
  (ao (cV PassesOwn.never rfl (dD rfl T.z_range (aa (pv 0) af (se rfl))) (aP (i:=3) nd rfl (.inl rfl)) (ao (aS (i:=4) nd rfl (.inl rfl) (bK af))
  (ao (cV PassesOwn.never rfl (bC (K:=K) (pv 2)) (aP (i:=5) nd rfl (.inr rfl)) (av (bR (dY aaD PySem.F.slot_list_extend PySem.F.type_list_extend oB.r (pv 4) (aa (cD rfl (N:=["dice","sides","found","turn","longer","faces"]) (so:=aq (top 23)) (N':=["face","faces"]) (k:=1) (fr:=[5]) rfl rfl ⟨rfl,∅,∅,∅,rfl,∅,∅⟩ (j1 rfl T.z_range (aa ae (aa (aU bN (pv 1) ae) af (se rfl)) (se rfl))) (λ_ _ _ _ _=>(aP (i:=0) (show(["face","faces"]:List Str).Nodup by decide +kernel) rfl (.inl rfl))) (λ_ _ _ _ _=>cL)
   (λ_ _ _ _ _=>(aU De (pv 1) (bK (aa (pv 0) af (se rfl)))))) af (se rfl))))))
  (av (aS (i:=2) nd rfl (.inl rfl) (pv 4))))))
  (av (aW (pv 2))))),?_⟩
  refine(?_:let cO:TS:=_;let cI:TS:=_;let cJ:TS:=_;tSeq cO (tSeq cI cJ) _ _ _);intro cO cI cJ;have sl:=sizeLine_eq;dsimp?[];refine⟨aap _,λe0 m0=>⟨∅,λl0 n0=>⟨by lia,by lia,?_⟩⟩⟩;have s0:aB H (upd (upd H e0 (.lst [])) l0 (.lst [.ref e0])):=(ai m0).trans (ai n0);refine b9 (src_range (Ok:=λ_=>True)) (λi σ H'=>aB H H'/\∃l xs z z' Pe,H' l=some (.lst xs)/\Al (Fa H') (Fv s' i) xs/\σ=[some (.int (d:Int)),some (.int (s':Int)),some (.ref l),z,z',Pe]) ?_ (λ_ _ _ _ _=>trivial) ?_ ?_
  ·exact⟨s0,l0,_,_,_,_,aj,.one ⟨e0,rfl,ai n0 _ _ aj⟩,rfl⟩
  ·intro i x σ H' yD hi fR fo;symm;obtain⟨sm,l,xs,z,z',Pe,hl,al,rfl⟩:=fR;obtain⟨rfl,rfl⟩:=fo;nofun;have lx:=al.length;rw[nE] at lx;have hle:s'^ (i+1)<=1296:=aay (Nat.pow_le_pow_right s1 (by lia)) hd;have aab:s'^i<=1296:=aay (Nat.pow_le_pow_right s1 (by lia)) hd;change tSeq _ _ _ _ _;refine dt (λσ' H1=>aB yD H1/\∃m,yD m=none/\H1 m=some (.lst [])/\σ'=[some (.int (d:Int)),some (.int (s':Int)),some (.ref l),some (.int (0+i)),some (.ref m),Pe]) ?_ (λN hN=>?_)
   case refine_2=>
    dsimp?[];exact⟨aap _,λm nm=>hN _ _ ⟨ai nm,m,nm,aj,rfl⟩⟩
   intro _ H1 dG;symm;obtain⟨FA,m,nm,hm,rfl⟩:=dG;nofun;change tSeq _ _ _ _ _;refine dt (λσ' H2=>aB yD H2/\∃ys,H2 m=some (.lst ys)/\Al (Fa H2) (Fv s' (i+1)) ys/\∃z,σ'=[some (.int (d:Int)),some (.int (s':Int)),some (.ref l),some (.int (0+i)),some (.ref m),z]) ?_ (λN hN=>?_)
   case refine_2=>
    dsimp?[];refine⟨⟨_,bH.of (FA _ _ hl)⟩,b9 (src_list (Ok:=aB yD) (λH2 s2=>bH.of (s2 _ _ hl)))
     (λj σ H2=>aB yD H2/\∃ys z,H2 m=some (.lst ys)/\ys.length=j*s'/\Al (Fa (dH H2 m)) (((Fv s' i).take j).flatMap λf=>(List.range s').map λi:Nat=>f++ [((i:Nat):Int)+1]) ys/\σ=[some (.int (d:Int)),some (.int (s':Int)),some (.ref l),some (.int (0+i)),some (.ref m),z])
     ⟨FA,[],_,hm,by simp,trivial,rfl⟩ (λ_ _ _ _ h=>h.1) ?_ ?_⟩
    ·intro j x σ H2 H3 hj fR fo;symm;obtain⟨yc,ys,z,wQ,ly,ay,rfl⟩:=fR;obtain⟨rfl,ex⟩:=fo;obtain⟨f,ef,q,rfl,hq⟩:=al.get ex;nofun;obtain⟨hjf,ef'⟩:=abn.mp ef;have fl:=(rf s' i f (by rw[<-ef'];exact List.getElem_mem hjf)).1;have Iq:=yc _ _ hq;dsimp?[qR];refine⟨.inl ⟨rfl,_,bH.of wQ⟩,by lia,by lia,by lia,by lia,?_⟩;rw[show((s':Int)+1 - 1).toNat=s' by lia];refine comp_map src_range (λ_ _ _ _ h=>by rw[h.1];exact aB.refl _) (by lia) (λk y H4=>Fa (dH H4 m) (f++ [((k:Nat):Int)+1]) y) (λk y H4 H5 s5 h=>h.mono (bO s5)) ?_ ?_
     ·rintro k x w0 H4 H5 Q2 hk s4 ⟨rfl,rfl⟩ kq;dsimp?[Jq];refine⟨∅,λa1 n1=>⟨_,ai n1 _ _ (s4 _ _ Iq),_,aj,by rw[aak];simp only[aaB,aaW];lia,λa2 n2=>kq _ _ ((ai n1).trans (ai n2)) ⟨a2,rfl,?_⟩⟩⟩;have ne:a2≠m:=λe=>by
       subst e;rw[ai n1 _ _ (s4 _ _ wQ)] at n2;cases n2
      rw[bX ne,aj,aaw,Int.add_comm]
      rfl
     ·intro zs H4 s4 lz hz D n1 n2;have QV:=s4 _ _ wQ;have jm:j*s'<=s'^ (i+1):=by rw[Nat.pow_succ];exact Nat.mul_le_mul_right _ (by lia)
      have szz:∀{k:Nat},k=j*s'+s'->k<=sizeLine:=λe=>by lia
      refine⟨_,ai n2 _ _ QV,_,aj,szz (by rw[ly,lz]),?_⟩;have s5:aB H3 (upd H4 D (.lst zs)):=s4.trans (ai n2);refine⟨bI (yc.trans s5) nm,_,aj,by rw[aaq,ly,lz,Nat.succ_mul],?_,_,rfl⟩;rw[rj,aaG,ef,List.flatMap_append];refine Al.append (ay.imp λ_ _ h=>h.mono (bO s5)) ?_;simp only[Option.toList,List.flatMap_cons,List.flatMap_nil,aaN];refine Al.of (by rw[aak,List.length_range];exact lz) λk y g e1 e2=>?_;rw[aal] at e2;symm;obtain⟨k',ek,rfl⟩:=abm.mp e2;nofun;obtain⟨Ia,JR⟩:=abn.mp ek;rw[List.getElem_range] at JR;subst JR;exact(hz _ _ e1).mono (bO (ai n2))
    ·intro σ H2 dG;symm;obtain⟨yc,ys,z,wQ,ly,ay,rfl⟩:=dG;nofun;refine hN _ _ ⟨yc,ys,wQ,?_,_,rfl⟩;rw[lx,<-nE s' i,aaA (aam _)] at ay;exact ay.imp λ_ _ h=>h.mono bM
   intro _ H2 dG;symm;obtain⟨yc,ys,wQ,ay,z,rfl⟩:=dG;nofun;dsimp?[]
   first | exact⟨sm.trans yc,m,_,wQ,ay,rfl,⟨_,rfl⟩,⟨_,rfl⟩,⟨_,rfl⟩⟩ | exact⟨sm.trans yc,m,_,wQ,ay,rfl,_,_,rfl⟩ | exact⟨sm.trans yc,m,_,wQ,ay,rfl,⟨_,rfl⟩,_,rfl⟩ | exact⟨sm.trans yc,m,_,wQ,ay,rfl,_,rfl⟩
  ·intro σ H' dG;symm;obtain⟨sm,l,xs,z,z',Pe,hl,al,rfl⟩:=dG;nofun;rw[aaS] at al;dsimp?[];exact kk _ _ _ sm hl al
theorem jy:bj ["low","sides","found","face"] ["low","sides"] (aq (top 24)):=⟨rfl,rfl,rfl,∅,rfl,∅,∅⟩
theorem MR (T:Txt K mg aG aI aJ aE aK ag aF):dj P w K mg base (bL P w) 1 "again_faces" ["low","sides"] JZ:=by
 refine T.ui.fE (λ_ _ _ _ _ _=>iz λ_ _=>rfl) λf fd F=>F.gQ jy (λvs H Q E h=>?_) (λcw A outer s H vs Q E hr h=>?_)
 ·obtain⟨_,_,rfl,_⟩:=h;rfl
 ·symm;obtain⟨n,s',rfl,Pd,kk⟩:=h;nofun;have nd:=jy.nd;refine⟨_,(ao (aS (i:=2) nd rfl (.inl rfl) (bK af))
  (ao (cV PassesOwn.never rfl (j1 rfl T.z_range (aa ae (aa (aU bN (pv 1) ae) af (se rfl)) (se rfl))) (aP (i:=3) nd rfl (.inr rfl)) (av (bF (aN xb (pv 3) (pv 0) (aX _)) (av (bR (dY aaD PySem.F.slot_list_extend PySem.F.type_list_extend oB.r (pv 2) (aa (cD rfl (N:=["low","sides","found","face"]) (so:=aq (top 24)) (N':=["second","face"]) (k:=1) (fr:=[3]) rfl rfl ⟨rfl,∅,∅,∅,rfl,∅,∅⟩ (j1 rfl T.z_range (aa ae (aa (aU bN (pv 1) ae) af (se rfl)) (se rfl))) (λ_ _ _ _ _=>(aP (i:=0) (show(["second","face"]:List Str).Nodup by decide +kernel) rfl (.inl rfl))) (λ_ _ _ _ _=>cL)
   (λ_ _ _ _ _=>(bK (aa (pv 1) (aa (pv 0) af (se rfl)) (se rfl))))) af (se rfl)))))
   (av (bR (dY aaD aaI aaJ cm.r (pv 2) (aa (bK (aa (pv 3) af (se rfl))) af (se rfl))))))))
  (av (aW (pv 2))))),?_⟩
  refine(?_:let cO:TS:=_;let cI:TS:=_;let cJ:TS:=_;tSeq cO (tSeq cI cJ) _ _ _);intro cO cI cJ;have sl:=sizeLine_eq;dsimp?[];refine⟨aap _,λm nm=>⟨by lia,by lia,by lia,by lia,?_⟩⟩;rw[show((s':Int)+1 - 1).toNat=s' by lia];refine b9 (src_range (Ok:=λ_=>True)) (λi σ H'=>aB H H'/\∃xs z,H' m=some (.lst xs)/\xs.length<=i*20/\Al (Fa (dH H' m)) ((List.range i).flatMap λi:Nat=>if i<n then (List.range s').map λj:Nat=>[((i:Nat):Int)+1,((j:Nat):Int)+1] else [[((i:Nat):Int)+1]]) xs/\σ=[some (.int (n:Int)),some (.int (s':Int)),some (.ref m),z]) ?_ (λ_ _ _ _ _=>trivial) ?_ ?_
  ·exact⟨ai nm,_,_,aj,aap _,trivial,rfl⟩
  ·intro i x σ H1 H2 hi fR fo;symm;obtain⟨sm,xs,z,hm,lx,al,rfl⟩:=fR;obtain⟨rfl,rfl⟩:=fo;nofun;change tIfS _ _ _ _ [some (.int (n:Int)),some (.int (s':Int)),some (.ref m),some (.int (1+ (i:Int)))] H2;refine mi (λH'=>H2=H'/\i<n) (λH'=>H2=H'/\¬i<n) (λH' e=>?_) (λH' e=>?_) (λY N hY hN=>?_)
   ·obtain⟨rfl,c⟩:=e;dsimp?[qR];refine⟨.inl ⟨rfl,_,bH.of hm⟩,by lia,by lia,by lia,by lia,?_⟩;rw[show((s':Int)+1 - 1).toNat=s' by lia];refine comp_map src_range (λ_ _ _ _ h=>by rw[h.1];exact aB.refl _) (by lia) (λk y H4=>Fa (dH H4 m) [((i:Nat):Int)+1,((k:Nat):Int)+1] y) (λk y H4 H5 s5 h=>h.mono (bO s5)) ?_ ?_
    ·rintro k x w0 H4 H5 Q2 hk s4 ⟨rfl,rfl⟩ kq;dsimp?[];refine⟨∅,λa1 n1=>kq _ _ (ai n1) ⟨a1,rfl,?_⟩⟩;have ne:a1≠m:=λe=>by
      subst e;rw[s4 _ _ hm] at n1;cases n1
     rw[bX ne,aj,Int.add_comm,Int.add_comm 1 (k:Int)]
     rfl
    ·intro zs H4 s4 lz hz D n1 n2;have QV:=s4 _ _ hm;refine⟨_,ai n2 _ _ QV,_,aj,by lia,?_⟩;have s5:aB H2 (upd H4 D (.lst zs)):=s4.trans (ai n2);refine⟨bI (sm.trans s5) nm,_,aj,by rw[aaq,lz];lia,?_,_,rfl⟩;rw[rj,List.range_succ,List.flatMap_append];refine Al.append (al.imp λ_ _ h=>h.mono (bO s5)) ?_;simp only[List.flatMap_cons,List.flatMap_nil,aaN];rw[if_pos c];refine Al.of (by rw[aak,List.length_range];exact lz) λk y g e1 e2=>?_;rw[aal] at e2;symm;obtain⟨k',ek,rfl⟩:=abm.mp e2;nofun;obtain⟨Ia,JR⟩:=abn.mp ek;rw[List.getElem_range] at JR;subst JR;exact(hz _ _ e1).mono (bO (ai n2))
   ·obtain⟨rfl,c⟩:=e;dsimp?[cZ];refine⟨.inl ⟨rfl,_,bH.of hm⟩,∅,λa1 n1=>⟨_,ai n1 _ _ hm,by lia,?_⟩⟩;have s5:=ai (o:=.lst [V.int (1+ (i:Int))]) n1;have ne:a1≠m:=λe=>by
     subst e;rw[hm] at n1;cases n1
    refine⟨bI (sm.trans s5) nm,_,aj,by rw[aaq];simp only[aaB,aaW];lia,?_,_,rfl⟩;rw[rj,List.range_succ,List.flatMap_append];refine Al.append (al.imp λ_ _ h=>h.mono (bO s5)) ?_;simp only[List.flatMap_cons,List.flatMap_nil,aaN];rw[if_neg c];refine .one ⟨a1,rfl,?_⟩;rw[bX ne,aj,Int.add_comm]
    rfl
   ·dsimp?[];exact oF (λc=>hY _ ⟨rfl,by lia⟩) (λc=>hN _ ⟨rfl,by lia⟩)
  ·intro σ H' dG;symm;obtain⟨sm,xs,z,hm,lx,al,rfl⟩:=dG;nofun;dsimp?[];exact kk _ _ _ sm hm (al.imp λ_ _ h=>h.mono bM)
theorem sZ:bj ["most","sides","found","ahead"] ["most","sides"] (aq (top 25)):=⟨rfl,rfl,rfl,∅,rfl,∅,∅⟩
theorem MS (T:Txt K mg aG aI aJ aE aK ag aF):dj P w K mg base (bL P w) 1 "burst_faces" ["most","sides"] ME:=by
 refine T.uj.fE (λ_ _ _ _ _ _=>iz λ_ _=>rfl) λf fd F=>F.gQ sZ (λvs H Q E h=>h.elim) (λcw A outer s H vs Q E hr h=>h.elim)
theorem lN:bj ["part"] ["part"] (aq (top 26)):=⟨rfl,rfl,rfl,∅,rfl,∅,∅⟩
theorem MT (T:Txt K mg aG aI aJ aE aK ag aF):dj P w K mg base (bL P w) 2 "part_faces" ["part"] J0:=by
 have fx:dj P w K mg base (bL P w) 1 "most_faces" ["part"] Ee:=EA T;have wm:dj P w K mg base (bL P w) 1 "dice_faces" ["dice","sides"] GV:=MQ T;have ur:dj P w K mg base (bL P w) 1 "again_faces" ["low","sides"] JZ:=MR T;have uu:dj P w K mg base (bL P w) 1 "burst_faces" ["most","sides"] ME:=MS T;refine T.vN.fE (λ_ _ _ _ _ _=>hZ λ_=>rfl) λf fd F=>F.gQ lN (λvs H Q E h=>?_) (λcw A outer s H vs Q E hr h=>?_)
 ·obtain⟨_,_,rfl,_⟩:=h;rfl
 ·symm;obtain⟨q,p,rfl,hq,g,hc,kk⟩:=h;nofun;have nd:=lN.nd;refine⟨_,(ao (bF (aN bY (aD au (pv 0) ae (λ_ _=>rfl)) aV (aX _)) (av (aW (bK (aa (bK af) af (se rfl)))))
   br)
  (ao (bF (aN bY (aD au (pv 0) ae (λ_ _=>rfl)) aV (aX _)) (av (aW (bw ur (hr.mono ∅) rfl aO.pass (aa (aD au (pv 0) ae (λ_ _=>rfl)) (aa (aD au (pv 0) ae (λ_ _=>rfl)) af (se rfl)) (se rfl)) (he:=se rfl) (hpl:=na rfl))))
   br)
  (ao (bF (aN bY (aD au (pv 0) ae (λ_ _=>rfl)) aV (aX _)) (av (aW (bw uu (hr.mono ∅) rfl aO.pass (aa (bw fx (hr.mono ∅) rfl aO.pass (aa (pv 0) af (se rfl)) (he:=se rfl) (hpl:=na rfl)) (aa (aD au (pv 0) ae (λ_ _=>rfl)) af (se rfl)) (se rfl)) (he:=se rfl) (hpl:=na rfl))))
   br)
  (av (aW (bw wm (hr.mono ∅) rfl aO.pass (aa (aD au (pv 0) (pU jn ae) (λ_ _=>rfl)) (aa (aD au (pv 0) (pU jn ae) (λ_ _=>rfl)) af (se rfl)) (se rfl)) (he:=se rfl) (hpl:=na rfl))))))),?_⟩
  refine(?_:let cO:TS:=_;let cI:TS:=_;let cJ:TS:=_;let d7:TS:=_;tSeq cO (tSeq cI (tSeq cJ d7)) _ _ _);intro cO cI cJ d7;cases p with
  | num n=>
   simp only[mT] at hq;dsimp?[hq];refine⟨aap _,λe0 m0=>⟨∅,λl0 n0=>kk _ _ _ ((ai m0).trans (ai n0)) aj (.one ⟨e0,rfl,ai n0 _ _ aj⟩)⟩⟩
  | fB m s=>
   simp only[mT] at hq;dsimp?[hq,GV];rw[if_neg ∅,if_neg ∅,if_neg ∅];refine⟨_,rfl,_,rfl,m,rfl,s,rfl,g.1,g.2.1,g.2.2,hc,kk⟩
  | hits n m s=>
   simp only[mT] at hq;dsimp?[hq,GV];rw[if_neg ∅,if_neg ∅,if_neg ∅];refine⟨_,rfl,_,rfl,m,rfl,s,rfl,g.1,g.2.1,g.2.2.1,hc,kk⟩
  | again n s=>
   simp only[mT] at hq;dsimp?[hq,JZ];rw[if_neg ∅];refine⟨n,rfl,s,rfl,g.2.1,kk⟩
theorem qj:bj ["part","faces"] ["part","faces"] (aq (top 27)):=⟨rfl,rfl,rfl,∅,rfl,∅,∅⟩
theorem MU (T:Txt K mg aG aI aJ aE aK ag aF):dj P w K mg base (bL P w) 1 "value_of" ["part","faces"] J1:=by
 refine T.zo.fE (λ_ _ _ _ _ _=>iz λ_ _=>rfl) λf fd F=>F.gQ qj (λvs H Q E h=>?_) (λcw A outer s H vs Q E hr h=>?_)
 ·obtain⟨_,_,_,_,rfl,_⟩:=h;rfl
 ·symm;obtain⟨q,p,l,fs,rfl,hq,hl,g,hf,kk⟩:=h;nofun;clear G_;have nd:=qj.nd;refine⟨_,(ao (bF (aN bY (aD au (pv 0) ae (λ_ _=>rfl)) aV (aX _)) (av (aW (aD au (pv 0) ae (λ_ _=>rfl))))
   br)
  (ao (bF (aN bY (aD au (pv 0) ae (λ_ _=>rfl)) aV (aX _)) (av (aW (bf (js (K:=K)) (by rfl) T.z_sum rfl (aa (mZ (ni (K:=K)) (B2 (K:=K) rfl T.z_sorted (pv 1) lq (n1:=rfl)) qP (qQ (aD au (pv 0) ae (λ_ _=>rfl)))) af (se rfl)) (he:=se rfl) (hpl:=na rfl))))
   br)
  (ao (bF (aN bY (aD au (pv 0) ae (λ_ _=>rfl)) aV (aX _)) (av (aW (bf (js (K:=K)) (by rfl) T.z_sum rfl (aa (mZ (ni (K:=K)) (bf (rX (K:=K)) (by rfl) T.z_sorted rfl (aa (pv 1) af (se rfl)) (he:=se rfl) (hpl:=na rfl)) qP (qQ (aD au (pv 0) ae (λ_ _=>rfl)))) af (se rfl)) (he:=se rfl) (hpl:=na rfl))))
   br)
  (ao (bF (aN bY (aD au (pv 0) ae (λ_ _=>rfl)) aV (aX _)) (av (aW (bf bD (by rfl) T.z_len aav (aa (cD rfl (N:=["part","faces"]) (so:=aq (top 27)) (N':=["face","part"]) (k:=1) (fr:=[0]) rfl rfl ⟨rfl,∅,∅,∅,rfl,∅,∅⟩ (bC (K:=K) (pv 1)) (λ_ _ _ _ _=>(aP (i:=0) (show(["face","part"]:List Str).Nodup by decide +kernel) rfl (.inl rfl))) (λ_ _ _ _ _=>(qW (aN xc (pv 0) (aD au (pv 1) ae (λ_ _=>rfl)) (aX _))))
   (λ_ _ _ _ _=>(pv 0))) af (se rfl)) (he:=se rfl) (hpl:=na rfl))))
   br)
  (ao (bF (aN bY (aD au (pv 0) ae (λ_ _=>rfl)) aV (aX _)) (av (aW (aD bg (pv 1) (pU jn ae) (λ_ _=>rfl))))
   br)
  (av (aW (bf (js (K:=K)) (by rfl) T.z_sum rfl (aa (pv 1) af (se rfl)) (he:=se rfl) (hpl:=na rfl))))))))),?_⟩
  refine(?_:let cO:TS:=_;let cI:TS:=_;let cJ:TS:=_;let d7:TS:=_;let qk:TS:=_;let yd:TS:=_;tSeq cO (tSeq cI (tSeq cJ (tSeq d7 (tSeq qk yd)))) _ _ _);intro cO cI cJ d7 qk yd;have sl:=sizeLine_eq;have fl:=(nG g fs hf).2;have ml:=sM g;cases p with
  | num n=>
   simp only[mT] at hq;dsimp?[hq];exact kk _ (aB.refl _)
  | fB m s=>
   simp only[mT] at hq;dsimp?[hq];rw[if_neg ∅,if_neg ∅,if_neg ∅,if_neg ∅,if_neg ∅];exact⟨fs,bH.of hl,kk _ (aB.refl _)⟩
  | hits n m s=>
   simp only[mT] at hq;dsimp?[hq];rw[if_neg ∅,if_neg ∅,if_neg ∅];refine⟨⟨_,bH.of hl⟩,?_⟩;have S:Src (Je K l) (aB H) fs.length (λi x H H3=>H3=H/\(List.map V.int fs)[i]?=some x):=by
    have:=src_list (K:=K) (a:=l) (xs:=List.map V.int fs) (Ok:=aB H) (λH2 s2=>bH.of (s2 _ _ hl))
    rwa [aak] at this
   refine BW fs (λx=>if (n:Int)<=x then some x else none) S (λ_ _ _ _ h=>h.1) (by lia) ?_ ?_
   ·rintro i a x ea ⟨_,hx⟩ Y N y1 n1;rw[aal,ea] at hx;cases hx;dsimp?[hq];refine oF (λc=>y1 _ (if_pos c)) (λc=>n1 (if_neg c))
   ·intro D n1 n2;refine⟨_,aj,?_⟩;have e:(List.map V.int (fs.filterMap λx=>if (n:Int)<=x then some x else none)).length=(fs.filter λx=>decide ((n:Int)<=x)).length:=by
     rw[aak];clear hl hf fl kk S;induction fs with
     | nil=>rfl
     | cons a r ih=>
      by_cases c:(n:Int)<=a
      ·simp [c,ih]
      ·simp [c,ih]
    rw[e];exact kk _ (ai n2)
  | again n s=>
   simp only[mT] at hq;dsimp?[hq];rw[if_neg ∅,if_neg ∅,if_neg ∅,if_neg ∅];obtain⟨_,h⟩:=AL fs hf;rcases h with ⟨x,y,rfl,_⟩ | ⟨x,rfl,_⟩
   ·exact⟨_,hl,_,rfl,kk _ (aB.refl _)⟩
   ·exact⟨_,hl,_,rfl,kk _ (aB.refl _)⟩
theorem iF:bj ["part","faces","product","face"] ["part","faces"] (aq (top 28)):=⟨rfl,rfl,rfl,∅,rfl,∅,∅⟩
theorem MV (T:Txt K mg aG aI aJ aE aK ag aF):dj P w K mg base (bL P w) 1 "sides_product" ["part","faces"] J2:=by
 refine T.qD.fE (λ_ _ _ _ _ _=>iz λ_ _=>rfl) λf fd F=>F.gQ iF (λvs H Q E h=>?_) (λcw A outer s H vs Q E hr h=>?_)
 ·obtain⟨_,_,_,_,rfl,_⟩:=h;rfl
 ·symm;obtain⟨q,p,l,fs,rfl,hq,hl,g,hf,kk⟩:=h;nofun;have nd:=iF.nd;refine⟨_,(ao (aS (i:=2) nd rfl (.inl rfl) ae)
  (ao (cV PassesOwn.never rfl (bC (K:=K) (pv 1)) (aP (i:=3) nd rfl (.inl rfl)) (av (aS (i:=2) nd rfl (.inl rfl) (aU c8 (pv 2) (aD au (pv 0) (pU jn ae) (λ_ _=>rfl))))))
  (av (aW (pv 2))))),?_⟩
  refine(?_:let cO:TS:=_;let cI:TS:=_;let cJ:TS:=_;tSeq cO (tSeq cI cJ) _ _ _);intro cO cI cJ;have fl:=(nG g fs hf).2;have ml:=sM g;have l99:=JU g;have Pd:=(vW g).2;have e0:0<fs.length->lst p=sd p:=λh=>by
   cases p with
   | num n=>rw[abp.mp hf] at h;cases h
   | _=>rfl
  dsimp?[];refine⟨⟨_,bH.of hl⟩,b9 (src_list (Ok:=λH'=>H=H') (λH' e=>by subst e;exact bH.of hl)) (λi σ H'=>H=H'/\∃z,σ=[some (.ref q),some (.ref l),some (.int ((sd p^i:Nat):Int)),z]) ⟨rfl,_,rfl⟩ (λ_ _ _ _ h=>h.1) ?_ ?_⟩
  ·intro i x σ H' yD hi fR fo;symm;obtain⟨rfl,z,rfl⟩:=fR;obtain⟨rfl,ex⟩:=fo;nofun;rw[aak] at hi;have le:=Cd (e:=i) Pd (by lia);have e1:=e0 (by lia);dsimp?[];refine⟨_,hq,_,Ed p,?_⟩;dsimp?[];refine⟨eX (by lia) (by lia),?_,_,rfl⟩;rw[Nat.pow_succ,Int.natCast_mul,e1]
  ·intro σ H' dG;symm;obtain⟨rfl,z,rfl⟩:=dG;nofun;rw[aak];dsimp?[];exact kk
theorem jz:bj ["part"] ["part"] (aq (top 29)):=⟨rfl,rfl,rfl,∅,rfl,∅,∅⟩
theorem MW (T:Txt K mg aG aI aJ aE aK ag aF):dj P w K mg base (bL P w) 3 "part_throws" ["part"] J3:=by
 have wu:dj P w K mg base (bL P w) 2 "part_faces" ["part"] J0:=MT T;have zC:dj P w K mg base (bL P w) 1 "value_of" ["part","faces"] J1:=MU T;have qJ:dj P w K mg base (bL P w) 1 "sides_product" ["part","faces"] J2:=MV T;refine T.uk.fE (λ_ _ _ _ _ _=>hZ λ_=>rfl) λf fd F=>F.gQ jz (λvs H Q E h=>?_) (λcw A outer s H vs Q E hr h=>?_)
 ·obtain⟨_,_,rfl,_⟩:=h;rfl
 ·symm;obtain⟨q,p,rfl,hq,g,hc,kk⟩:=h;nofun;have nd:=jz.nd;refine⟨_,(av (aW (cD rfl (N:=["part"]) (so:=aq (top 29)) (N':=["faces","part"]) (k:=1) (fr:=[0]) rfl rfl ⟨rfl,∅,∅,∅,rfl,∅,∅⟩ (bC (K:=K) (bw wu (hr.mono ∅) rfl aO.pass (aa (pv 0) af (se rfl)) (he:=se rfl) (hpl:=na rfl))) (λ_ _ _ _ _=>(aP (i:=0) (show(["faces","part"]:List Str).Nodup by decide +kernel) rfl (.inl rfl))) (λ_ _ _ _ _=>cL)
   (λ_ _ _ _ _=>(aY (aa (pv 0) (aa (bw zC (hr.mono ∅) rfl aO.pass (aa (pv 1) (aa (pv 0) af (se rfl)) (se rfl)) (he:=se rfl) (hpl:=na rfl)) (aa (bw qJ (hr.mono ∅) rfl aO.pass (aa (pv 1) (aa (pv 0) af (se rfl)) (se rfl)) (he:=se rfl) (hpl:=na rfl)) af (se rfl)) (se rfl)) (se rfl))))))),?_⟩
  have sl:=sizeLine_eq;dsimp?[J0];refine⟨p,hq,g,hc,λl H1 xs s1 hl al=>⟨⟨_,bH.of hl⟩,?_⟩⟩;have lx:=al.length;rw[nF] at lx;refine comp_map (src_list (λH2 s2=>bH.of (s2 _ _ hl))) (λ_ _ _ _ h=>by rw[h.1];exact aB.refl _) (by lia) (λi y H2=>∀f,(GR p)[i]?=some f->TR (λ_=>none) H2 (f,val p f,sd p^f.length) y) (λi y H2 H3 s3 h f e=>(h f e).mono s3) ?_ ?_
  ·rintro i x w0 H2 H3 Q2 hi s2 ⟨rfl,ex⟩ kq;symm;obtain⟨fs,ef,b,rfl,hb⟩:=al.get ex;nofun;have hf:fs∈GR p:=aar ef;have Iq:=s2 _ _ (s1 _ _ hq);have QW:=s2 _ _ hb;dsimp?[J1,J2];refine⟨p,Iq,fs,QW,g,hf,λH4 s4=>⟨p,s4 _ _ Iq,fs,s4 _ _ QW,g,hf,∅,λa H5 s5 na e5=>kq _ _ (s4.trans s5) λf e=>?_⟩⟩;rw[ef] at e;cases e;exact⟨a,b,rfl,e5,s5 _ _ (s4 _ _ QW),rfl⟩
  ·intro ys H2 s2 ly hy D n1 n2;refine kk _ _ _ (s1.trans (s2.trans (ai n2))) aj ?_;refine Al.of (by unfold Fx;rw[aak,nF];lia) λi y r e1 e2=>?_;unfold Fx at e2;rw[aal] at e2;symm;obtain⟨f,ef,rfl⟩:=abm.mp e2;nofun;exact(hy i y e1 f ef).mono (ai n2)
theorem fY:bj ["pool","found","part","behind","longer","faces","value","bottom"] ["pool"] (aq (top 30)):=⟨rfl,rfl,rfl,∅,rfl,∅,∅⟩
theorem MX (T:Txt K mg aG aI aJ aE aK ag aF):dj P w K mg base (bL P w) 5 "throws_by_bottom" ["pool"] J4:=by
 have wx:dj P w K mg base (bL P w) 4 "check_size" ["pool"] JY:=MP T;have uv:dj P w K mg base (bL P w) 3 "part_throws" ["part"] J3:=MW T;refine T.mr.fE (λ_ _ _ _ _ _=>hZ λ_=>rfl) λf fd F=>F.gQ fY (λvs H Q E h=>?_) (λcw A outer s H vs Q E hr h=>?_)
 ·obtain⟨_,_,rfl,_⟩:=h;rfl
 ·symm;obtain⟨a,ps,rfl,hp,g,l4,kk⟩:=h;nofun;clear G_;have nd:=fY.nd;refine⟨_,(ao (bR (bw wx (hr.mono ∅) rfl aO.pass (aa (pv 0) af (se rfl)) (he:=se rfl) (hpl:=na rfl)))
  (ao (aS (i:=1) nd rfl (.inl rfl) (bK (aa (aY (aa (bK af) (aa ae (aa ae af (se rfl)) (se rfl)) (se rfl))) af (se rfl))))
  (ao (cV PassesOwn.never rfl (bC (K:=K) (pv 0)) (aP (i:=2) nd rfl (.inl rfl)) (ao (aS (i:=3) nd rfl (.inl rfl) (bw uv (hr.mono ∅) rfl aO.pass (aa (pv 2) af (se rfl)) (he:=se rfl) (hpl:=na rfl)))
  (ao (aS (i:=4) nd rfl (.inl rfl) (bK af))
  (ao (cV PassesOwn.never rfl (bC (K:=K) (pv 1)) (di (K:=K) (n:=3) rfl (bu (aP (i:=5) nd rfl (.inr rfl)) (bu (aP (i:=6) nd rfl (.inr rfl)) (bu (aP (i:=7) nd rfl (.inr rfl)) dg)))) (av (bR (dY aaD PySem.F.slot_list_extend PySem.F.type_list_extend oB.r (pv 4) (aa (cD rfl (N:=["pool","found","part","behind","longer","faces","value","bottom"]) (so:=aq (top 30)) (N':=["more","faces","value","bottom"]) (k:=1) (fr:=[5,6,7]) rfl rfl ⟨rfl,∅,∅,∅,rfl,∅,∅⟩ (bC (K:=K) (pv 3)) (λ_ _ _ _ _=>(aP (i:=0) (show(["more","faces","value","bottom"]:List Str).Nodup by decide +kernel) rfl (.inl rfl))) (λ_ _ _ _ _=>cL)
   (λ_ _ _ _ _=>(aY (aa (aU De (pv 1) (aD au (pv 0) ae (λ_ _=>rfl))) (aa (aU bN (pv 2) (aD au (pv 0) ae (λ_ _=>rfl))) (aa (aU c8 (pv 3) (aD au (pv 0) ae (λ_ _=>rfl))) af (se rfl)) (se rfl)) (se rfl))))) af (se rfl))))))
  (av (aS (i:=1) nd rfl (.inl rfl) (pv 4)))))))
  (av (aW (pv 1)))))),?_⟩
  refine(?_:let cO:TS:=_;let cI:TS:=_;let cJ:TS:=_;let d7:TS:=_;tSeq cO (tSeq cI (tSeq cJ d7)) _ _ _);intro cO cI cJ d7;have sl:=sizeLine_eq;symm;obtain⟨vs,ha,ap⟩:=hp;nofun;clear G_;have lv:=ap.length;change tSeq _ _ _ _ _;refine dt (λσ' H1=>H=H1/\σ'=[some (.ref a),none,none,none,none,none,none,none]) ?_ (λN hN=>?_)
  case refine_2=>
   dsimp?[JY];exact⟨ps,⟨vs,ha,ap⟩,g,hN _ _ ⟨rfl,rfl⟩⟩
  rintro _ _ ⟨rfl,rfl⟩;change tSeq _ _ _ _ _;refine dt (λσ' H1=>aB H H1/\∃l xs,H1 l=some (.lst xs)/\Al (TR H H1) (fH []) xs/\σ'=[some (.ref a),some (.ref l),none,none,none,none,none,none]) ?_ (λN hN=>?_)
  case refine_2=>
   dsimp?[];refine⟨aap _,λe0 m0=>⟨∅,λt H1 s1 nt e1=>⟨∅,λl n1=>hN _ _ ⟨(ai m0).trans (s1.trans (ai n1)),l,_,aj,.one ⟨t,e0,rfl,ai n1 _ _ e1,ai n1 _ _ (s1 _ _ aj),m0⟩,rfl⟩⟩⟩⟩
  intro _ H1 dG;symm;obtain⟨FA,l,xs,hl,al,rfl⟩:=dG;nofun;clear G_;change tSeq _ _ _ _ _;refine dt (λσ' H2=>aB H H2/\∃l xs,H2 l=some (.lst xs)/\Al (TR H H2) (fH ps) xs/\∃z1 z2 z3 z4 z5 z6,σ'=[some (.ref a),some (.ref l),z1,z2,z3,z4,z5,z6]) ?_ (λN hN=>?_)
  case refine_2=>
   dsimp?[];refine⟨⟨_,bH.of (FA _ _ ha)⟩,b9 (src_list (Ok:=aB H) (λH2 s2=>bH.of (s2 _ _ ha)))
    (λi σ H2=>aB H H2/\∃l xs z1 z2 z3 z4 z5 z6,H2 l=some (.lst xs)/\Al (TR H H2) (fH (ps.take i)) xs/\σ=[some (.ref a),some (.ref l),z1,z2,z3,z4,z5,z6])
    ⟨FA,l,xs,_,_,_,_,_,_,hl,al,rfl⟩ (λ_ _ _ _ h=>h.1) ?_ ?_⟩
   ·clear hl al xs l;intro i x σ H2 H3 hi fR fo;symm;obtain⟨yc,l,xs,z1,z2,z3,z4,z5,z6,hl,al,rfl⟩:=fR;obtain⟨rfl,ex⟩:=fo;obtain⟨p,ep,q,rfl,hq⟩:=ap.get ex;nofun;obtain⟨Hb,Br⟩:=abn.mp ep;have hm:p∈ps:=by rw[<-Br];exact List.getElem_mem Hb
    symm;obtain⟨gp,c1,b1⟩:=o4 g hm;nofun;have lx:=al.length;rw[rh] at lx;have c0:=oY g i;have c2:=oY g (i+1);have es:fH (ps.take (i+1))=Ie (fH (ps.take i)) p:=by rw[take_snoc Hb,Br,sN]
    have ec:mz ((ps.take (i+1)).map cnt)=mz ((ps.take i).map cnt)*cnt p:=by rw[take_snoc Hb,Br,aaw,aan,aaO,iA]
    rw[ec] at c2;change tSeq _ _ _ _ _;refine dt (λσ' H4=>aB H3 H4/\∃b bs,H4 b=some (.lst bs)/\Al (TR (λ_=>none) H4) (Fx p) bs/\σ'=[some (.ref a),some (.ref l),some (.ref q),some (.ref b),z3,z4,z5,z6]) ?_ (λN hN=>?_)
    case refine_2=>
     dsimp?[J3];exact⟨p,yc _ _ hq,gp,c1,λb H4 bs s4 hb ab=>hN _ _ ⟨s4,b,bs,hb,ab,rfl⟩⟩
    intro _ H4 dG;symm;obtain⟨Pf,b,bs,hb,ab,rfl⟩:=dG;nofun;have lb:=ab.length;unfold Fx at lb;rw[aak,nF] at lb;have hl:=Pf _ _ hl;have al:=al.imp λ_ _ h=>TR.mono Pf h;change tSeq _ _ _ _ _;refine dt (λσ' H5=>aB H4 H5/\∃m,H4 m=none/\H5 m=some (.lst [])/\σ'=[some (.ref a),some (.ref l),some (.ref q),some (.ref b),some (.ref m),z4,z5,z6]) ?_ (λN hN=>?_)
    case refine_2=>
     dsimp?[];exact⟨aap _,λm nm=>hN _ _ ⟨ai nm,m,nm,aj,rfl⟩⟩
    intro _ H5 dG;symm;obtain⟨Yc,m,nm,hm5,rfl⟩:=dG;nofun;change tSeq _ _ _ _ _;refine dt (λσ' H6=>aB H4 H6/\∃ys,H6 m=some (.lst ys)/\Al (TR H H6) (Ie (fH (ps.take i)) p) ys/\∃z4 z5 z6,σ'=[some (.ref a),some (.ref l),some (.ref q),some (.ref b),some (.ref m),z4,z5,z6]) ?_ (λN hN=>?_)
    case refine_2=>
     dsimp?[];refine⟨⟨_,bH.of (Yc _ _ hl)⟩,b9 (src_list (Ok:=aB H4) (λH2 s2=>bH.of (s2 _ _ hl)))
      (λj σ H6=>aB H4 H6/\∃ys z4 z5 z6,H6 m=some (.lst ys)/\ys.length=j*cnt p/\Al (TR H (dH H6 m)) (Ie ((fH (ps.take i)).take j) p) ys/\σ=[some (.ref a),some (.ref l),some (.ref q),some (.ref b),some (.ref m),z4,z5,z6])
      ⟨Yc,[],_,_,_,hm5,by simp,trivial,rfl⟩ (λ_ _ _ _ h=>h.1) ?_ ?_⟩
     ·intro j x σ H6 H7 hj fR fo;symm;obtain⟨ED,ys,z4,z5,z6,Ir,ly,ay,rfl⟩:=fR;obtain⟨rfl,ex⟩:=fo;obtain⟨r,er,t,fq,rfl,ht,QX,nfq⟩:=al.get ex;nofun;have Cn:=AR g.1 i (by lia) r (aar er);have ht:=ED _ _ ht;have QX:=ED _ _ QX;have Hc:=ED _ _ hb;have b0:=oZ g i;refine⟨t,_,rfl,gP.of ht,rfl,_,_,rfl,_,_,rfl,_,_,rfl,rfl,?_⟩;dsimp?[qR];refine⟨.inl ⟨rfl,_,bH.of Ir⟩,⟨_,bH.of Hc⟩,?_⟩;refine comp_map (src_list (λH2 s2=>bH.of (s2 _ _ Hc))) (λ_ _ _ _ h=>by rw[h.1];exact aB.refl _) (by lia) (λk y H8=>∀u,(Fx p)[k]?=some u->TR H (dH H8 m) (r.1++u.1,r.2.1+u.2.1,r.2.2*u.2.2) y) (λk y H8 H9 s9 h u e=>(h u e).mono (bO s9)) ?_ ?_
      ·rintro k x w0 H8 H9 Q2 hk s8 ⟨rfl,ex⟩ kq;symm;obtain⟨u,eu,c,d,rfl,hc,hd,_⟩:=ab.get ex;nofun;have Yd:=s8 _ _ (ED _ _ hc);have hd8:=s8 _ _ (ED _ _ hd);have QY:=s8 _ _ QX;have lu:u.1.length<=7:=by
        have hu:=aar eu;unfold Fx at hu;symm;obtain⟨f,hf,rfl⟩:=abo.mp hu;nofun;exact aay (nG gp f hf).2 (sM gp)
       dsimp?[Jq,Yd,hd8,QY];refine⟨by rw[aak,aak];lia,λa1 n1=>?_⟩;have s9:=ai (o:=.lst (List.map V.int r.1++List.map V.int u.1)) n1;simp only[s9 _ _ Yd];refine⟨_,rfl,_,at1,_,rfl,_,rfl,_,at2,_,rfl,eX (by lia) (by lia),∅,λt2 H10 Lk Ye e10=>kq _ _ (s9.trans Lk) λu' Yg=>?_⟩;rw[eu] at Yg;cases Yg;have hm9:=s9 _ _ (s8 _ _ Ir);refine⟨t2,a1,rfl,?_,?_,?_⟩
       ·rw[bX (λe=>by rw[e,hm9] at Ye;cases Ye),e10,Int.natCast_mul]
       ·rw[bX (λe=>by rw[e,s8 _ _ Ir] at n1;cases n1),Lk _ _ aj,aaw]
       ·exact none_of (yc.trans (Pf.trans (ED.trans s8))) n1
      ·intro zs H8 s8 lz hz D n1 n2;have hm8:=s8 _ _ Ir;have jm:j*cnt p+cnt p<=mz ((ps.take i).map cnt)*cnt p:=by
        rw[<-Nat.succ_mul];exact Nat.mul_le_mul_right _ (by lia)
       refine⟨_,ai n2 _ _ hm8,_,aj,by lia,?_⟩;have s9:aB H7 (upd H8 D (.lst zs)):=s8.trans (ai n2);refine⟨bI (ED.trans s9) nm,_,aj,by rw[aaq,ly,lz,lb,Nat.succ_mul],?_,_,rfl⟩;rw[rj,aaG,er];unfold Ie;rw[List.flatMap_append];refine Al.append (ay.imp λ_ _ h=>h.mono (bO s9)) ?_;simp only[Option.toList,List.flatMap_cons,List.flatMap_nil,aaN];refine Al.of (by rw[aak];unfold Fx;rw[aak,nF];lia) λk y v e1 e2=>?_;rw[aal] at e2;symm;obtain⟨u,eu,rfl⟩:=abm.mp e2;nofun;exact(hz _ _ e1 u eu).mono (bO (ai n2))
     ·intro σ H6 dG;symm;obtain⟨ED,ys,z4,z5,z6,Ir,ly,ay,rfl⟩:=dG;nofun;refine hN _ _ ⟨ED,ys,Ir,?_,_,_,_,rfl⟩;rw[lx,<-rh,aaA (aam _)] at ay;exact ay.imp λ_ _ h=>h.mono bM
    intro _ H6 dG;symm;obtain⟨ED,ys,Ir,ay,z4,z5,z6,rfl⟩:=dG;nofun;dsimp?[];rw[es];exact⟨yc.trans (Pf.trans ED),m,_,Ir,ay,rfl,_,rfl⟩
   ·intro σ H2 dG;symm;obtain⟨yc,l,xs,z1,z2,z3,z4,z5,z6,hl,al,rfl⟩:=dG;nofun;rw[lv,aaA (aam _)] at al;exact hN _ _ ⟨yc,l,xs,hl,al,_,_,_,_,_,_,rfl⟩
  intro _ H2 dG;symm;obtain⟨yc,l,xs,hl,al,z1,z2,z3,z4,z5,z6,rfl⟩:=dG;nofun;dsimp?[];exact kk _ _ _ yc hl al
theorem lO:bj ["pool","found","common","part"] ["pool"] (aq (top 31)):=⟨rfl,rfl,rfl,∅,rfl,∅,∅⟩
theorem MY (T:Txt K mg aG aI aJ aE aK ag aF):dj P w K mg base (bL P w) 6 "pool_table" ["pool"] J6:=by
 have mH:dj P w K mg base (bL P w) 5 "throws_by_bottom" ["pool"] J4:=MX T;have eQ:dj P w K mg base (bL P w) 2 "part_bottom" ["part"] vX:=EB T;have zD:dj P w K mg base (bL P w) 4 "table_of" ["rows"] (JT aJ):=MM T;refine T.vO.fE (λ_ _ _ _ _ _=>hZ λ_=>rfl) λf fd F=>F.gQ lO (λvs H Q E h=>?_) (λcw A outer s H vs Q E hr h=>?_)
 ·obtain⟨_,_,rfl,_⟩:=h;rfl
 ·symm;obtain⟨a,ps,rfl,hp,gl,l4,kk⟩:=h;nofun;clear G_;have nd:=lO.nd;refine⟨_,(ao (aS (i:=1) nd rfl (.inl rfl) (bw mH (hr.mono ∅) rfl aO.pass (aa (pv 0) af (se rfl)) (he:=se rfl) (hpl:=na rfl)))
  (ao (aS (i:=2) nd rfl (.inr rfl) ae)
  (ao (cV PassesOwn.never rfl (bC (K:=K) (pv 0)) (aP (i:=3) nd rfl (.inl rfl)) (av (aS (i:=2) nd rfl (.inr rfl) (aU c8 (pv 2) (bw eQ (hr.mono ∅) rfl aO.pass (aa (pv 3) af (se rfl)) (he:=se rfl) (hpl:=na rfl))))))
  (av (aW (bw zD (hr.mono ∅) rfl aO.pass (aa (cD rfl (N:=["pool","found","common","part"]) (so:=aq (top 31)) (N':=["faces","value","bottom","common"]) (k:=3) (fr:=[2]) rfl rfl ⟨rfl,∅,∅,∅,rfl,∅,∅⟩ (bC (K:=K) (pv 1)) (λ_ _ _ _ _=>(di (K:=K) (n:=3) rfl (bu (aP (i:=0) (show(["faces","value","bottom","common"]:List Str).Nodup by decide +kernel) rfl (.inl rfl)) (bu (aP (i:=1) (show(["faces","value","bottom","common"]:List Str).Nodup by decide +kernel) rfl (.inl rfl)) (bu (aP (i:=2) (show(["faces","value","bottom","common"]:List Str).Nodup by decide +kernel) rfl (.inl rfl)) dg))))) (λ_ _ _ _ _=>cL)
   (λ_ _ _ _ _=>(aY (aa (pv 1) (aa (aU cC (pv 3) (pv 2)) af (se rfl)) (se rfl))))) af (se rfl)) (he:=se rfl) (hpl:=na rfl))))))),?_⟩
  refine(?_:let cO:TS:=_;let cI:TS:=_;let cJ:TS:=_;let d7:TS:=_;tSeq cO (tSeq cI (tSeq cJ d7)) _ _ _);intro cO cI cJ d7;have sl:=sizeLine_eq;have gm:=Ef gl;symm;obtain⟨vs,ha,ap⟩:=id hp;nofun;clear G_;have lv:=ap.length;change tSeq _ _ _ _ _;refine dt (λσ' H1=>aB H H1/\∃l xs,H1 l=some (.lst xs)/\Al (TR H H1) (fH ps) xs/\σ'=[some (.ref a),some (.ref l),none,none]) ?_ (λN hN=>?_)
  case refine_2=>
   dsimp?[J4];exact⟨ps,hp,gm,l4,λl H1 xs s1 hl al=>hN _ _ ⟨s1,l,xs,hl,al,rfl⟩⟩
  intro _ H1 dG;symm;obtain⟨FA,l,xs,hl,al,rfl⟩:=dG;nofun;clear G_;have lx:=al.length;rw[rh] at lx;change tSeq _ _ _ _ _;refine dt (λσ' H2=>H1=H2/\σ'=[some (.ref a),some (.ref l),some (.int 1),none]) ?_ (λN hN=>?_)
  case refine_2=>
   dsimp?[];exact hN _ _ ⟨rfl,rfl⟩
  rintro _ _ ⟨rfl,rfl⟩;change tSeq _ _ _ _ _;refine dt (λσ' H2=>H1=H2/\∃z,σ'=[some (.ref a),some (.ref l),some (.int (mz (ps.map bot):Int)),z]) ?_ (λN hN=>?_)
  case refine_2=>
   dsimp?[];refine⟨⟨_,bH.of (FA _ _ ha)⟩,b9 (src_list (Ok:=λH'=>H1=H') (λH' e=>by subst e;exact bH.of (FA _ _ ha))) (λi σ H'=>H1=H'/\∃z,σ=[some (.ref a),some (.ref l),some (.int (mz ((ps.take i).map bot):Int)),z]) ⟨rfl,_,rfl⟩ (λ_ _ _ _ h=>h.1) ?_ ?_⟩
   ·intro i x σ H' yD hi fR fo;symm;obtain⟨rfl,z,rfl⟩:=fR;obtain⟨rfl,ex⟩:=fo;obtain⟨p,ep,q,rfl,hq⟩:=ap.get ex;nofun;obtain⟨Hb,Br⟩:=abn.mp ep;symm;obtain⟨gp,c1,b1⟩:=o4 gm (aar ep);nofun;have b0:=oZ gm i;dsimp?[vX];refine⟨p,FA _ _ hq,gp,b1,eX (by lia) (by lia),?_,_,rfl⟩;rw[take_snoc Hb,Br,aaw,aan,aaO,iA,Int.natCast_mul]
   ·intro σ H' dG;symm;obtain⟨rfl,z,rfl⟩:=dG;nofun;rw[lv,aaA (aam _)];exact hN _ _ ⟨rfl,_,rfl⟩
  intro _ _ dG;symm;obtain⟨rfl,z,rfl⟩:=dG;have c0:=gm.2.1;have bW:=gm.2.2;obtain⟨up0,pln,l64,_⟩:=AS ps gl;nofun;clear G_;have dv:∀r∈fH ps,1<=r.2.2/\r.2.2<=mz (ps.map bot):=λr Cn=>by
   have:=AR gm.1 ps.length (aam _) r (by rw[aaA (aam _)];exact Cn)
   rw[aaA (aam _)] at this;exact this.2
  have nb:=J5 gl;have rwt:GW (mz (ps.map bot)) (fH ps)=Fy ps:=rfl;generalize hW:mz (ps.map bot)=W at *;dsimp?[JT];refine⟨⟨_,bH.of hl⟩,?_⟩;refine BX (K:=K) (src_list (λH2 s2=>bH.of (s2 _ _ hl))) (λi u v b' H2=>∃r,(fH ps)[i]?=some r/\v=.int r.2.1/\b'=.int (r.2.2:Int)) ?_ (by lia)
   (λi y H2=>∀r,(fH ps)[i]?=some r->Rep H2 (qd (r.2.1,((W / r.2.2:Nat):Int))) y) (λi y H2 H3 s3 h r e=>(h r e).mono s3) ?_ ?_
  ·rintro i x H2 H3 hi s2 ⟨rfl,ex⟩;symm;obtain⟨r,er,t,q,rfl,ht,hq,nq⟩:=al.get ex;nofun;exact⟨aB.refl _,t,_,_,_,rfl,gP.of (s2 _ _ ht),r,er,rfl,rfl⟩
  ·intro i u v b' H2 Q2 hi s2 p8_ kq;symm;obtain⟨r,er,rfl,rfl⟩:=p8_;nofun;have hb:=dv r (aar er);dsimp?[];refine⟨dR.of (n:=64) (by lia) (Bt.of 1000000 (by lia) (by lia)),∅,λt H3 s3 nt e3=>kq _ _ s3 λr' Co=>?_⟩;rw[er] at Co;cases Co;rw[<-Int.natCast_ediv] at e3;exact eN.mpr ⟨t,rfl,e3⟩
  ·intro ys H2 s2 ly hy D n1 n2;have rp:Rep (upd H2 D (.lst ys)) (ju (Fy ps)) (.ref D):=by
    rw[<-rwt];refine aQ.mpr ⟨D,ys,rfl,aj,bq.of ?_ λi dd v e1 e2=>?_⟩
    ·unfold GW;rw[aak,aak,ly,lx,<-rh]
    ·unfold GW at e1;rw[aal,aal] at e1;symm;obtain⟨p,ep,rfl⟩:=abm.mp e1;obtain⟨r,er,rfl⟩:=abm.mp ep;nofun;exact(hy i v e2 r er).mono (ai n2)
   have sD:aB H (upd H2 D (.lst ys)):=FA.trans (s2.trans (ai n2));exact⟨Fy ps,rp,pln,λx hx=>(up0 x hx).2,l64,λb=>absurd b nb,λ_ p H' s' np r'=>kk p H' (sD.trans s') (none_of sD np) r'⟩
theorem iG:bj ["several","common","one"] ["several"] (aq (top 9)):=⟨rfl,rfl,rfl,∅,rfl,∅,∅⟩
theorem MZ (T:Txt K mg aG aI aJ aE aK ag aF):dj P w K mg base (bL P w) 2 "common_bottom" ["several"] Kf:=by
 have fG:dj P w K mg base (bL P w) 1 "common_divisor" ["one","other"] Ec:=Ip T;refine T.qC.fE (λ_ _ _ _ _ _=>hZ λ_=>rfl) λf fd F=>F.gQ iG (λvs H Q E h=>?_) (λcw A outer s H vs Q E hr h=>?_)
 ·obtain⟨_,_,_,rfl,_⟩:=h;rfl
 ·symm;obtain⟨v,ps,W,rfl,rp,W0,W1,hz,good,k⟩:=h;nofun;have nd:=iG.nd;refine⟨_,(ao (aS (i:=1) nd rfl (.inl rfl) ae)
  (ao (cV PassesOwn.never rfl (bC (K:=K) (pv 0)) (aP (i:=2) nd rfl (.inl rfl)) (av (aS (i:=1) nd rfl (.inl rfl) (aU c8 (aU cC (pv 1) (bw fG (hr.mono ∅) rfl aO.pass (aa (pv 1) (aa (aD au (pv 2) ae (λ_ _=>rfl)) af (se rfl)) (se rfl)) (he:=se rfl) (hpl:=na rfl))) (aD au (pv 2) ae (λ_ _=>rfl))))))
  (av (aW (pv 1))))),?_⟩
  refine(?_:let cO:TS:=_;let cI:TS:=_;let cJ:TS:=_;tSeq cO (tSeq cI cJ) _ _ _);intro cO cI cJ;symm;obtain⟨l,xs,rfl,hl,rl⟩:=aQ.mp rp;nofun;have len:=rl.length;rw[aak] at len;dsimp?[];refine⟨⟨_,bH.of hl⟩,b9 (src_list (Ok:=λH2=>H2=H) (λH2 e=>by rw[e];exact bH.of hl)) (λi σ H2=>H2=H/\∃B z,σ=[some (.ref l),some (.int B),z]/\0<B/\(∀M,(∀p∈ps,p.2∣M)->B∣M)/\∀p∈ps.take i,p.2∣B)
   ⟨rfl,1,none,rfl,∅,λ_ _=>Int.one_dvd _,by simp⟩ (λ_ _ _ _ h=>h.1) ?_ ?_⟩
  ·intro i x σ H2 H3 hi fR fo;symm;obtain⟨rfl,B,z,rfl,B0,bB,dv⟩:=fR;obtain⟨rfl,hx⟩:=fo;obtain⟨d,ed,rd⟩:=rl.get hx;nofun;symm;obtain⟨p,ep,rfl⟩:=aal ..▸ed |>abm.mp;obtain⟨a,rfl,ha⟩:=eN.mp rd;obtain⟨p0,bp⟩:=good p (aar ep);nofun;have g0:=Nm.HJ (a:=B) (show p.2≠0 by lia);have p1:p.2<=1000000:=Int.le_trans (Int.le_of_dvd W0 bp) W1;have gb:Bt 20 (Nm.g B p.2):=Bt.of 1000000 (by lia) (by have:=Nm.Ma (a:=B) p0;lia);dsimp?[Ec,ha];have e:B / Nm.g B p.2*p.2=B* (p.2 / Nm.g B p.2):=Nm.uR B p.2;refine⟨dR.of g0 gb,oG (by lia) (by lia),?_,?_,?_⟩
   ·exact Int.mul_pos (Int.ediv_pos_of_pos_of_dvd B0 (Nm.Qj _ _) (Nm.vC _ _)) p0
   ·exact λM hM=>Es (bB M hM) (hM p (aar ep))
   ·intro q hq;rw[aaG,ep] at hq;rcases List.mem_append.mp hq with hq | hq
    ·rw[e];exact Int.dvd_trans (dv q hq) (Int.dvd_mul_right _ _)
    ·have:q=p:=by simpa using hq
     subst this;exact Int.dvd_mul_left _ _
  ·intro σ H2 dG;symm;obtain⟨rfl,B,z,rfl,B0,bB,dv⟩:=dG;nofun;dsimp?[];exact k B B0 bB (λp hp=>dv p (by rw[aaA (by lia)];exact hp))
theorem nK:bj ["table"] ["table"] (aq (top 13)):=⟨rfl,rfl,rfl,∅,rfl,∅,∅⟩
theorem Kk (T:Txt K mg aG aI aJ aE aK ag aF):dj P w K mg base (bL P w) 3 "bottom_of" ["table"] Er:=by
 have qK:dj P w K mg base (bL P w) 2 "common_bottom" ["several"] Kf:=MZ T;refine T.xK.fE (λ_ _ _ _ _ _=>hZ λ_=>rfl) λf fd F=>F.gQ nK (λvs H Q E h=>?_) (λcw A outer s H vs Q E hr h=>?_)
 ·obtain⟨_,_,_,rfl,_⟩:=h;rfl
 ·symm;obtain⟨v,rows,W,rfl,rp,⟨W0,W1,hz,good⟩,k⟩:=h;nofun;have nd:=nK.nd;refine⟨_,(av (aW (bw qK (hr.mono ∅) rfl aO.pass (aa (cD rfl (N:=["table"]) (so:=aq (top 13)) (N':=["value","part"]) (k:=2) (fr:=[]) rfl rfl ⟨rfl,∅,∅,∅,rfl,∅,∅⟩ (bC (K:=K) (pv 0)) (λ_ _ _ _ _=>(di (K:=K) (n:=2) rfl (bu (aP (i:=0) (show(["value","part"]:List Str).Nodup by decide +kernel) rfl (.inl rfl)) (bu (aP (i:=1) (show(["value","part"]:List Str).Nodup by decide +kernel) rfl (.inl rfl)) dg)))) (λ_ _ _ _ _=>cL)
   (λ_ _ _ _ _=>(pv 1))) af (se rfl)) (he:=se rfl) (hpl:=na rfl)))),?_⟩
  symm;obtain⟨l,xs,rfl,hl,rl⟩:=aQ.mp rp;nofun;have len:=rl.length;rw[aak] at len;dsimp?[];refine⟨⟨_,bH.of hl⟩,?_⟩;refine iu (src_list (λH2 s2=>s2.seq (bH.of hl))) (λi a b H3=>∀r,rows[i]?=some r->Rep H3 (qd r.2) b) ?_ (by rw[sizeLine_eq];lia) (λi y H2=>∀r,rows[i]?=some r->Rep H2 (qd r.2) y) (λi y H2 H3 s3 h r e=>(h r e).mono s3) ?_ ?_
  ·rintro i x H2 H3 hi s2 ⟨rfl,hx⟩;symm;obtain⟨d,ed,rd⟩:=rl.get hx;rw[aal] at ed;obtain⟨r,er,rfl⟩:=abm.mp ed;obtain⟨p,q,rfl,hp,hq⟩:=nu.mp rd;nofun;refine⟨aB.refl _,p,_,_,rfl,gP.of (s2 _ _ hp),λr' Co=>?_⟩;rw[er] at Co;cases Co;exact eN.mpr ⟨q,rfl,s2 _ _ hq⟩
  ·intro i a b H3 Q2 hi s3 it kq;dsimp?[];exact kq _ _ (aB.refl _) it
  ·intro ys H2 s2 ly hy D n1 n2;dsimp?[Kf];have rp2:Rep (upd H2 D (.lst ys)) (ju (rows.map (·.2))) (.ref D):=by
    refine aQ.mpr ⟨D,ys,rfl,aj,bq.of ?_ λi dd v e1 e2=>?_⟩
    ·rw[aak,aak,ly,len]
    ·rw[aal,aal] at e1;symm;obtain⟨p,ep,rfl⟩:=abm.mp e1;obtain⟨r,er,rfl⟩:=abm.mp ep;nofun;exact(hy i v e2 r er).mono (ai n2)
   refine⟨_,rp2,W,W0,W1,by rw[aak];exact hz,λp hp=>?_,λB B0 bB dv=>?_⟩
   ·symm;obtain⟨r,Cn,rfl⟩:=abo.mp hp;nofun;exact⟨(good r Cn).1,(good r Cn).2.1⟩
   ·refine k B _ (s2.trans (ai n2)) ⟨B0,λr Cn=>dv _ (abo.mpr ⟨r,Cn,rfl⟩),λM hM=>bB M λp hp=>by obtain⟨r,Cn,rfl⟩:=abo.mp hp;exact hM r Cn⟩
theorem tf:bj ["table","bottom"] ["table","bottom"] (aq (top 14)):=⟨rfl,rfl,rfl,∅,rfl,∅,∅⟩
theorem M0 (T:Txt K mg aG aI aJ aE aK ag aF):dj P w K mg base (bL P w) 1 "weighed" ["table","bottom"] Kg:=by
 refine T.B8.fE (λ_ _ _ _ _ _=>iz λ_ _=>rfl) λf fd F=>F.gQ tf (λvs H Q E h=>?_) (λcw A outer s H vs Q E hr h=>?_)
 ·obtain⟨_,_,_,_,rfl,_⟩:=h;rfl
 ·symm;obtain⟨v,rows,W,B,rfl,rp,gr,gb,k⟩:=h;have b1:=Kh gr gb;obtain⟨W0,W1,hz,good⟩:=id gr;obtain⟨B0,dv,bB⟩:=gb;nofun;have nd:=tf.nd;refine⟨_,(av (aW (cD rfl (N:=["table","bottom"]) (so:=aq (top 14)) (N':=["value","part","bottom"]) (k:=2) (fr:=[1]) rfl rfl ⟨rfl,∅,∅,∅,rfl,∅,∅⟩ (bC (K:=K) (pv 0)) (λ_ _ _ _ _=>(di (K:=K) (n:=2) rfl (bu (aP (i:=0) (show(["value","part","bottom"]:List Str).Nodup by decide +kernel) rfl (.inl rfl)) (bu (aP (i:=1) (show(["value","part","bottom"]:List Str).Nodup by decide +kernel) rfl (.inl rfl)) dg)))) (λ_ _ _ _ _=>cL)
   (λ_ _ _ _ _=>(aY (aa (pv 0) (aa (aU c8 (aD au (pv 1) ae (λ_ _=>rfl)) (aU cC (pv 2) (aD au (pv 1) ae (λ_ _=>rfl)))) af (se rfl)) (se rfl))))))),?_⟩
  symm;obtain⟨l,xs,rfl,hl,rl⟩:=aQ.mp rp;nofun;have len:=rl.length;rw[aak] at len;dsimp?[];refine⟨⟨_,bH.of hl⟩,?_⟩;refine iu (src_list (λH2 s2=>s2.seq (bH.of hl))) (λi a b H3=>∃r,rows[i]?=some r/\a=.int r.1/\Rep H3 (qd r.2) b) ?_ (by rw[sizeLine_eq];lia) (λi y H2=>∀r,rows[i]?=some r->Rep H2 (qd (r.1,r.2.1* (B / r.2.2))) y) (λi y H2 H3 s3 h r e=>(h r e).mono s3) ?_ ?_
  ·rintro i x H2 H3 hi s2 ⟨rfl,hx⟩;symm;obtain⟨d,ed,rd⟩:=rl.get hx;rw[aal] at ed;obtain⟨r,er,rfl⟩:=abm.mp ed;obtain⟨p,q,rfl,hp,hq⟩:=nu.mp rd;nofun;exact⟨aB.refl _,p,_,_,rfl,gP.of (s2 _ _ hp),r,er,rfl,eN.mpr ⟨q,rfl,s2 _ _ hq⟩⟩
  ·intro i a b H3 Q2 hi s3 fo kq;symm;obtain⟨r,er,rfl,rb⟩:=fo;obtain⟨q,rfl,hq⟩:=eN.mp rb;obtain⟨g3,g2,g0,g1⟩:=good r (aar er);nofun;have r1:r.2.2<=1000000:=Int.le_trans (Int.le_of_dvd W0 g2) W1;dsimp?[hq];refine⟨dR.of (n:=20) g3 (Bt.of 1000000 (by lia) (by lia)),eX (by lia) (by lia),∅,λp4 H4 s4 _ e4=>kq _ _ s4 λr' Co=>?_⟩;rw[er] at Co;cases Co;exact eN.mpr ⟨p4,rfl,e4⟩
  ·intro ys H2 s2 ly hy D n1 n2;refine k _ _ (s2.trans (ai n2)) n1 (aQ.mpr ⟨D,ys,rfl,aj,bq.of ?_ λi dd v e1 e2=>?_⟩)
   ·rw[aak,ly];unfold Nm.weigh;rw[aak,len]
   ·unfold Nm.weigh at e1;rw[aal,aal] at e1;symm;obtain⟨p,ep,rfl⟩:=abm.mp e1;obtain⟨r,er,rfl⟩:=abm.mp ep;nofun;exact(hy i v e2 r er).mono (ai n2)
theorem ql:bj ["rows"] ["rows"] (aq (top 34)):=⟨rfl,rfl,rfl,∅,rfl,∅,∅⟩
theorem M3 (T:Txt K mg aG aI aJ aE aK ag aF):dj P w K mg base (bL P w) 1 "own_rows" ["rows"] zw:=by
 refine T.zp.fE (λ_ _ _ _ _ _=>hZ λ_=>rfl) λf fd F=>F.gQ ql (λvs H Q E h=>?_) (λcw A outer s H vs Q E hr h=>?_)
 ·obtain⟨_,_,rfl,_⟩:=h;rfl
 ·symm;obtain⟨v,rs,rfl,rp,lr,ll,kk⟩:=h;nofun;have nd:=ql.nd;refine⟨_,(av (aW (cD rfl (N:=["rows"]) (so:=aq (top 34)) (N':=["row"]) (k:=1) (fr:=[]) rfl rfl ⟨rfl,∅,∅,∅,rfl,∅,∅⟩ (bC (K:=K) (pv 0)) (λ_ _ _ _ _=>(aP (i:=0) (show(["row"]:List Str).Nodup by decide +kernel) rfl (.inl rfl))) (λ_ _ _ _ _=>cL)
   (λ_ _ _ _ _=>(aY (aa (aD au (pv 0) ae (λ_ _=>rfl)) (aa (aD au (pv 0) ae (λ_ _=>rfl)) (aa (cf (dP (K:=K)) (by rfl) T.z_list rfl (aa (aD au (pv 0) ae (λ_ _=>rfl)) af (se rfl)) (he:=se rfl) (hpl:=na rfl)) (aa (aD au (pv 0) ae (λ_ _=>rfl)) af (se rfl)) (se rfl)) (se rfl)) (se rfl))))))),?_⟩
  have sl:=sizeLine_eq;symm;obtain⟨l,xs,rfl,hl,rl⟩:=aQ.mp rp;nofun;have len:=rl.length;rw[aak] at len;dsimp?[];refine⟨⟨_,bH.of hl⟩,?_⟩;refine comp_map (src_list (K:=K) (λH' s'=>bH.of (s' _ _ hl))) (λ_ _ _ _ h=>by rw[h.1];exact aB.refl _) (by lia) (λi y H4=>∀r,rs[i]?=some r->Rep H4 (u9 r) y) (λi y H4 H5 s5 h r e=>(h r e).mono s5) ?_ ?_
  ·rintro i x w0 H4 H5 Q2 hi s4 ⟨rfl,ex⟩ kq;symm;obtain⟨d,ed,rd⟩:=rl.get ex;rw[aal] at ed;obtain⟨r,er,rfl⟩:=abm.mp ed;obtain⟨p,a,b,c,d,rfl,hp,ra,rb,rc,QZ⟩:=dm.mp (rd.mono s4);obtain⟨c',Yh,rfl,hc,qo⟩:=aQ.mp rc;nofun;dsimp?[hp];refine⟨_,.inl (bH.of hc),λm nm=>⟨_,ai nm _ _ hp,_,rfl,∅,λt H6 s6 nt e6=>kq _ _ ((ai nm).trans s6) λr' Co=>?_⟩⟩;rw[er] at Co;cases Co;have sm:=(ai (o:=.lst Yh) nm).trans s6;exact dm.mpr ⟨t,_,_,_,_,rfl,e6,ra.mono sm,rb.mono sm,aQ.mpr ⟨m,Yh,rfl,s6 _ _ aj,qo.mono sm⟩,QZ.mono sm⟩
  ·intro ys H5 s5 ly hy D n1 n2;refine kk D _ (s5.trans (ai n2)) (aQ.mpr ⟨D,ys,rfl,aj,bq.of (by rw[aak];lia) λi dd u e1 e2=>?_⟩);rw[aal] at e1;symm;obtain⟨r,er,rfl⟩:=abm.mp e1;nofun;exact(hy i u e2 r er).mono (ai n2)
theorem qp:bj ["what"] ["what"] (aq (top 35)):=⟨rfl,rfl,rfl,∅,rfl,∅,∅⟩
theorem M4 (T:Txt K mg aG aI aJ aE aK ag aF):dj P w K mg base (bL P w) 2 "own_what" ["what"] J8:=by
 have tq:dj P w K mg base (bL P w) 1 "own_rows" ["rows"] zw:=M3 T;refine T.zq.fE (λ_ _ _ _ _ _=>hZ λ_=>rfl) λf fd F=>F.gQ qp (λvs H Q E h=>?_) (λcw A outer s H vs Q E hr h=>?_)
 ·obtain⟨_,_,_,rfl,_⟩:=h;rfl
 ·symm;obtain⟨v,x,cs,rfl,rp,gd,kk⟩:=h;nofun;have nd:=qp.nd;refine⟨_,(ao (bF (aN bY (aD au (pv 0) ae (λ_ _=>rfl)) aV (aX _)) (av (aW (aY (aa aV (aa (cf (dP (K:=K)) (by rfl) T.z_list rfl (aa (aD au (pv 0) ae (λ_ _=>rfl)) af (se rfl)) (he:=se rfl) (hpl:=na rfl)) (aa (aD au (pv 0) ae (λ_ _=>rfl)) (aa (bw tq (hr.mono ∅) rfl aO.pass (aa (aD au (pv 0) ae (λ_ _=>rfl)) af (se rfl)) (he:=se rfl) (hpl:=na rfl)) af (se rfl)) (se rfl)) (se rfl)) (se rfl)))))
   br)
  (ao (bF (aN bY (aD au (pv 0) ae (λ_ _=>rfl)) aV (aX _)) (av (aW (aY (aa aV (aa (aD au (pv 0) ae (λ_ _=>rfl)) (aa (bw tq (hr.mono ∅) rfl aO.pass (aa (aD au (pv 0) ae (λ_ _=>rfl)) af (se rfl)) (he:=se rfl) (hpl:=na rfl)) af (se rfl)) (se rfl)) (se rfl)))))
   br)
  (av (aW (pv 0))))),?_⟩
  refine(?_:let cO:TS:=_;let cI:TS:=_;let cJ:TS:=_;tSeq cO (tSeq cI cJ) _ _ _);intro cO cI cJ;have sl:=sizeLine_eq;cases x with
  | ask c k a b=>
   symm;obtain⟨p,x1,x2,x3,x4,x5,rfl,hp,r1,r2,r3,r4,r5⟩:=o7.mp (show Rep H (.tup _) v from rp);rw[aH] at r1;subst r1;nofun;dsimp?[zw,hp];rw[if_neg ∅,if_neg ∅];exact kk _ _ (aB.refl _) rp
  | fin t b=>
   symm;obtain⟨p,x1,x2,rfl,hp,r1,r2⟩:=bo.mp (show Rep H (.tup _) v from rp);rw[aH] at r1;subst r1;nofun;dsimp?[zw,hp];rw[if_neg ∅,if_neg ∅];exact kk _ _ (aB.refl _) rp
  | score c=>
   symm;obtain⟨p,x1,x2,rfl,hp,r1,r2⟩:=bo.mp (show Rep H (.tup _) v from rp);rw[aH] at r1;subst r1;nofun;dsimp?[zw,hp];rw[if_neg ∅,if_neg ∅];exact kk _ _ (aB.refl _) rp
  | pick w rs=>
   symm;obtain⟨p,x1,x2,x3,rfl,hp,r1,r2,r3⟩:=cP.mp (show Rep H (.tup _) v from rp);rw[aH] at r1;subst r1;nofun;dsimp?[zw,hp];rw[if_neg ∅];obtain⟨g1,g2⟩:=gd;refine⟨_,r3,by rw[aak];exact g1,λr Cn=>?_,λm H1 s1 rm=>⟨∅,λt H2 s2 nt e2=>kk _ _ (s1.trans s2) ?_⟩⟩
   ·symm;obtain⟨r0,h0,rfl⟩:=abo.mp Cn;nofun
    show(r0.ds.map xT).length<=100
    rw[aak];exact(g2 r0 h0).1
   ·exact cP.mpr ⟨t,_,_,_,rfl,e2,aH.mpr rfl,r2.mono (s1.trans s2),rm.mono s2⟩
  | fH fP t b rs=>
   symm;obtain⟨p,x1,x2,x3,x4,rfl,hp,r1,r2,r3,r4⟩:=dm.mp (show Rep H (.tup _) v from rp);rw[aH] at r1;subst r1;nofun;dsimp?[zw,hp];symm;obtain⟨g1,g2,g3⟩:=gd;obtain⟨l2,M5,rfl,K9,rl2⟩:=aQ.mp r2;nofun;refine⟨_,rfl,_,.inl (bH.of K9),λm nm=>?_⟩;have sm:=ai (o:=.lst M5) nm;refine⟨_,sm _ _ hp,_,rfl,_,sm _ _ hp,_,rfl,_,r4.mono sm,by rw[aak];exact g2,λr Cn=>?_,λn H1 s1 rn=>⟨∅,λt H2 s2 nt e2=>kk _ _ (sm.trans (s1.trans s2)) ?_⟩⟩
   ·symm;obtain⟨r0,h0,rfl⟩:=abo.mp Cn;nofun
    show(r0.2.2.1.map xT).length<=100
    rw[aak];exact(g3 r0 h0).1
   ·have yE:=sm.trans (s1.trans s2);exact dm.mpr ⟨t,_,_,_,_,rfl,e2,aH.mpr rfl,aQ.mpr ⟨m,M5,rfl,s2 _ _ (s1 _ _ aj),rl2.mono yE⟩,r3.mono yE,rn.mono s2⟩
theorem lP:bj ["self","counts","spot","number"] ["self","counts","spot","number"] (aq (inClass (top 36) 1)):=⟨rfl,rfl,rfl,∅,rfl,∅,∅⟩
theorem Kl (T:Txt K mg aG aI aJ aE aK ag aF):cG P w K mg base (bL P w) 1 ag "put" ["self","counts","spot","number"] (vd ag):=by
 refine T.uo.fE (λ_ _ _ _ _ _=>zu λ_ _ _ _=>rfl) λf fd F=>F.gQ lP (λvs H Q E h=>?_) (λcw A outer s H vs Q E hr h=>?_)
 ·obtain⟨_,_,_,_,_,_,rfl,_⟩:=h;rfl
 ·symm;obtain⟨c,l,i,k,g,ns,rfl,⟨dx,sp,mo,wh,tb,us,ft,h1,h2,h3,h4,h5,h6⟩,hl,il,ln,kk⟩:=h;nofun;have nd:=lP.nd;refine⟨_,(av (jk (bf (oy rfl) (by rfl) T.z_min rfl (aa (pv 3) (aa (aD bg (cH (pv 0) rfl) (pv 2) (λ_ _=>rfl)) af (se rfl)) (se rfl)) (he:=se rfl) (hpl:=na rfl)) (jj (pv 1) (pv 2) set_list))),?_⟩;have h1:=bM _ _ h1;have h3:=bM _ _ h3;dsimp?[fj];refine⟨_,_,_,h1,T.aR,T.na_Course_mosts,_,Ii,_,rfl,_,h3,_,G1 il,_,rfl,_,hl,_,gW (by rw[aak];lia),?_⟩;rw[<-List.map_set];have e:(if most g.cs i<k then most g.cs i else k)=min k (most g.cs i):=by lia
  rw[e];exact kk
theorem nM:bj ["self","counts","deed","value","spot","other"] ["self","counts","deed","value"] (aq (inClass (top 36) 2)):=⟨rfl,rfl,rfl,∅,rfl,∅,∅⟩
theorem M6 (T:Txt K mg aG aI aJ aE aK ag aF):cG P w K mg base (bL P w) 2 ag "do" ["self","counts","deed","value"] (J9 ag):=by
 have gu:cG P w K mg base (bL P w) 1 ag "put" ["self","counts","spot","number"] (vd ag):=Kl T;refine T.vU.fE (λ_ _ _ _ _ _=>zu λ_ _ _ _=>rfl) λf fd F=>F.gQ nM (λvs H Q E h=>?_) (λcw A outer s H vs Q E hr h=>?_)
 ·obtain⟨_,_,_,_,_,_,_,rfl,_⟩:=h;rfl
 ·symm;obtain⟨c,l,dv,v,g,ns,d,rfl,co,hl,rd,gd,ln,kk⟩:=h;nofun;have nd:=nM.nd;refine⟨_,(ao (aS (i:=4) nd rfl (.inl rfl) (cR (dr hr) (cH (pv 0) rfl) (aD au (pv 2) ae (λ_ _=>rfl)) (λ_ _=>rfl)))
  (av (bF (aN bY (aD au (pv 2) ae (λ_ _=>rfl)) aV (aX _)) (av (bR (dU gu T.aR (pv 0) (hr.mono ∅) aO.pass (aa (pv 1) (aa (pv 4) (aa (aD au (pv 2) ae (λ_ _=>rfl)) af (se rfl)) (se rfl)) (se rfl)) (hst:=se rfl) (hpl:=na rfl))))
   (av (bF (aN bY (aD au (pv 2) ae (λ_ _=>rfl)) aV (aX _)) (av (bR (dU gu T.aR (pv 0) (hr.mono ∅) aO.pass (aa (pv 1) (aa (pv 4) (aa (aU bN (aD bg (pv 1) (pv 4) (λ_ _=>rfl)) (aD au (pv 2) ae (λ_ _=>rfl))) af (se rfl)) (se rfl)) (se rfl)) (hst:=se rfl) (hpl:=na rfl))))
   (av (bF (aN bY (aD au (pv 2) ae (λ_ _=>rfl)) aV (aX _)) (av (bR (dU gu T.aR (pv 0) (hr.mono ∅) aO.pass (aa (pv 1) (aa (pv 4) (aa (aU bN (aD bg (pv 1) (pv 4) (λ_ _=>rfl)) (pv 3)) af (se rfl)) (se rfl)) (se rfl)) (hst:=se rfl) (hpl:=na rfl))))
   (ao (aS (i:=5) nd rfl (.inl rfl) (cR (dr hr) (cH (pv 0) rfl) (aD au (pv 2) ae (λ_ _=>rfl)) (λ_ _=>rfl)))
  (ao (bR (dU gu T.aR (pv 0) (hr.mono ∅) aO.pass (aa (pv 1) (aa (pv 5) (aa (aU bN (aD bg (pv 1) (pv 5) (λ_ _=>rfl)) (aD bg (pv 1) (pv 4) (λ_ _=>rfl))) af (se rfl)) (se rfl)) (se rfl)) (hst:=se rfl) (hpl:=na rfl)))
  (av (jk ae (jj (pv 1) (pv 4) set_list)))))))))))),?_⟩
  symm;obtain⟨dx,sp,mo,wh,tb,us,ft,h1,h2,h3,h4,h5,h6⟩:=id co;nofun;have h1:=bM _ _ h1;have h2:=bM _ _ h2;have lp:∀{a b c d e:V},List.lookup (aaj "put") [(aaj "spots",a),(aaj "mosts",b),(aaj "first",c),(aaj "whats",d),(aaj "tables",e)]=none:=fc (by decide +kernel) (by decide +kernel) (by decide +kernel) (by decide +kernel) (by decide +kernel);cases d with
  | set n k=>
   symm;obtain⟨p,x1,x2,x3,rfl,hp,r1,r2,r3⟩:=cP.mp (show Rep (dH H l) (.tup _) dv from rd);rw[aH] at r1 r2;rw[bb] at r3;subst r1 r2 r3;nofun;have hp:=bM _ _ hp;have sl:=bZ (cs:=g.cs) gd;change tSeq _ _ _ _ _;refine dt (λσ' H'=>H=H'/\σ'=[some (.ref c),some (.ref l),some (.ref p),some (.int v),some (.int ((bU g.cs n:Nat):Int)),none]) ?_ (λN hN=>by dsimp?[fj,hp];exact⟨_,_,_,h1,T.aR,T.na_Course_spots,_,lF,_,rfl,_,iV h2 gd,hN _ _ ⟨rfl,rfl⟩⟩);rintro _ _ ⟨rfl,rfl⟩;refine dE (λY N k=>by dsimp?[hp];first | exact k | (rw[if_pos (by decide +kernel)];exact k)) ?_;dsimp?[fj,dq,vd,hp];exact⟨_,_,h1,lp,_,rfl,_,co,_,hl,sl,ln,kk⟩
  | plus n k=>
   symm;obtain⟨p,x1,x2,x3,rfl,hp,r1,r2,r3⟩:=cP.mp (show Rep (dH H l) (.tup _) dv from rd);rw[aH] at r1 r2;rw[bb] at r3;subst r1 r2 r3;nofun;have hp:=bM _ _ hp;have sl:=bZ (cs:=g.cs) gd;change tSeq _ _ _ _ _;refine dt (λσ' H'=>H=H'/\σ'=[some (.ref c),some (.ref l),some (.ref p),some (.int v),some (.int ((bU g.cs n:Nat):Int)),none]) ?_ (λN hN=>by dsimp?[fj,hp];exact⟨_,_,_,h1,T.aR,T.na_Course_spots,_,lF,_,rfl,_,iV h2 gd,hN _ _ ⟨rfl,rfl⟩⟩);rintro _ _ ⟨rfl,rfl⟩;refine c6 (λY N k=>by dsimp?[hp];first | exact k | (rw[if_neg (by decide +kernel)];exact k)) (dE (λY N k=>by dsimp?[hp];first | exact k | (rw[if_pos (by decide +kernel)];exact k)) ?_);dsimp?[fj,dq,vd,hp];exact⟨_,_,h1,lp,_,hl,_,du (by lia),_,rfl,_,rfl,_,co,_,hl,sl,ln,kk⟩
  | face n=>
   symm;obtain⟨p,x1,x2,rfl,hp,r1,r2⟩:=bo.mp (show Rep (dH H l) (.tup _) dv from rd);rw[aH] at r1 r2;subst r1 r2;nofun;have hp:=bM _ _ hp;have sl:=bZ (cs:=g.cs) gd;change tSeq _ _ _ _ _;refine dt (λσ' H'=>H=H'/\σ'=[some (.ref c),some (.ref l),some (.ref p),some (.int v),some (.int ((bU g.cs n:Nat):Int)),none]) ?_ (λN hN=>by dsimp?[fj,hp];exact⟨_,_,_,h1,T.aR,T.na_Course_spots,_,lF,_,rfl,_,iV h2 gd,hN _ _ ⟨rfl,rfl⟩⟩);rintro _ _ ⟨rfl,rfl⟩;refine c6 (λY N k=>by dsimp?[hp];first | exact k | (rw[if_neg (by decide +kernel)];exact k)) (c6 (λY N k=>by dsimp?[hp];first | exact k | (rw[if_neg (by decide +kernel)];exact k)) (dE (λY N k=>by dsimp?[hp];first | exact k | (rw[if_pos (by decide +kernel)];exact k)) ?_));dsimp?[fj,dq,vd,hp];exact⟨_,_,h1,lp,_,hl,_,du (by lia),_,rfl,_,rfl,_,co,_,hl,sl,ln,kk⟩
  | move n m=>
   symm;obtain⟨p,x1,x2,x3,rfl,hp,r1,r2,r3⟩:=cP.mp (show Rep (dH H l) (.tup _) dv from rd);rw[aH] at r1 r2 r3;subst r1 r2 r3;nofun;have hp:=bM _ _ hp;have sl:=bZ (cs:=g.cs) gd.1;have CD:=bZ (cs:=g.cs) gd.2;change tSeq _ _ _ _ _;refine dt (λσ' H'=>H=H'/\σ'=[some (.ref c),some (.ref l),some (.ref p),some (.int v),some (.int ((bU g.cs n:Nat):Int)),none]) ?_ (λN hN=>by dsimp?[fj,hp];exact⟨_,_,_,h1,T.aR,T.na_Course_spots,_,lF,_,rfl,_,iV h2 gd.1,hN _ _ ⟨rfl,rfl⟩⟩);rintro _ _ ⟨rfl,rfl⟩;refine c6 (λY N k=>by dsimp?[hp];first | exact k | (rw[if_neg (by decide +kernel)];exact k)) (c6 (λY N k=>by dsimp?[hp];first | exact k | (rw[if_neg (by decide +kernel)];exact k)) (c6 (λY N k=>by dsimp?[hp];first | exact k | (rw[if_neg (by decide +kernel)];exact k)) ?_));dsimp?[fj,dq,vd,hp];refine⟨_,_,_,h1,T.aR,T.na_Course_spots,_,lF,_,rfl,_,iV h2 gd.2,_,_,h1,lp,_,_,rfl,hl,_,du (by lia),_,hl,_,du (by lia),_,rfl,_,rfl,_,rfl,_,co,_,hl,CD,ln,_,aj,_,gW (by rw[aak,gE];lia),?_⟩;rw[vp,<-List.map_set];exact kk
theorem i7:bj ["self","name","counts","what"] ["self","name","counts"] (aq (inClass (top 36) 3)):=⟨rfl,rfl,rfl,∅,rfl,∅,∅⟩
theorem EE (T:Txt K mg aG aI aJ aE aK ag aF):cG P w K mg base (bL P w) 1 ag "asked" ["self","name","counts"] (xV ag):=by
 refine T.qE.fE (λ_ _ _ _ _ _=>xR λ_ _ _=>rfl) λf fd F=>F.gQ i7 (λvs H Q E h=>?_) (λcw A outer s H vs Q E hr h=>?_)
 ·obtain⟨_,_,_,_,_,_,_,rfl,_⟩:=h;rfl
 ·symm;obtain⟨c,nm,l,g,ns,fu,gF,rfl,co,gg,hl,ln,ak,kk⟩:=h;nofun;clear G_;have nd:=i7.nd;refine⟨_,(ao (aS (i:=3) nd rfl (.inl rfl) (cR (dr hr) (cH (pv 0) rfl) (pv 1) (λ_ _=>rfl)))
  (ao (jl PassesOwn.never (aN bY (aD au (pv 3) ae (λ_ _=>rfl)) aV (aX _)) (ao (aS (i:=1) nd rfl (.inl rfl) (mX (aN xc (aD bg (pv 2) (cR (dr hr) (cH (pv 0) rfl) (aD au (pv 3) ae (λ_ _=>rfl)) (λ_ _=>rfl)) (λ_ _=>rfl)) (aD au (pv 3) ae (λ_ _=>rfl)) (aX _)) (aD au (pv 3) ae (λ_ _=>rfl)) (aD au (pv 3) ae (λ_ _=>rfl))))
  (av (aS (i:=3) nd rfl (.inl rfl) (cR (dr hr) (cH (pv 0) rfl) (pv 1) (λ_ _=>rfl))))))
  (av (aW (aY (aa (pv 1) (aa (pv 2) af (se rfl)) (se rfl))))))),?_⟩
  refine(?_:let cO:TS:=_;let cI:TS:=_;let cJ:TS:=_;tSeq cO (tSeq cI cJ) _ _ _);intro cO cI cJ;symm;obtain⟨dx,sp,mo,wh,tb,us,ft,h1,h2,h3,h4,h5,h6⟩:=id co;nofun;clear G_;dsimp?[fj];cases fu with
  | zero=>cases ak
  | succ fu=>
   rcases h5.val (n:=nm) with ⟨x,u,lk,vl,rx⟩ | ⟨lk,vl⟩
   ·refine⟨_,_,_,h1,T.aR,T.na_Course_whats,_,AV,_,rfl,_,.inl ⟨_,Sum.inr nm,.inl h4,rfl,vl.symm⟩,?_⟩;refine AW (λm σ H'=>H=H'/\∃nm x u,eF g ns (m+1) nm=some gF/\look g.ps nm=some x/\Rep H (qH x) u/\σ=[some (V.ref c),some (V.str nm),some (V.ref l),some u]) (m:=fu) ⟨rfl,nm,x,u,ak,lk,rx,rfl⟩ ?_;clear ak lk rx vl;intro m σ H' He;symm;obtain⟨rfl,nm,x,u,ak,lk,rx,rfl⟩:=He;nofun;have gx:=gg.wt _ (fk lk);rw[eF,lk] at ak;have fin:∀{p:Addr} {xs:List V} {y:Str},u=.ref p->H p=some (.tup (.str y::xs))->y≠aaj "ask"->nm=gF->∃b:Bool,(∀Q:Bool->Hp->Prop,Q b H->tTest (tOp rEq (tOp rIxTH (tVar 3) (tC (V.int 0))) (tC (V.str "ask"))) [some (V.ref c),some (V.str nm),some (V.ref l),some u] H Q)/\b=false:=by
     intro p xs y e hp ny _;refine⟨false,λQ q=>?_,rfl⟩;subst e;dsimp?[hp];rw[decide_eq_false ny];exact q
    cases x with
    | ask c' k a b=>
     symm;obtain⟨p,x1,x2,x3,x4,x5,rfl,hp,r1,r2,r3,r4,r5⟩:=o7.mp (show Rep H (.tup _) u from rx);rw[aH] at r1 r2 r4 r5;rw[bb] at r3;subst r1 r2 r3 r4 r5;nofun;refine⟨true,λQ q=>?_,?_⟩
     ·dsimp?[hp];rw[decide_eq_true trivial];exact q
     ·rw[if_pos rfl];have hs:=bZ (cs:=g.cs) gx;have step:∀y,eF g ns m y=some gF->∃m' x u,m'<m/\eF g ns (m'+1) y=some gF/\look g.ps y=some x/\Rep H (qH x) u/\lZ H wh (.str y) (some u):=by
       intro y hy;cases m with
       | zero=>cases hy
       | succ m'=>
        rcases h5.val (n:=y) with ⟨x,u,tZ,vl,rx'⟩ | ⟨tZ,vl⟩
        ·exact⟨m',x,u,aaZ _,hy,tZ,rx',.inl ⟨_,Sum.inr y,.inl h4,rfl,vl.symm⟩⟩
        ·rw[eF,tZ] at hy;cases hy
      have ak:(if k<=ns.getD (bU g.cs c') 0 then eF g ns m a else eF g ns m b)=some gF:=ak;dsimp?[fj,hp];refine⟨_,_,_,h1,T.aR,T.na_Course_spots,_,lF,_,rfl,_,iV h2 gx,_,_,rfl,hl,_,du (by lia),_,rfl,oF (λc1=>?_) (λc1=>?_)⟩
      ·rw[if_pos c1] at ak;symm;obtain⟨m',x,u,l1,l2,l3,l4,l5⟩:=step a ak;nofun;refine⟨_,rfl,_,_,_,h1,T.aR,T.na_Course_whats,_,AV,_,rfl,_,l5,?_⟩;exact⟨m',l1,a,l2,x,l3,u,l4,rfl,rfl⟩
      ·rw[if_neg c1] at ak;symm;obtain⟨m',x,u,l1,l2,l3,l4,l5⟩:=step b ak;nofun;refine⟨_,rfl,_,_,_,h1,T.aR,T.na_Course_whats,_,AV,_,rfl,_,l5,?_⟩;exact⟨m',l1,b,l2,x,l3,u,l4,rfl,rfl⟩
    | fin t b=>
     symm;obtain⟨p,x1,x2,rfl,hp,r1,r2⟩:=bo.mp (show Rep H (.tup _) u from rx);rw[aH] at r1;subst r1;have e:nm=gF:=by injection ak
     obtain⟨b',k1,rfl⟩:=fin rfl hp ∅ e;nofun;refine⟨false,k1,?_⟩;rw[if_neg ∅];dsimp?[];exact⟨∅,λp H2 s2 np e2=>kk p H2 s2 np (by rw[<-e];exact e2)⟩
    | score c'=>
     symm;obtain⟨p,x1,x2,rfl,hp,r1,r2⟩:=bo.mp (show Rep H (.tup _) u from rx);rw[aH] at r1;subst r1;have e:nm=gF:=by injection ak
     obtain⟨b',k1,rfl⟩:=fin rfl hp ∅ e;nofun;refine⟨false,k1,?_⟩;rw[if_neg ∅];dsimp?[];exact⟨∅,λp H2 s2 np e2=>kk p H2 s2 np (by rw[<-e];exact e2)⟩
    | pick w' rs=>
     symm;obtain⟨p,x1,x2,x3,rfl,hp,r1,r2,r3⟩:=cP.mp (show Rep H (.tup _) u from rx);rw[aH] at r1;subst r1;have e:nm=gF:=by injection ak
     obtain⟨b',k1,rfl⟩:=fin rfl hp ∅ e;nofun;refine⟨false,k1,?_⟩;rw[if_neg ∅];dsimp?[];exact⟨∅,λp H2 s2 np e2=>kk p H2 s2 np (by rw[<-e];exact e2)⟩
    | fH fP t b rs=>
     symm;obtain⟨p,x1,x2,x3,x4,rfl,hp,r1,r2,r3,r4⟩:=dm.mp (show Rep H (.tup _) u from rx);rw[aH] at r1;subst r1;have e:nm=gF:=by injection ak
     obtain⟨b',k1,rfl⟩:=fin rfl hp ∅ e;nofun;refine⟨false,k1,?_⟩;rw[if_neg ∅];dsimp?[];exact⟨∅,λp H2 s2 np e2=>kk p H2 s2 np (by rw[<-e];exact e2)⟩
   ·rw[eF,lk] at ak;cases ak
theorem i8:bj ["self","when","counts","number"] ["self","when","counts"] (aq (inClass (top 36) 9)):=⟨rfl,rfl,rfl,∅,rfl,∅,∅⟩
theorem Km (T:Txt K mg aG aI aJ aE aK ag aF):cG P w K mg base (bL P w) 1 ag "holds" ["self","when","counts"] (Eh ag):=by
 refine T.qF.fE (λ_ _ _ _ _ _=>xR λ_ _ _=>rfl) λf fd F=>F.gQ i8 (λvs H Q E h=>?_) (λcw A outer s H vs Q E hr h=>?_)
 ·obtain⟨_,_,_,_,_,_,rfl,_⟩:=h;rfl
 ·symm;obtain⟨c,v,l,g,ns,wh',rfl,co,rv,hl,ln,kk⟩:=h;nofun;have nd:=i8.nd;refine⟨_,(ao (bF (aN CV (pv 1) yJ (aX _)) (av (aW lq))
   br)
  (ao (bF (yK (uP (dr hr) (aD au (pv 1) ae (λ_ _=>rfl)) (cH (pv 0) rfl))) (av (aW lq))
   br)
  (ao (aS (i:=3) nd rfl (.inl rfl) (aD bg (pv 2) (cR (dr hr) (cH (pv 0) rfl) (aD au (pv 1) ae (λ_ _=>rfl)) (λ_ _=>rfl)) (λ_ _=>rfl)))
  (av (aW (mX (aN bY (aD au (pv 1) ae (λ_ _=>rfl)) aV (aX _)) (iQ xc (pv 3) (aD au (pv 1) ae (λ_ _=>rfl)) (aX _)) (iQ mY (pv 3) (aD au (pv 1) ae (λ_ _=>rfl)) (aX _)))))))),?_⟩
  refine(?_:let cO:TS:=_;let cI:TS:=_;let cJ:TS:=_;let d7:TS:=_;tSeq cO (tSeq cI (tSeq cJ d7)) _ _ _);intro cO cI cJ d7;symm;obtain⟨dx,sp,mo,wh,tb,us,ft,h1,h2,h3,h4,h5,h6⟩:=id co;nofun;cases wh' with
  | none=>
   have e:v=.dI:=by rw[Ig,Rep] at rv;exact rv
   subst e;dsimp?[];exact kk
  | some x=>
   symm;obtain⟨a,b,k⟩:=x;obtain⟨p,x1,x2,x3,rfl,hp,r1,r2,r3⟩:=cP.mp (show Rep H (.tup _) v from rv);rw[aH] at r1 r2;rw[bb] at r3;subst r1 r2 r3;nofun;dsimp?[fj,hp];rw[if_neg (by intro z;cases z)];by_cases hn:a∈g.cs.map (·.1)
   ·have hs:=bZ hn;refine⟨_,_,_,h1,T.aR,T.na_Course_spots,_,lF,_,rfl,_,iV h2 hn,?_⟩;rw[if_neg (by simp)];refine⟨_,_,_,h1,T.aR,T.na_Course_spots,_,lF,_,rfl,_,iV h2 hn,_,_,rfl,hl,_,du (by lia),?_⟩;have kk:Q (.bl (if a∈g.cs.map (·.1) then (if b=aaj "from" then decide (k<=ns.getD (bU g.cs a) 0) else decide (ns.getD (bU g.cs a) 0<k)) else false)) H:=kk;rw[if_pos hn] at kk;by_cases c1:b=aaj "from"
    ·rw[if_pos c1] at kk ⊢;exact⟨_,rfl,kk⟩
    ·rw[if_neg c1] at kk ⊢;exact⟨_,rfl,kk⟩
   ·refine⟨_,_,_,h1,T.aR,T.na_Course_spots,_,lF,_,rfl,_,.inl ⟨_,Sum.inr a,.inl h2,rfl,rfl⟩,?_⟩;rw[sO hn,if_pos (by rfl)];have kk:Q (.bl (if a∈g.cs.map (·.1) then (if b=aaj "from" then decide (k<=ns.getD (bU g.cs a) 0) else decide (ns.getD (bU g.cs a) 0<k)) else false)) H:=kk;rw[if_neg hn] at kk;exact kk
theorem i9:bj ["self"] ["self"] (aq (inClass (top 36) 4)):=⟨rfl,rfl,rfl,∅,rfl,∅,∅⟩
theorem Kn (T:Txt K mg aG aI aJ aE aK ag aF):cG P w K mg base (bL P w) 2 ag "start" ["self"] (Eg ag):=by
 have gH:cG P w K mg base (bL P w) 1 ag "asked" ["self","name","counts"] (xV ag):=EE T;refine T.qG.fE (λ_ _ _ _ _ _=>hZ λ_=>rfl) λf fd F=>F.gQ i9 (λvs H Q E h=>?_) (λcw A outer s H vs Q E hr h=>?_)
 ·obtain⟨_,_,_,_,_,rfl,_⟩:=h;rfl
 ·symm;obtain⟨c,g,fu,ft,gF,rfl,co,gg,hf,ak,kk⟩:=h;nofun;have nd:=i9.nd;refine⟨_,(av (aW (dU gH T.aR (pv 0) (hr.mono (by decide)) aO.pass (aa (cH (pv 0) rfl) (aa (aU Jr (bK (aa ae af (se rfl))) (bf bD (by rfl) T.z_len aav (aa (cH (pv 0) rfl) af (se rfl)) (he:=se rfl) (hpl:=na rfl))) af (se rfl)) (se rfl)) (hst:=se rfl) (hpl:=na rfl)))),?_⟩;have sl:=sizeLine_eq;have lc:=gg.lc;symm;obtain⟨dx,sp,mo,wh,tb,us,EF,h1,h2,h3,h4,h5,h6⟩:=id co;nofun;rw[h6] at hf;cases hf;have lp:∀{a b c d e:V},List.lookup (aaj "asked") [(aaj "spots",a),(aaj "mosts",b),(aaj "first",c),(aaj "whats",d),(aaj "tables",e)]=none:=fc (by decide +kernel) (by decide +kernel) (by decide +kernel) (by decide +kernel) (by decide +kernel);dsimp?[fj,dq,xV,L1];refine⟨_,_,h1,lp,_,_,_,h1,T.aR,T.na_Course_first,_,MF,by decide,λp np=>?_⟩;have Pg:=ai (o:=.lst [V.int 0]) np;refine⟨_,_,_,Pg _ _ h1,T.aR,T.na_Course_mosts,_,Ii,_,rfl,_,Pg _ _ h3,_,aj,by simp only[aak];lia,by simp only[aak];lia,by simp only[aak,aaB,aaW];lia,λl nl=>?_⟩;have el:(abu (((List.map V.int (List.map (λx=>x.snd) g.cs)).length:Nat):Int).toNat [V.int 0]).flatten=List.map V.int (abu g.cs.length 0):=by rw[Ej,aaS,aak,aak]
  rw[el];have LN:=Pg.trans (ai (o:=.lst (List.map V.int (abu g.cs.length 0))) nl);exact⟨_,rfl,g,co.mono LN,gg,_,aj,by simp,fu,gF,ak,λa H' s' na e'=>kk a l H' (LN.trans s') (none_of LN na) (none_of Pg nl) e' (s' _ _ aj)⟩
theorem gY:bj ["self","state"] ["self","state"] (aq (inClass (top 36) 5)):=⟨rfl,rfl,rfl,∅,rfl,∅,∅⟩
theorem tu (T:Txt K mg aG aI aJ aE aK ag aF):cG P w K mg base (bL P w) 1 ag "what_at" ["self","state"] (iZ ag):=by
 refine T.nB.fE (λ_ _ _ _ _ _=>iz λ_ _=>rfl) λf fd F=>F.gQ gY (λvs H Q E h=>?_) (λcw A outer s H vs Q E hr h=>?_)
 ·obtain⟨_,_,_,_,_,_,_,rfl,_⟩:=h;rfl
 ·symm;obtain⟨c,v,H0,g,nm,ns,x,rfl,s0,co,⟨a,l,rfl,ha,hl⟩,lk,kk⟩:=h;nofun;have nd:=gY.nd;refine⟨_,(av (aW (cR (dr hr) (cH (pv 0) rfl) (aD au (pv 1) ae (λ_ _=>rfl)) (λ_ _=>rfl)))),?_⟩;symm;obtain⟨dx,sp,mo,wh,tb,us,EF,h1,h2,h3,h4,h5,h6⟩:=id co;nofun;dsimp?[fj,ha];rcases h5.val (n:=nm) with ⟨x',u,tZ,vl,rx⟩ | ⟨tZ,vl⟩
  ·rw[lk] at tZ;cases tZ;exact⟨_,_,_,s0 _ _ h1,T.aR,T.na_Course_whats,_,AV,_,rfl,_,.inl ⟨_,Sum.inr nm,.inl (s0 _ _ h4),rfl,vl.symm⟩,kk u rx⟩
  ·rw[lk] at tZ;cases tZ
theorem iH:bj ["self","state","row","value","counts","deed"] ["self","state","row","value"] (aq (inClass (top 36) 6)):=⟨rfl,rfl,rfl,∅,rfl,∅,∅⟩
theorem EG (T:Txt K mg aG aI aJ aE aK ag aF):cG P w K mg base (bL P w) 3 ag "by_row" ["self","state","row","value"] (xW ag):=by
 have ye:cG P w K mg base (bL P w) 2 ag "do" ["self","counts","deed","value"] (J9 ag):=M6 T;have gH:cG P w K mg base (bL P w) 1 ag "asked" ["self","name","counts"] (xV ag):=EE T;refine T.oX.fE (λ_ _ _ _ _ _=>zu λ_ _ _ _=>rfl) λf fd F=>F.gQ iH (λvs H Q E h=>?_) (λcw A outer s H vs Q E hr h=>?_)
 ·obtain⟨_,_,_,_,_,_,_,_,_,_,_,_,_,rfl,_⟩:=h;rfl
 ·symm;obtain⟨c,sv,rv,v,g,nm,ns,a,b,ds,to,fu,gF,rfl,co,gg,⟨sa,l,rfl,uU,hl⟩,rr,gd,ld,ln,ak,kk⟩:=h;nofun;have nd:=iH.nd;refine⟨_,(ao (aS (i:=4) nd rfl (.inl rfl) (cf (dP (K:=K)) (by rfl) T.z_list rfl (aa (aD au (pv 1) ae (λ_ _=>rfl)) af (se rfl)) (he:=se rfl) (hpl:=na rfl)))
  (ao (cV PassesOwn.never rfl (bC (K:=K) (aD au (pv 2) ae (λ_ _=>rfl))) (aP (i:=5) nd rfl (.inl rfl)) (av (bR (dU ye T.aR (pv 0) (hr.mono ∅) aO.pass (aa (pv 4) (aa (pv 5) (aa (pv 3) af (se rfl)) (se rfl)) (se rfl)) (hst:=se rfl) (hpl:=na rfl)))))
  (av (aW (dU gH T.aR (pv 0) (hr.mono ∅) aO.pass (aa (aD au (pv 2) ae (λ_ _=>rfl)) (aa (pv 4) af (se rfl)) (se rfl)) (hst:=se rfl) (hpl:=na rfl)))))),?_⟩
  refine(?_:let cO:TS:=_;let cI:TS:=_;let cJ:TS:=_;tSeq cO (tSeq cI cJ) _ _ _);intro cO cI cJ;have sl:=sizeLine_eq;have lc:=gg.lc;symm;obtain⟨dx,sp,mo,wh,tb,us,EF,h1,h2,h3,h4,h5,h6⟩:=id co;obtain⟨rp,x1,x2,x3,x4,rfl,Yi,r1,r2,r3,r4⟩:=dm.mp (show Rep H (.tup _) rv from rr);rw[aH] at r4;subst r4;obtain⟨dl,pY,rfl,M7,M8⟩:=aQ.mp r3;nofun;have lp:∀{a b c d e:V},List.lookup (aaj "asked") [(aaj "spots",a),(aaj "mosts",b),(aaj "first",c),(aaj "whats",d),(aaj "tables",e)]=none:=fc (by decide +kernel) (by decide +kernel) (by decide +kernel) (by decide +kernel) (by decide +kernel);have CG:∀{a b c d e:V},List.lookup (aaj "do") [(aaj "spots",a),(aaj "mosts",b),(aaj "first",c),(aaj "whats",d),(aaj "tables",e)]=none:=fc (by decide +kernel) (by decide +kernel) (by decide +kernel) (by decide +kernel) (by decide +kernel);change tSeq _ _ _ _ _;refine aZ (λN=>∀H1 m,H m=none->aB H H1->dH H1 m=H->H1 m=some (.lst (List.map V.int ns))->N [some (.ref c),some (.ref sa),some (.ref rp),some (.int v),some (.ref m),none] H1) ?_ (λN hN=>?_)
  case refine_2=>
   dsimp?[uU];exact⟨_,.inl (bH.of hl),λm nm=>hN _ m nm (ai nm) (by rw[nH,Ei nm]) aj⟩
  rintro H1 m nm0 s1 hh hm;have M9:=M8.length;rw[aak] at M9;change tSeq _ _ _ _ _;refine aZ (λN=>∀H2,dH H2 m=H->H2 m=some (.lst (List.map V.int (ds.foldl (fV g.cs v) ns)))->∀z,N [some (.ref c),some (.ref sa),some (.ref rp),some (.int v),some (.ref m),z] H2) ?_ (λN hN=>?_)
  case refine_2=>
   dsimp?[s1 _ _ Yi];refine⟨⟨_,bH.of (s1 _ _ M7)⟩,b9 (src_list (Ok:=λH'=>dH H' m=H) (λH' e=>bH.of (sQ e _ _ M7))) (λi σ H'=>dH H' m=H/\H' m=some (.lst (List.map V.int ((ds.take i).foldl (fV g.cs v) ns)))/\∃z,σ=[some (.ref c),some (.ref sa),some (.ref rp),some (.int v),some (.ref m),z]) ⟨hh,by rw[List.take_zero];exact hm,_,rfl⟩ (λ_ _ _ _ h=>h.1) ?_ ?_⟩
   ·intro i x σ H3 H2 hi fR fo;symm;obtain⟨e2,wQ,z,rfl⟩:=fR;obtain⟨rfl,ex⟩:=fo;obtain⟨dd,ed,rd⟩:=M8.get ex;rw[aal] at ed;obtain⟨d,e0,rfl⟩:=abm.mp ed;nofun;have s2:=sQ e2;dsimp?[dq,J9];refine⟨_,_,s2 _ _ h1,CG,g,by rw[e2];exact co,_,wQ,d,by rw[e2];exact rd,gd d (aar e0),by rw[iB];exact ln,by rw[nH];exact e2,?_,_,rfl⟩;rw[aj,aaG,e0,Option.toList_some,aa4]
    rfl
   ·intro σ H2 dG;symm;obtain⟨e2,wQ,z,rfl⟩:=dG;nofun;rw[<-M9,aaA (aam _)] at wQ;exact hN _ e2 wQ _
  rintro H2 e2 wQ z;have s2:=sQ e2;have lns:(ds.foldl (fV g.cs v) ns).length=g.cs.length:=by rw[iB];exact ln
  dsimp?[dq,xV,s2 _ _ Yi];exact⟨_,_,s2 _ _ h1,lp,_,rfl,_,rfl,g,co.mono s2,gg,_,wQ,lns,fu,gF,ak,λa H' s' na e'=>kk a m H' (s2.trans s') (none_of s2 na) nm0 e' (s' _ _ wQ)⟩
theorem fZ:bj ["self","state","what"] ["self","state"] (aq (inClass (top 36) 10)):=⟨rfl,rfl,rfl,∅,rfl,∅,∅⟩
theorem EH (T:Txt K mg aG aI aJ aE aK ag aF):cG P w K mg base (bL P w) 2 ag "open_rows" ["self","state"] (xX ag):=by
 have b7:cG P w K mg base (bL P w) 1 ag "what_at" ["self","state"] (iZ ag):=tu T;have tw:cG P w K mg base (bL P w) 1 ag "holds" ["self","when","counts"] (Eh ag):=Km T;refine T.kj.fE (λ_ _ _ _ _ _=>iz λ_ _=>rfl) λf fd F=>F.gQ fZ (λvs H Q E h=>?_) (λcw A outer s H vs Q E hr h=>?_)
 ·obtain⟨_,_,_,_,_,_,_,rfl,_⟩:=h;rfl
 ·symm;obtain⟨c,v,H0,g,nm,ns,x,rfl,s0,Yj,gg,st,ln,lk,kk⟩:=h;nofun;have co:=Yj.mono s0;have nd:=fZ.nd;refine⟨_,(ao (aS (i:=2) nd rfl (.inl rfl) (dU b7 T.aR (pv 0) (hr.mono ∅) aO.pass (aa (pv 1) af (se rfl)) (hst:=se rfl) (hpl:=na rfl)))
  (ao (bF (aN CU (aD au (pv 2) ae (λ_ _=>rfl)) aV (aX _)) (av (aW (bK af)))
   br)
  (av (aW (cD rfl (N:=["self","state","what"]) (so:=aq (inClass (top 36) 10)) (N':=["row","self","state"]) (k:=1) (fr:=[0,1]) rfl rfl ⟨rfl,∅,∅,∅,rfl,∅,∅⟩ (bC (K:=K) (aD au (pv 2) ae (λ_ _=>rfl))) (λ_ _ _ _ _=>(aP (i:=0) (show(["row","self","state"]:List Str).Nodup by decide +kernel) rfl (.inl rfl))) (λ_ _ _ _ _=>(qW (rL (dU tw T.aR (pv 1) (hr.mono ∅) aO.pass (aa (aD au (pv 0) ae (λ_ _=>rfl)) (aa (aD au (pv 2) ae (λ_ _=>rfl)) af (se rfl)) (se rfl)) (hst:=se rfl) (hpl:=na rfl)))))
   (λ_ _ _ _ _=>(pv 0))))))),?_⟩
  refine(?_:let cO:TS:=_;let cI:TS:=_;let cJ:TS:=_;tSeq cO (tSeq cI cJ) _ _ _);intro cO cI cJ;have sl:=sizeLine_eq;symm;obtain⟨dx,sp,mo,wh,tb,us,EF,h1,h2,h3,h4,h5,h6⟩:=id co;obtain⟨sa,l,rfl,uU,hl⟩:=id st;nofun;have lp:∀{a b c d e:V},List.lookup (aaj "what_at") [(aaj "spots",a),(aaj "mosts",b),(aaj "first",c),(aaj "whats",d),(aaj "tables",e)]=none:=fc (by decide +kernel) (by decide +kernel) (by decide +kernel) (by decide +kernel) (by decide +kernel);have CG:∀{a b c d e:V},List.lookup (aaj "holds") [(aaj "spots",a),(aaj "mosts",b),(aaj "first",c),(aaj "whats",d),(aaj "tables",e)]=none:=fc (by decide +kernel) (by decide +kernel) (by decide +kernel) (by decide +kernel) (by decide +kernel);have gx:=gg.wt _ (fk lk);change tSeq _ _ _ _ _;refine aZ (λN=>∀u,Rep H0 (qH x) u->N [some (.ref c),some (.ref sa),some u] H) ?_ (λN hN=>?_)
  case refine_2=>
   dsimp?[dq,iZ];exact⟨_,_,h1,lp,H0,s0,g,Yj,nm,ns,st,x,lk,λu ru=>hN u ru⟩
  rintro u ru;cases x with
  | pick w' rs=>
   symm;obtain⟨p,x1,x2,x3,rfl,hp,r1,r2,r3⟩:=cP.mp (show Rep H0 (.tup _) u from ru);rw[aH] at r1;subst r1;obtain⟨rl,xs,rfl,wR,yf⟩:=aQ.mp r3;have len:=yf.length;rw[aak,aak] at len;obtain⟨g1,g2⟩:=gx;nofun;have zl:(xs.zip rs).length=xs.length:=by rw[List.length_zip];lia
   dsimp?[s0 _ _ hp];refine⟨⟨_,bH.of (s0 _ _ wR)⟩,?_⟩;have S:Src (Je K rl) (aB H) xs.length _:=src_list (λH' s'=>bH.of (s' _ _ (s0 _ _ wR)));rw[<-zl] at S;refine oQ (xs.zip rs) (λx=>if d4 g.cs ns x.2.wh=true then some x.1 else none) S (λ_ _ _ _ h=>h.1) (by lia) ?_ ?_
   ·rintro i ⟨x,r⟩ y Na ⟨_,ey⟩ Y N y1 y2;obtain⟨e1,e2⟩:=List.getElem?_zip_eq_some.mp Na;rw[e1] at ey;cases ey;symm;obtain⟨r',p',a',b',c',d',er,rfl,pe,rb,_⟩:=AY yf e1;nofun;rw[e2] at er;cases er;dsimp?[dq,Eh,s0 _ _ pe,uU];exact⟨_,_,h1,CG,g,co,ns,_,rb.mono s0,hl,ln,oF (λc=>y1 _ (if_pos c)) (λc=>y2 (if_neg c))⟩
   ·intro D n1 n2;exact kk D _ _ (ai n2) n2 aj (sR yf)
  | ask _ _ _ _=>
   symm;obtain⟨p,x1,x2,x3,x4,x5,rfl,hp,r1,r2,r3,r4,r5⟩:=o7.mp (show Rep H0 (.tup _) u from ru);rw[aH] at r1;subst r1;nofun;dsimp?[s0 _ _ hp];rw[if_pos ∅];exact⟨aap _,λD nD=>kk D _ _ (ai nD) nD aj (bx.mpr rfl)⟩
  | fin _ _=>
   symm;obtain⟨p,x1,x2,rfl,hp,r1,r2⟩:=bo.mp (show Rep H0 (.tup _) u from ru);rw[aH] at r1;subst r1;nofun;dsimp?[s0 _ _ hp];rw[if_pos ∅];exact⟨aap _,λD nD=>kk D _ _ (ai nD) nD aj (bx.mpr rfl)⟩
  | score _=>
   symm;obtain⟨p,x1,x2,rfl,hp,r1,r2⟩:=bo.mp (show Rep H0 (.tup _) u from ru);rw[aH] at r1;subst r1;nofun;dsimp?[s0 _ _ hp];rw[if_pos ∅];exact⟨aap _,λD nD=>kk D _ _ (ai nD) nD aj (bx.mpr rfl)⟩
  | fH _ _ _ _=>
   symm;obtain⟨p,x1,x2,x3,x4,rfl,hp,r1,r2,r3,r4⟩:=dm.mp (show Rep H0 (.tup _) u from ru);rw[aH] at r1;subst r1;nofun;dsimp?[s0 _ _ hp];rw[if_pos ∅];exact⟨aap _,λD nD=>kk D _ _ (ai nD) nD aj (bx.mpr rfl)⟩
theorem gI:bj ["self","state"] ["self","state"] (aq (inClass (top 36) 11)):=⟨rfl,rfl,rfl,∅,rfl,∅,∅⟩
theorem Ko (T:Txt K mg aG aI aJ aE aK ag aF):cG P w K mg base (bL P w) 3 ag "words_at" ["self","state"] (Ek ag):=by
 have eZ:cG P w K mg base (bL P w) 2 ag "open_rows" ["self","state"] (xX ag):=EH T;refine T.my.fE (λ_ _ _ _ _ _=>iz λ_ _=>rfl) λf fd F=>F.gQ gI (λvs H Q E h=>?_) (λcw A outer s H vs Q E hr h=>?_)
 ·obtain⟨_,_,_,_,_,_,rfl,_⟩:=h;rfl
 ·symm;obtain⟨c,v,g,nm,ns,x,rfl,co,gg,st,ln,lk,kk⟩:=h;nofun;clear G_;have nd:=gI.nd;refine⟨_,(av (aW (cD rfl (N:=["self","state"]) (so:=aq (inClass (top 36) 11)) (N':=["row"]) (k:=1) (fr:=[]) rfl rfl ⟨rfl,∅,∅,∅,rfl,∅,∅⟩ (bC (K:=K) (dU eZ T.aR (pv 0) (hr.mono ∅) aO.pass (aa (pv 1) af (se rfl)) (hst:=se rfl) (hpl:=na rfl))) (λ_ _ _ _ _=>(aP (i:=0) (show(["row"]:List Str).Nodup by decide +kernel) rfl (.inl rfl))) (λ_ _ _ _ _=>cL)
   (λ_ _ _ _ _=>(aD au (pv 0) ae (λ_ _=>rfl)))))),?_⟩
  have sl:=sizeLine_eq;symm;obtain⟨dx,sp,mo,wh,tb,us,EF,h1,h2,h3,h4,h5,h6⟩:=id co;nofun;clear G_;have lp:∀{a b c d e:V},List.lookup (aaj "open_rows") [(aaj "spots",a),(aaj "mosts",b),(aaj "first",c),(aaj "whats",d),(aaj "tables",e)]=none:=fc (by decide +kernel) (by decide +kernel) (by decide +kernel) (by decide +kernel) (by decide +kernel);have gx:=gg.wt _ (fk lk);have OS:(cQ g.cs ns x).length<=100:=by
   cases x with
   | pick w' rs=>exact aay (List.length_filter_le _ _) gx.1
   | _=>exact aap _
  dsimp?[dq,xX];refine⟨_,_,h1,lp,H,aB.refl _,g,co,gg,nm,ns,st,ln,x,lk,λrl xs H1 s1 n1 wR Q0=>?_⟩;generalize cQ g.cs ns x=rs at *;have yf:=Q0.mono s1;have len:=yf.length;rw[aak,aak] at len;have zl:(xs.zip rs).length=xs.length:=by rw[List.length_zip];lia
  refine⟨⟨_,bH.of wR⟩,?_⟩;have S:Src (Je K rl) (aB H1) xs.length _:=src_list (λH' s'=>bH.of (s' _ _ wR));rw[<-zl] at S;refine oQ (xs.zip rs) (λx=>some (.str x.2.word)) S (λ_ _ _ _ h=>h.1) (by lia) ?_ ?_
  ·rintro i ⟨x,r⟩ y Na ⟨_,ey⟩ Y N y1 y2;obtain⟨e1,e2⟩:=List.getElem?_zip_eq_some.mp Na;rw[e1] at ey;cases ey;symm;obtain⟨r',p',a',b',c',d',er,rfl,pe,rb,_⟩:=AY yf e1;nofun;rw[e2] at er;cases er;dsimp?[vE,pe];exact y1 _ rfl
  ·intro D Yk n2;have e:(xs.zip rs).filterMap (λx=>some (V.str x.2.word))=rs.map λr=>V.str r.word:=by
    rw[GA]
    have:(xs.zip rs).map (λx=>V.str x.2.word)=((xs.zip rs).map Prod.snd).map λr=>V.str r.word:=by rw[aaM];rfl
    rw[this,List.map_snd_zip (by lia)]
   rw[e];exact kk D _ (s1.trans (ai n2)) (none_of s1 n2) (aQ.mpr ⟨D,_,rfl,aj,(ve yf).mono (ai n2)⟩)
theorem gf:bj ["self","state","what"] ["self","state"] (aq (inClass (top 36) 12)):=⟨rfl,rfl,rfl,∅,rfl,∅,∅⟩
theorem Kq (T:Txt K mg aG aI aJ aE aK ag aF):cG P w K mg base (bL P w) 2 ag "end_worth" ["self","state"] (AX ag):=by
 have b7:cG P w K mg base (bL P w) 1 ag "what_at" ["self","state"] (iZ ag):=tu T;refine T.ki.fE (λ_ _ _ _ _ _=>iz λ_ _=>rfl) λf fd F=>F.gQ gf (λvs H Q E h=>?_) (λcw A outer s H vs Q E hr h=>?_)
 ·obtain⟨_,_,_,_,_,_,_,_,rfl,_⟩:=h;rfl
 ·symm;obtain⟨c,v,g,nm,ns,x,t,b,rfl,co,gg,st,ln,lk,ew,kk⟩:=h;nofun;have nd:=gf.nd;refine⟨_,(ao (aS (i:=2) nd rfl (.inl rfl) (dU b7 T.aR (pv 0) (hr.mono ∅) aO.pass (aa (pv 1) af (se rfl)) (hst:=se rfl) (hpl:=na rfl)))
  (av (aW (mX (aN bY (aD au (pv 2) ae (λ_ _=>rfl)) aV (aX _)) (aD au (pv 2) ae (λ_ _=>rfl)) (aY (aa (aD bg (aD au (pv 1) ae (λ_ _=>rfl)) (cR (dr hr) (cH (pv 0) rfl) (aD au (pv 2) ae (λ_ _=>rfl)) (λ_ _=>rfl)) (λ_ _=>rfl)) (aa ae af (se rfl)) (se rfl))))))),?_⟩
  have sl:=sizeLine_eq;symm;obtain⟨dx,sp,mo,wh,tb,us,EF,h1,h2,h3,h4,h5,h6⟩:=id co;obtain⟨sa,l,rfl,uU,hl⟩:=id st;nofun;have lp:∀{a b c d e:V},List.lookup (aaj "what_at") [(aaj "spots",a),(aaj "mosts",b),(aaj "first",c),(aaj "whats",d),(aaj "tables",e)]=none:=fc (by decide +kernel) (by decide +kernel) (by decide +kernel) (by decide +kernel) (by decide +kernel);have gx:=gg.wt _ (fk lk);change tSeq _ _ _ _ _;refine aZ (λN=>∀u,Rep H (qH x) u->N [some (.ref c),some (.ref sa),some u] H) ?_ (λN hN=>?_)
  case refine_2=>
   dsimp?[dq,iZ];exact⟨_,_,h1,lp,H,aB.refl _,g,co,nm,ns,st,x,lk,λu ru=>hN u ru⟩
  rintro u ru;cases x with
  | fin t' b'=>
   symm;obtain⟨p,x1,x2,rfl,hp,r1,r2⟩:=bo.mp (show Rep H (.tup _) u from ru);rw[aH] at r1;subst r1;nofun;cases ew;dsimp?[fj,hp];exact kk _ _ (aB.refl _) r2
  | score c'=>
   symm;obtain⟨p,x1,x2,rfl,hp,r1,r2⟩:=bo.mp (show Rep H (.tup _) u from ru);rw[aH] at r1 r2;subst r1 r2;nofun;cases ew;have hs:=bZ (cs:=g.cs) gx;dsimp?[fj,hp,uU];rw[if_neg ∅];refine⟨_,_,_,h1,T.aR,T.na_Course_spots,_,lF,_,rfl,_,iV h2 gx,_,_,rfl,hl,_,du (by lia),∅,λp' H2 s2 np e2=>kk _ _ s2 (bo.mpr ⟨p',_,_,rfl,e2,bb.mpr rfl,bb.mpr rfl⟩)⟩
  | ask _ _ _ _=>cases ew
  | pick _ _=>cases ew
  | fH _ _ _ _=>cases ew
theorem gJ:bj ["self"] ["self"] (aq (inClass (top 37) 0)):=⟨rfl,rfl,rfl,∅,rfl,∅,∅⟩
theorem Nb (T:Txt K mg aG aI aJ aE aK ag aF):sj P w K mg base (bL P w) 1 "Finder" aF ["self"] (Kb P w aF):=by
 refine T.Cb.fE (λ_ _ _ _ _ _=>hZ λ_=>rfl) λf fd F=>F.gQ gJ (λvs H Q E h=>?_) (λcw A outer s H vs Q E hr h=>?_)
 ·obtain⟨_,_,rfl,_⟩:=h;rfl
 ·symm;obtain⟨x,dx,rfl,hx,kk⟩:=h;nofun;have nd:=gJ.nd;refine⟨_,(ao (lY (pv 0) (bK af) rfl)
  (av (lY (pv 0) (DU (P:=P) (w:=w)) rfl))),?_⟩
  have sl:=sizeLine_eq;dsimp?[yU,DT];refine⟨aap _,λl nl=>?_⟩;have lx:x≠l:=λz=>by rw[<-z,hx] at nl;cases nl
  have hx1:upd H l (.lst []) x=some (.ins aF dx []):=by rw[aA lx];exact hx
  refine⟨_,_,_,hx1,T.cu,T.na_Finder_states,∅,λn nn=>?_⟩;have e1:jf (aaj "states") (V.ref l) []=[(aaj "states",V.ref l)]:=rfl;have e2:jf (aaj "numbers") (V.ref n) [(aaj "states",V.ref l)]=[(aaj "states",V.ref l),(aaj "numbers",V.ref n)]:=by
   show(if aaj "states"=aaj "numbers" then _ else _)=_
   rw[if_neg ∅]
   rfl
  rw[e1] at nn ⊢;have xn:n≠x:=λz=>by rw[z,aj] at nn;cases nn
  rw[aA xn] at nn;have Q3:n≠l:=λz=>by rw[z,aj] at nn;cases nn
  rw[aA Q3] at nn;refine⟨_,_,_,by rw[aA (Ne.symm xn),aj],T.cu,T.na_Finder_numbers,by show(1:Nat)<1000;decide,?_⟩;rw[e2];refine kk l n _ nl nn (λa o ax ha=>?_) λFr=>⟨dx,[],[],?_,Ne.symm Q3,?_,trivial,?_,(λp hp=>nomatch hp),rfl,aap _⟩
  ·have al:a≠l:=λz=>by rw[z,nl] at ha;cases ha
   have an:a≠n:=λz=>by rw[z,nn] at ha;cases ha
   rw[cM al an,aA ax,aA an,aA ax,aA al];exact ha
  ·rw[cM lx (Ne.symm xn),aj]
  ·rw[aA (Ne.symm lx),aA (Ne.symm Q3),aA (Ne.symm lx),aj]
  ·rw[aA xn,aj]
theorem gh:bj ["self","state","key"] ["self","state"] (aq (inClass (top 37) 1)):=⟨rfl,rfl,rfl,∅,rfl,∅,∅⟩
theorem zE (T:Txt K mg aG aI aJ aE aK ag aF):cG P w K mg base (bL P w) 1 aF "number_of" ["self","state"] (mE P w aF aE):=by
 refine T.kl.fE (λ_ _ _ _ _ _=>iz λ_ _=>rfl) λf fd F=>F.HL gh (λvs H Q E h=>?_) (λcw A outer s H vs Q E hr h=>?_)
 ·obtain⟨_,_,_,_,_,_,_,rfl,_⟩:=h;rfl
 ·symm;obtain⟨fa,sv,Fr,l,n,ss,st,rfl,⟨dx,xs,ks,hf,ln,hl,al,hn,an,nk,qL⟩,wU,hs,aac,kE,kQ⟩:=h;nofun;have nd:=gh.nd;have Cm:A.handled=none:=hr.hd;refine⟨_,(ao (aS (i:=2) nd rfl (.inl rfl) (aY (aa (aD au (pv 1) ae (λ_ _=>rfl)) (aa (cf (rW (K:=K)) (by rfl) T.z_tuple rfl (aa (aD au (pv 1) ae (λ_ _=>rfl)) af (se rfl)) (he:=se rfl) (hpl:=na rfl)) af (se rfl)) (se rfl))))
  (ao (bF (yK (B4 (P:=P) (w:=w) hr.units (pv 2) (cH (pv 0) rfl))) (ao (bF (aN bY (bf bD (by rfl) T.z_len aav (aa (cH (pv 0) rfl) af (se rfl)) (he:=se rfl) (hpl:=na rfl)) (nA rfl T.c_MOST_STATES) (aX _)) (av (iq rfl T.k_TooMany T.x_TooMany Cm (aa aV af (se rfl)) (he:=se rfl) (hpl:=na rfl)))
   br)
  (ao (GH (P:=P) (w:=w) hr.units (cH (pv 0) rfl) (pv 2) (bf bD (by rfl) T.z_len aav (aa (cH (pv 0) rfl) af (se rfl)) (he:=se rfl) (hpl:=na rfl)) rfl)
  (av (bR (dY aaD aaI aaJ cm.r (cH (pv 0) rfl) (aa (pv 1) af (se rfl)))))))
   br)
  (av (aW (GG (P:=P) (w:=w) hr.units (cH (pv 0) rfl) (pv 2) (λ_ _=>rfl)))))),?_⟩
  refine(?_:let cO:TS:=_;let cI:TS:=_;let cJ:TS:=_;tSeq cO (tSeq cI cJ) _ _ _);intro cO cI cJ;have sl:=sizeLine_eq;symm;obtain⟨sa,cl,rfl,uU,gq,OY⟩:=id wU;nofun;have Nc:=aT _ _ hf;have Q4:=aT _ _ uU;have Q5:=aT _ _ gq;have aad:=nk.len;have zF:=al.length;change tSeq _ _ _ _ _;refine aZ (λN=>∀H1,aB H H1->∀b,kh (cb H1 l n) (iC st) b->N [some (.ref fa),some (.ref sa),some (.ref b)] H1) ?_ (λN hN=>?_)
  case refine_2=>
   dsimp?[Q4];refine⟨_,.inl ⟨bH.of Q5,λt nt=>⟨∅,λp H2 s2 np e2=>hN _ ((ai nt).trans s2) p ?_⟩⟩⟩;have tl:t≠l:=λz=>by rw[z,hl] at nt;cases nt
   have tn:t≠n:=λz=>by rw[z,hn] at nt;cases nt
   have pl:p≠l:=λz=>by rw[z,ai nt _ _ hl] at np;cases np
   have pn:p≠n:=λz=>by rw[z,ai nt _ _ hn] at np;cases np
   exact Ka hs (by rw[cM pl pn];exact e2) (by rw[cM tl tn];exact s2 _ _ aj)
  rintro H1 s1 b kb;have Q6:=nk.look (s:=st);rw[aaY] at Q6;have al1:=al.imp λ_ _ k=>zx.mono (bG (l:=l) (n:=n) s1) k;have Nd:=an.mono (bG (l:=l) (n:=n) s1);change tSeq _ _ _ _ _;refine dt (λσ' H2=>aB (cb H l n) (cb H2 l n)/\(st∈ss\/ss.length<120)/\mC P w aF Fr H2 fa l n (fQ ss st)/\kh (cb H2 l n) (iC st) b/\σ'=[some (.ref fa),some (.ref sa),some (.ref b)]) ?_ (λN hN=>?_)
  case refine_2=>
   have Fw:=T.c_MOST_STATES;dsimp?[fj,AK,HZ,cZ,tRaise];refine⟨_,_,_,s1 _ _ Nc,T.cu,T.na_Finder_numbers,_,El,_,⟨n,b,iC st,ks,rfl,rfl,s1 _ _ hn,Nd.mono aT,kb.mono aT,rfl⟩,?_⟩;rw[Q6];by_cases hm:st∈ss
   ·rw[if_pos hm,if_neg (by simp)];refine hN _ _ ⟨bG s1,.inl hm,?_,kb,rfl⟩;have e:fQ ss st=ss:=by unfold fQ;rw[if_pos hm]
    rw[e];exact mC.mono s1 ⟨dx,xs,ks,hf,ln,hl,al,hn,an,nk,qL⟩
   ·have Q7:iY ks (df (iC st))=none:=by rw[Q6,if_neg hm]
    have e:fQ ss st=ss++ [st]:=by unfold fQ;rw[if_neg hm]
    rw[if_neg hm,if_pos (by rfl)];refine⟨_,_,_,s1 _ _ Nc,T.cu,T.na_Finder_states,_,lG,_,rfl,_,s1 _ _ hl,?_⟩;by_cases full:ss.length=120
    ·rw[if_pos (by lia)];exact⟨∅,kE hm full _ s1⟩
    have lt:ss.length<120:=by lia
    rw[if_neg (by lia)];refine⟨_,_,_,s1 _ _ Nc,T.cu,T.na_Finder_states,_,lG,_,rfl,_,s1 _ _ hl,?_⟩;have K9:∀o,upd H1 n o l=some (.lst xs):=λo=>by rw[aA ln];exact s1 _ _ hl
    have ty:∀o,F6 K "list" (.ref l) (upd H1 n o):=λo=>.inl ⟨rfl,_,bH.of (K9 o)⟩;refine⟨_,_,_,s1 _ _ Nc,T.cu,T.na_Finder_numbers,_,El,_,rfl,iC st,ks,s1 _ _ hn,Nd.mono aT,kb.mono aT,Q7,by lia,_,_,_,by rw[aA (iD hf).2];exact s1 _ _ Nc,T.cu,T.na_Finder_states,_,lG,ty _,_,rfl,_,K9 _,by lia,hN _ _ ?_⟩;have eh:cb (upd (upd H1 n (Fu P w n (ks++ [(iC st,b,((xs.length:Nat):Int))]))) l (.lst (xs++ [V.ref sa]))) l n=cb H1 l n:=by rw[Cf,Cg ln]
    refine⟨by rw[eh];exact bG s1,.inr lt,?_,by rw[eh];exact kb,rfl⟩;rw[e];refine⟨dx,_,_,by rw[eh];exact bG s1 _ _ hf,ln,aj,by rw[eh];exact al1.append (.one (wU.mono (bG s1))),by rw[aA (Ne.symm ln),aj],?_,?_,by rw[aaq];simp only[aaB,aaW];lia⟩
    ·rw[eh];intro p hp;rcases List.mem_append.mp hp with h | h
     ·exact Nd p h
     ·rw[abp.mp h];exact kb
    ·have:=nk.snoc (s:=st) (b:=b)
     rw[aaY,<-zF] at this;exact this
  intro _ H2 dG;symm;obtain⟨s2,fit,fi,kb2,rfl⟩:=dG;obtain⟨Yl,M5,Q8,g1,g2,g3,g4,g5,g6,g7,g8⟩:=id fi;nofun;dsimp?[fj,HY];refine⟨_,_,_,aT _ _ g1,T.cu,T.na_Finder_numbers,_,El,_,⟨n,b,iC st,Q8,rfl,rfl,g5,g6.mono aT,kb2.mono aT,?_⟩,kQ fit H2 s2 fi⟩;rw[g7.look,if_pos (sS _ _),sU,aaY]
theorem gK:bj ["self","game","spot","count","name","what"] ["self","game"] (aq (inClass (top 36) 0)):=⟨rfl,rfl,rfl,∅,rfl,∅,∅⟩
theorem Nf (T:Txt K mg aG aI aJ aE aK ag aF):sj P w K mg base (bL P w) 3 "Course" ag ["self","game"] (Kd ag):=by
 have zG:dj P w K mg base (bL P w) 2 "own_what" ["what"] J8:=M4 T;refine T.Ca.fE (λ_ _ _ _ _ _=>iz λ_ _=>rfl) λf fd F=>F.gQ gK (λvs H Q E h=>?_) (λcw A outer s H vs Q E hr h=>?_)
 ·obtain⟨_,_,_,_,rfl,_⟩:=h;rfl
 ·symm;obtain⟨c,dx,gv,g,rfl,hc,rg,gg,kk⟩:=h;nofun;clear G_;have nd:=gK.nd;refine⟨_,(ao (lY (pv 0) m7 rfl)
  (ao (lY (pv 0) (bK af) rfl)
  (ao (cV PassesOwn.never rfl (uf (K:=K) rfl T.z_enumerate (aa (aD au (pv 1) ae (λ_ _=>rfl)) af (se rfl))) (di (K:=K) (n:=2) rfl (bu (aP (i:=2) nd rfl (.inl rfl)) (bu (aP (i:=3) nd rfl (.inl rfl)) dg))) (ao (qT (dr hr) (cH (pv 0) rfl) (aD au (pv 3) ae (λ_ _=>rfl)) (pv 2) rfl)
  (av (bR (dY aaD aaI aaJ cm.r (cH (pv 0) rfl) (aa (aD au (pv 3) ae (λ_ _=>rfl)) af (se rfl)))))))
  (ao (lY (pv 0) (aD au (aD bg (aD au (pv 1) ae (λ_ _=>rfl)) ae (λ_ _=>rfl)) ae (λ_ _=>rfl)) rfl)
  (ao (lY (pv 0) m7 rfl)
  (ao (cV PassesOwn.never rfl (bC (K:=K) (aD au (pv 1) ae (λ_ _=>rfl))) (di (K:=K) (n:=2) rfl (bu (aP (i:=4) nd rfl (.inl rfl)) (bu (aP (i:=5) nd rfl (.inl rfl)) dg))) (av (qT (dr hr) (cH (pv 0) rfl) (pv 4) (bw zG (hr.mono ∅) rfl aO.pass (aa (pv 5) af (se rfl)) (he:=se rfl) (hpl:=na rfl)) rfl)))
  (av (lY (pv 0) m7 rfl)))))))),?_⟩
  refine(?_:let cO:TS:=_;let cI:TS:=_;let cJ:TS:=_;let d7:TS:=_;let qk:TS:=_;let yd:TS:=_;let EI:TS:=_;tSeq cO (tSeq cI (tSeq cJ (tSeq d7 (tSeq qk (tSeq yd EI))))) _ _ _);intro cO cI cJ d7 qk yd EI;have sl:=sizeLine_eq;have np:=gg.np;have nc:=gg.nc;have lc:=gg.lc;have lpp:=gg.lp;have p0:=gg.p0;symm;obtain⟨gp,g0,g1,rfl,qq,rc,rp⟩:=bo.mp (show Rep H (.tup _) gv from rg);obtain⟨cl,ig,rfl,gq,qo⟩:=aQ.mp (show Rep H (.lst _) g0 from rc);obtain⟨pl,Cp,rfl,hpl,vi⟩:=aQ.mp (show Rep H (.lst _) g1 from rp);nofun;clear G_;have wy:=qo.length;rw[aak] at wy;have Ng:=vi.length;rw[aak] at Ng;change tSeq _ _ _ _ _
  let K1:Hp->Prop:=λH1=>∀a o,a≠c->H a=some o->H1 a=some o
  have kp:∀{H1},K1 H1->Kp H H1:=λ{H1} k a=>by
   by_cases z:a=c
   ·subst z;rw[hc];exact⟨(λ_ e=>by cases e),(λ_ e=>by cases e)⟩
   ·exact⟨λ_=>k _ _ z,λ_=>k _ _ z⟩
  have zH:∀{H1 a vs},K1 H1->H a=some (.tup vs)->H1 a=some (.tup vs):=λk e=>((kp k) _).1 _ e;have EJ:∀{H1 a vs},K1 H1->H a=some (.lst vs)->H1 a=some (.lst vs):=λk e=>((kp k) _).2 _ e;refine aZ (λN=>∀H1,K1 H1->(∃sp,sp≠c/\H sp=none/\H1 c=some (.ins ag dx [(aaj "spots",.ref sp)])/\H1 sp=some (.dK []))->N [some (.ref c),some (.ref gp),none,none,none,none] H1) ?_ (λN hN=>?_)
  case refine_2=>
   dsimp?[yU,tDNewK];intro sp Ll;have e1:sp≠c:=λz=>by rw[z,hc] at Ll;cases Ll
   refine⟨_,_,_,by rw[aA (Ne.symm e1)];exact hc,T.aR,T.na_Course_spots,∅,hN _ (λa o ac ha=>?_) ⟨sp,e1,Ll,aj,by rw[aA e1,aj]⟩⟩;rw[aA ac,aA (λz=>by rw[z,Ll] at ha;cases ha)];exact ha
  intro H1 k1 dG;symm;obtain⟨sp,Lm,Ll,Ym,Nh⟩:=dG;nofun;clear G_;change tSeq _ _ _ _ _;refine aZ (λN=>∀H2,K1 H2->(∃mo,mo≠c/\mo≠sp/\H mo=none/\H2 c=some (.ins ag dx [(aaj "spots",.ref sp),(aaj "mosts",.ref mo)])/\H2 sp=some (.dK [])/\H2 mo=some (.lst []))->N [some (.ref c),some (.ref gp),none,none,none,none] H2) ?_ (λN hN=>?_)
  case refine_2=>
   dsimp?[yU];refine⟨aap _,λmo Iu=>?_⟩;have e1:mo≠c:=λz=>by rw[z,Ym] at Iu;cases Iu
   have e2:mo≠sp:=λz=>by rw[z,Nh] at Iu;cases Iu
   have n0:H mo=none:=by
    cases h0:H mo with
    | none=>rfl
    | some o=>rw[k1 _ _ e1 h0] at Iu;cases Iu
   refine⟨_,_,_,by rw[aA (Ne.symm e1)];exact Ym,T.aR,T.na_Course_mosts,by show(1:Nat)<1000;decide,hN _ (λa o ac ha=>?_) ⟨mo,e1,e2,n0,?_,by rw[aA Lm,aA (Ne.symm e2)];exact Nh,by rw[aA e1,aj]⟩⟩
   ·rw[aA ac,aA (λz=>by rw[z,n0] at ha;cases ha)];exact k1 _ _ ac ha
   ·rw[aj];show some (HO.ins _ _ (if aaj "spots"=aaj "mosts" then _ else _))=_;rw[if_neg ∅]
    rfl
  intro H2 k2 dG;symm;obtain⟨mo,Ph,Ni,Iu,hc2,Q9,Ra⟩:=dG;nofun;clear G_;change tSeq _ _ _ _ _;refine aZ (λN=>∀H3,K1 H3->H3 c=some (.ins ag dx [(aaj "spots",.ref sp),(aaj "mosts",.ref mo)])->H3 sp=some (.dK (km g.cs 0))->H3 mo=some (.lst ((g.cs.map (·.2)).map V.int))->∀z1 z2,N [some (.ref c),some (.ref gp),z1,z2,none,none] H3) ?_ (λN hN=>?_)
  case refine_2=>
   dsimp?[iEnum,zH k2 qq];refine⟨⟨_,bH.of (EJ k2 gq)⟩,b9 (Dw (Ok:=K1) (λH' k=>bH.of (EJ k gq))) (λi σ H'=>K1 H'/\H' c=some (.ins ag dx [(aaj "spots",.ref sp),(aaj "mosts",.ref mo)])/\H' sp=some (.dK (km (g.cs.take i) 0))/\H' mo=some (.lst (((g.cs.take i).map (·.2)).map V.int))/\∃z1 z2,σ=[some (.ref c),some (.ref gp),z1,z2,none,none]) ⟨k2,hc2,Q9,Ra,_,_,rfl⟩ (λ_ _ _ _ h=>h.1) ?_ ?_⟩
   ·intro i x σ H3 H4 hi fR fo;symm;obtain⟨k3,Lo,zI,zJ,z1,z2,rfl⟩:=fR;obtain⟨t,y,nt,rfl,ey,rfl⟩:=fo;obtain⟨d0,ed,rd⟩:=qo.get ey;rw[aal] at ed;obtain⟨cn,ec,rfl⟩:=abm.mp ed;obtain⟨cp,y1,y2,rfl,Pj,r1,r2⟩:=bo.mp (show Rep H (.tup _) y from rd);rw[aH] at r1;rw[bb] at r2;subst r1 r2;nofun;clear G_;have tk:g.cs.take (i+1)=g.cs.take i++ [cn]:=by rw[aaG,ec];rfl
    have nn:cn.1∉(g.cs.take i).map (·.1):=by
     rw[List.map_take];exact xY nc (by rw[aal,ec];rfl)
    have tc:t≠c:=λz=>by rw[z,Lo] at nt;cases nt
    have ts:t≠sp:=λz=>by rw[z,zI] at nt;cases nt
    have tm:t≠mo:=λz=>by rw[z,zJ] at nt;cases nt
    have k4:K1 (upd H3 t (.tup [.int (i:Int),.ref cp])):=λa o ac ha=>ai nt _ _ (k3 a o ac ha);have Lq:upd H3 t (.tup [.int (i:Int),.ref cp]) c=_:=ai nt _ _ Lo;have Hf:upd H3 t (.tup [.int (i:Int),.ref cp]) sp=_:=ai nt _ _ zI;have Hg:upd H3 t (.tup [.int (i:Int),.ref cp]) mo=_:=ai nt _ _ zJ;refine⟨t,_,rfl,gP.of aj,rfl,?_⟩;generalize upd H3 t (.tup [.int (i:Int),.ref cp])=H4 at *;have lsp:(km (g.cs.take i) 0).length<sizeLine:=by rw[AU,aa1];lia
    have k5:K1 (upd H4 sp (.dK (putK (km (g.cs.take i) 0) (Sum.inr cn.1) (.int (i:Int))))):=λa o ac ha=>by
     rw[aA (λz=>by rw[z,Ll] at ha;cases ha)];exact k4 a o ac ha
    dsimp?[sDPut,fj,cZ,zH k4 Pj];have Pk:dZ (km (g.cs.take i) 0) (Sum.inr cn.1)=none:=sO nn;rw[rq Pk] at k5;have lt:(g.cs.take i).length=i:=by rw[aa1];lia
    have Hh:∀o,upd H4 sp o mo=some (.lst (((g.cs.take i).map (·.2)).map V.int)):=λo=>by rw[aA Ni];exact Hg
    have ty:∀o,F6 K "list" (.ref mo) (upd H4 sp o):=λo=>.inl ⟨rfl,_,bH.of (Hh o)⟩;refine⟨_,_,_,Lq,T.aR,T.na_Course_spots,_,aa8,_,rfl,_,.inl ⟨_,Sum.inr cn.1,Hf,rfl,lsp,rfl⟩,?_⟩;rw[rq Pk];refine⟨_,_,_,by rw[aA (Ne.symm Lm)];exact Lq,T.aR,T.na_Course_mosts,_,by rw[eJ ∅];exact aa8,ty _,_,zH k5 Pj,_,rfl,_,rfl,_,Hh _,by rw[aak,aak];lia,?_⟩;refine⟨?_,?_,?_,?_,_,rfl⟩
    ·intro a o ac ha;rw[aA (λz=>by rw[z,Iu] at ha;cases ha)];exact k5 a o ac ha
    ·rw[aA (Ne.symm Ph),aA (Ne.symm Lm)];exact Lq
    ·rw[aA (Ne.symm Ni),aj,tk,xU,lt,aaY]
    ·rw[aj,tk,aaw,aaw]
     rfl
   ·intro σ H3 dG;symm;obtain⟨k3,Lo,zI,zJ,z1,z2,rfl⟩:=dG;nofun;rw[<-wy,aaA (aam _)] at zI zJ;exact hN _ k3 Lo zI zJ _ _
  rintro H3 k3 Lo zI zJ z1 z2;obtain⟨⟨n0,x0⟩,vj⟩:∃x,g.ps[0]?=some x:=⟨_,aat p0⟩;obtain⟨v0,ev0,Rb⟩:=vi.at (by rw[aal,vj];rfl);change tSeq _ _ _ _ _;refine aZ (λN=>∀H4,K1 H4->H4 c=some (.ins ag dx [(aaj "spots",.ref sp),(aaj "mosts",.ref mo),(aaj "first",.str n0)])->H4 sp=some (.dK (km g.cs 0))->H4 mo=some (.lst ((g.cs.map (·.2)).map V.int))->N [some (.ref c),some (.ref gp),z1,z2,none,none] H4) ?_ (λN hN=>?_)
  case refine_2=>
   dsimp?[yU,zH k3 qq];symm;obtain⟨q0,a1,a2,rfl,Rc,b1,_⟩:=bo.mp (show Rep H (.tup _) v0 from Rb);rw[aH] at b1;subst b1;nofun;have at0:j2 Cp 0=some (.ref q0):=(cB ev0:j2 Cp ((0:Nat):Int)=_);refine⟨_,EJ k3 hpl,_,at0,_,rfl,_,zH k3 Rc,_,rfl,_,_,_,Lo,T.aR,T.na_Course_first,by show(2:Nat)<1000;decide,hN _ (λa o ac ha=>?_) ?_ (by rw[aA Lm];exact zI) (by rw[aA Ph];exact zJ)⟩
   ·rw[aA ac];exact k3 _ _ ac ha
   ·rw[aj];show some (HO.ins _ _ (if aaj "spots"=aaj "first" then _ else _::(if aaj "mosts"=aaj "first" then _ else _)))=_;rw[if_neg (by decide +kernel),if_neg (by decide +kernel)]
    rfl
  rintro H4 k4 Lq Hf Hg;change tSeq _ _ _ _ _;refine aZ (λN=>∀H5,K1 H5->(∃wh,wh≠c/\wh≠sp/\wh≠mo/\H wh=none/\H5 c=some (.ins ag dx [(aaj "spots",.ref sp),(aaj "mosts",.ref mo),(aaj "first",.str n0),(aaj "whats",.ref wh)])/\H5 sp=some (.dK (km g.cs 0))/\H5 mo=some (.lst ((g.cs.map (·.2)).map V.int))/\H5 wh=some (.dK []))->N [some (.ref c),some (.ref gp),z1,z2,none,none] H5) ?_ (λN hN=>?_)
  case refine_2=>
   dsimp?[yU,tDNewK];intro wh FC;have e1:wh≠c:=λz=>by rw[z,Lq] at FC;cases FC
   have e2:wh≠sp:=λz=>by rw[z,Hf] at FC;cases FC
   have e3:wh≠mo:=λz=>by rw[z,Hg] at FC;cases FC
   have n0:H wh=none:=by
    cases h0:H wh with
    | none=>rfl
    | some o=>rw[k4 _ _ e1 h0] at FC;cases FC
   refine⟨_,_,_,by rw[aA (Ne.symm e1)];exact Lq,T.aR,T.na_Course_whats,by show(3:Nat)<1000;decide,hN _ (λa o ac ha=>?_) ⟨wh,e1,e2,e3,n0,?_,by rw[aA Lm,aA (Ne.symm e2)];exact Hf,by rw[aA Ph,aA (Ne.symm e3)];exact Hg,by rw[aA e1,aj]⟩⟩
   ·rw[aA ac,aA (λz=>by rw[z,n0] at ha;cases ha)];exact k4 _ _ ac ha
   ·rw[aj];show some (HO.ins _ _ (if aaj "spots"=aaj "whats" then _ else _::(if aaj "mosts"=aaj "whats" then _ else _::(if aaj "first"=aaj "whats" then _ else _))))=_;rw[if_neg (by decide +kernel),if_neg (by decide +kernel),if_neg (by decide +kernel)]
    rfl
  intro H5 k5 dG;symm;obtain⟨wh,Yn,Rf,Rg,FC,hc5,Rh,Hh,Ri⟩:=dG;nofun;change tSeq _ _ _ _ _;refine aZ (λN=>∀H6,K1 H6->H6 c=some (.ins ag dx [(aaj "spots",.ref sp),(aaj "mosts",.ref mo),(aaj "first",.str n0),(aaj "whats",.ref wh)])->H6 sp=some (.dK (km g.cs 0))->H6 mo=some (.lst ((g.cs.map (·.2)).map V.int))->(∃us,H6 wh=some (.dK us)/\sP H6 g.ps us)->∀z3 z4,N [some (.ref c),some (.ref gp),z1,z2,z3,z4] H6) ?_ (λN hN=>?_)
  case refine_2=>
   dsimp?[zH k5 qq];refine⟨⟨_,bH.of (EJ k5 hpl)⟩,b9 (src_list (Ok:=K1) (λH' k=>bH.of (EJ k hpl))) (λi σ H'=>K1 H'/\H' c=some (.ins ag dx [(aaj "spots",.ref sp),(aaj "mosts",.ref mo),(aaj "first",.str n0),(aaj "whats",.ref wh)])/\H' sp=some (.dK (km g.cs 0))/\H' mo=some (.lst ((g.cs.map (·.2)).map V.int))/\(∃us,H' wh=some (.dK us)/\sP H' (g.ps.take i) us)/\∃z3 z4,σ=[some (.ref c),some (.ref gp),z1,z2,z3,z4]) ⟨k5,hc5,Rh,Hh,⟨[],Ri,rfl⟩,_,_,rfl⟩ (λ_ _ _ _ h=>h.1) ?_ ?_⟩
   ·intro i x σ H7 H6 hi fR fo;symm;obtain⟨k6,Iv,Cq,Cr,⟨us,yg,wk⟩,z3,z4,rfl⟩:=fR;obtain⟨rfl,ey⟩:=fo;obtain⟨d0,ed,rd⟩:=vi.get ey;rw[aal] at ed;obtain⟨pn,ec,rfl⟩:=abm.mp ed;obtain⟨cp,y1,y2,rfl,Pj,r1,r2⟩:=bo.mp (show Rep H (.tup _) x from rd);rw[aH] at r1;subst r1;nofun;have tk:g.ps.take (i+1)=g.ps.take i++ [pn]:=by rw[aaG,ec];rfl
    have nn:pn.1∉(g.ps.take i).map (·.1):=by
     rw[List.map_take];exact xY np (by rw[aal,ec];rfl)
    have Pk:=wk.none nn;have lus:us.length<=100:=by rw[wk.len,aa1];lia
    refine⟨cp,_,rfl,gP.of (zH k6 Pj),rfl,?_⟩;dsimp?[sDPut,fj,J8];refine⟨_,(kp k6).rep r2,_,gg.wt _ (aar ec),λu H7 s7 ru=>?_⟩;refine⟨_,_,_,s7 _ _ Iv,T.aR,T.na_Course_whats,_,by rw[eJ ∅,eJ ∅,eJ ∅];exact aa8,_,rfl,_,.inl ⟨_,Sum.inr pn.1,s7 _ _ yg,rfl,by lia,rfl⟩,?_⟩;rw[rq Pk];have kq:Kp H7 (upd H7 wh (.dK (us++ [(Sum.inr pn.1,u)]))):=Kp.upd (λvs e=>by rw[s7 _ _ yg] at e;cases e) (λvs e=>by rw[s7 _ _ yg] at e;cases e);refine⟨λa o ac ha=>?_,by rw[aA (Ne.symm Yn)];exact s7 _ _ Iv,by rw[aA (Ne.symm Rf)];exact s7 _ _ Cq,by rw[aA (Ne.symm Rg)];exact s7 _ _ Cr,⟨_,aj,?_⟩,_,rfl⟩
    ·rw[aA (λz=>by rw[z,FC] at ha;cases ha)];exact s7 _ _ (k6 _ _ ac ha)
    ·rw[tk];exact sP.snoc (kq.rep ru) (kq.QT (wk.mono s7))
   ·intro σ H6 dG;symm;obtain⟨k6,Iv,Cq,Cr,⟨us,yg,wk⟩,z3,z4,rfl⟩:=dG;nofun;rw[<-Ng,aaA (aam _)] at wk;exact hN _ k6 Iv Cq Cr ⟨us,yg,wk⟩ _ _
  intro H6 k6 Iv Cq Cr p5_ z3 z4;symm;obtain⟨us,yg,wk⟩:=p5_;nofun;dsimp?[yU,tDNewK];intro tb A6;have e1:tb≠c:=λz=>by rw[z,Iv] at A6;cases A6
  have e2:tb≠sp:=λz=>by rw[z,Cq] at A6;cases A6
  have e3:tb≠mo:=λz=>by rw[z,Cr] at A6;cases A6
  have e4:tb≠wh:=λz=>by rw[z,yg] at A6;cases A6
  have Nj:H tb=none:=by
   cases h0:H tb with
   | none=>rfl
   | some o=>rw[k6 _ _ e1 h0] at A6;cases A6
  refine⟨_,_,_,by rw[aA (Ne.symm e1)];exact Iv,T.aR,T.na_Course_tables,by show(4:Nat)<1000;decide,kk tb _ (λa o ac ha=>?_) Nj (by rw[aA e1,aj]) ⟨dx,sp,mo,wh,us,n0,?_,by rw[bX (Ne.symm e2),aA Lm,aA (Ne.symm e2)];exact Cq,by rw[bX (Ne.symm e3),aA Ph,aA (Ne.symm e3)];exact Cr,by rw[bX (Ne.symm e4),aA Yn,aA (Ne.symm e4)];exact yg,?_,?_⟩⟩
  ·rw[aA ac,aA (λz=>by rw[z,Nj] at ha;cases ha)];exact k6 _ _ ac ha
  ·rw[bX (Ne.symm e1),aj];show some (HO.ins _ _ (if aaj "spots"=aaj "tables" then _ else _::(if aaj "mosts"=aaj "tables" then _ else _::(if aaj "first"=aaj "tables" then _ else _::(if aaj "whats"=aaj "tables" then _ else _)))))=_;rw[if_neg (by decide +kernel),if_neg (by decide +kernel),if_neg (by decide +kernel),if_neg (by decide +kernel)]
   rfl
  ·have LQ:upd H6 tb (.dK []) c=_:=(aA (Ne.symm e1)).trans Iv;refine((Kp.of (ai A6)).trans ((Kp.upd (o:=_) (λvs e=>by rw[LQ] at e;cases e) (λvs e=>by rw[LQ] at e;cases e)).trans (Kp.dH (tb:=tb) (kvs:=[]) ?_))).QT wk;rw[aA e1,aj]
  ·rw[List.head?_map,List.head?_eq_getElem?,vj]
   rfl
theorem nN:bj ["course","finder","state","rows"] ["course","finder","state"] (aq (top 39)):=⟨rfl,rfl,rfl,∅,rfl,∅,∅⟩
theorem Kr (T:Txt K mg aG aI aJ aE aK ag aF):dj P w K mg base (bL P w) 4 "pick_ways" ["course","finder","state"] (A1 P w ag aF aK aE):=by
 have eZ:cG P w K mg base (bL P w) 2 ag "open_rows" ["self","state"] (xX ag):=EH T;have fS:cG P w K mg base (bL P w) 3 ag "by_row" ["self","state","row","value"] (xW ag):=EG T;have c7:cG P w K mg base (bL P w) 1 aF "number_of" ["self","state"] (mE P w aF aE):=zE T;refine T.xM.fE (λ_ _ _ _ _ _=>xR λ_ _ _=>rfl) λf fd F=>F.HL nN (λvs H Q E h=>?_) (λcw A outer s H vs Q E hr h=>?_)
 ·obtain⟨_,_,_,_,_,_,_,_,_,_,_,rfl,_⟩:=h;rfl
 ·symm;obtain⟨c,fa,sv,Fr,l,n,g,ss,st,wo,rs,rfl,co,gg,fi,fr,wU,ln,lk,kE,kQ⟩:=h;nofun;clear G_;have nd:=nN.nd;have Cm:A.handled=none:=hr.hd;refine⟨_,(ao (aS (i:=3) nd rfl (.inl rfl) (dU eZ T.aR (pv 0) (hr.mono ∅) aO.pass (aa (pv 2) af (se rfl)) (hst:=se rfl) (hpl:=na rfl)))
  (ao (bF (aN bY (bf bD (by rfl) T.z_len aav (aa (pv 3) af (se rfl)) (he:=se rfl) (hpl:=na rfl)) ae (aX _)) (av (iq rfl T.k_NoWay T.x_NoWay Cm (aa aV af (se rfl)) (he:=se rfl) (hpl:=na rfl)))
   br)
  (av (aW (DL rfl (N:=["course","finder","state","rows"]) (so:=aq (top 39)) (N':=["row","course","finder","state"]) (k:=1) (fr:=[0,1,2]) rfl rfl ⟨rfl,∅,∅,∅,rfl,∅,∅⟩ (bC (K:=K) (pv 3)) (λ_ _ _ _ _=>(aP (i:=0) (show(["row","course","finder","state"]:List Str).Nodup by decide +kernel) rfl (.inl rfl))) (λ_ _ _ _ _=>cL)
   (λ_ _ _ _ _=>(dU c7 T.cu (pv 2) (hr.mono ∅) DK (aa (dU fS T.aR (pv 1) (hr.mono ∅) aO.pass (aa (pv 3) (aa (pv 0) (aa ae af (se rfl)) (se rfl)) (se rfl)) (hst:=se rfl) (hpl:=na rfl)) af (se rfl)) (hst:=se rfl) (hpl:=na rfl)))))))),?_⟩
  refine(?_:let cO:TS:=_;let cI:TS:=_;let cJ:TS:=_;tSeq cO (tSeq cI cJ) _ _ _);intro cO cI cJ;have sl:=sizeLine_eq;symm;obtain⟨dx,sp,mo,wh,tb,us,EF,h1,h2,h3,h4,h5,h6⟩:=id co;obtain⟨Lr,Yo,Yp,f1,f2,f3,f4,f5,f6,f7,f8⟩:=id fi;obtain⟨sa,cl,rfl,uU,gq⟩:=id wU;nofun;clear G_;have gx:=gg.wt _ (fk lk);have lp:∀{a b c d e:V},List.lookup (aaj "open_rows") [(aaj "spots",a),(aaj "mosts",b),(aaj "first",c),(aaj "whats",d),(aaj "tables",e)]=none:=fc (by decide +kernel) (by decide +kernel) (by decide +kernel) (by decide +kernel) (by decide +kernel);have CG:∀{a b c d e:V},List.lookup (aaj "by_row") [(aaj "spots",a),(aaj "mosts",b),(aaj "first",c),(aaj "whats",d),(aaj "tables",e)]=none:=fc (by decide +kernel) (by decide +kernel) (by decide +kernel) (by decide +kernel) (by decide +kernel);have Rj:∀{a b:V},List.lookup (aaj "number_of") [(aaj "states",a),(aaj "numbers",b)]=none:=zy (by decide +kernel) (by decide +kernel);change tSeq _ _ _ _ _;refine aZ (λN=>∀H1,aB H H1->∀p xs,H p=none->H1 p=some (.lst xs)->bq (cb H l n) (((cQ g.cs st.2 (.pick wo rs)).map GY).map u9) xs->N [some (.ref c),some (.ref fa),some (.ref sa),some (.ref p)] H1) ?_ (λN hN=>?_)
  case refine_2=>
   dsimp?[dq,xX];refine⟨_,_,aT _ _ h1,lp,cb H l n,aT,g,co,gg,st.1,st.2,wU.mono aT,ln,_,lk,λp xs H1 s1 n1 e1 r1=>hN _ s1 p xs n1 e1 r1⟩
  rintro H1 s1 p xs np hp yf;have zF:=yf.length;rw[aak,aak] at zF;have OS:(cQ g.cs st.2 (.pick wo rs)).length<=100:=aay (List.length_filter_le _ _) gx.1;by_cases ne:cQ g.cs st.2 (.pick wo rs)=[]
  case pos=>
   rw[ne] at zF;have zF:0=xs.length:=zF;dsimp?[hp,tRaise];rw[if_pos (by lia)];exact⟨∅,kE ne _ s1⟩
  symm;obtain⟨ts,SS,go,tY,kM,kk⟩:=kQ ne;nofun;clear G_;unfold Goes at go;rw[lk] at go;symm;obtain⟨_,tl,al⟩:=go;nofun;clear G_;have Xn:0< (cQ g.cs st.2 (.pick wo rs)).length:=List.length_pos_iff.mpr ne;clear kE kQ;have row:∀r∈cQ g.cs st.2 (.pick wo rs),r.ds.length<=100/\∀d∈r.ds,vc g.cs d:=λr hr=>gx.2 r (List.mem_filter.mp hr).1;generalize cQ g.cs st.2 (.pick wo rs)=os at *;dsimp?[hp];rw[if_neg (by lia)];have pl:p≠l:=λz=>by rw[z,f3] at np;cases np
  have pn:p≠n:=λz=>by rw[z,f5] at np;cases np
  refine⟨⟨_,bH.of hp⟩,En (src_list (Ok:=λH'=>cb H' l n p=some (.lst xs)) (λH' k=>bH.of (aT _ _ k))) (λi ys σ H'=>aB (cb H l n) (cb H' l n)/\mC P w aF Fr H' fa l n (aL ss (ts.take i))/\cb H' l n p=some (.lst xs)/\(120< (aL ss ts).length\/ys=(ts.take i).map (λt=>V.int ((SS.idxOf t:Nat):Int)))/\∃z,σ=[z,some (.ref c),some (.ref fa),some (.ref sa)]) ⟨bG s1,fi.mono s1,by rw[cM pl pn];exact hp,.inr rfl,_,rfl⟩ (λ_ _ _ _ h=>h.2.2.1) (by lia) ?_ ?_⟩
  ·intro i x σ H3 ys H2 Q' N hi p9_ Kt y1 _;symm;obtain⟨k2,Hi,OR,Pm,z,rfl⟩:=p9_;obtain⟨rfl,ex⟩:=Kt;obtain⟨dd,ed,rd⟩:=yf.get ex;rw[aal,aal] at ed;obtain⟨r4,e4,rfl⟩:=abm.mp ed;obtain⟨r,er,rfl⟩:=abm.mp e4;obtain⟨t,et,gr,ht⟩:=al i r er;obtain⟨q1,q2⟩:=row r (aar er);nofun;unfold G4 at gr;symm;obtain⟨gF,ak,e9⟩:=abm.mp gr;subst e9;have tk:ts.take (i+1)=ts.take i++ [(gF,r.ds.foldl (fV g.cs 0) st.2)]:=by rw[aaG,et];rfl
   have ea:aL ss (ts.take (i+1))=fQ (aL ss (ts.take i)) (gF,r.ds.foldl (fV g.cs 0) st.2):=by
    rw[tk];unfold aL;rw[aa4]
    rfl
   have ah:o9 (aL ss (ts.take (i+1))) (aL ss ts):=by
    have:=eY (ts.drop (i+1)) (aL ss (ts.take (i+1)))
    unfold aL at this ⊢;rw[<-aa4,List.take_append_drop] at this;exact this
   have EK:aB (cb H l n) H2:=k2.trans aT;obtain⟨Yl,M5,Q8,u1,u2,u3,u4,u5,u6,u7,u8⟩:=id Hi;nofun;dsimp?[dq,vE,xW,mE];refine⟨_,_,aT _ _ u1,Rj,_,_,EK _ _ h1,CG,g,co.mono EK,gg,st.1,st.2,wU.mono EK,_,_,r.ds,r.to,rd.mono EK,q2,q1,ln,_,gF,ak,λa b H5 s5 na nb e1 e2=>?_⟩;have Nk:a≠l:=λz=>by rw[z,u3] at na;cases na
   have Ku:a≠n:=λz=>by rw[z,u5] at na;cases na
   have FD:b≠l:=λz=>by rw[z,u3] at nb;cases nb
   have Kv:b≠n:=λz=>by rw[z,u5] at nb;cases nb
   have Rk:Fr b:=fr b (by
    cases h0:H b with
    | none=>rfl
    | some o=>rw[EK _ _ (by rw[cM FD Kv];exact h0)] at nb;cases nb)
   have Rl:zx Fr (cb H5 l n) (.ref a) gF (r.ds.foldl (fV g.cs 0) st.2):=⟨a,b,rfl,by rw[cM Nk Ku];exact e1,by rw[cM FD Kv];exact e2,Rk⟩;have Rm:(r.ds.foldl (fV g.cs 0) st.2).length<=100:=by rw[iB,ln];exact gg.lc
   refine⟨Fr,l,n,_,Hi.mono s5,(gF,_),Rl,ht,Rm,λzd full H6 s6=>kM ?_ _ (k2.trans (bG (s5.trans s6))),λ_ H6 s6 Rn=>y1 _ _ _ ⟨k2.trans ((bG s5).trans s6),by rw[ea];exact Rn,s6 _ _ (bG s5 _ _ OR),?_,_,rfl⟩⟩
   ·refine aaC ?_ ah.len;rw[ea];unfold fQ;rw[if_neg zd,aaq,full,aaH];decide
   ·by_cases c:120< (aL ss ts).length
    ·exact .inl c
    ·refine .inr ?_;have mem:(gF,r.ds.foldl (fV g.cs 0) st.2)∈aL ss (ts.take (i+1)):=by rw[ea];exact sS _ _
     rw[Pm.resolve_left c,tk,aaw,aan,aaO,(ah.trans (tY (by lia))).idx mem,ea,sU]
  ·intro ys σ H2 He D Ro FE;symm;obtain⟨k2,Hi,OR,Pm,z,rfl⟩:=He;rw[<-zF,<-tl,aaA (aam _)] at Hi Pm;obtain⟨Yl,M5,Q8,u1,u2,u3,u4,u5,u6,u7,u8⟩:=id Hi;nofun;have le:(aL ss ts).length<=120:=u8;rw[Pm.resolve_left (by lia)];have Dl:D≠l:=λz=>by rw[z,u3] at FE;cases FE
   have Dn:D≠n:=λz=>by rw[z,u5] at FE;cases FE
   exact kk le D _ (k2.trans (bG (ai FE))) (Hi.mono (ai FE)) (none_of s1 Ro) (by rw[cM Dl Dn,aj])
theorem gL:bj ["self","state"] ["self","state"] (aq (inClass (top 36) 8)):=⟨rfl,rfl,rfl,∅,rfl,∅,∅⟩
theorem yh {a b c d e:V}:List.lookup (aaj "tables") [(aaj "spots",a),(aaj "mosts",b),(aaj "first",c),(aaj "whats",d),(aaj "tables",e)]=some e:=by
 rw[eJ ∅,eJ ∅,eJ ∅,eJ ∅];exact aa8
theorem Kw (T:Txt K mg aG aI aJ aE aK ag aF):cG P w K mg base (bL P w) 7 ag "table_at" ["self","state"] (Et ag):=by
 have b7:cG P w K mg base (bL P w) 1 ag "what_at" ["self","state"] (iZ ag):=tu T;have wz:dj P w K mg base (bL P w) 6 "pool_table" ["pool"] J6:=MY T;refine T.mw.fE (λ_ _ _ _ _ _=>iz λ_ _=>rfl) λf fd F=>F.gQ gL (λvs H Q E h=>?_) (λcw A outer s H vs Q E hr h=>?_)
 ·obtain⟨_,_,_,_,_,_,_,_,_,_,_,rfl,_⟩:=h;rfl
 ·symm;obtain⟨c,sv,g,nm,ns,tb,kvs,ps,t,b,rs,rfl,co,st,qu,Yq,lk,gl,l4,kF,kN⟩:=h;nofun;have nd:=gL.nd;refine⟨_,(ao (bF (yK (uP (dr hr) (aD au (pv 1) ae (λ_ _=>rfl)) (cH (pv 0) rfl))) (av (qT (dr hr) (cH (pv 0) rfl) (aD au (pv 1) ae (λ_ _=>rfl)) (bw wz (hr.mono ∅) rfl aO.pass (aa (aD au (dU b7 T.aR (pv 0) (hr.mono ∅) aO.pass (aa (pv 1) af (se rfl)) (hst:=se rfl) (hpl:=na rfl)) ae (λ_ _=>rfl)) af (se rfl)) (he:=se rfl) (hpl:=na rfl)) rfl))
   br)
  (av (aW (cR (dr hr) (cH (pv 0) rfl) (aD au (pv 1) ae (λ_ _=>rfl)) (λ_ _=>rfl))))),?_⟩
  have sl:=sizeLine_eq;symm;obtain⟨dx,sp,mo,wh,us,EF,h1,h2,h3,h4,h5,h6⟩:=id co;obtain⟨sa,cl,rfl,uU,gq⟩:=id st;nofun;have Ls:=bM _ _ h1;have lp:∀{a b c d e:V},List.lookup (aaj "what_at") [(aaj "spots",a),(aaj "mosts",b),(aaj "first",c),(aaj "whats",d),(aaj "tables",e)]=none:=fc (by decide +kernel) (by decide +kernel) (by decide +kernel) (by decide +kernel) (by decide +kernel);cases hv:dZ kvs (Sum.inr nm) with
  | some v=>
   dsimp?[fj,uU];refine⟨_,_,_,Ls,T.aR,T.na_Course_tables,_,yh,_,rfl,_,.inl ⟨kvs,Sum.inr nm,.inl qu,rfl,hv.symm⟩,?_⟩;rw[if_neg (by simp)];exact⟨_,_,_,Ls,T.aR,T.na_Course_tables,_,yh,_,rfl,_,.inl ⟨kvs,Sum.inr nm,.inl qu,rfl,hv.symm⟩,kF v hv⟩
  | none=>
   dsimp?[fj,dq,uU,iZ,J6,sDPut];refine⟨_,_,_,Ls,T.aR,T.na_Course_tables,_,yh,_,rfl,_,.inl ⟨kvs,Sum.inr nm,.inl qu,rfl,hv.symm⟩,?_⟩;rw[if_pos (by rfl)];refine⟨_,_,Ls,lp,dH H tb,bM,g,co.co,nm,ns,st,_,lk,λu ru=>?_⟩;symm;obtain⟨p,x1,x2,x3,x4,rfl,hp,r1,r2,r3,r4⟩:=dm.mp (show Rep _ (.tup _) u from ru);obtain⟨a,rfl,pl⟩:=G6 r2;nofun;refine⟨_,rfl,_,bM _ _ hp,_,rfl,_,rfl,ps,pl.mono bM,gl,l4,λp2 H1 s1 n1 rt=>?_⟩;have ct:c≠tb:=λz=>by rw[z] at h1;unfold dH at h1;rw[if_pos rfl] at h1;cases h1
   have sat:sa≠tb:=λz=>by rw[z,qu] at uU;cases uU
   refine⟨_,_,_,s1 _ _ Ls,T.aR,T.na_Course_tables,_,yh,_,s1 _ _ uU,_,rfl,_,rfl,_,.inl ⟨kvs,Sum.inr nm,s1 _ _ qu,rfl,by lia,rfl⟩,?_⟩;rw[rq hv];refine⟨_,_,_,by rw[aA ct];exact s1 _ _ Ls,T.aR,T.na_Course_tables,_,yh,_,by rw[aA sat];exact s1 _ _ uU,_,rfl,_,rfl,_,.inl ⟨_,Sum.inr nm,.inl aj,rfl,?_⟩,kN hv p2 H1 s1 n1 rt⟩;rw[xZ hv,if_pos rfl]
theorem gM:bj ["self","state","value","rows"] ["self","state","value"] (aq (inClass (top 36) 7)):=⟨rfl,rfl,rfl,∅,rfl,∅,∅⟩
theorem Nl (T:Txt K mg aG aI aJ aE aK ag aF):cG P w K mg base (bL P w) 4 ag "by_value" ["self","state","value"] (Ki ag):=by
 have b7:cG P w K mg base (bL P w) 1 ag "what_at" ["self","state"] (iZ ag):=tu T;have fS:cG P w K mg base (bL P w) 3 ag "by_row" ["self","state","row","value"] (xW ag):=EG T;refine T.mv.fE (λ_ _ _ _ _ _=>xR λ_ _ _=>rfl) λf fd F=>F.gQ gM (λvs H Q E h=>?_) (λcw A outer s H vs Q E hr h=>?_)
 ·obtain⟨_,_,_,_,_,_,_,_,_,_,_,_,_,rfl,_⟩:=h;rfl
 ·symm;obtain⟨c,sv,v,g,nm,ns,fP,t,b,rs,r,fu,gF,rfl,co,gg,st,ln,lk,ro,ak,kk⟩:=h;nofun;have nd:=gM.nd;refine⟨_,(ao (Ay (i:=3) rfl nd rfl rfl (N:=["self","state","value","rows"]) (so:=aq (inClass (top 36) 7)) (N':=["row","value"]) (k:=1) (fr:=[2]) rfl rfl ⟨rfl,∅,∅,∅,rfl,∅,∅⟩ (bC (K:=K) (aD au (dU b7 T.aR (pv 0) (hr.mono ∅) aO.pass (aa (pv 1) af (se rfl)) (hst:=se rfl) (hpl:=na rfl)) ae (λ_ _=>rfl))) (λ_ _ _ _ _=>(aP (i:=0) (show(["row","value"]:List Str).Nodup by decide +kernel) rfl (.inl rfl))) (λ_ _ _ _ _=>(qW (CW xb xb (aD au (pv 0) ae (λ_ _=>rfl)) (pv 1) (aD au (pv 0) ae (λ_ _=>rfl)))))
   (λ_ _ _ _ _=>(pv 0)))
  (av (aW (dU fS T.aR (pv 0) (hr.mono ∅) aO.pass (aa (pv 1) (aa (aD bg (pv 3) ae (λ_ _=>rfl)) (aa (pv 2) af (se rfl)) (se rfl)) (se rfl)) (hst:=se rfl) (hpl:=na rfl))))),?_⟩
  have sl:=sizeLine_eq;symm;obtain⟨dx,sp,mo,wh,tb,us,EF,h1,h2,h3,h4,h5,h6⟩:=id co;obtain⟨sa,cl,rfl,uU,gq⟩:=id st;obtain⟨g0,g1,g2⟩:=gg.wt _ (fk lk);nofun;have lp:∀{a b c d e:V},List.lookup (aaj "what_at") [(aaj "spots",a),(aaj "mosts",b),(aaj "first",c),(aaj "whats",d),(aaj "tables",e)]=none:=fc (by decide +kernel) (by decide +kernel) (by decide +kernel) (by decide +kernel) (by decide +kernel);have CG:∀{a b c d e:V},List.lookup (aaj "by_row") [(aaj "spots",a),(aaj "mosts",b),(aaj "first",c),(aaj "whats",d),(aaj "tables",e)]=none:=fc (by decide +kernel) (by decide +kernel) (by decide +kernel) (by decide +kernel) (by decide +kernel);change tSeq _ _ _ _ _;refine aZ (λN=>∀H1,aB H H1->∀p xs,H1 p=some (.lst xs)->bq H (((rs.filter λr=>decide (r.1<=v) && decide (v<=r.2.1)).map J7).map u9) xs->N [some (.ref c),some (.ref sa),some (.int v),some (.ref p)] H1) ?_ (λN hN=>?_)
  case refine_2=>
   dsimp?[dq,iZ];refine⟨_,_,h1,lp,H,aB.refl _,g,co,nm,ns,st,_,lk,λu ru=>?_⟩;symm;obtain⟨p,x1,x2,x3,x4,rfl,hp,r1,r2,r3,r4⟩:=dm.mp (show Rep H (.tup _) u from ru);obtain⟨rl,xs,rfl,wR,yf⟩:=aQ.mp r4;nofun;have len:=yf.length;rw[aak,aak] at len;have zl:(xs.zip rs).length=xs.length:=by rw[List.length_zip];lia
   refine⟨_,rfl,_,hp,_,rfl,_,rfl,⟨_,bH.of wR⟩,?_⟩;have S:Src (Je K rl) (aB H) xs.length _:=src_list (λH' s'=>bH.of (s' _ _ wR));rw[<-zl] at S;refine oQ (xs.zip rs) (λx=>if (decide (x.2.1<=v) && decide (v<=x.2.2.1))=true then some x.1 else none) S (λ_ _ _ _ h=>h.1) (by lia) ?_ ?_
   ·rintro i ⟨x,r'⟩ y Na ⟨_,ey⟩ Y N3 y1 y2;obtain⟨e1,e2⟩:=List.getElem?_zip_eq_some.mp Na;rw[e1] at ey;cases ey;symm;obtain⟨dd,ed,rd⟩:=yf.get e1;nofun;rw[aal,aal,e2] at ed;cases ed;symm;obtain⟨p',a',b',c',d',rfl,pe,q1,q2,q3,q4⟩:=dm.mp (show Rep H (.tup _) x from rd);nofun;rw[show a'=.int r'.1 from bb.mp q1,show b'=.int r'.2.1 from bb.mp q2] at pe;dsimp?[pe];by_cases c1:r'.1<=v
    ·rw[if_pos c1];by_cases c2:v<=r'.2.1
     ·rw[if_pos c2];exact y1 _ (if_pos (by simp [c1,c2]))
     ·rw[if_neg c2];exact y2 (if_neg (by simp [c2]))
    ·rw[if_neg c1,if_neg ∅];exact y2 (if_neg (by simp [c1]))
   ·intro D n1 n2;exact hN _ (ai n2) D _ aj (vh yf)
  rintro H1 s1 p xs hp yf;have hd:(rs.filter λr=>decide (r.1<=v) && decide (v<=r.2.1)).head?=some r:=by rw[List.head?_filter];exact ro
  obtain⟨rest,er⟩:∃rest,(rs.filter λr=>decide (r.1<=v) && decide (v<=r.2.1))=r::rest:=by
   cases h:rs.filter λr=>decide (r.1<=v) && decide (v<=r.2.1) with
   | nil=>rw[h] at hd;cases hd
   | cons a l=>rw[h] at hd;cases hd;exact⟨l,rfl⟩
  rw[er] at yf;symm;obtain⟨y,ys,rfl,ry,_⟩:=aM.mp yf;have Rp:r∈rs:=List.mem_of_find?_eq_some ro;obtain⟨q1,q2⟩:=g2 r Rp;nofun;dsimp?[dq,xW];refine⟨_,_,s1 _ _ h1,CG,_,hp,_,(cB rfl:j2 (y::ys) ((0:Nat):Int)=_),g,co.mono s1,gg,nm,ns,st.mono s1,_,_,r.2.2.1,r.2.2.2,ry.mono s1,q2,q1,ln,fu,gF,ak,λp' l' H' s' n1 n2 e1 e2=>kk p' l' H' (s1.trans s') (none_of s1 n1) (none_of s1 n2) e1 e2⟩
theorem lQ:bj ["course","finder","state","table","ways","value","weight"] ["course","finder","state"] (aq (top 38)):=⟨rfl,rfl,rfl,∅,rfl,∅,∅⟩
theorem Ky (T:Txt K mg aG aI aJ aE aK ag aF):dj P w K mg base (bL P w) 8 "throw_ways" ["course","finder","state"] (Ew P w ag aF aE):=by
 have nO:cG P w K mg base (bL P w) 7 ag "table_at" ["self","state"] (Et ag):=Kw T;have nP:cG P w K mg base (bL P w) 4 ag "by_value" ["self","state","value"] (Ki ag):=Nl T;have c7:cG P w K mg base (bL P w) 1 aF "number_of" ["self","state"] (mE P w aF aE):=zE T;have yi:dj P w K mg base (bL P w) 3 "bottom_of" ["table"] Er:=Kk T;have Cs:dj P w K mg base (bL P w) 1 "weighed" ["table","bottom"] Kg:=M0 T;refine T.vP.fE (λ_ _ _ _ _ _=>xR λ_ _ _=>rfl) λf fd F=>F.HL lQ (λvs H Q E h=>?_) (λcw A outer s H vs Q E hr h=>?_)
 ·obtain⟨_,_,_,_,_,_,_,_,_,_,_,_,_,_,_,_,_,rfl,_⟩:=h;rfl
 ·symm;obtain⟨c,fa,sv,Fr,l,n,tb,g,ss,st,ts,fP,t,b,rs,SS,m,rfl,co,gg,fi,Np,Nq,fr,wU,ln,lk,go,tY,kM,kk⟩:=h;nofun;have nd:=lQ.nd;have Cm:A.handled=none:=hr.hd;refine⟨_,(ao (aS (i:=3) nd rfl (.inl rfl) (dU nO T.aR (pv 0) (hr.mono ∅) aO.pass (aa (pv 2) af (se rfl)) (hst:=se rfl) (hpl:=na rfl)))
  (ao (aS (i:=4) nd rfl (.inl rfl) (bK af))
  (ao (cV PassesOwn.leaving rfl (bC (K:=K) (bw Cs (hr.mono ∅) rfl aO.pass (aa (pv 3) (aa (bw yi (hr.mono ∅) rfl aO.pass (aa (pv 3) af (se rfl)) (he:=se rfl) (hpl:=na rfl)) af (se rfl)) (se rfl)) (he:=se rfl) (hpl:=na rfl))) (di (K:=K) (n:=2) rfl (bu (aP (i:=5) nd rfl (.inl rfl)) (bu (aP (i:=6) nd rfl (.inl rfl)) dg))) (av (bR (dY aaD aaI aaJ cm.r (pv 4) (aa (aY (aa (pv 6) (aa (dU c7 T.cu (pv 1) (hr.mono ∅) m8 (aa (dU nP T.aR (pv 0) (hr.mono ∅) aO.pass (aa (pv 2) (aa (pv 5) af (se rfl)) (se rfl)) (hst:=se rfl) (hpl:=na rfl)) af (se rfl)) (hst:=se rfl) (hpl:=na rfl)) af (se rfl)) (se rfl))) af (se rfl))))))
  (av (aW (pv 4)))))),?_⟩
  refine(?_:let cO:TS:=_;let cI:TS:=_;let cJ:TS:=_;let d7:TS:=_;tSeq cO (tSeq cI (tSeq cJ d7)) _ _ _);intro cO cI cJ d7;have sl:=sizeLine_eq;unfold b6 at go;rw[lk] at go;symm;obtain⟨ps,B,rfl,gl,l4,isB,tl,al⟩:=go;obtain⟨dx,sp,mo,wh,us,EF,h1,h2,h3,h4,h5,h6⟩:=id co;obtain⟨Lr,Yo,Yp,f1,f2,f3,f4,f5,f6,f7,f8⟩:=id fi;obtain⟨sa,cl,rfl,uU,gq⟩:=id wU;obtain⟨kvs,qu,lkv,tabs⟩:=id Np;nofun;have Rq:=j4 gl;have tl1:(fh ps).length<=1296:=Rq.2.2.1;have lp:∀{a b c d e:V},List.lookup (aaj "table_at") [(aaj "spots",a),(aaj "mosts",b),(aaj "first",c),(aaj "whats",d),(aaj "tables",e)]=none:=fc (by decide +kernel) (by decide +kernel) (by decide +kernel) (by decide +kernel) (by decide +kernel);have CG:∀{a b c d e:V},List.lookup (aaj "by_value") [(aaj "spots",a),(aaj "mosts",b),(aaj "first",c),(aaj "whats",d),(aaj "tables",e)]=none:=fc (by decide +kernel) (by decide +kernel) (by decide +kernel) (by decide +kernel) (by decide +kernel);have Rj:∀{a b:V},List.lookup (aaj "number_of") [(aaj "states",a),(aaj "numbers",b)]=none:=zy (by decide +kernel) (by decide +kernel);change tSeq _ _ _ _ _;refine aZ (λN=>∀H1 u,aB (cW H l n tb) (cW H1 l n tb)->mC P w aF Fr H1 fa l n ss->Cj H1 (cW H1 l n tb) tb g (m+1) Fr->(∀a,H1 a=none->H a=none)->Rep (cW H1 l n tb) (lD (fh ps)) u->N [some (.ref c),some (.ref fa),some (.ref sa),some u,none,none,none] H1) ?_ (λN hN=>?_)
  case refine_2=>
   dsimp?[dq,Et];refine⟨_,_,c4 _ _ h1,lp,g,st.1,st.2,tb,co.mono Eo,wU.mono c4,kvs,qu,by lia,ps,t,b,rs,lk,gl,l4,λv hv=>?_,λhv p H1 s1 np rt=>?_⟩
   ·symm;obtain⟨Hj,t',b',EL,tZ,_,rep⟩:=tabs _ _ hv;nofun;rw[lk] at tZ;injection tZ with tZ;injection tZ with tZ _ _ _;rw[<-rB tZ] at rep;exact hN _ v (aB.refl _) fi (Np.mono (aB.refl _) (by lia)) (λ_ h=>h) rep
   ·have sT:aB (dH H tb) (dH (upd H1 tb (.dK (kvs++ [(Sum.inr st.1,V.ref p)]))) tb):=by rw[nH];exact bO s1
    have s3:=G5 (l:=l) (n:=n) sT;have kt:∀a vs,H1 a=some (.tup vs)->cW (upd H1 tb (.dK (kvs++ [(Sum.inr st.1,V.ref p)]))) l n tb a=some (.tup vs):=λa vs e=>by
     have e1:a≠l:=λz=>by rw[z,s1 _ _ f3] at e;cases e
     have e2:a≠n:=λz=>by rw[z,s1 _ _ f5] at e;cases e
     have e3:a≠tb:=λz=>by rw[z,s1 _ _ qu] at e;cases e
     rw[c9 e1 e2 e3,aA e3];exact e
    have kp:∀o,H1 p=some o->cW (upd H1 tb (.dK (kvs++ [(Sum.inr st.1,V.ref p)]))) l n tb p=some o:=λo e=>by
     have e1:p≠l:=λz=>by rw[z,f3] at np;cases np
     have e2:p≠n:=λz=>by rw[z,f5] at np;cases np
     have e3:p≠tb:=λz=>by rw[z,qu] at np;cases np
     rw[c9 e1 e2 e3,aA e3];exact e
    have Yr:=A0 rt kp kt;refine hN _ (.ref p) s3 (fi.tb sT qu) ⟨_,aj,by rw[aaq,aaH];lia,λnm v e=>?_⟩ (λa ha=>?_) Yr
    ·rw[xZ hv] at e;by_cases z:(Sum.inr st.1:Key)=Sum.inr nm
     ·rw[if_pos z] at e;injection z with z;injection e with e;subst e;exact⟨ps,t,b,rs,z▸lk,⟨p,rfl,fr p np⟩,Yr⟩
     ·rw[if_neg z] at e;symm;obtain⟨Hj,t',b',EL,a1,fp,a2⟩:=tabs nm v e;nofun;exact⟨Hj,t',b',EL,a1,fp,a2.mono s3⟩
    ·have z:a≠tb:=λz=>by rw[z,aj] at ha;cases ha
     rw[aA z] at ha;exact none_of s1 ha
  rintro H1 u s1 Iw Pn Ys ru;symm;obtain⟨Hk,jh,Rr,Nr⟩:=id Pn;obtain⟨dxg,Yt,Yu,g1,g2,g3,g4,g5,g6,g7,g8⟩:=id Iw;nofun;change tSeq _ _ _ _ _;refine aZ (λN=>∀H2,aB H1 H2->∀w',H1 w'=none->H2 w'=some (.lst [])->N [some (.ref c),some (.ref fa),some (.ref sa),some u,some (.ref w'),none,none] H2) ?_ (λN hN=>?_)
  case refine_2=>
   dsimp?[];exact⟨aap _,λw' nw=>hN _ (ai nw) w' nw aj⟩
  rintro H2 s2 w' nw Yv;dsimp?[Er,Kg];refine⟨_,(ru.mono c4).mono s2,_,Rq,λB' H3 s3 Nt=>?_⟩;have eB:=sV Nt isB;subst eB;refine⟨_,(ru.mono c4).mono (s2.trans s3),_,Rq,Nt,λwl H4 s4 A7 r4=>?_⟩;have Iy:aB H1 H4:=s2.trans (s3.trans s4);have yj:aB H1 H3:=s2.trans s3;have Rt:w'≠l:=λz=>by rw[z,g3] at nw;cases nw
  have Yw:w'≠n:=λz=>by rw[z,g5] at nw;cases nw
  have Yx:w'≠tb:=λz=>by rw[z,jh] at nw;cases nw
  have Yy:H4 w'=some (.lst []):=(s3.trans s4) _ _ Yv
  let X:Hp->Hp:=λH'=>dH (cW H' l n tb) w'
  have Hl:∀{H':Hp} {a:Addr},a≠l->a≠n->a≠tb->a≠w'->X H' a=H' a:=λh1 h2 h3 h4=>by
   show dH (cW _ l n tb) w' _=_;rw[bX h4,c9 h1 h2 h3]
  have Yz:∀{H':Hp} {a:Addr} {o:HO},X H' a=some o->a≠l/\a≠n/\a≠tb/\a≠w':=λ{H' a o} e=>by
   have h4:a≠w':=λz=>by
    have e:(if a=w' then none else cW H' l n tb a)=some o:=e;rw[if_pos z] at e;cases e
   have e:dH (cW H' l n tb) w' a=some o:=e;rw[bX h4] at e;symm;obtain⟨h1,h2,h3⟩:=gG e;nofun;exact⟨h1,h2,h3,h4⟩
  have EM:∀{H':Hp},aB (X H') H':=bM.trans c4;have Nu:aB (cW H1 l n tb) (X H4):=λa o e=>by
   symm;obtain⟨e1,e2,e3⟩:=gG e;nofun;rw[c9 e1 e2 e3] at e;rw[Hl e1 e2 e3 (λz=>by rw[z,nw] at e;cases e)];exact Iy _ _ e
  have r4':Rep (X H4) (ju (Nm.weigh (fh ps) B')) (.ref wl):=by
   refine Ep r4 (λo e=>?_) λa vs e=>?_
   ·rw[Hl (λz=>by rw[z,yj _ _ g3] at A7;cases A7) (λz=>by rw[z,yj _ _ g5] at A7;cases A7) (λz=>by rw[z,yj _ _ jh] at A7;cases A7) (λz=>by rw[z,s3 _ _ Yv] at A7;cases A7)];exact e
   ·rw[Hl (λz=>by rw[z,Iy _ _ g3] at e;cases e) (λz=>by rw[z,Iy _ _ g5] at e;cases e) (λz=>by rw[z,Iy _ _ jh] at e;cases e) (λz=>by rw[z,Yy] at e;cases e)];exact e
  symm;obtain⟨_,zs,ez,qB,rz⟩:=aQ.mp r4';nofun;cases ez;have zl:=rz.length;rw[aak] at zl;have Ru:(Nm.weigh (fh ps) B').length=(fh ps).length:=by unfold Nm.weigh;rw[aak]
  let Kc:Addr->Prop:=λa=>Fr a/\a≠w'
  refine⟨⟨_,bH.of (EM _ _ qB)⟩,b9 (src_list (Ok:=λH'=>X H' wl=some (.lst zs)) (λH' k=>bH.of (EM _ _ k))) (λi σ H'=>aB (X H4) (X H')/\mC P w aF Kc H' fa l n (aL ss (dF (ts.take i)))/\H' tb=some (.dK Hk)/\(∃xs,H' w'=some (.lst xs)/\xs.length=i/\(120< (aL ss (dF ts)).length\/bq (X H') ((ts.take i).map (wa SS)) xs))/\∃z1 z2,σ=[some (.ref c),some (.ref fa),some (.ref sa),some u,some (.ref w'),z1,z2]) ⟨aB.refl _,(Iw.fr λa o ha h0=>⟨h0,(λz=>by rw[z,nw] at ha;cases ha)⟩).mono Iy,Iy _ _ jh,⟨[],Yy,rfl,.inr (bx.mpr rfl)⟩,_,_,rfl⟩ (λ_ _ _ _ h=>h.1 _ _ qB) ?_ ?_⟩
  ·intro i x σ H6 H5 hi fR fo;symm;obtain⟨sX,Ct,yk,⟨xs,Hm,xl,rx⟩,z1,z2,rfl⟩:=fR;obtain⟨rfl,ex⟩:=fo;obtain⟨dd,ed,rd⟩:=rz.get ex;rw[aal] at ed;obtain⟨x0,e0,rfl⟩:=abm.mp ed;obtain⟨q,rfl,hq⟩:=eN.mp rd;obtain⟨r,s',ro,et,gt,Gq⟩:=al i x0 e0;nofun;unfold Ci at gt;symm;obtain⟨gF,ak,e9⟩:=abm.mp gt;subst e9;have Kz:aB (X H4) H5:=sX.trans EM;have EN:aB (cW H l n tb) H5:=s1.trans (Nu.trans Kz);obtain⟨dx5,xs5,ks5,u1,u2,u3,u4,u5,u6,u7,u8⟩:=id Ct;nofun;have tk:ts.take (i+1)=ts.take i++ [(x0.2,(gF,r.2.2.1.foldl (fV g.cs x0.1) st.2))]:=by rw[aaG,et];rfl
   have ea:aL ss (dF (ts.take (i+1)))=fQ (aL ss (dF (ts.take i))) (gF,r.2.2.1.foldl (fV g.cs x0.1) st.2):=by
    rw[tk];unfold aL dF;rw[aaw,aa4]
    rfl
   have ah:o9 (aL ss (dF (ts.take (i+1)))) (aL ss (dF ts)):=by
    have:=eY (dF (ts.drop (i+1))) (aL ss (dF (ts.take (i+1))))
    unfold aL dF at this ⊢;rw[<-aa4,<-aaw,List.take_append_drop] at this;exact this
   have ty:F6 K "list" (.ref w') H5:=.inl ⟨rfl,_,bH.of Hm⟩;refine⟨q,_,rfl,gP.of (Kz _ _ hq),rfl,?_⟩;have Iz:∀{H':Hp} {o:HO},X (upd H' w' o)=X H':=λ{H' o}=>by
    funext a
    show(if a=w' then none else (if a=tb then none else if a=n then none else if a=l then none else upd H' w' o a))=if a=w' then none else (if a=tb then none else if a=n then none else if a=l then none else H' a)
    by_cases z:a=w'
    ·rw[if_pos z,if_pos z]
    ·rw[if_neg z,if_neg z,aA z]
   have zK:∀{H' yD:Hp},aB H' yD->aB (X H') (X yD):=λs=>bO (bO (bG s));dsimp?[dq,Ki,mE,cZ];refine⟨ty,_,_,aT _ _ u1,Rj,_,_,EN _ _ h1,CG,g,(co.mono EN).co,gg,st.1,st.2,wU.mono EN,ln,_,_,_,_,lk,r,ro,_,gF,ak,λa b' H7 s7 na nb e1 e2=>?_⟩;have Nk:a≠l:=λz=>by rw[z,u3] at na;cases na
   have Ku:a≠n:=λz=>by rw[z,u5] at na;cases na
   have FD:b'≠l:=λz=>by rw[z,u3] at nb;cases nb
   have Kv:b'≠n:=λz=>by rw[z,u5] at nb;cases nb
   have bt5:b'≠tb:=λz=>by rw[z,yk] at nb;cases nb
   have bw5:b'≠w':=λz=>by rw[z,Hm] at nb;cases nb
   have Rk:Kc b':=⟨fr b' (Ys b' (by
    cases h0:H1 b' with
    | none=>rfl
    | some o=>rw[(Nu.trans Kz) _ _ (by rw[c9 FD Kv bt5];exact h0)] at nb;cases nb)),bw5⟩
   have Rl:zx Kc (cb H7 l n) (.ref a) gF (r.2.2.1.foldl (fV g.cs x0.1) st.2):=⟨a,b',rfl,by rw[cM Nk Ku];exact e1,by rw[cM FD Kv];exact e2,Rk⟩;have Rm:(r.2.2.1.foldl (fV g.cs x0.1) st.2).length<=100:=by rw[iB,ln];exact gg.lc
   refine⟨Kc,l,n,_,Ct.mono s7,(gF,_),Rl,Gq,Rm,λzd full H8 s8=>kM ?_ _ (s1.trans (Nu.trans (sX.trans ((zK (s7.trans s8)).trans bM)))),λ_ H8 s8 YA=>⟨by lia,λe H9 s9 ne ee=>?_⟩⟩
   ·refine aaC ?_ ah.len;rw[ea];unfold fQ;rw[if_neg zd,aaq,full,aaH];decide
   have Ai:tb≠l:=λz=>by rw[z,g3] at jh;cases jh
   have Nv:tb≠n:=λz=>by rw[z,g5] at jh;cases jh
   have Nw:H8 tb=some (.dK Hk):=aT _ _ (s8 _ _ (by rw[cM Ai Nv];exact s7 _ _ yk));have Rv:H8 w'=some (.lst xs):=aT _ _ (s8 _ _ (by rw[cM Rt Yw];exact s7 _ _ Hm));symm;obtain⟨dx8,xs8,ks8,v1,v2,v3,v4,v5,v6,v7,v8⟩:=id YA;nofun;have YB:aB (X H5) (X H9):=(zK s7).trans ((bO (bO s8)).trans (zK s9));have mem:(gF,r.2.2.1.foldl (fV g.cs x0.1) st.2)∈aL ss (dF (ts.take (i+1))):=by rw[ea];exact sS _ _
   have Rx:¬120< (aL ss (dF ts)).length->SS.idxOf (gF,r.2.2.1.foldl (fV g.cs x0.1) st.2)=(aL ss (dF (ts.take i))).idxOf (gF,r.2.2.1.foldl (fV g.cs x0.1) st.2):=λc=>by rw[(ah.trans (tY (by lia))).idx mem,ea,sU]
   refine⟨_,s9 _ _ Rv,by lia,by change aB (X _) (X _);rw[Iz];exact sX.trans YB,by rw[ea];exact(YA.mono s9).MG (λa h=>h.2) (s9 _ _ Rv) Rt,by rw[aA (Ne.symm Yx)];exact s9 _ _ Nw,⟨_,aj,by rw[aaq,xl];rfl,?_⟩,_,rfl⟩;by_cases c:120< (aL ss (dF ts)).length
   ·exact .inl c
   refine .inr ?_;change bq (X _) _ _;rw[Iz,tk,aaw];refine((rx.resolve_left c).mono YB).append (aM.mpr ⟨_,_,rfl,bo.mpr ⟨e,_,_,rfl,?_,bb.mpr rfl,bb.mpr (by rw[Rx c])⟩,bx.mpr rfl⟩);rw[Hl (λz=>by rw[z,v3] at ne;cases ne) (λz=>by rw[z,v5] at ne;cases ne) (λz=>by rw[z,Nw] at ne;cases ne) (λz=>by rw[z,Rv] at ne;cases ne)];exact ee
  ·intro σ H5 dG;symm;obtain⟨sX,Ct,yk,⟨xs,Hm,xl,rx⟩,z1,z2,rfl⟩:=dG;nofun;rw[<-zl,Ru,<-tl,aaA (aam _)] at Ct rx;have le:(aL ss (dF ts)).length<=120:=by obtain⟨_,_,_,_,_,_,_,_,_,_,u8⟩:=id Ct;exact u8
   have rx:=rx.resolve_left (by lia);dsimp?[];refine kk le w' H5 (s1.trans (Nu.trans (sX.trans bM))) (Ct.fr λa o _ h=>h.1) ?_ (Ys _ nw) (aQ.mpr ⟨w',xs,rfl,by rw[c9 Rt Yw Yx];exact Hm,rx.mono bM⟩);exact⟨Hk,yk,Rr,λnm v e=>by obtain⟨Hj,t',b',EL,a1,fp,a2⟩:=Nr nm v e;exact⟨Hj,t',b',EL,a1,fp,a2.mono (Nu.trans (sX.trans bM))⟩⟩
theorem qw:bj ["course","finder","state","what"] ["course","finder","state"] (aq (top 40)):=⟨rfl,rfl,rfl,∅,rfl,∅,∅⟩
theorem Nx (T:Txt K mg aG aI aJ aE aK ag aF):dj P w K mg base (bL P w) 9 "taken_up" ["course","finder","state"] (A2 P w ag aF aK aE):=by
 have b7:cG P w K mg base (bL P w) 1 ag "what_at" ["self","state"] (iZ ag):=tu T;have mI:cG P w K mg base (bL P w) 2 ag "end_worth" ["self","state"] (AX ag):=Kq T;have yl:dj P w K mg base (bL P w) 4 "pick_ways" ["course","finder","state"] (A1 P w ag aF aK aE):=Kr T;have wA:dj P w K mg base (bL P w) 8 "throw_ways" ["course","finder","state"] (Ew P w ag aF aE):=Ky T;refine T.zr.fE (λ_ _ _ _ _ _=>xR λ_ _ _=>rfl) λf fd F=>F.HL qw (λvs H Q E h=>?_) (λcw A outer s H vs Q E hr h=>?_)
 ·obtain⟨_,_,_,_,_,_,_,_,_,_,_,rfl,_⟩:=h;rfl
 ·symm;obtain⟨c,fa,sv,Fr,l,n,tb,g,ss,st,m,rfl,IA,gg,fi,Np,Nq,fr,Ny,ln,kE,kQ⟩:=h;nofun;have co:wO ag (cb H l n) c g:=(IA.mono bM).co;have wU:yC (cb H l n) sv st.1 st.2:=Ny.mono bM;have nd:=qw.nd;have Cm:A.handled=none:=hr.hd;refine⟨_,(ao (aS (i:=3) nd rfl (.inl rfl) (dU b7 T.aR (pv 0) (hr.mono ∅) aO.pass (aa (pv 2) af (se rfl)) (hst:=se rfl) (hpl:=na rfl)))
  (ao (bF (aN bY (aD au (pv 3) ae (λ_ _=>rfl)) aV (aX _)) (av (aW (aY (aa aV (aa (aD au (pv 3) ae (λ_ _=>rfl)) (aa (bw wA (hr.mono ∅) rfl m8 (aa (pv 0) (aa (pv 1) (aa (pv 2) af (se rfl)) (se rfl)) (se rfl)) (he:=se rfl) (hpl:=na rfl)) af (se rfl)) (se rfl)) (se rfl)))))
   br)
  (ao (bF (aN bY (aD au (pv 3) ae (λ_ _=>rfl)) aV (aX _)) (av (aW (aY (aa aV (aa (aD au (pv 3) ae (λ_ _=>rfl)) (aa (bw yl (hr.mono ∅) rfl m8 (aa (pv 0) (aa (pv 1) (aa (pv 2) af (se rfl)) (se rfl)) (se rfl)) (he:=se rfl) (hpl:=na rfl)) af (se rfl)) (se rfl)) (se rfl)))))
   br)
  (av (aW (aY (aa aV (aa (dU mI T.aR (pv 0) (hr.mono ∅) aO.pass (aa (pv 2) af (se rfl)) (hst:=se rfl) (hpl:=na rfl)) af (se rfl)) (se rfl)))))))),?_⟩
  refine(?_:let cO:TS:=_;let cI:TS:=_;let cJ:TS:=_;let d7:TS:=_;tSeq cO (tSeq cI (tSeq cJ d7)) _ _ _);intro cO cI cJ d7;have sl:=sizeLine_eq;symm;obtain⟨kvs,qu,lkv,tabs⟩:=id Np;obtain⟨dx,sp,mo,wh,tb0,us,EF,h1,h2,h3,h4,h5,h6⟩:=id co;obtain⟨Lr,Yo,Yp,f1,f2,f3,f4,f5,f6,f7,f8⟩:=id fi;obtain⟨sa,cl,rfl,uU,gq⟩:=id wU;nofun;have Ai:tb≠l:=λz=>by rw[z,f3] at qu;cases qu
  have Nv:tb≠n:=λz=>by rw[z,f5] at qu;cases qu
  have IB:∀{H':Hp},aB (cb H l n) (cb H' l n)->Cj H' (cW H' l n tb) tb g (m+1) Fr:=λ{H'} s=>⟨kvs,aT _ _ (s _ _ (by rw[cM Ai Nv];exact qu)),by lia,λnm v e=>by obtain⟨Hj,t',b',EL,a1,fp,a2⟩:=tabs nm v e;exact⟨Hj,t',b',EL,a1,fp,a2.mono (bO s)⟩⟩;by_cases sk:lH g st
  case pos=>
   have lp1:∀{a b c d e:V},List.lookup (aaj "what_at") [(aaj "spots",a),(aaj "mosts",b),(aaj "first",c),(aaj "whats",d),(aaj "tables",e)]=none:=fc (by decide +kernel) (by decide +kernel) (by decide +kernel) (by decide +kernel) (by decide +kernel);symm;obtain⟨wo,rs,lk,ne⟩:=id sk;nofun;change tSeq _ _ _ _ _;refine aZ (λN=>∀u,Rep (cb H l n) (qH (.pick wo rs)) u->N [some (.ref c),some (.ref fa),some (.ref sa),some u] H) ?_ (λN hN=>?_)
   case refine_2=>
    dsimp?[dq,iZ];exact⟨_,_,aT _ _ h1,lp1,cb H l n,aT,g,co,st.1,st.2,wU.mono aT,_,lk,λu ru=>hN u ru⟩
   rintro u ru;symm;obtain⟨p,x1,x2,x3,rfl,hp,r1,r2,r3⟩:=cP.mp (show Rep _ (.tup _) u from ru);rw[aH] at r1;rw[bb] at r2;subst r1 r2;nofun;dsimp?[aT _ _ hp,A1];rw[if_neg ∅];exact⟨Fr,l,n,g,co,gg,ss,fi,fr,st,wU,ln,wo,rs,lk,λ_=>kE sk,λz=>absurd ne z⟩
  symm;obtain⟨ts,SS,go,tY,kM,kk⟩:=kQ sk;nofun;have go0:=go;unfold b6 at go;have lp:∀{a b c d e:V},List.lookup (aaj "what_at") [(aaj "spots",a),(aaj "mosts",b),(aaj "first",c),(aaj "whats",d),(aaj "tables",e)]=none:=fc (by decide +kernel) (by decide +kernel) (by decide +kernel) (by decide +kernel) (by decide +kernel);have CG:∀{a b c d e:V},List.lookup (aaj "end_worth") [(aaj "spots",a),(aaj "mosts",b),(aaj "first",c),(aaj "whats",d),(aaj "tables",e)]=none:=fc (by decide +kernel) (by decide +kernel) (by decide +kernel) (by decide +kernel) (by decide +kernel);have Nz:∀x t b,look g.ps st.1=some x->ts=[]->G0 g.cs st.2 x=some (t,b)->(∀wo rs,x≠.pick wo rs)->∀p u H1,aB H H1->H p=none->H1 p=some (.tup [.str "end",u])->Rep H1 (.tup [.int t,.int b]) u->Q (.ref p) H1:=by
   intro x t b lk e0 ew np p u H1 s1 n1 e1 r1;subst e0;refine kk f8 _ H1 (bO (bG s1)) (fi.mono s1) (IB (bG s1)) λb' ys hb=>?_;have rd:eP g SS st []=.tup [.str "end",.tup [.int t,.int b]]:=by
    unfold eP vZ;rw[lk];cases x with
    | pick wo rs=>exact absurd rfl (np wo rs)
    | fin _ _=>simp only[ew];rfl
    | score _=>simp only[ew];rfl
    | ask _ _ _ _=>cases ew
    | fH _ _ _ _=>cases ew
   rw[rd];symm;obtain⟨q,y1,y2,rfl,hq,z1,z2⟩:=bo.mp r1;nofun;have tp:∀a vs,H1 a=some (.tup vs)->dH (cW H1 l n tb) b' a=some (.tup vs):=λa vs ha=>by
    have al:a≠l:=λz=>by rw[z,s1 _ _ f3] at ha;cases ha
    have an:a≠n:=λz=>by rw[z,s1 _ _ f5] at ha;cases ha
    have ab:a≠b':=λz=>by rw[z,s1 _ _ hb] at ha;cases ha
    have at':a≠tb:=λz=>by rw[z,s1 _ _ qu] at ha;cases ha
    rw[bX ab,c9 al an at'];exact ha
   exact⟨bo.mpr ⟨p,_,_,rfl,tp _ _ e1,aH.mpr rfl,bo.mpr ⟨q,y1,y2,rfl,tp _ _ hq,bb.mpr (bb.mp z1),bb.mpr (bb.mp z2)⟩⟩,p,_,rfl,tp _ _ e1,λx y w e=>by simp at e⟩
  cases lk:look g.ps st.1 with
  | none=>rw[lk] at go;exact go.elim
  | some x=>
  rw[lk] at go;change tSeq _ _ _ _ _;refine aZ (λN=>∀u,Rep (cb H l n) (qH x) u->N [some (.ref c),some (.ref fa),some (.ref sa),some u] H) ?_ (λN hN=>?_)
  case refine_2=>
   dsimp?[dq,iZ];exact⟨_,_,aT _ _ h1,lp,cb H l n,aT,g,co,st.1,st.2,wU.mono aT,x,lk,λu ru=>hN u ru⟩
  rintro u ru;cases x with
  | pick wo rs=>
   symm;obtain⟨p,x1,x2,x3,rfl,hp,r1,r2,r3⟩:=cP.mp (show Rep _ (.tup _) u from ru);rw[aH] at r1;rw[bb] at r2;subst r1 r2;nofun;dsimp?[aT _ _ hp,A1];rw[if_neg ∅];refine⟨Fr,l,n,g,co,gg,ss,fi,fr,st,wU,ln,wo,rs,lk,(λz=>absurd ⟨wo,rs,lk,z⟩ sk),λ_=>⟨dF ts,go,SS,tY,λc H1 s1=>kM c _ (bO s1),λle p' H1 s1 Iw ya pe=>⟨by lia,λp2 H2 s2 n2 e2=>kk le _ H2 (bO (s1.trans (bG s2))) (Iw.mono s2) (IB (s1.trans (bG s2))) λb ys hb=>?_⟩⟩⟩;symm;obtain⟨dx1,Yt,Yu,u1,u2,u3,u4,u5,u6,u7,u8⟩:=id Iw;nofun;have rd:eP g SS st ts=.tup [.str "pick",.int wo,.lst ((dF ts).map λt=>.int ((SS.idxOf t:Nat):Int))]:=by
    unfold eP vZ;rw[lk]
    rfl
   rw[rd];have KA:∃o,H1 b=some o:=by
    by_cases z:b=l
    ·exact⟨_,z▸u3⟩
    ·exact⟨_,aT _ _ (s1 _ _ (by rw[cM z (λz=>by rw[z,f5] at hb;cases hb)];exact hb))⟩
   obtain⟨o,KA⟩:=KA;have pb:p'≠b:=λz=>by rw[z,hb] at ya;cases ya
   have NA:p2≠b:=λz=>by rw[z,KA] at n2;cases n2
   have NB:p2≠l:=λz=>by rw[z,u3] at n2;cases n2
   have jh:H1 tb=some (.dK kvs):=aT _ _ (s1 _ _ (by rw[cM Ai Nv];exact qu));have NC:p2≠tb:=λz=>by rw[z,jh] at n2;cases n2
   have pt:p'≠tb:=λz=>by rw[z,qu] at ya;cases ya
   have ND:p2≠n:=λz=>by rw[z,u5] at n2;cases n2
   refine⟨?_,p2,_,rfl,by rw[bX NA,c9 NB ND NC];exact e2,λx y w e=>by simp only[List.cons.injEq,V.ref.injEq] at e;obtain⟨_,_,e,_⟩:=e;exact e▸ya⟩;refine cP.mpr ⟨p2,_,_,_,rfl,by rw[bX NA,c9 NB ND NC];exact e2,aH.mpr rfl,bb.mpr rfl,aQ.mpr ⟨p',_,rfl,by rw[bX pb];show dH (cb H2 l n) tb p'=_;rw[bX pt];exact bG s2 _ _ pe,?_⟩⟩;have e:((dF ts).map λt=>V.int ((SS.idxOf t:Nat):Int))=((dF ts).map λt=>((SS.idxOf t:Nat):Int)).map V.int:=by rw[aaM];rfl
   have e':((dF ts).map λt=>Dat.int ((SS.idxOf t:Nat):Int))=((dF ts).map λt=>((SS.idxOf t:Nat):Int)).map Dat.int:=by rw[aaM];rfl
   rw[e,e'];exact bq.ints _
  | fin t b=>
   symm;obtain⟨p,x1,x2,rfl,hp,r1,r2⟩:=bo.mp (show Rep _ (.tup _) u from ru);rw[aH] at r1;subst r1;nofun;dsimp?[aT _ _ hp,dq,AX];rw[if_neg ∅,if_neg ∅];refine⟨_,_,aT _ _ h1,CG,g,co.mono aT,gg,st.1,st.2,wU.mono aT,ln,_,lk,_,_,rfl,λu H1 s1 r1=>⟨by lia,λp2 H2 s2 n2 e2=>Nz _ _ _ lk go rfl (λ_ _ z=>by cases z) p2 u H2 (s1.trans s2) (none_of s1 n2) e2 (r1.mono s2)⟩⟩
  | score cn=>
   symm;obtain⟨p,x1,x2,rfl,hp,r1,r2⟩:=bo.mp (show Rep _ (.tup _) u from ru);rw[aH] at r1;subst r1;nofun;dsimp?[aT _ _ hp,dq,AX];rw[if_neg ∅,if_neg ∅];refine⟨_,_,aT _ _ h1,CG,g,co.mono aT,gg,st.1,st.2,wU.mono aT,ln,_,lk,_,_,rfl,λu H1 s1 r1=>⟨by lia,λp2 H2 s2 n2 e2=>Nz _ _ _ lk go rfl (λ_ _ z=>by cases z) p2 u H2 (s1.trans s2) (none_of s1 n2) e2 (r1.mono s2)⟩⟩
  | ask _ _ _ _=>exact go.elim
  | fH fP t b rs=>
   symm;obtain⟨p,x1,x2,x3,x4,rfl,hp,r1,r2,r3,r4⟩:=dm.mp (show Rep _ (.tup _) u from ru);rw[aH] at r1;subst r1;nofun;dsimp?[aT _ _ hp,Ew];refine⟨Fr,l,n,tb,g,IA,gg,ss,fi,st,ts,fP,t,b,rs,SS,m,Np,Nq,fr,Ny,ln,lk,go0,tY,kM,λle p' H1 s1 Iw Pn ya rp'=>⟨by lia,λp2 H2 s2 n2 e2=>kk le _ H2 (s1.trans (bO (bG s2))) (Iw.mono s2) ((Pn.heap λ_ h=>s2 _ _ h).mono (bO (bG s2)) (aam _)) λb' ys hb=>?_⟩⟩;symm;obtain⟨dx1,Yt,Yu,u1,u2,u3,u4,u5,u6,u7,u8⟩:=id Iw;obtain⟨Hk,jh,_,_⟩:=id Pn;nofun;have rd:eP g SS st ts=.tup [.str "throw",.tup [.int t,.int b],.lst (ts.map (wa SS))]:=by
    unfold eP;rw[lk]
   rw[rd];have b1:∀{a vs},cW H1 l n tb a=some (.tup vs)->dH (cW H2 l n tb) b' a=some (.tup vs):=λ{a vs} ha=>by
    symm;obtain⟨e1,e2,e3⟩:=gG ha;nofun;have ab:a≠b':=λz=>by
     subst z
     have:=s1 _ _ (by rw[c9 e1 e2 e3];exact hb)
     rw[this] at ha;cases ha
    rw[bX ab];exact bO (bG s2) _ _ ha
   have KA:∃o,H1 b'=some o:=by
    by_cases z:b'=l
    ·exact⟨_,z▸u3⟩
    ·exact⟨_,c4 _ _ (s1 _ _ (by rw[c9 z (λz=>by rw[z,f5] at hb;cases hb) (λz=>by rw[z,qu] at hb;cases hb)];exact hb))⟩
   obtain⟨o,KA⟩:=KA;have NA:p2≠b':=λz=>by rw[z,KA] at n2;cases n2
   have NB:p2≠l:=λz=>by rw[z,u3] at n2;cases n2
   have ND:p2≠n:=λz=>by rw[z,u5] at n2;cases n2
   have NC:p2≠tb:=λz=>by rw[z,jh] at n2;cases n2
   have pb:p'≠b':=λz=>by rw[z,hb] at ya;cases ya
   symm;obtain⟨pa,y1,y2,rfl,YC,q1,q2⟩:=bo.mp r3;have Ry:cW H l n tb pa=some (.tup [y1,y2]):=by
    show dH (cb H l n) tb pa=_;rw[bX (λz=>by have:=aT _ _ YC;rw[z,qu] at this;cases this)];exact YC
   obtain⟨p'',zs,ez,pe,rz⟩:=aQ.mp rp';nofun;cases ez;refine⟨?_,p2,_,rfl,by rw[bX NA,c9 NB ND NC];exact e2,λx y w e=>by simp only[List.cons.injEq,V.ref.injEq] at e;obtain⟨_,_,e,_⟩:=e;exact e▸ya⟩;refine cP.mpr ⟨p2,_,_,_,rfl,by rw[bX NA,c9 NB ND NC];exact e2,aH.mpr rfl,bo.mpr ⟨pa,y1,y2,rfl,b1 (s1 _ _ Ry),bb.mpr (bb.mp q1),bb.mpr (bb.mp q2)⟩,aQ.mpr ⟨p',zs,rfl,by rw[bX pb];exact bO (bG s2) _ _ pe,bq.of rz.length λi d v ed ev=>?_⟩⟩;symm;obtain⟨d',Ij,QZ⟩:=rz.get ev;nofun;rw[ed] at Ij;cases Ij;rw[aal] at ed;symm;obtain⟨x,_,rfl⟩:=abm.mp ed;obtain⟨q,a1,a2,rfl,hq,c1,c2⟩:=bo.mp (show Rep _ (.tup _) v from QZ);nofun;exact bo.mpr ⟨q,a1,a2,rfl,b1 hq,bb.mpr (bb.mp c1),bb.mpr (bb.mp c2)⟩
theorem vm:bj ["game","course","finder","board"] ["game"] (aq (top 41)):=⟨rfl,rfl,rfl,∅,rfl,∅,∅⟩
theorem tz {α β:Type} {x:α} {y:β}:∀{as:List α} {bs:List β},as[bs.length]?=some x->as.zip (bs++ [y])=as.zip bs++ [(x,y)]
 | [],_,e=>by simp at e
 | a::as,[],e=>by
  have e:some a=some x:=e;cases e;simp
 | a::as,b::bs,e=>by
  rw[List.cons_append,List.zip_cons_cons,List.zip_cons_cons,tz (as:=as) (bs:=bs) (by simpa using e)]
  rfl
theorem YD {Fr:Addr->Prop} {H:Hp} {l n tb:Addr} {kvs:List (Key×V)} {v:V} {nm:Str} {ns:List Int} (qu:H tb=some (.dK kvs)) (rv:zx Fr (cb H l n) v nm ns):yC (cW H l n tb) v nm ns:=by
 obtain⟨a,cc,e,q1,q2,q3⟩:=rv;refine⟨a,cc,e,?_,?_⟩
 ·show dH (cb H l n) tb a=_;rw[bX (λz=>by have:=aT _ _ q1;rw[z,qu] at this;cases this)];exact q1
 ·show dH (cb H l n) tb cc=_;rw[bX (λz=>by have:=aT _ _ q2;rw[z,qu] at this;cases this)];exact q2
theorem KC (T:Txt K mg aG aI aJ aE aK ag aF):dj P w K mg base (bL P w) 10 "spread" ["game"] (zB aK aE):=by
 have tD:cG P w K mg base (bL P w) 2 ag "start" ["self"] (Eg ag):=Kn T;have nQ:cG P w K mg base (bL P w) 3 ag "words_at" ["self","state"] (Ek ag):=Ko T;have c7:cG P w K mg base (bL P w) 1 aF "number_of" ["self","state"] (mE P w aF aE):=zE T;have zL:dj P w K mg base (bL P w) 9 "taken_up" ["course","finder","state"] (A2 P w ag aF aK aE):=Nx T;have EO:sj P w K mg base (bL P w) 3 "Course" ag ["self","game"] (Kd ag):=Nf T;have ER:sj P w K mg base (bL P w) 1 "Finder" aF ["self"] (Kb P w aF):=Nb T;refine T.Ea.fE (λ_ _ _ _ _ _=>hZ λ_=>rfl) λf fd F=>F.HL vm (λvs H Q E h=>?_) (λcw A outer s H vs Q E hr h=>?_)
 ·obtain⟨_,_,_,_,_,_,_,_,rfl,_⟩:=h;rfl
 ·symm;obtain⟨gv,g,ft,nm,fu,oo,SS,tss,rfl,rg,gg,hd,ak,Lu,o2,sp,qL,kW,kM,kk⟩:=h;nofun;have nd:=vm.nd;have Cm:A.handled=none:=hr.hd;refine⟨_,(ao (aS (i:=1) nd rfl (.inr rfl) (Mv EO (hr.mono ∅) rfl aO.pass (aa (pv 0) af (se rfl)) (he:=se rfl) (hpl:=na rfl)))
  (ao (aS (i:=2) nd rfl (.inl rfl) (JP ER (hr.mono ∅) rfl aO.pass))
  (ao (bR (dU c7 T.cu (pv 2) (hr.mono ∅) m8 (aa (JO tD T.aR (pv 1) (hr.mono ∅) aO.pass) af (se rfl)) (hst:=se rfl) (hpl:=na rfl)))
  (ao (aS (i:=3) nd rfl (.inl rfl) (bK af))
  (ao (jl PassesOwn.leaving (aN mY (bf bD (by rfl) T.z_len aav (aa (pv 3) af (se rfl)) (he:=se rfl) (hpl:=na rfl)) (bf bD (by rfl) T.z_len aav (aa (cH (pv 2) rfl) af (se rfl)) (he:=se rfl) (hpl:=na rfl)) (aX _)) (av (bR (dY aaD aaI aaJ cm.r (pv 3) (aa (bw zL (hr.mono ∅) rfl m8 (aa (pv 1) (aa (pv 2) (aa (aD bg (cH (pv 2) rfl) (bf bD (by rfl) T.z_len aav (aa (pv 3) af (se rfl)) (he:=se rfl) (hpl:=na rfl)) (λ_ _=>rfl)) af (se rfl)) (se rfl)) (se rfl)) (he:=se rfl) (hpl:=na rfl)) af (se rfl))))))
  (av (aW (aY (aa (pv 3) (aa (cH (pv 2) rfl) (aa (cD rfl (N:=["game","course","finder","board"]) (so:=aq (top 41)) (N':=["state","course"]) (k:=1) (fr:=[1]) rfl rfl ⟨rfl,∅,∅,∅,rfl,∅,∅⟩ (bC (K:=K) (cH (pv 2) rfl)) (λ_ _ _ _ _=>(aP (i:=0) (show(["state","course"]:List Str).Nodup by decide +kernel) rfl (.inl rfl))) (λ_ _ _ _ _=>cL)
   (λ_ _ _ _ _=>(dU nQ T.aR (pv 1) (hr.mono ∅) aO.pass (aa (pv 0) af (se rfl)) (hst:=se rfl) (hpl:=na rfl)))) af (se rfl)) (se rfl)) (se rfl)))))))))),?_⟩
  refine(?_:let cO:TS:=_;let cI:TS:=_;let cJ:TS:=_;let d7:TS:=_;let qk:TS:=_;let yd:TS:=_;tSeq cO (tSeq cI (tSeq cJ (tSeq d7 (tSeq qk yd)))) _ _ _);intro cO cI cJ d7 qk yd;have sl:=sizeLine_eq;have lc:=gg.lc;change tSeq _ _ _ _ _;refine aZ (λN=>∀H1 tb c,aB H (dH H1 tb)->H1 tb=some (.dK [])->Fz ag (dH H1 tb) c g tb->N [some gv,some (.ref c),none,none] H1) ?_ (λN hN=>?_)
  case refine_2=>
   dsimp?[uH,Kd];intro c dx nc Rz dc;have sm:aB H (upd (upd H dx (.own c)) c (.ins ag dx [])):=(ai Rz).trans (ai (by rw[aA (Ne.symm dc)];exact nc));refine⟨_,aj,g,rg.mono sm,gg,λtb H1 k1 A6 qu co=>hN _ tb c (λa o ha=>?_) qu co⟩;rw[bX (λz=>by rw[z,none_of sm A6] at ha;cases ha)];exact k1 a o (λz=>by rw[z,nc] at ha;cases ha) (sm _ _ ha)
  rintro H1 tb c Hn jh IA;have s1:aB H H1:=Hn.trans bM;have co:wO ag H1 c g:=(IA.mono bM).co;have A6:H tb=none:=by
   cases h0:H tb with
   | none=>rfl
   | some o=>have:=Hn _ _ h0;unfold dH at this;rw[if_pos rfl] at this;cases this
  change tSeq _ _ _ _ _;refine aZ (λN=>∀H2 fa l n,H1 l=none->H1 n=none->aB H1 (cb H2 l n)->(∀Fr,mC P w aF Fr H2 fa l n [])->N [some gv,some (.ref c),some (.ref fa),none] H2) ?_ (λN hN=>?_)
  case refine_2=>
   dsimp?[uH,Kb];intro fa dx nf Rz dc;have nf2:upd H1 dx (.own fa) fa=none:=by rw[aA (Ne.symm dc)];exact nf
   have sm:aB H1 (upd (upd H1 dx (.own fa)) fa (.ins aF dx [])):=(ai Rz).trans (ai nf2);refine⟨_,aj,λl n H2 nl nn k2 fi=>hN _ fa l n (none_of sm nl) (none_of sm nn) (λa o ha=>k2 a o (λz=>by rw[z,nf] at ha;cases ha) (sm _ _ ha)) fi⟩
  rintro H2 fa l n nl nn s2 Hi;have IC:∀{a b:V},List.lookup (aaj "number_of") [(aaj "states",a),(aaj "numbers",b)]=none:=zy (by decide +kernel) (by decide +kernel);have KD:∀{a b c d e:V},List.lookup (aaj "start") [(aaj "spots",a),(aaj "mosts",b),(aaj "first",c),(aaj "whats",d),(aaj "tables",e)]=none:=fc (by decide +kernel) (by decide +kernel) (by decide +kernel) (by decide +kernel) (by decide +kernel);have lpw:∀{a b c d e:V},List.lookup (aaj "words_at") [(aaj "spots",a),(aaj "mosts",b),(aaj "first",c),(aaj "whats",d),(aaj "tables",e)]=none:=fc (by decide +kernel) (by decide +kernel) (by decide +kernel) (by decide +kernel) (by decide +kernel);symm;obtain⟨dx,sp0,mo,wh,us,EF,YE,h2,h3,h4,h5,h6⟩:=id IA;nofun;have h1:=bM _ _ YE;change tSeq _ _ _ _ _;refine aZ (λN=>∀H3,aB H1 (cb H3 l n)->mC P w aF (λa=>H a=none) H3 fa l n [(nm,abu g.cs.length 0)]->N [some gv,some (.ref c),some (.ref fa),none] H3) ?_ (λN hN=>?_)
  case refine_2=>
   have RA:aB H1 H2:=s2.trans aT;symm;obtain⟨Lr,Po,RB,u1,u2,u3,u4,u5,u6,u7,u8⟩:=Hi (λa=>H a=none);nofun;dsimp?[dq,Eg,mE];refine⟨_,_,aT _ _ u1,IC,_,_,RA _ _ h1,KD,g,co.mono RA,gg,fu,ft,hd,nm,ak,λa b H3 s3 na nb e1 e2=>?_⟩;have Nk:a≠l:=λz=>by rw[z,u3] at na;cases na
   have Ku:a≠n:=λz=>by rw[z,u5] at na;cases na
   have FD:b≠l:=λz=>by rw[z,u3] at nb;cases nb
   have Kv:b≠n:=λz=>by rw[z,u5] at nb;cases nb
   refine⟨λa=>H a=none,l,n,[],(Hi _).mono s3,(nm,abu g.cs.length 0),⟨a,b,rfl,by rw[cM Nk Ku];exact e1,by rw[cM FD Kv];exact e2,none_of (s1.trans RA) nb⟩,Lu,by rw[abe];exact lc,(λ_ z=>by cases z),λ_ H4 s4 RC=>hN _ (s2.trans ((bG s3).trans s4)) RC⟩
  rintro H3 s3 YF;change tSeq _ _ _ _ _;refine aZ (λN=>∀H4,aB H1 (cb H4 l n)->∀b,H1 b=none->b≠l->H4 b=some (.lst [])->mC P w aF (λa=>H a=none/\a≠b) H4 fa l n [(nm,abu g.cs.length 0)]->N [some gv,some (.ref c),some (.ref fa),some (.ref b)] H4) ?_ (λN hN=>?_)
  case refine_2=>
   symm;obtain⟨Lr,Po,RB,u1,u2,u3,u4,u5,u6,u7,u8⟩:=id YF;nofun;dsimp?[];refine⟨aap _,λb nb=>hN _ (s3.trans (bG (ai nb))) b (none_of (s3.trans aT) nb) (λz=>by rw[z,u3] at nb;cases nb) aj ((YF.fr λa o ha h0=>⟨h0,(λz=>by rw[z,nb] at ha;cases ha)⟩).mono (ai nb))⟩
  rintro H4 s4 b nb bl hb RC;change tSeq _ _ _ _ _;have Ai:tb≠l:=λz=>by rw[z,nl] at jh;cases jh
  have Nv:tb≠n:=λz=>by rw[z,nn] at jh;cases jh
  refine aZ (λN=>∀H5,oo=0->aB (dH H1 tb) (cW H5 l n tb)->mC P w aF (λa=>H a=none/\a≠b) H5 fa l n SS->(∃bs,H5 b=some (.lst bs)/\bq H5 (zz g SS tss) bs/\∀v∈bs,Kj H H5 b l v)->N [some gv,some (.ref c),some (.ref fa),some (.ref b)] H5) ?_ (λN hN=>?_)
  case refine_2=>
   refine AW (λm σ H'=>∃dn rest ss bs,tss=dn++rest/\m=rest.length/\dn.length<=SS.length/\fW g oo SS dn.length ss rest/\aB (dH H1 tb) (cW H' l n tb)/\Cj H' (cW H' l n tb) tb g dn.length (λa=>H a=none/\a≠b)/\mC P w aF (λa=>H a=none/\a≠b) H' fa l n ss/\H' b=some (.lst bs)/\(∀v∈bs,Kj H (dH (cW H' l n tb) b) b l v)/\bq (dH (cW H' l n tb) b) ((SS.zip dn).map λx=>eP g SS x.1 x.2) bs/\σ=[some gv,some (.ref c),some (.ref fa),some (.ref b)]) (m:=tss.length) ⟨[],tss,_,[],rfl,rfl,aap _,sp,bO s4,⟨[],aT _ _ (s4 _ _ jh),aam _,λnm v e=>by cases e⟩,RC,hb,(λv hv=>by cases hv),by rw[List.zip_nil_right];exact bx.mpr rfl,rfl⟩ ?_;intro m _ H5 He;symm;obtain⟨dn,rest,ss,bs,et,rfl,dS,sd,s5,RD,Ct,qx,Pp,rb,rfl⟩:=He;obtain⟨aae,yk,aaf,YG⟩:=id RD;obtain⟨Lr,Po,RB,u1,u2,u3,u4,u5,u6,u7,u8⟩:=id Ct;nofun;have tY:=sd.tY;have xl:=u4.length;have FD:bs.length=dn.length:=by
    have:=rb.length
    rw[aak,List.length_zip] at this;lia
   cases rest with
   | nil=>
    symm;obtain⟨_,c0,c1,c2⟩:=sd;nofun;by_cases o0:oo=0
    ·obtain⟨rfl,e2⟩:=c0 o0;refine⟨false,λQ hq=>?_,?_⟩
     ·dsimp?[fj];refine⟨_,qx,_,_,_,aT _ _ u1,T.cu,T.na_Finder_states,_,lG,_,rfl,_,u3,?_⟩;rw[decide_eq_false (by lia)];exact hq
     ·rw[if_neg (by simp)];rw[aaN] at et;exact hN _ o0 s5 Ct ⟨bs,qx,by rw[et];exact rb.mono (bM.trans c4),λv hv=>(Pp v hv).mono (bM.trans c4)⟩
    ·obtain⟨st,es,ls⟩:∃st,ss[dn.length]?=some st/\st.2.length=g.cs.length:=by
      by_cases o1:oo=1
      ·obtain⟨st,a,b,_⟩:=c1 o1;exact⟨st,a,b⟩
      ·obtain⟨st,_,a,b,_⟩:=c2 (by lia);exact⟨st,a,b⟩
     have YH:=(abn.mp es).1;refine⟨true,λQ hq=>?_,?_⟩
     ·dsimp?[fj];refine⟨_,qx,_,_,_,aT _ _ u1,T.cu,T.na_Finder_states,_,lG,_,rfl,_,u3,?_⟩;rw[decide_eq_true (by lia)];exact hq
     ·rw[if_pos rfl];symm;obtain⟨v,ev,rv⟩:=u4.at es;nofun;have D3:=YD yk rv;have ty:F6 K "list" (.ref b) H5:=.inl ⟨rfl,_,bH.of qx⟩;have dl:dn.length<=120:=by lia
      dsimp?[fj,A2,cZ];refine⟨ty,_,_,_,aT _ _ u1,T.cu,T.na_Finder_states,_,lG,_,qx,_,rfl,_,u3,v,by rw[FD];exact cB ev,_,l,n,tb,g,IA.mono s5,gg,ss,Ct,st,dn.length,RD,by lia,λa ha=>⟨none_of (Hn.trans (s5.trans c4)) ha,λz=>by rw[z,qx] at ha;cases ha⟩,D3,ls,λsk H6 s6=>?_,λnsk=>?_⟩
      ·by_cases o1:oo=1
       ·exact kW o1 _ (Hn.trans (s5.trans (c4.trans s6)))
       ·symm;obtain⟨Bx,ts,tX,_,go,_⟩:=c2 (by lia);nofun;rw[es] at tX;cases tX;exact absurd sk go.stuck
      ·by_cases o1:oo=1
       ·symm;obtain⟨Bx,tX,_,sk⟩:=c1 o1;nofun;rw[es] at tX;cases tX;exact absurd sk nsk
       ·symm;obtain⟨Bx,ts,tX,_,go,L5⟩:=c2 (by lia);nofun;rw[es] at tX;cases tX;exact⟨ts,go,SS,(λz=>by lia),λ_ H6 s6=>kM (by lia) _ (Hn.trans (s5.trans (s6.trans c4))),(λz=>by lia)⟩
   | cons ts r=>
    symm;obtain⟨st,es,ls,go,sr⟩:=sd;nofun;have YH:=(abn.mp es).1;refine⟨true,λQ hq=>?_,?_⟩
    ·dsimp?[fj];refine⟨_,qx,_,_,_,aT _ _ u1,T.cu,T.na_Finder_states,_,lG,_,rfl,_,u3,?_⟩;rw[decide_eq_true (by lia)];exact hq
    ·rw[if_pos rfl];symm;obtain⟨v,ev,rv⟩:=u4.at es;nofun;have eS:SS[dn.length]?=some st:=by
      obtain⟨q,e⟩:=tY;rw[e,aa5 YH];exact es
     have YI:=sr.tY;have bn:b≠n:=λz=>by rw[z,u5] at qx;cases qx
     have bt:b≠tb:=λz=>by rw[z,yk] at qx;cases qx
     have D3:=YD yk rv;have ty:F6 K "list" (.ref b) H5:=.inl ⟨rfl,_,bH.of qx⟩;have dl:dn.length<=120:=by lia
     have YJ:=aay YI.len qL;dsimp?[fj,A2,cZ];refine⟨ty,_,_,_,aT _ _ u1,T.cu,T.na_Finder_states,_,lG,_,qx,_,rfl,_,u3,v,by rw[FD];exact cB ev,_,l,n,tb,g,IA.mono s5,gg,ss,Ct,st,dn.length,RD,by lia,λa ha=>⟨none_of (Hn.trans (s5.trans c4)) ha,λz=>by rw[z,qx] at ha;cases ha⟩,D3,ls,λsk=>absurd sk go.stuck,λ_=>⟨ts,go,SS,λ_=>YI,(λz=>by lia),λ_ u H6 s6 Rn tb6 ru=>?_⟩⟩;have Hc:H6 b=some (.lst bs):=c4 _ _ (s6 _ _ (by rw[c9 bl bn bt];exact qx));symm;obtain⟨RE,RF,RG,NF⟩:=id tb6;nofun;have eh:∀o,dH (cW (upd H6 b o) l n tb) b=dH (cW H6 l n tb) b:=λo=>by
      funext a;by_cases z:a=b
      ·rw[z];unfold dH;rw[if_pos rfl,if_pos rfl]
      ·rw[bX z,bX z]
       show(if a=tb then none else if a=n then none else if a=l then none else upd H6 b o a)=if a=tb then none else if a=n then none else if a=l then none else H6 a
       rw[aA z]
     refine⟨_,Hc,by lia,r.length,by lia,dn++ [ts],r,by rw[List.append_assoc];exact et,rfl,by rw[aaq,aaH];have:=tY.len;lia,aL ss (dF ts),by rw[aaq,aaH];exact sr,?_,?_,Rn.MG (λa h=>h.2) Hc bl,_,aj,?_,?_⟩
     ·intro a o ha;have ab:a≠b:=λz=>by have:=bM _ _ ha;rw[z,nb] at this;cases this
      have h6:=s6 _ _ (s5 _ _ ha);symm;obtain⟨e1,e2,e3⟩:=gG h6;nofun;rw[c9 e1 e2 e3] at h6 ⊢;rw[aA ab];exact h6
     ·rw[aaq,aaH];refine⟨RE,by rw[aA (Ne.symm bt)];exact RF,RG,λnm v e=>?_⟩;symm;obtain⟨Hj,t',b',EL,a1,⟨p',ep,fp⟩,a2⟩:=NF nm v e;subst ep;nofun;have kb:∀{a o},a≠b->cW H6 l n tb a=some o->cW (upd H6 b (.lst (bs++ [u]))) l n tb a=some o:=λ{a o} ab ha=>by
       symm;obtain⟨e1,e2,e3⟩:=gG ha;nofun;rw[c9 e1 e2 e3] at ha ⊢;rw[aA ab];exact ha
      exact⟨Hj,t',b',EL,a1,⟨p',rfl,fp⟩,A0 a2 (λo ho=>kb fp.2 ho) λa vs ha=>kb (λz=>by have:=c4 _ _ ha;rw[z,Hc] at this;cases this) ha⟩
     ·rw[eh];intro v hv;rcases List.mem_append.mp hv with hv | hv
      ·exact(Pp v hv).mono (bO s6)
      ·rw[abp.mp hv];symm;obtain⟨_,q,eq,vs,hq,kq⟩:=ru b bs qx;nofun;refine⟨q,vs,eq,hq,λx y w' e=>?_⟩;have nw:=kq x y w' e;exact⟨none_of (Hn.trans (s5.trans c4)) nw,(λz=>by rw[z,qx] at nw;cases nw),(λz=>by rw[z,u3] at nw;cases nw)⟩
     ·rw[eh,tz eS,aaw];exact(rb.mono (bO s6)).append (aM.mpr ⟨u,[],rfl,(ru b bs qx).1,bx.mpr rfl⟩)
  intro H5 o0 s5 Ct p4_;symm;obtain⟨bs,qx,rb,Pp⟩:=p4_;subst o0;have kk:=kk rfl;obtain⟨Lr,Po,RB,u1,u2,u3,u4,u5,u6,u7,u8⟩:=id Ct;nofun;have xl:=u4.length;have Pq:aB (dH H1 tb) H5:=s5.trans c4;dsimp?[fj];refine⟨_,_,_,aT _ _ u1,T.cu,T.na_Finder_states,_,lG,_,_,_,aT _ _ u1,T.cu,T.na_Finder_states,_,lG,_,rfl,⟨_,bH.of u3⟩,?_⟩;refine comp_map (src_list (Ok:=aB H5) (λH' k=>bH.of (k _ _ u3))) (λ_ _ _ _ h=>h.1▸aB.refl _) (by lia) (λi y H'=>∃st,SS[i]?=some st/\Rep H' (eK g st) y) (λ_ _ _ _ k ⟨st,e,r⟩=>⟨st,e,r.mono k⟩) ?_ ?_
  ·rintro i x z H7 H6 Q' hi s6 ⟨rfl,ex⟩ yy;symm;obtain⟨st,es,rst⟩:=u4.get ex;nofun;symm;obtain⟨Bx,YK,tX,ls,go,_⟩:=sp.all.2 i (aap _) (abn.mp es).1;nofun;rw[es] at tX;cases tX;obtain⟨x0,lk⟩:=mD go;dsimp?[dq,Ek];refine⟨_,_,s6 _ _ (Pq _ _ YE),lpw,g,(IA.mono (Pq.trans s6)).co,gg,st.1,st.2,rst.st.mono (aT.trans s6),ls,x0,lk,λp H8 s8 n8 r8=>yy _ _ s8 ⟨st,es,?_⟩⟩;unfold eK;rw[lk];exact r8
  ·intro ys H6 s6 ly hy D Ro FE;refine⟨by lia,λp H7 s7 np e7=>kk p b l D bs Po ys H7 (Hn.trans (Pq.trans (s6.trans ((ai FE).trans s7)))) (none_of s1 nb) (none_of (Hn.trans Pq) Ro) e7 ?_ ?_ ?_ ?_ ?_ (s7 _ _ aj) ?_⟩
   all_goals have Lv:aB H5 H7:=s6.trans ((ai FE).trans s7)
   ·exact Lv _ _ qx
   ·exact rb.mono Lv
   ·exact λv hv=>(Pp v hv).mono Lv
   ·exact Lv _ _ u3
   ·exact u4.imp λ_ _ ⟨a,c',e,q1,q2,q3⟩=>⟨a,c',e,(aT.trans Lv) _ _ q1,(aT.trans Lv) _ _ q2,q3.1,q3.2,(iD q2).1⟩
   ·refine bq.of (by rw[aak];lia) λi d y ed ey=>?_;rw[aal] at ed;symm;obtain⟨st,es,rfl⟩:=abm.mp ed;obtain⟨Bx,tX,r⟩:=hy i y ey;nofun;rw[es] at tX;cases tX;exact r.mono ((ai FE).trans s7)
theorem j5 {K:abg} {H:Hp}:∀{ps:List (Str×Wt)} {vs:List V},bq H (ps.map λp=>Dat.tup [.str p.1,qH p.2]) vs->
  ∃rows:List (Addr×Key×V),vs=rows.map (λr=>V.ref r.1)/\(∀r∈rows,gP K H r.1 [kV r.2.1,r.2.2])/\rows.map (·.2.1)=ps.map (λp=>(Sum.inr p.1:Key))/\
   ∀n t,look ps n=some t->∃v,dZ (rows.map (·.2)) (.inr n)=some v/\Rep H (qH t) v
 | [],vs,h=>by
  rw[aaO] at h;exact⟨[],bx.mp h,(λr hr=>by cases hr),rfl,(λn t e=>by cases e)⟩
 | p::ps,vs,h=>by
  rw[aan] at h;obtain⟨v,r,rfl,rv,rr⟩:=aM.mp h;obtain⟨rows,e1,e2,e3,e4⟩:=j5 (K:=K) rr;obtain⟨q,a,b,rfl,hq,ra,rb⟩:=bo.mp rv;rw[aH] at ra;subst ra;refine⟨(q,.inr p.1,b)::rows,by rw[e1];rfl,λr hr=>?_,by rw[aan,aan,e3],λn t e=>?_⟩
  ·rcases aaR.mp hr with rfl | hr
   ·exact gP.of hq
   ·exact e2 r hr
  ·by_cases c:p.1=n
   ·have e':p.2=t:=by
     unfold look at e;rw[aaQ,decide_eq_true c] at e;exact aaE e
    subst e';refine⟨b,?_,rb⟩;unfold dZ;rw[aan,aaQ,decide_eq_true (by rw[c])]
    rfl
   ·have e':look ps n=some t:=by
     unfold look at e;rw[aaQ,decide_eq_false c] at e;exact e
    obtain⟨v,hv,r⟩:=e4 n t e';refine⟨v,?_,r⟩;unfold dZ;rw[aan,aaQ,decide_eq_false (λz=>c (Sum.inr.inj z))];exact hv
theorem iI {l:List (Str×Wt)} (h:(l.map (·.1)).Nodup):(l.map λp=>(Sum.inr p.1:Key)).Nodup:=by
 have e:(l.map λp=>(Sum.inr p.1:Key))=(l.map (·.1)).map Sum.inr:=by rw[aaM];rfl
 rw[e];exact List.Pairwise.map _ (λa b n z=>n (Sum.inr.inj z)) h
theorem vn:∀{l:List Str} {x:Str} {j:Nat},j<l.idxOf x->l[j]?≠some x
 | [],_,_,h=>by simp at h
 | y::l,x,j,h=>by
  rw[List.idxOf_cons] at h;by_cases c:y=x
  ·rw[c,beq_self_eq_true] at h;exact absurd h (Nat.not_lt_zero _)
  ·rw[beq_false_of_ne c] at h;cases j with
   | zero=>simpa using c
   | succ j=>rw[List.getElem?_cons_succ];exact vn (l:=l) (Nat.lt_of_succ_lt_succ h)
theorem ES (l:List Str):(l.map Dat.str).map df=l.map PyData.str:=by
 rw[aaM];exact List.map_congr_left λa _=>by show df (.str a)=_;rw[df]
theorem KE {l:List Str} {x:Str} (h:x∈l):((l.map Dat.str).map df)[l.idxOf x]?=some (df (.str x))/\∀j,j<l.idxOf x->((l.map Dat.str).map df)[j]?≠some (df (.str x)):=by
 have hl:=List.idxOf_lt_length_of_mem h;rw[ES,show df (.str x)=PyData.str x by rw[df]];refine⟨by rw[aal,aat hl,List.getElem_idxOf];rfl,λj hj e=>?_⟩;rw[aal] at e;obtain⟨y,ey,e⟩:=abm.mp e;injection e with e;exact vn hj (e▸ey)
theorem tE {H:Hp}:∀l:List Str,bq H (l.map Dat.str) (l.map V.str)
 | []=>bx.mpr rfl
 | _::l=>aM.mpr ⟨_,_,rfl,aH.mpr rfl,tE l⟩
theorem tF {H:Hp}:∀{l:List Int} {vs:List V},bq H (l.map Dat.int) vs->vs=l.map V.int
 | [],_,h=>bx.mp h
 | _::_,_,h=>by
  obtain⟨v,r,rfl,a,b⟩:=aM.mp h;rw[bb.mp a,tF b]
  rfl
theorem ints_rep {H:Hp}:∀l:List Int,bq H (l.map Dat.int) (l.map V.int)
 | []=>bx.mpr rfl
 | _::l=>aM.mpr ⟨_,_,rfl,bb.mpr rfl,ints_rep l⟩
noncomputable def m4 (cs:List (Str×Int)) (ms:List Int):Dd->List Int
 | .move n _=>ms.set (bU cs n) 0
 | _=>ms
noncomputable def n4 (cs:List (Str×Int)) (x:Int) (ms:List Int):Dd->Int
 | .move n _=>ms.getD (bU cs n) 0
 | _=>x
noncomputable def Kx (n:Nat) (d:Dat):Prop:=sC (df d)=true/\(df d).depth<=n
theorem b8 {n:Nat} (k:Int):Kx n (.int k):=by unfold Kx;rw[df,sC,PyData.depth];exact⟨rfl,aap _⟩
theorem ET {n:Nat}:Kx n .dI:=by unfold Kx;rw[df,sC,PyData.depth];exact⟨rfl,aap _⟩
theorem bP {n:Nat} {x:Str} (h:dQ (.str x)=true):Kx n (.str x):=by
 rw[dQ] at h;unfold Kx;rw[df,sC,PyData.depth];exact⟨h,aap _⟩
theorem zM {n:Nat}:∀{ds:List Dat},(∀d∈ds,Kx n d)->sE (iy ds)=true/\PyData.depthAll (iy ds)<=n
 | [],_=>by rw[iy,sE,PyData.depthAll];exact⟨rfl,aap _⟩
 | d::ds,h=>by
  obtain⟨a,b⟩:=h d aaz;obtain⟨e,f⟩:=zM (ds:=ds) λx hx=>h x (aau _ hx);rw[iy,sE,PyData.depthAll,a,e];exact⟨rfl,by lia⟩
theorem wB {n:Nat} {ds:List Dat} (h:∀d∈ds,Kx n d):Kx (n+1) (.tup ds):=by
 obtain⟨a,b⟩:=zM h;unfold Kx;rw[df,sC,PyData.depth];exact⟨a,by lia⟩
theorem d8 {n:Nat} {ds:List Dat} (h:∀d∈ds,Kx n d):Kx (n+1) (.lst ds):=by
 obtain⟨a,b⟩:=zM h;unfold Kx;rw[df,sC,PyData.depth];exact⟨a,by lia⟩
theorem jA {n:Nat} {a b:Dat} (ha:Kx n a) (hb:Kx n b):Kx (n+1) (.tup [a,b]):=wB λd hd=>by
 rcases aaR.mp hd with rfl | hd
 ·exact ha
 ·rw[abp.mp hd];exact hb
theorem uw {n:Nat} {a b c:Dat} (ha:Kx n a) (hb:Kx n b) (hc:Kx n c):Kx (n+1) (.tup [a,b,c]):=wB λd hd=>by
 rcases aaR.mp hd with rfl | hd
 ·exact ha
 ·rcases aaR.mp hd with rfl | hd
  ·exact hb
  ·rw[abp.mp hd];exact hc
theorem EU {n:Nat} {a b c e:Dat} (ha:Kx n a) (hb:Kx n b) (hc:Kx n c) (he:Kx n e):Kx (n+1) (.tup [a,b,c,e]):=wB λd hd=>by
 rcases aaR.mp hd with rfl | hd
 ·exact ha
 ·rcases aaR.mp hd with rfl | hd
  ·exact hb
  ·rcases aaR.mp hd with rfl | hd
   ·exact hc
   ·rw[abp.mp hd];exact he
theorem j6 {n k:Nat} {d:Dat} (h:Kx n d) (l:n<=k):Kx k d:=⟨h.1,aay h.2 l⟩
noncomputable def fy (G H:Hp):Hp:=λa=>match G a with
 | some (.lst _)=>none
 | _=>H a
noncomputable def d9 (G H:Hp):Prop:=∀a ys,G a=some (.lst ys)->∃zs,H a=some (.lst zs)
theorem d9.of {G H:Hp} (s:aB G H):d9 G H:=λa ys e=>⟨ys,s _ _ e⟩
theorem d9.trans {G H K:Hp} (s:d9 G H) (t:aB H K):d9 G K:=λa ys e=>by
 obtain⟨zs,h⟩:=s a ys e;exact⟨zs,t _ _ h⟩
set_option tactic.hygienic true in
theorem gw {G H:Hp} {a:Addr} (h:∀ys,G a≠some (.lst ys)):fy G H a=H a:=by
 unfold fy;split
 ·rename_i e;exact absurd e (h _)
 ·rfl
theorem wC {G H:Hp} {a:Addr} {ys:List V} (h:G a=some (.lst ys)):fy G H a=none:=by
 unfold fy;rw[h]
theorem nR {G H:Hp} {a:Addr} {o:HO} (h:fy G H a=some o):(∀ys,G a≠some (.lst ys))/\H a=some o:=by
 by_cases c:∃ys,G a=some (.lst ys)
 ·obtain⟨ys,e⟩:=c;rw[wC e] at h;cases h
 ·have c:∀ys,G a≠some (.lst ys):=λys e=>c ⟨ys,e⟩;rw[gw c] at h;exact⟨c,h⟩
theorem fg {G H H':Hp} (s:aB H H'):aB (fy G H) (fy G H'):=λa o e=>by
 obtain⟨c,h⟩:=nR e;rw[gw c];exact s _ _ h
theorem fz {G H:Hp}:aB (fy G H) H:=λa o e=>(nR e).2
theorem ym {G G' H:Hp} (s:d9 G G'):aB (fy G' H) (fy G H):=λa o e=>by
 obtain⟨c,h⟩:=nR e;rw[gw (λys k=>by obtain⟨zs,z⟩:=s a ys k;exact c zs z)];exact h
theorem fJ {G H:Hp} {l:Addr} {ys:List V} {o:HO} (e:G l=some (.lst ys)):fy G (upd H l o)=fy G H:=by
 funext a;by_cases c:∃ys,G a=some (.lst ys)
 ·obtain⟨zs,z⟩:=c;rw[wC z,wC z]
 ·have c:∀ys,G a≠some (.lst ys):=λys e=>c ⟨ys,e⟩;rw[gw c,gw c,aA (λz=>by rw[z] at c;exact c ys e)]
noncomputable def cX (G H:Hp) (d:Dat) (v:V):Prop:=Rep (fy G H) d v
noncomputable def cA (G H:Hp) (ds:List Dat) (vs:List V):Prop:=bq (fy G H) ds vs
theorem cX.mono {G H H':Hp} {d:Dat} {v:V} (s:aB H H') (h:cX G H d v):cX G H' d v:=Rep.mono (fg s) h
theorem cA.mono {G H H':Hp} {ds:List Dat} {vs:List V} (s:aB H H') (h:cA G H ds vs):cA G H' ds vs:=bq.mono (fg s) h
theorem cX.low {G G' H:Hp} {d:Dat} {v:V} (s:d9 G G') (h:cX G' H d v):cX G H d v:=Rep.mono (ym s) h
theorem cA.low {G G' H:Hp} {ds:List Dat} {vs:List V} (s:d9 G G') (h:cA G' H ds vs):cA G H ds vs:=bq.mono (ym s) h
theorem cX.rep {G H:Hp} {d:Dat} {v:V} (h:cX G H d v):Rep H d v:=Rep.mono fz h
theorem cA.rep {G H:Hp} {ds:List Dat} {vs:List V} (h:cA G H ds vs):bq H ds vs:=bq.mono fz h
theorem bQ {G H:Hp} {x:Str}:cX G H (.str x) (.str x):=aH.mpr rfl
theorem b5 {G H:Hp} {k:Int}:cX G H (.int k) (.int k):=bb.mpr rfl
theorem KG {G H:Hp}:cX G H .dI .dI:=by unfold cX;rw[Rep]
theorem eA {G H:Hp}:cA G H [] []:=bx.mpr rfl
theorem cE {G H:Hp} {d:Dat} {ds:List Dat} {v:V} {vs:List V} (h:cX G H d v) (k:cA G H ds vs):cA G H (d::ds) (v::vs):=aM.mpr ⟨_,_,rfl,h,k⟩
theorem gN {G H:Hp} {p:Addr} {ds:List Dat} {vs:List V} (n:G p=none) (h:H p=some (.lst vs)) (r:cA G H ds vs):cX G H (.lst ds) (.ref p):=aQ.mpr ⟨p,vs,rfl,by rw[gw (λys e=>by rw[n] at e;cases e)];exact h,r⟩
theorem wF {G H:Hp} (s:d9 G H) {p:Addr} {ds:List Dat} {vs:List V} (h:H p=some (.tup vs)) (r:cA G H ds vs):cX G H (.tup ds) (.ref p):=gU.mpr ⟨p,vs,rfl,by rw[gw (λys e=>by obtain⟨zs,z⟩:=s _ _ e;rw[h] at z;cases z)];exact h,r⟩
theorem iJ {G H:Hp} (s:d9 G H) {p:Addr} {a b:Dat} {x y:V} (h:H p=some (.tup [x,y])) (ha:cX G H a x) (hb:cX G H b y):cX G H (.tup [a,b]) (.ref p):=wF s h (cE ha (cE hb eA))
theorem wG {G H:Hp} (s:d9 G H) {p:Addr} {a b c:Dat} {x y z:V} (h:H p=some (.tup [x,y,z])) (ha:cX G H a x) (hb:cX G H b y) (hc:cX G H c z):cX G H (.tup [a,b,c]) (.ref p):=wF s h (cE ha (cE hb (cE hc eA)))
theorem EV {G H:Hp} (s:d9 G H) {p:Addr} {a b c d:Dat} {x y z u:V} (h:H p=some (.tup [x,y,z,u])) (ha:cX G H a x) (hb:cX G H b y) (hc:cX G H c z) (hd:cX G H d u):cX G H (.tup [a,b,c,d]) (.ref p):=wF s h (cE ha (cE hb (cE hc (cE hd eA))))
theorem gZ {G H:Hp} {d:Dat} {v:V} (h:cX G H d v) {ds:List Dat} {vs:List V} (k:cA G H ds vs):cA G H (ds++ [d]) (vs++ [v]):=bq.append k (aM.mpr ⟨_,_,rfl,h,bx.mpr rfl⟩)
theorem cA.ix {G H:Hp} {ds:List Dat} {vs:List V} (h:cA G H ds vs) {i:Int} {d:Dat} (i0:0<=i) (ed:ds[i.toNat]?=some d):∃v,j2 vs i=some v/\cX G H d v:=by
 obtain⟨v,ev,r⟩:=bq.at h ed;exact⟨v,by rw[show i=((i.toNat:Nat):Int) by lia];exact cB ev,r⟩
theorem Ho {n:Str} (h:dQ (.str n)=true):Ke (.str n):=bP h
theorem map_getD {α β:Type} {l:List α} {f:α->β} {i:Nat} (d:α) (h:i<l.length):(l.map f)[i]?=some (f (l.getD i d)):=by
 rw[aal,aa6,aat h]
 rfl
theorem EW {n k:Int} {q:Prop} [Decidable q]:decide (decide (k<=n)=decide q)=if q then decide (k<=n) else decide (n<k):=by
 by_cases c:q
 ·rw[if_pos c,decide_eq_true c];by_cases d:k<=n
  ·rw[decide_eq_true d];rfl
  ·rw[decide_eq_false d];rfl
 ·rw[if_neg c,decide_eq_false c];by_cases d:k<=n
  ·rw[decide_eq_true d,decide_eq_false (show ¬n<k by lia)];rfl
  ·rw[decide_eq_false d,decide_eq_true (show n<k by lia)];rfl
theorem iW {α:Type} {l:List α} (n:Int) (h:0<l.length):∃(j:Nat) (x:α),n % (l.length:Int)=(j:Int)/\l[j]?=some x:=by
 have q1:=Int.emod_nonneg n (show(l.length:Int)≠0 by lia);have q2:=Int.emod_lt_of_pos n (show(0:Int)< (l.length:Int) by lia);exact⟨(n % (l.length:Int)).toNat,l[(n % (l.length:Int)).toNat]'(by lia),by lia,aat _⟩
noncomputable def Hq (cs:List (Str×Int)):Prop:=cs.length<=3/\∀(i:Nat) c,cs[i]?=some c->cN[i]?=some c.1/\1<=c.2/\c.2<=4
noncomputable def KH (H:Hp) (l:Addr) (nms:List Str):Prop:=H l=some (.lst (nms.map V.str))
noncomputable def cF (s:bV):Dat:=.tup [.str s.1,.lst (s.2.map .int)]
noncomputable def jc (K:abg):Sp:=λvs H Q _=>∃a ns k,vs=[.ref a,.int k]/\bH K H a (List.map V.int ns)/\0<=k/\k<1000/\∀n,Q (.int n) H
noncomputable def yn (K:abg):Sp:=λvs H Q _=>∃a ns k v cs th,vs=[.ref a,.int k,v,.bl th]/\bH K H a (List.map V.int ns)/\0<=k/\k<900/\Rep H (Pb cs) v/\Hq cs/\∀u ds H',aB H H'->nJ cs ds->cX H H' (.lst (ds.map xT)) u->Q u H'
noncomputable def EX (K:abg):Sp:=λvs H Q _=>∃a ns v cs nl,∃t k n:Nat,vs=[.ref a,.int (t:Int),.int (k:Int),v,.ref nl]/\bH K H a (List.map V.int ns)/\t<100/\Rep H (Pb cs) v/\Hq cs/\KH H nl (pN.take n)/\k<n/\n<=6/\∀u x H',aB H H'->Ez cs n k x->cX H H' (qH x) u->Q u H'
noncomputable def EY (K:abg):Sp:=λvs H Q _=>∃a ns,vs=[.ref a]/\bH K H a (List.map V.int ns)/\∀v g n H',aB H H'->ie g n->Rep H' (CF g) v->Q v H'
noncomputable def vo:Sp:=λvs H Q _=>∃gv nm l g ns f gF,vs=[gv,.str nm,.ref l]/\Rep H (CF g) gv/\GoodG g/\H l=some (.lst (List.map V.int ns))/\ns.length=g.cs.length/\eF g ns f nm=some gF/\∀p H',aB H H'->H' p=some (.tup [.str gF,.ref l])->Q (.ref p) H'
noncomputable def A8:Sp:=λvs H Q _=>∃gv l dv v g ns ds n,vs=[gv,.ref l,dv,.int v]/\Rep H (CF g) gv/\ie g n/\H l=some (.lst (List.map V.int ns))/\x8 g.cs ns/\nJ g.cs ds/\Rep H (.lst (ds.map xT)) dv/\0<=v/\∀p H',aB H H'->H p=none->H' p=some (.lst ((ds.foldl (fV g.cs v) ns).map V.int))->Q (.ref p) H'
noncomputable def EZ:Sp:=λvs H Q _=>∃v ps,vs=[v]/\Rep H (.lst (List.map vV ps)) v/\ps∈zv/\∀p H',aB H H'->H p=none->Rep H' (.lst ((Nm.weigh (fh ps) (uq ps)).map λx=>.tup [.int x.2,.int x.1])) (.ref p)->Q (.ref p) H'
noncomputable def fK (g:Gm) (st:bV) (ts:List (Int×bV)):List Dat:=match look g.ps st.1 with
 | some (.pick w rs)=>((cQ g.cs st.2 (.pick w rs)).zip ts).map λx=>.tup [.str x.1.word,cF x.2.2]
 | _=>ts.map λx=>.tup [.int x.1,cF x.2]
noncomputable def A9:Sp:=λvs H Q _=>∃gv sv g st n,vs=[gv,sv]/\Rep H (CF g) gv/\ie g n/\Rep H (cF st) sv/\qh g st/\(lH g st->∀p H',aB H H'->H p=none->H' p=some (.lst [])->Q (.ref p) H')/\∀ts,b6 g st ts->∀v H',aB H H'->cX H H' (.lst (fK g st ts)) v->Q v H'
noncomputable def E1:Sp:=λvs H Q _=>∃gv sv wv l g st ts ss n,vs=[gv,sv,wv,.ref l]/\Rep H (CF g) gv/\ie g n/\Rep H (cF st) sv/\qh g st/\b6 g st ts/\Rep H (.lst (fK g st ts)) wv/\Rep H (.lst (ss.map cF)) (.ref l)/\ss.length<=120/\(∀t∈dF ts,t∈ss)/\(∀s∈ss,dQ (.str s.1)=true)/\∀v H',aB H H'->cX H H' (eP g ss st ts) v->Q v H'
noncomputable def yo (g:Gm) (SS:List bV) (tss:List (List (Int×bV))):Dat:=.tup [.lst (zz g SS tss),.lst (SS.map cF),.lst (SS.map (eK g))]
noncomputable def E2:Sp:=λvs H Q _=>∃gv g n ft nm F o SS tss,vs=[gv]/\Rep H (CF g) gv/\ie g n/\(g.ps.map (·.1)).head?=some ft/\eF g (abu g.cs.length 0) F ft=some nm/\fW g o SS 0 [(nm,abu g.cs.length 0)] tss/\o<=2/\SS.length<=120/\(∀s∈SS,qh g s)/\(o=1->∀H',aB H H'->Q (.str "noway") H')/\(o=2->∀H',aB H H'->Q (.str "many") H')/\(o=0->∀v H',aB H H'->Rep H' (yo g SS tss) v->Q v H')
noncomputable def Ba:Sp:=λvs H Q _=>∃gv g ft nm F o SS tss,vs=[gv]/\Rep H (CF g) gv/\GoodG g/\(g.ps.map (·.1)).head?=some ft/\eF g (abu g.cs.length 0) F ft=some nm/\dQ (.str nm)=true/\o<=2/\fW g o SS 0 [(nm,abu g.cs.length 0)] tss/\SS.length<=120/\
 (o=1->∀H',aB H H'->Q (.str "noway") H')/\(o=2->∀H',aB H H'->Q (.str "many") H')/\
 (o=0->∀p b l wl bs xs ws H',aB H H'->H b=none->H wl=none->H' p=some (.tup [.ref b,.ref l,.ref wl])->H' b=some (.lst bs)->bq H' (zz g SS tss) bs->(∀v∈bs,Kj H H' b l v)->H' l=some (.lst xs)->Al (λs v=>zx (λa=>H a=none/\a≠b/\a≠l) H' v s.1 s.2) SS xs->H' wl=some (.lst ws)->bq H' (SS.map (eK g)) ws->Q (.ref p) H')
theorem yp:∀(cs:List (Str×Int)) (i:Nat),(km cs i).map (·.1)=cs.map λc=>(Sum.inr c.1:Key)
 | [],_=>rfl
 | c::cs,i=>by rw[km,aan,yp cs (i+1),aan]
theorem rE {K:abg} {H:Hp}:∀(cs:List (Str×Int)) (i:Nat) (vs:List V),vs.length=cs.length->(∀(j:Nat) v c,vs[j]?=some v->cs[j]?=some c->∃q,v=.ref q/\H q=some (.tup [.str c.1,.int ((i+j:Nat):Int)]))->
  ∃rows:List (Addr×Key×V),vs=rows.map (λr=>V.ref r.1)/\(∀r∈rows,gP K H r.1 [kV r.2.1,r.2.2])/\rows.map (·.2)=km cs i
 | [],_,vs,l,_=>⟨[],by rw[List.length_eq_zero_iff.mp l];rfl,(λr hr=>by cases hr),rfl⟩
 | c::cs,i,[],l,_=>by simp at l
 | c::cs,i,v::vs,l,h=>by
  obtain⟨q,rfl,hq⟩:=h 0 v c rfl rfl;obtain⟨rows,e1,e2,e3⟩:=rE (K:=K) (H:=H) cs (i+1) vs (by simpa using l) λj u d eu ed=>by
   have:=h (j+1) u d (by simpa using eu) (by simpa using ed)
   rw[show i+ (j+1)=i+1+j by lia] at this;exact this
  refine⟨(q,Sum.inr c.1,.int (i:Int))::rows,by rw[e1];rfl,λr hr=>?_,by rw[aan,e3];rfl⟩;rcases aaR.mp hr with rfl | hr
  ·exact gP.of hq
  ·exact e2 r hr
theorem wH {cs:List (Str×Int)} {i:Nat} {rows:List (Addr×Key×V)} (nd:(cs.map (·.1)).Nodup) (e:rows.map (·.2)=km cs i):(rows.map (·.2.1)).Nodup:=by
 have e2:rows.map (·.2.1)=cs.map λc=>(Sum.inr c.1:Key):=by
  rw[<-yp cs i,<-e,aaM]
  rfl
 rw[e2];unfold List.Nodup at *;rw[List.pairwise_map] at *;exact nd.imp λh z=>h (by injection z)
theorem nS {H:Hp} {d:Addr} {cs:List (Str×Int)} {n:Str} (hd:H d=some (.dK (km cs 0))) (hn:n∈cs.map (·.1)):lZ H d (.str n) (some (.int ((bU cs n:Nat):Int))):=.inl ⟨_,Sum.inr n,.inl hd,rfl,by rw[vY hn,aaY]⟩
theorem Bb {c:TT} {tb:TS} {D:Ends} {σ:L2.St} {H:Hp} (Pv:Nat->L2.St->Hp->Prop) {m:Nat} (h0:Pv m σ H)
  (hs:∀m σ H,Pv m σ H->∃b:Bool,∃Z:Hp->Prop,(∀Q:Bool->Hp->Prop,(∀H',Z H'->Q b H')->c σ H Q)/\∀H',Z H'->if b=true then tb {D with nx:=λσ' H'=>∃m',m'<m/\Pv m' σ' H',ct:=λσ' H'=>∃m',m'<m/\Pv m' σ' H',bk:=D.nx} σ H' else D.nx σ H'):vx c tb D σ H:=by
 refine⟨Pv,⟨m,h0⟩,?_⟩;intro m σ H p;obtain⟨b,Z,k,q⟩:=hs m σ H p;refine k _ λH' z=>?_;have q:=q H' z;cases b with
 | true=>exact⟨_,λσ' H' h=>h,q⟩
 | false=>exact q
theorem E3 {xs:List V} {k:Int} (h:0<=k):xk xs (some k) none=xs.drop k.toNat:=by
 unfold xk;obtain⟨n,rfl⟩:=Int.eq_ofNat_of_zero_le h;rw[HT.xj,HT.Ao,aaS];by_cases c:n<=xs.length
 ·rw[Nat.min_eq_left c,aaA (by rw[List.length_drop];lia)]
 ·rw[Nat.min_eq_right (by lia),List.drop_of_length_le (aam _),List.drop_of_length_le (by lia),List.take_nil]
theorem E4 {H:Hp} {ds:List Dat} {vs:List V} {i:Nat} {d:Dat} {v:V} (h:bq H ds vs) (r:Rep H d v):bq H (ds.set i d) (vs.set i v):=by
 refine bq.of (by rw[aaP,aaP];exact h.length) λj e u ej eu=>?_;rw[List.getElem?_set] at ej eu;by_cases c:i=j
 ·rw[if_pos c] at ej eu;split at ej
  ·cases ej;split at eu
   ·cases eu;exact r
   ·cases eu
  ·cases ej
 ·rw[if_neg c] at ej eu;obtain⟨e',a,b⟩:=h.get eu;rw[ej] at a;cases a;exact b
set_option tactic.hygienic true in
theorem Bc {n j:Nat} {x:Str} (e:(pN.take n)[j]?=some x):mF n x:=by
 rw[List.getElem?_take] at e;split at e
 ·rename_i h;exact⟨j,h,e⟩
 ·cases e
theorem j7 {l:List Str} {j:Nat} {x:Str} (e:l[j]?=some x):j2 (l.map V.str) (j:Int)=some (.str x):=cB (by rw[aal,e];rfl)
theorem cX.fresh {G H:Hp} {d:Dat} {v:V} {p:Addr} {ys:List V} {o:HO} (h:cX G H d v) (n:H p=none):cX (upd G p (.lst ys)) (upd H p o) d v:=Rep.mono (λa b e=>by
 obtain⟨c,k⟩:=nR e;have ne:a≠p:=λz=>by rw[z,n] at k;cases k
 rw[gw (λzs z=>by rw[aA ne] at z;exact c zs z),aA ne];exact k) h
noncomputable def nU (cs:List (Str×Int)) (v:Int) (ms:List Int):Dd->List Int
 | .set n k=>ms.set (bU cs n) k
 | .plus n k=>ms.set (bU cs n) (ms.getD (bU cs n) 0+k)
 | .face n=>ms.set (bU cs n) (ms.getD (bU cs n) 0+v)
 | .move n m=>(ms.set (bU cs m) (ms.getD (bU cs m) 0+ms.getD (bU cs n) 0)).set (bU cs n) 0
theorem E5 {cs:List (Str×Int)} {v:Int} {ms:List Int}:∀{d:Dd},(nU cs v ms d).length=ms.length
 | .set _ _=>aaP
 | .plus _ _=>aaP
 | .face _=>aaP
 | .move _ _=>by unfold nU;rw[aaP,aaP]
theorem wI {cs:List (Str×Int)} {ms:List Int} {i j:Nat} {k:Int} (ir:x8 cs ms) (hi:i<cs.length) (hj:j<cs.length):min ((ms.set i k).getD j 0) (most cs j)=(o6 cs ms i k).getD j 0:=by
 have ec:=aat hj;have m:=wb ec;have b:=ir.2 j _ ec;unfold o6;rw[iE (by rw[ir.1];exact hi),iE (by rw[ir.1];exact hi)];by_cases c:j=i
 ·subst c;rw[if_pos rfl,if_pos rfl]
 ·rw[if_neg c,if_neg c,m];lia
theorem clamp {cs:List (Str×Int)} {v:Int} {ms:List Int} (h0:∀(i:Nat) c,cs[i]?=some c->0<=c.2) (ir:x8 cs ms):∀{d:Dd},qI cs d->∀j,j<cs.length->min ((nU cs v ms d).getD j 0) (most cs j)=(fV cs v ms d).getD j 0
 | .set n k,h,j,hj=>wI ir (bZ h.1) hj
 | .plus n k,h,j,hj=>wI ir (bZ h.1) hj
 | .face n,h,j,hj=>wI ir (bZ h) hj
 | .move n m,h,j,hj=>by
  have ec:=aat hj;have z:=h0 j _ ec;have mo:=wb ec;show min (((ms.set _ _).set _ 0).getD j 0) _=((o6 _ _ _ _).set _ 0).getD j 0;have e1:=iE (l:=ms.set (bU cs m) (ms.getD (bU cs m) 0+ms.getD (bU cs n) 0)) (i:=bU cs n) (j:=j) (v:=0) (by rw[aaP,ir.1];exact bZ h.1);have e2:=iE (l:=o6 cs ms (bU cs m) (ms.getD (bU cs m) 0+ms.getD (bU cs n) 0)) (i:=bU cs n) (j:=j) (v:=0) (by rw[gE,ir.1];exact bZ h.1);rw[e1,e2];by_cases c:j=bU cs n
  ·rw[if_pos c,if_pos c,mo];lia
  ·rw[if_neg c,if_neg c];exact wI ir (bZ h.2.1) hj
noncomputable def zN:Dd->Str
 | .set n _=>n
 | .plus n _=>n
 | .face n=>n
 | .move n _=>n
noncomputable def Lw:Dd->List V
 | .set n k=>[.str "set",.str n,.int k]
 | .plus n k=>[.str "plus",.str n,.int k]
 | .face n=>[.str "face",.str n]
 | .move n m=>[.str "move",.str n,.str m]
theorem Hr {H:Hp} {v:V}:∀{d:Dd},Rep H (xT d) v->∃q,v=.ref q/\H q=some (.tup (Lw d))
 | .set n k,h=>by obtain⟨q,x,y,z,e,hq,a,b,c⟩:=cP.mp (show Rep H (.tup _) v from h);rw[aH.mp a,aH.mp b,bb.mp c] at hq;exact⟨q,e,hq⟩
 | .plus n k,h=>by obtain⟨q,x,y,z,e,hq,a,b,c⟩:=cP.mp (show Rep H (.tup _) v from h);rw[aH.mp a,aH.mp b,bb.mp c] at hq;exact⟨q,e,hq⟩
 | .face n,h=>by obtain⟨q,x,y,e,hq,a,b⟩:=bo.mp (show Rep H (.tup _) v from h);rw[aH.mp a,aH.mp b] at hq;exact⟨q,e,hq⟩
 | .move n m,h=>by obtain⟨q,x,y,z,e,hq,a,b,c⟩:=cP.mp (show Rep H (.tup _) v from h);rw[aH.mp a,aH.mp b,aH.mp c] at hq;exact⟨q,e,hq⟩
theorem E6 {cs:List (Str×Int)}:∀{d:Dd},qI cs d->zN d∈cs.map (·.1)
 | .set _ _,h=>h.1
 | .plus _ _,h=>h.1
 | .face _,h=>h
 | .move _ _,h=>h.1
theorem NG (d:Dd):j2 (Lw d) 1=some (.str (zN d)):=by cases d <;>rfl
noncomputable def E7 (g:Gm) (st:bV) (r:Rw):bV:=(G4 g st.2 r).getD st
noncomputable def FF (g:Gm) (st:bV) (rs:List Tw) (v:Int):bV:=((qg rs v).bind λr=>Ci g st.2 r v).getD st
theorem tG {g:Gm} {st:bV} {ts:List (Int×bV)} {w:Int} {rs:List Rw} (lk:look g.ps st.1=some (.pick w rs)) (go:b6 g st ts):fK g st ts=(cQ g.cs st.2 (.pick w rs)).map λr=>.tup [.str r.word,cF (E7 g st r)]:=by
 unfold b6 at go;rw[lk] at go;have go:Goes g st (ts.map (·.2)):=go;unfold Goes at go;rw[lk] at go;obtain⟨_,l,h⟩:=go;rw[aak] at l;unfold fK;rw[lk];apply List.ext_getElem?;intro i;rw[aal,aal];cases e:(cQ g.cs st.2 (.pick w rs))[i]? with
 | none=>
  have:=List.getElem?_eq_none_iff.mp e
  rw[aa3 (l:=List.zip _ _) (by rw[List.length_zip];lia)]
  rfl
 | some r=>
  obtain⟨t,et,eg,_⟩:=h i r e;rw[aal] at et;obtain⟨x,ex,rfl⟩:=abm.mp et;rw[List.getElem?_zip_eq_some (z:=(r,x)).mpr ⟨e,ex⟩];show some (Dat.tup [.str r.word,cF x.2])=some (Dat.tup [.str r.word,cF ((G4 g st.2 r).getD st)]);rw[eg]
  rfl
theorem Hs {g:Gm} {st:bV} {ts:List (Int×bV)} {ps:List Pt} {t b:Int} {rs:List Tw} (lk:look g.ps st.1=some (.fH (List.map vV ps) t b rs)) (hp:ps∈zv) (go:b6 g st ts):fK g st ts=(Nm.weigh (fh ps) (uq ps)).map λx=>.tup [.int x.2,cF (FF g st rs x.1)]:=by
 unfold b6 at go;rw[lk] at go;obtain⟨Hj,B,e1,gl,_,ib,lt,h⟩:=go;have e1:=rB e1;subst e1;have eB:B=uq ps:=sV ib (x6 gl);subst eB;unfold fK;rw[lk];show ts.map _=_;apply List.ext_getElem?;intro i;rw[aal,aal];cases e:(Nm.weigh (fh ps) (uq ps))[i]? with
 | none=>
  have:=List.getElem?_eq_none_iff.mp e
  unfold Nm.weigh at this;rw[aak] at this;rw[aa3 (l:=ts) (by lia)]
  rfl
 | some x=>
  obtain⟨r,s,er,et,eg,_⟩:=h i x e;rw[et];show some (Dat.tup [.int x.2,cF s])=some (Dat.tup [.int x.2,cF (((qg rs x.1).bind λr=>Ci g st.2 r x.1).getD st)]);rw[er];show _=some (Dat.tup [.int x.2,cF ((Ci g st.2 r x.1).getD st)]);rw[eg]
  rfl
theorem E8 {g:Gm} {st:bV} {x:Wt} (lk:look g.ps st.1=some x) (hx:∀w rs,x≠.pick w rs):fK g st []=[]:=by
 unfold fK;rw[lk];cases x with
 | pick w rs=>exact absurd rfl (hx w rs)
 | _=>rfl
theorem Bd (s:bV):df (cF s)=.tuple [.str s.1,.list (s.2.map PyData.int)]:=by
 unfold cF;rw[df,iy,iy,iy,df,df,o8]
theorem Be {a b:bV} (h:df (cF a)=df (cF b)):a=b:=by
 rw[Bd,Bd] at h;injection h with h;injection h with h1 h2;injection h1 with h1;injection h2 with h2 _;injection h2 with h2;have h3:a.2=b.2:=List.map_inj_right (f:=PyData.int) (λx y e=>by injection e) |>.mp h2;exact Prod.ext h1 h3
theorem tH {s:bV} (h:dQ (.str s.1)=true):Ke (cF s):=j6 (n:=2) (jA (bP h) (d8 λd hd=>by obtain⟨k,_,rfl⟩:=abo.mp hd;exact b8 _)) ∅
theorem Bf {ss:List bV} {s:bV} (h:s∈ss):((ss.map cF).map df)[ss.idxOf s]?=some (df (cF s))/\∀j,j<ss.idxOf s->((ss.map cF).map df)[j]?≠some (df (cF s)):=by
 have hl:=List.idxOf_lt_length_of_mem h;refine⟨by rw[aal,aal,aat hl,List.getElem_idxOf];rfl,λj hj e=>?_⟩;rw[aal,aal] at e;obtain⟨d,ed,e⟩:=abm.mp e;obtain⟨x,ex,rfl⟩:=abm.mp ed
 have:=Be e
 subst this;have hx:ss[j]=x:=(abn.mp ex).2
 have:=List.not_of_lt_findIdx (p:=(·==x)) (xs:=ss) (show j<ss.findIdx (·==x) from hj)
 rw[hx] at this;simp at this
theorem E9 {a:TS} {D:Ends} {σ:L2.St} {H:Hp} (C:(L2.St->Hp->Prop)->Prop) (hb:C D.nx) (ha:∀N:L2.St->Hp->Prop,C N->a {D with nx:=N} σ H):a D σ H:=ha _ hb
theorem tI:bj ["_law_script","_law_k","_law_base"] ["_law_script","_law_k"] (aq (top 43)):=⟨rfl,rfl,rfl,∅,rfl,∅,∅⟩
theorem Fb (T:Txt K mg aG aI aJ aE aK ag aF):dj P w K mg base (bL P w) 1 "_law_at" ["_law_script","_law_k"] (jc K):=by
 refine T.B9.fE (λ_ _ _ _ _ _=>iz λ_ _=>rfl) λf fd F=>F.gQ tI (λvs H Q E h=>?_) (λcw A outer s H vs Q E hr h=>?_)
 ·obtain⟨_,_,_,rfl,_⟩:=h;rfl
 ·symm;obtain⟨a,ns,k,rfl,hS,k0,k1,kk⟩:=h;nofun;have nd:=tI.nd;refine⟨_,(ao (bF (aN mY (pv 1) (bf (me (K:=K)) (by rfl) T.z_len aav (aa (pv 0) af (se rfl)) (he:=se rfl) (hpl:=na rfl)) (aX _)) (av (aW (aD (uV (K:=K)) (pv 0) (pv 1) (λ_ _=>rfl))))
   br)
  (ao (aS (i:=2) nd rfl (.inl rfl) ae)
  (ao (bF (aN lA (bf (me (K:=K)) (by rfl) T.z_len aav (aa (pv 0) af (se rfl)) (he:=se rfl) (hpl:=na rfl)) ae (aX _)) (av (aS (i:=2) nd rfl (.inl rfl) (aU bS (aD (uV (K:=K)) (pv 0) (aU bS (aU bN (aU c8 (pv 1) ae) ae) (bf (me (K:=K)) (by rfl) T.z_len aav (aa (pv 0) af (se rfl)) (he:=se rfl) (hpl:=na rfl))) (λ_ _=>rfl)) ae)))
   br)
  (av (aW (aU bS (aU c8 (aU bN (aU bN (pv 2) (aU c8 ae (pv 1))) ae) (aU bN (aU bN (aU c8 (pv 2) ae) (aU c8 (pv 1) (pv 1))) ae)) ae)))))),?_⟩
  refine(?_:let cO:TS:=_;let cI:TS:=_;let cJ:TS:=_;let d7:TS:=_;tSeq cO (tSeq cI (tSeq cJ d7)) _ _ _);intro cO cI cJ d7;have sl:=sizeLine_eq;dsimp?[Jz];have kq:IntMulOk k k:=eX (by lia) (by lia);refine⟨ns,hS,oF (λc=>⟨ns,hS,k0,c,kk _⟩) (λc=>⟨ns,hS,oF (λz=>?_) (λz=>?_)⟩)⟩
  ·have m1:=Int.emod_nonneg (ns.getD ((k*21+8) % (ns.length:Int)).toNat 0) (show(998749:Int)≠0 by decide);have m2:=Int.emod_lt_of_pos (ns.getD ((k*21+8) % (ns.length:Int)).toNat 0) (show(0:Int)<998749 by decide);exact⟨oG,ns,hS,z,ns,hS,Int.emod_nonneg _ (by lia),Int.emod_lt_of_pos _ z,∅,eX,oG,kq,eX (by lia) (by lia),∅,kk _⟩
  ·exact⟨eX,eX,kq,eX (by lia) (by lia),∅,kk _⟩
theorem lR:bj ["_law_script","_law_at_here","_law_counts","_law_is_thrown","_law_deeds_here","_law_j","_law_cell","_law_name","_law_other"] ["_law_script","_law_at_here","_law_counts","_law_is_thrown"] (aq (top 44)):=⟨rfl,rfl,rfl,∅,rfl,∅,∅⟩
theorem NH (T:Txt K mg aG aI aJ aE aK ag aF):dj P w K mg base (bL P w) 2 "_law_deeds" ["_law_script","_law_at_here","_law_counts","_law_is_thrown"] (yn K):=by
 have eG:dj P w K mg base (bL P w) 1 "_law_at" ["_law_script","_law_k"] (jc K):=Fb T;refine T.vQ.fE (λ_ _ _ _ _ _=>zu λ_ _ _ _=>rfl) λf fd F=>F.gQ lR (λvs H Q E h=>?_) (λcw A outer s H vs Q E hr h=>?_)
 ·obtain⟨_,_,_,_,_,_,rfl,_⟩:=h;rfl
 ·symm;obtain⟨a,ns,k0,v,cs,th,rfl,hS,k00,k09,rc,gc,kk⟩:=h;nofun;clear G_;have nd:=lR.nd;refine⟨_,(ao (aS (i:=4) nd rfl (.inl rfl) (bK af))
  (ao (cV PassesOwn.never rfl (dD rfl T.z_range (aa (aU c8 (aU bS (bw eG (hr.mono ∅) rfl aO.pass (aa (pv 0) (aa (pv 1) af (se rfl)) (se rfl)) (he:=se rfl) (hpl:=na rfl)) ae) (cf mn (by rfl) T.z_int rfl (aa (iQ lA (bf bD (by rfl) T.z_len aav (aa (pv 2) af (se rfl)) (he:=se rfl) (hpl:=na rfl)) ae (aX _)) af (se rfl)) (he:=se rfl) (hpl:=na rfl))) af (se rfl))) (aP (i:=5) nd rfl (.inl rfl)) (ao (aS (i:=6) nd rfl (.inl rfl) (bw eG (hr.mono ∅) rfl aO.pass (aa (pv 0) (aa (aU bN (aU bN (pv 1) ae) (pv 5)) af (se rfl)) (se rfl)) (he:=se rfl) (hpl:=na rfl)))
  (ao (aS (i:=7) nd rfl (.inl rfl) (aD au (aD bg (pv 2) (aU bS (aU cC (pv 6) ae) (bf bD (by rfl) T.z_len aav (aa (pv 2) af (se rfl)) (he:=se rfl) (hpl:=na rfl))) (λ_ _=>rfl)) ae (λ_ _=>rfl)))
  (ao (aS (i:=8) nd rfl (.inl rfl) (aD au (aD bg (pv 2) (aU bS (aU bN (aU cC (pv 6) ae) ae) (bf bD (by rfl) T.z_len aav (aa (pv 2) af (se rfl)) (he:=se rfl) (hpl:=na rfl))) (λ_ _=>rfl)) ae (λ_ _=>rfl)))
  (av (bF (PW.pt (pw_and (aN bY (aU bS (pv 6) ae) ae (aX _)) (pw_and1 (aN CU (pv 8) (pv 7) (aX _))))) (av (bR (dY aaD aaI aaJ cm.r (pv 4) (aa (aY (aa aV (aa (pv 7) (aa (pv 8) af (se rfl)) (se rfl)) (se rfl))) af (se rfl)))))
   (av (bF (PW.pt (pw_and (aN mY (aU bS (pv 6) ae) ae (aX _)) (pw_and1 (rL (pv 3))))) (av (bR (dY aaD aaI aaJ cm.r (pv 4) (aa (aY (aa aV (aa (pv 7) af (se rfl)) (se rfl))) af (se rfl)))))
   (av (bR (dY aaD aaI aaJ cm.r (pv 4) (aa (aY (aa (aD bg (bK (aa aV (aa aV af (se rfl)) (se rfl))) (aU bS (pv 6) ae) (λ_ _=>rfl)) (aa (pv 7) (aa (aU bS (aU cC (pv 6) ae) ae) af (se rfl)) (se rfl)) (se rfl))) af (se rfl)))))))))))))
  (av (aW (pv 4))))),?_⟩
  refine(?_:let cO:TS:=_;let cI:TS:=_;let cJ:TS:=_;tSeq cO (tSeq cI cJ) _ _ _);intro cO cI cJ;have sl:=sizeLine_eq;obtain⟨c3,cg⟩:=id gc;symm;obtain⟨cl,ig,rfl,gq,qo⟩:=aQ.mp (show Rep H (.lst _) v from rc);nofun;clear G_;have wy:cs.length=ig.length:=by have:=qo.length;rw[aak] at this;exact this
  have place:∀{i:Nat} {c},cs[i]?=some c->∃q,ig[i]?=some (.ref q)/\H q=some (.tup [.str c.1,.int c.2]):=λ{i c} e=>by
   obtain⟨v,ev,rv⟩:=qo.at (i:=i) (by rw[aal,e];rfl);symm;obtain⟨q,a,b,rfl,hq,r1,r2⟩:=bo.mp (show Rep H (.tup _) v from rv);rw[aH] at r1;rw[bb] at r2;subst r1 r2;nofun;exact⟨q,ev,hq⟩
  change tSeq _ _ _ _ _;refine aZ (λN=>∀H1 l,aB H H1->H l=none->H1 l=some (.lst [])->N [some (.ref a),some (.int k0),some (.ref cl),some (.bl th),some (.ref l),none,none,none,none] H1) ?_ (λN hN=>?_)
  case refine_2=>
   dsimp?[];exact⟨aap _,λl nl=>hN _ l (ai nl) nl aj⟩
  rintro H1 l s1 nl hl;change tSeq _ _ _ _ _;refine aZ (λN=>∀H2 ds xs,aB H H2->H2 l=some (.lst xs)->nJ cs ds->cA (upd H l (.lst [])) H2 (ds.map xT) xs->∀z5 z6 z7 z8,N [some (.ref a),some (.int k0),some (.ref cl),some (.bl th),some (.ref l),z5,z6,z7,z8] H2) ?_ (λN hN=>?_)
  case refine_2=>
   dsimp?[jc];refine⟨ns,s1.seq hS,by lia,by lia,λn8=>?_⟩;have m1:=Int.emod_nonneg n8 (show(3:Int)≠0 by decide);have m2:=Int.emod_lt_of_pos n8 (show(0:Int)<3 by decide);refine⟨∅,_,s1 _ _ gq,?_⟩;generalize hb:(if (0:Int)< (ig.length:Int) then (1:Int) else 0)=b;have YL:(b=1/\0<cs.length)\/b=0:=by
    subst hb;split
    ·exact .inl ⟨rfl,by lia⟩
    ·exact .inr rfl
   have mf:(n8 % 3*b).toNat<=2/\(0< (n8 % 3*b).toNat->0<cs.length)/\IntMulOk (n8 % 3) b/\-2^62<=n8 % 3*b/\n8 % 3*b<2^62:=by
    rcases YL with ⟨e,p⟩ | e
    ·rw[e,Int.mul_one];exact⟨by lia,λ_=>p,oG,by lia,by lia⟩
    ·rw[e,Int.mul_zero];exact⟨∅,λh=>absurd h ∅,oG,∅,∅⟩
   symm;obtain⟨m2',mp,mo,YM,YN⟩:=mf;nofun;clear G_;refine⟨mo,YM,YN,?_⟩;clear mo YM YN YL hb;generalize (n8 % 3*b).toNat=m at *;refine b9 (src_range (Ok:=λ_=>True)) (λi σ H2=>aB H H2/\∃ds xs,H2 l=some (.lst xs)/\ds.length=i/\(∀d∈ds,qI cs d)/\cA (upd H l (.lst [])) H2 (ds.map xT) xs/\∃z5 z6 z7 z8,σ=[some (.ref a),some (.int k0),some (.ref cl),some (.bl th),some (.ref l),z5,z6,z7,z8]) ⟨s1,[],[],hl,rfl,(λd hd=>by cases hd),eA,_,_,_,_,rfl⟩ (λ_ _ _ _ _=>trivial) ?_ ?_
   ·intro i x σ H2 H3 hi fR fo;symm;obtain⟨s3,ds,xs,hx,ld,gd,rx,z5,z6,z7,z8,rfl⟩:=fR;obtain⟨rfl,rfl⟩:=fo;nofun;have xl:xs.length=i:=by have:=bq.length rx;rw[aak] at this;lia
    have c1:0<cs.length:=mp (by lia);have li:d9 (upd H l (.lst [])) H3:=λb ys e=>by
     by_cases c:b=l
     ·subst c;exact⟨_,hx⟩
     ·rw[aA c] at e;exact⟨_,s3 _ _ e⟩
    simp only[gName,abc,abb,Int.zero_add];change tSeq _ _ _ _ _;refine aZ (λN=>∀n:Int,N [some (.ref a),some (.int k0),some (.ref cl),some (.bl th),some (.ref l),some (.int (i:Int)),some (.int n),z7,z8] H3) ?_ (λN hN=>?_)
    case refine_2=>
     dsimp?[jc];exact⟨ns,s3.seq hS,by lia,by lia,λn=>hN n⟩
    rintro n;change tSeq _ _ _ _ _;refine aZ (λN=>∀c,c∈cs.map (·.1)->N [some (.ref a),some (.int k0),some (.ref cl),some (.bl th),some (.ref l),some (.int (i:Int)),some (.int n),some (.str c),z8] H3) ?_ (λN hN=>?_)
    case refine_2=>
     symm;obtain⟨k,c,ek,ec⟩:=iW (l:=cs) (n / 5) c1;obtain⟨q,eq,hq⟩:=place ec;nofun;have qV:j2 ig (n / 5 % (ig.length:Int))=some (.ref q):=by rw[<-wy,ek];exact cB eq
     dsimp?[s3 _ _ gq];exact⟨dR.lit,by lia,_,qV,_,rfl,_,s3 _ _ hq,_,at0,hN _ (abo.mpr ⟨_,aar ec,rfl⟩)⟩
    rintro c hc;change tSeq _ _ _ _ _;refine aZ (λN=>∀c',c'∈cs.map (·.1)->N [some (.ref a),some (.int k0),some (.ref cl),some (.bl th),some (.ref l),some (.int (i:Int)),some (.int n),some (.str c),some (.str c')] H3) ?_ (λN hN=>?_)
    case refine_2=>
     symm;obtain⟨k,c',ek,ec⟩:=iW (l:=cs) (n / 5+1) c1;obtain⟨q,eq,hq⟩:=place ec;nofun;have qV:j2 ig ((n / 5+1) % (ig.length:Int))=some (.ref q):=by rw[<-wy,ek];exact cB eq
     dsimp?[s3 _ _ gq];exact⟨dR.lit,by lia,_,qV,_,rfl,_,s3 _ _ hq,_,at0,hN _ (abo.mpr ⟨_,aar ec,rfl⟩)⟩
    rintro c' OL;have push:∀(d:Dd) (p:Addr) (H5:Hp),aB H3 H5->cX (upd H l (.lst [])) H5 (xT d) (.ref p)->qI cs d->aB H (upd H5 l (.lst (xs++ [.ref p])))/\∃(Ht:List Dd) (Ft:List V),upd H5 l (.lst (xs++ [.ref p])) l=some (.lst Ft)/\Ht.length=i+1/\(∀d∈Ht,qI cs d)/\cA (upd H l (.lst [])) (upd H5 l (.lst (xs++ [.ref p]))) (Ht.map xT) Ft:=λd p H5 s5 rp gd'=>by
     refine⟨bI (s3.trans s5) nl,ds++ [d],_,aj,by rw[aaq,ld];rfl,λe he=>?_,?_⟩
     ·rcases List.mem_append.mp he with he | he
      ·exact gd e he
      ·rw[abp.mp he];exact gd'
     ·show bq (fy _ (upd _ _ _)) _ _;rw[fJ (ys:=[]) aj,aaw];exact gZ rp (rx.mono s5)
    have ty:F6 K "list" (.ref l) H3:=.inl ⟨rfl,_,bH.of hx⟩;change tIfS _ _ _ _ [some (.ref a),some (.int k0),some (.ref cl),some (.bl th),some (.ref l),some (.int (i:Int)),some (.int n),some (.str c),some (.str c')] H3;by_cases a1:n % 5=0/\c'≠c
    ·refine dE (λY N k=>by dsimp?[];exact⟨∅,by rw[if_pos a1.1,if_pos a1.2];exact k⟩) ?_;dsimp?[cZ];refine⟨ty,by lia,λp1 H5 s5 FG e5=>?_⟩;symm;obtain⟨w1,Ht,Ft,w2,w3,w4,w5⟩:=push (.move c c') p1 H5 s5 (wG (li.trans s5) e5 bQ bQ bQ) ⟨hc,OL,Ne.symm a1.2⟩;nofun;exact⟨_,s5 _ _ hx,by lia,w1,Ht,Ft,w2,w3,w4,w5,_,rfl⟩
    ·refine c6 (λY N k=>by
      dsimp?[];refine⟨∅,?_⟩;by_cases e:n % 5=0
      ·rw[if_pos e,if_neg (λz=>a1 ⟨e,z⟩)];exact k
      ·rw[if_neg e,if_neg ∅];exact k) ?_
     change tIfS _ _ _ _ [some (.ref a),some (.int k0),some (.ref cl),some (.bl th),some (.ref l),some (.int (i:Int)),some (.int n),some (.str c),some (.str c')] H3;by_cases a2:n % 5<3/\th=true
     ·refine dE (λY N k=>by dsimp?[];exact⟨∅,by rw[if_pos a2.1,if_pos a2.2];exact k⟩) ?_;dsimp?[cZ];refine⟨ty,by lia,λp1 H5 s5 FG e5=>?_⟩;symm;obtain⟨w1,Ht,Ft,w2,w3,w4,w5⟩:=push (.face c) p1 H5 s5 (iJ (li.trans s5) e5 bQ bQ) hc;nofun;exact⟨_,s5 _ _ hx,by lia,w1,Ht,Ft,w2,w3,w4,w5,_,rfl⟩
     ·refine c6 (λY N k=>by
       dsimp?[];refine⟨∅,?_⟩;by_cases e:n % 5<3
       ·rw[if_pos e,if_neg (λz=>a2 ⟨e,z⟩)];exact k
       ·rw[if_neg e,if_neg ∅];exact k) ?_
      have q0:0<=n / 40 % 4:=by lia
      obtain⟨ww,dw,h2w,edw,odw⟩:∃w d,j2 [V.str "set",V.str "plus"] (n % 2)=some (.str w)/\xT d=.tup [.str w,.str c,.int (n / 40 % 4)]/\qI cs d:=by
       have o:n % 2=0\/n % 2=1:=by lia
       rcases o with o | o
       ·rw[o];exact⟨_,.set c (n / 40 % 4),rfl,rfl,hc,q0⟩
       ·rw[o];exact⟨_,.plus c (n / 40 % 4),rfl,rfl,hc,q0⟩
      dsimp?[cZ];refine⟨ty,by lia,λp np=>⟨∅,_,aj,_,h2w,dR.lit,∅,by lia,λp1 H5 s5 FG e5=>?_⟩⟩;have RH:=(ai np).trans s5;obtain⟨w1,Ht,Ft,w2,w3,w4,w5⟩:=push dw p1 H5 RH (by rw[edw];exact wG (li.trans RH) e5 bQ bQ b5) odw;exact⟨_,RH _ _ hx,by lia,w1,Ht,Ft,w2,w3,w4,w5,_,rfl⟩
   ·intro σ H2 dG;symm;obtain⟨s3,ds,xs,hx,ld,gd,rx,z5,z6,z7,z8,rfl⟩:=dG;nofun;exact hN _ ds xs s3 hx ⟨by lia,gd⟩ rx _ _ _ _
  rintro H2 ds xs s2 hx dk rx z5 z6 z7 z8;dsimp?[];exact kk _ ds H2 s2 dk (gN nl hx (rx.low (.of (ai nl))))
theorem nV:bj ["_law_script","_law_at_here","_law_k","_law_counts","_law_names","_law_cell","_law_kind","_law_aims","_law_behind_here","_law_cut","_law_pools","_law_pool","_law_rows","_law_j","_law_when"] ["_law_script","_law_at_here","_law_k","_law_counts","_law_names"] (aq (top 45)):=⟨rfl,rfl,rfl,∅,rfl,∅,∅⟩
theorem NI (T:Txt K mg aG aI aJ aE aK ag aF):dj P w K mg base (bL P w) 3 "_law_what" ["_law_script","_law_at_here","_law_k","_law_counts","_law_names"] (EX K):=by
 have eG:dj P w K mg base (bL P w) 1 "_law_at" ["_law_script","_law_k"] (jc K):=Fb T;have iX:dj P w K mg base (bL P w) 2 "_law_deeds" ["_law_script","_law_at_here","_law_counts","_law_is_thrown"] (yn K):=NH T;refine T.xN.fE (λ_ _ _ _ _ _=>QS λ_ _ _ _ _=>rfl) λf fd F=>F.gQ nV (λvs H Q E h=>?_) (λcw A outer s H vs Q E hr h=>?_)
 ·obtain⟨_,_,_,_,_,_,_,_,rfl,_⟩:=h;rfl
 ·symm;obtain⟨a,ns,v,cs,nl,t,k,n,rfl,hS,t1,rc,gc,hn,kn,n6,kk⟩:=h;nofun;clear G_;have nd:=nV.nd;refine⟨_,(ao (aS (i:=5) nd rfl (.inl rfl) (bw eG (hr.mono ∅) rfl aO.pass (aa (pv 0) (aa (pv 1) af (se rfl)) (se rfl)) (he:=se rfl) (hpl:=na rfl)))
  (ao (aS (i:=6) nd rfl (.inl rfl) (aU bS (pv 5) ae))
  (ao (Ay (i:=7) rfl nd rfl rfl (N:=["_law_script","_law_at_here","_law_k","_law_counts","_law_names","_law_cell","_law_kind","_law_aims","_law_behind_here","_law_cut","_law_pools","_law_pool","_law_rows","_law_j","_law_when"]) (so:=aq (top 45)) (N':=["_law_j","_law_script","_law_at_here","_law_names"]) (k:=1) (fr:=[0,1,4]) rfl rfl ⟨rfl,∅,∅,∅,rfl,∅,∅⟩ (dD rfl T.z_range (aa ae af (se rfl))) (λ_ _ _ _ _=>(aP (i:=0) (show(["_law_j","_law_script","_law_at_here","_law_names"]:List Str).Nodup by decide +kernel) rfl (.inl rfl))) (λ_ _ _ _ _=>cL)
   (λ_ _ _ _ _=>(aD bg (pv 3) (aU bS (bw eG (hr.mono ∅) rfl aO.pass (aa (pv 1) (aa (aU bN (aU bN (pv 2) ae) (pv 0)) af (se rfl)) (se rfl)) (he:=se rfl) (hpl:=na rfl)) (bf bD (by rfl) T.z_len aav (aa (pv 3) af (se rfl)) (he:=se rfl) (hpl:=na rfl))) (λ_ _=>rfl))))
  (ao (bF (PW.pt (pw_and (aN bY (pv 6) ae (aX _)) (pw_and (aN lA (bf bD (by rfl) T.z_len aav (aa (pv 3) af (se rfl)) (he:=se rfl) (hpl:=na rfl)) ae (aX _)) (pw_and1 (aN mY (aU bN (pv 2) ae) (bf bD (by rfl) T.z_len aav (aa (pv 4) af (se rfl)) (he:=se rfl) (hpl:=na rfl)) (aX _)))))) (ao (aS (i:=8) nd rfl (.inl rfl) (mZ (ni (K:=K)) (pv 4) (qQ (aU bN (pv 2) ae)) qP))
  (av (aW (aY (aa aV (aa (aD au (aD bg (pv 3) (aU bS (aU cC (pv 5) ae) (bf bD (by rfl) T.z_len aav (aa (pv 3) af (se rfl)) (he:=se rfl) (hpl:=na rfl))) (λ_ _=>rfl)) ae (λ_ _=>rfl)) (aa (aU bS (aU cC (pv 5) ae) ae) (aa (aD bg (pv 8) ae (λ_ _=>rfl)) (aa (aD bg (pv 8) (aU bS (aU cC (pv 5) ae) (bf bD (by rfl) T.z_len aav (aa (pv 8) af (se rfl)) (he:=se rfl) (hpl:=na rfl))) (λ_ _=>rfl)) af (se rfl)) (se rfl)) (se rfl)) (se rfl)) (se rfl))))))
   br)
  (ao (bF (PW.pt (pw_and (aN bY (pv 6) ae (aX _)) (pw_and1 (aN lA (bf bD (by rfl) T.z_len aav (aa (pv 3) af (se rfl)) (he:=se rfl) (hpl:=na rfl)) ae (aX _))))) (av (aW (aY (aa aV (aa (aD au (aD bg (pv 3) (aU bS (aU cC (pv 5) ae) (bf bD (by rfl) T.z_len aav (aa (pv 3) af (se rfl)) (he:=se rfl) (hpl:=na rfl))) (λ_ _=>rfl)) ae (λ_ _=>rfl)) af (se rfl)) (se rfl)))))
   br)
  (ao (bF (aN mY (pv 6) ae (aX _)) (ao (aS (i:=9) nd rfl (.inl rfl) (aU bN ae (aU bS (aU cC (pv 5) ae) ae)))
  (ao (aS (i:=10) nd rfl (.inl rfl) (bK (aa (aY (aa aV (aa ae (aa ae af (se rfl)) (se rfl)) (se rfl))) (aa (aY (aa aV (aa ae (aa ae af (se rfl)) (se rfl)) (se rfl))) (aa (aY (aa aV (aa ae (aa ae (aa ae af (se rfl)) (se rfl)) (se rfl)) (se rfl))) (aa (aY (aa aV (aa ae (aa ae af (se rfl)) (se rfl)) (se rfl))) (aa (aY (aa aV (aa ae af (se rfl)) (se rfl))) af (se rfl)) (se rfl)) (se rfl)) (se rfl)) (se rfl))))
  (ao (aS (i:=11) nd rfl (.inl rfl) (bK (aa (aD bg (pv 10) (aU bS (aU cC (pv 5) ae) ae) (λ_ _=>rfl)) af (se rfl))))
  (ao (aS (i:=12) nd rfl (.inl rfl) (bK (aa (aY (aa ae (aa (pv 9) (aa (bw iX (hr.mono ∅) rfl aO.pass (aa (pv 0) (aa (aU bN (pv 1) ae) (aa (pv 3) (aa lq af (se rfl)) (se rfl)) (se rfl)) (se rfl)) (he:=se rfl) (hpl:=na rfl)) (aa (aD bg (pv 7) ae (λ_ _=>rfl)) af (se rfl)) (se rfl)) (se rfl)) (se rfl))) af (se rfl))))
  (ao (bR (dY aaD aaI aaJ cm.r (pv 12) (aa (aY (aa (aU bN (pv 9) ae) (aa ae (aa (bw iX (hr.mono ∅) rfl aO.pass (aa (pv 0) (aa (aU bN (pv 1) ae) (aa (pv 3) (aa lq af (se rfl)) (se rfl)) (se rfl)) (se rfl)) (he:=se rfl) (hpl:=na rfl)) (aa (aD bg (pv 7) ae (λ_ _=>rfl)) af (se rfl)) (se rfl)) (se rfl)) (se rfl))) af (se rfl))))
  (av (aW (aY (aa aV (aa (pv 11) (aa (aY (aa (aU lX (aU bS (aU cC (pv 5) ae) ae) ae) (aa ae af (se rfl)) (se rfl))) (aa (pv 12) af (se rfl)) (se rfl)) (se rfl)) (se rfl))))))))))
   br)
  (ao (bF (aN bY (pv 6) ae (aX _)) (ao (aS (i:=12) nd rfl (.inl rfl) (bK af))
  (ao (cV PassesOwn.never rfl (dD rfl T.z_range (aa (aU bN ae (aU bS (aU cC (pv 5) ae) ae)) af (se rfl))) (aP (i:=13) nd rfl (.inl rfl)) (ao (aS (i:=14) nd rfl (.inl rfl) yJ)
  (ao (bF (PW.pt (pw_and (aN lA (bf bD (by rfl) T.z_len aav (aa (pv 3) af (se rfl)) (he:=se rfl) (hpl:=na rfl)) ae (aX _)) (pw_and1 (aN bY (aU bS (aU cC (pv 5) (aD bg (bK (aa ae (aa ae (aa ae af (se rfl)) (se rfl)) (se rfl))) (pv 13) (λ_ _=>rfl))) ae) ae (aX _))))) (av (aS (i:=14) nd rfl (.inl rfl) (aY (aa (aD au (aD bg (pv 3) (aU bS (pv 13) (bf bD (by rfl) T.z_len aav (aa (pv 3) af (se rfl)) (he:=se rfl) (hpl:=na rfl))) (λ_ _=>rfl)) ae (λ_ _=>rfl)) (aa (aD bg (bK (aa aV (aa aV af (se rfl)) (se rfl))) (aU bS (aU cC (pv 5) ae) ae) (λ_ _=>rfl)) (aa (aU bN ae (aU bS (aU cC (pv 5) ae) ae)) af (se rfl)) (se rfl)) (se rfl)))))
   br)
  (av (bR (dY aaD aaI aaJ cm.r (pv 12) (aa (aY (aa (aD bg (bK (aa aV (aa aV (aa aV af (se rfl)) (se rfl)) (se rfl))) (pv 13) (λ_ _=>rfl)) (aa (pv 14) (aa (bw iX (hr.mono ∅) rfl aO.pass (aa (pv 0) (aa (aU bN (aU bN (pv 1) ae) (aU c8 ae (pv 13))) (aa (pv 3) (aa lq af (se rfl)) (se rfl)) (se rfl)) (se rfl)) (he:=se rfl) (hpl:=na rfl)) (aa (aD bg (pv 7) (pv 13) (λ_ _=>rfl)) af (se rfl)) (se rfl)) (se rfl)) (se rfl))) af (se rfl))))))))
  (av (aW (aY (aa aV (aa (aU bN ae (aU bS (aU cC (pv 5) ae) ae)) (aa (pv 12) af (se rfl)) (se rfl)) (se rfl)))))))
   br)
  (av (aW (aY (aa aV (aa (aY (aa (aU lX (aU bS (aU cC (pv 5) ae) ae) ae) (aa ae af (se rfl)) (se rfl))) af (se rfl)) (se rfl)))))))))))),?_⟩
  refine(?_:let cO:TS:=_;let cI:TS:=_;let cJ:TS:=_;let d7:TS:=_;let qk:TS:=_;let yd:TS:=_;let EI:TS:=_;let ID:TS:=_;tSeq cO (tSeq cI (tSeq cJ (tSeq d7 (tSeq qk (tSeq yd (tSeq EI ID)))))) _ _ _);intro cO cI cJ d7 qk yd EI ID;have sl:=sizeLine_eq;obtain⟨c3,cg⟩:=id gc;symm;obtain⟨cl,ig,rfl,gq,qo⟩:=aQ.mp (show Rep H (.lst _) v from rc);nofun;clear G_;have wy:cs.length=ig.length:=by have:=qo.length;rw[aak] at this;exact this
  have place:∀{i:Nat} {c},cs[i]?=some c->∃q,ig[i]?=some (.ref q)/\H q=some (.tup [.str c.1,.int c.2]):=λ{i c} e=>by
   obtain⟨v,ev,rv⟩:=qo.at (i:=i) (by rw[aal,e];rfl);symm;obtain⟨q,a,b,rfl,hq,r1,r2⟩:=bo.mp (show Rep H (.tup _) v from rv);rw[aH] at r1;rw[bb] at r2;subst r1 r2;nofun;exact⟨q,ev,hq⟩
  have IC:(pN.take n).length=n:=by rw[aa1];show min n 6=n;lia
  have l6:((pN.take n).length:Int)=(n:Int):=by rw[IC]
  change tSeq _ _ _ _ _;refine aZ (λN=>∀c:Int,N [some (.ref a),some (.int (t:Int)),some (.int (k:Int)),some (.ref cl),some (.ref nl),some (.int c),none,none,none,none,none,none,none,none,none] H) ?_ (λN hN=>?_)
  case refine_2=>
   dsimp?[jc];exact⟨ns,hS,by lia,by lia,λc=>hN c⟩
  rintro c;change tSeq _ _ _ _ _;refine aZ (λN=>N [some (.ref a),some (.int (t:Int)),some (.int (k:Int)),some (.ref cl),some (.ref nl),some (.int c),some (.int (c % 6)),none,none,none,none,none,none,none,none] H) ?_ (λN hN=>?_)
  case refine_2=>
   dsimp?[];exact⟨∅,hN⟩
  change tSeq _ _ _ _ _;refine aZ (λN=>∀H1 al a0 a1 a2,aB H H1->H1 al=some (.lst [.str a0,.str a1,.str a2])->mF n a0->mF n a1->mF n a2->N [some (.ref a),some (.int (t:Int)),some (.int (k:Int)),some (.ref cl),some (.ref nl),some (.int c),some (.int (c % 6)),some (.ref al),none,none,none,none,none,none,none] H1) ?_ (λN hN=>?_)
  case refine_2=>
   dsimp?[jc];refine⟨∅,∅,?_⟩;refine comp_map src_range (λ_ _ _ _ h=>by rw[h.1];exact aB.refl _) ∅ (λi y H2=>∃x,y=.str x/\mF n x) (λi y H2 H3 s3 h=>h) ?_ ?_
   ·rintro i x w0 H2 H3 Q2 hi s2 ⟨rfl,rfl⟩ kq;dsimp?[jc,Int.zero_add,s2 _ _ hn];refine⟨ns,s2.seq hS,by lia,by lia,λm=>?_⟩;obtain⟨j,x,ej,ex⟩:=iW (l:=pN.take n) m (by rw[IC];lia);exact⟨by rw[aak,IC];lia,_,by rw[aak,ej];exact j7 ex,kq _ _ (aB.refl _) ⟨_,rfl,Bc ex⟩⟩
   ·intro ys H2 s2 ly hy D n1 n2;obtain⟨y0,y1,y2,rfl⟩:∃y0 y1 y2,ys=[y0,y1,y2]:=by
     rcases ys with _ | ⟨y0,_ | ⟨y1,_ | ⟨y2,_ | ⟨y3,r⟩⟩⟩⟩
     ·cases ly
     ·cases ly
     ·cases ly
     ·exact⟨_,_,_,rfl⟩
     ·simp at ly
    symm;obtain⟨x0,rfl,o0⟩:=hy 0 y0 rfl;obtain⟨x1,rfl,o1⟩:=hy 1 y1 rfl;obtain⟨x2,rfl,o2⟩:=hy 2 y2 rfl;nofun;exact hN _ D x0 x1 x2 (s2.trans (ai n2)) aj o0 o1 o2
  rintro H1 al a0 a1 a2 s1 RI o0 o1 o2;have Lg:=s1.seq hS;have NJ:=s1 _ _ hn;have YO:=rc.mono s1;change tSeq _ _ _ _ _;refine aZ (λN=>N [some (.ref a),some (.int (t:Int)),some (.int (k:Int)),some (.ref cl),some (.ref nl),some (.int c),some (.int (c % 6)),some (.ref al),none,none,none,none,none,none,none] H1) ?_ (λN hN=>?_)
  case refine_2=>
   by_cases q:c % 6=0/\0<cs.length/\k+2<n
   ·refine dE (λY N wV=>by
     dsimp?[s1 _ _ gq,NJ];rw[if_pos q.1,if_pos (by lia),if_pos (by rw[aak,IC];lia)];exact wV) ?_
    change tSeq _ _ _ _ _;refine aZ (λN=>∀H2 bl,aB H1 H2->H2 bl=some (.lst (((pN.take n).drop (k+1)).map V.str))->N [some (.ref a),some (.int (t:Int)),some (.int (k:Int)),some (.ref cl),some (.ref nl),some (.int c),some (.int (c % 6)),some (.ref al),some (.ref bl),none,none,none,none,none,none] H2) ?_ (λN hN=>?_)
    case refine_2=>
     dsimp?[];refine⟨_,bH.of NJ,λp np=>hN _ p (ai np) ?_⟩;rw[aj,E3 (by lia),show((k:Int)+1).toNat=k+1 by lia,List.map_drop]
    rintro H2 bl s2 hbl;have lbl:((pN.take n).drop (k+1)).length=n - (k+1):=by rw[List.length_drop,IC]
    symm;obtain⟨i1,c1,ei,ec⟩:=iW (l:=cs) (c / 6) q.2.1;obtain⟨cq,eq,hq⟩:=place ec;nofun;have qV:j2 ig (c / 6 % (ig.length:Int))=some (.ref cq):=by rw[<-wy,ei];exact cB eq
    obtain⟨b0,YQ⟩:∃b,((pN.take n).drop (k+1))[0]?=some b:=⟨_,aat (by lia)⟩;symm;obtain⟨i2,b1,ei2,YR⟩:=iW (l:=(pN.take n).drop (k+1)) (c / 72) (by lia);nofun;have YS:∀(i:Nat) b,((pN.take n).drop (k+1))[i]?=some b->∃j:Nat,k<j/\j<n/\pN[j]?=some b:=λi b e=>by
     rw[List.getElem?_drop] at e;symm;obtain⟨j,hj,ej⟩:=Bc e;nofun;rw[List.getElem?_take] at e;split at e
     ·exact⟨k+1+i,by lia,by lia,e⟩
     ·cases e
    dsimp?[s2 _ _ (s1 _ _ gq),hbl];exact⟨dR.lit,by lia,_,qV,_,rfl,_,s2 _ _ (s1 _ _ hq),_,at0,dR.lit,∅,_,(show j2 _ (0:Int)=_ from j7 (j:=0) YQ),dR.lit,by rw[aak];lia,_,by rw[aak,ei2];exact j7 YR,by lia,λp H3 s3 np e3=>kk _ (.ask c1.1 (c / 18 % 4) b0 b1) _ (s1.trans (s2.trans s3)) ⟨abo.mpr ⟨_,aar ec,rfl⟩,YS _ _ YQ,YS _ _ YR⟩ (wF (.of (s1.trans (s2.trans s3))) e3 (cE bQ (cE bQ (cE b5 (cE bQ (cE bQ eA))))))⟩
   ·refine c6 (λY N wV=>by
     dsimp?[s1 _ _ gq,NJ];by_cases q1:c % 6=0
     ·rw[if_pos q1];by_cases q2:0<cs.length
      ·rw[if_pos (by lia),if_neg (by rw[aak,IC];intro z;exact q ⟨q1,q2,by lia⟩)];exact wV
      ·rw[if_neg (by lia),if_neg ∅];exact wV
     ·rw[if_neg q1,if_neg ∅];exact wV) hN
  change tSeq _ _ _ _ _;refine aZ (λN=>N [some (.ref a),some (.int (t:Int)),some (.int (k:Int)),some (.ref cl),some (.ref nl),some (.int c),some (.int (c % 6)),some (.ref al),none,none,none,none,none,none,none] H1) ?_ (λN hN=>?_)
  case refine_2=>
   by_cases q:c % 6=1/\0<cs.length
   ·refine dE (λY N wV=>by
     dsimp?[s1 _ _ gq,NJ];rw[if_pos q.1,if_pos (by lia)];exact wV) ?_
    symm;obtain⟨i1,c1,ei,ec⟩:=iW (l:=cs) (c / 6) q.2;obtain⟨cq,eq,hq⟩:=place ec;nofun;have qV:j2 ig (c / 6 % (ig.length:Int))=some (.ref cq):=by rw[<-wy,ei];exact cB eq
    dsimp?[s1 _ _ gq];exact⟨dR.lit,by lia,_,qV,_,rfl,_,s1 _ _ hq,_,at0,by lia,λp H2 s2 np e2=>kk _ (.score c1.1) _ (s1.trans s2) (abo.mpr ⟨_,aar ec,rfl⟩) (iJ (.of (s1.trans s2)) e2 bQ bQ)⟩
   ·refine c6 (λY N wV=>by
     dsimp?[s1 _ _ gq,NJ];by_cases q1:c % 6=1
     ·rw[if_pos q1,if_neg (by intro z;exact q ⟨q1,by lia⟩)];exact wV
     ·rw[if_neg q1,if_neg ∅];exact wV) hN
  change tSeq _ _ _ _ _;refine aZ (λN=>N [some (.ref a),some (.int (t:Int)),some (.int (k:Int)),some (.ref cl),some (.ref nl),some (.int c),some (.int (c % 6)),some (.ref al),none,none,none,none,none,none,none] H1) ?_ (λN hN=>?_)
  case refine_2=>
   by_cases q:c % 6<4
   ·refine dE (λY N wV=>by dsimp?[];rw[if_pos q];exact wV) ?_;change tSeq _ _ _ _ _;refine aZ (λN=>N [some (.ref a),some (.int (t:Int)),some (.int (k:Int)),some (.ref cl),some (.ref nl),some (.int c),some (.int (c % 6)),some (.ref al),none,some (.int (1+c / 6 % 3)),none,none,none,none,none] H1) ?_ (λN hN=>?_)
    case refine_2=>
     dsimp?[];exact⟨dR.lit,∅,hN⟩
    change tSeq _ _ _ _ _;refine aZ (λN=>∀H2 pl vs,aB H1 H2->H2 pl=some (.lst vs)->cA H H2 ([Pt.fB 1 2,.fB 1 3,.hits 2 2 2,.again 1 3,.num 2].map vV) vs->N [some (.ref a),some (.int (t:Int)),some (.int (k:Int)),some (.ref cl),some (.ref nl),some (.int c),some (.int (c % 6)),some (.ref al),none,some (.int (1+c / 6 % 3)),some (.ref pl),none,none,none,none] H2) ?_ (λN hN=>?_)
    case refine_2=>
     dsimp?[];refine⟨by lia,λt0 H2 s2 n0 e0=>⟨by lia,λt1 H3 s3 n1 e1=>⟨by lia,λt2 H4 s4 n2 e2=>⟨by lia,λt3 H5 s5 n3 e3=>⟨by lia,λt4 H6 s6 n4 e4=>⟨by lia,λpl np=>?_⟩⟩⟩⟩⟩⟩;have q6:=ai (o:=.lst [V.ref t0,.ref t1,.ref t2,.ref t3,.ref t4]) np;have q5:=s6.trans q6;have q4:=s5.trans q5;have q3:=s4.trans q4;have q2:=s3.trans q3;have q1:=s2.trans q2;have sF:=s1.trans q1;exact hN _ pl _ q1 aj (cE (wG (.of sF) (q2 _ _ e0) bQ b5 b5) (cE (wG (.of sF) (q3 _ _ e1) bQ b5 b5) (cE (EV (.of sF) (q4 _ _ e2) bQ b5 b5 b5) (cE (wG (.of sF) (q5 _ _ e3) bQ b5 b5) (cE (iJ (.of sF) (q6 _ _ e4) bQ b5) eA)))))
    rintro H2 pl vs s2 hpl vi;change tSeq _ _ _ _ _;refine aZ (λN=>∀H3 qv ps,aB H2 H3->ps∈zv->cX H H3 (.lst (List.map vV ps)) qv->N [some (.ref a),some (.int (t:Int)),some (.int (k:Int)),some (.ref cl),some (.ref nl),some (.int c),some (.int (c % 6)),some (.ref al),none,some (.int (1+c / 6 % 3)),some (.ref pl),some qv,none,none,none] H3) ?_ (λN hN=>?_)
    case refine_2=>
     obtain⟨v,ev,rv⟩:=vi.ix (i:=c / 18 % 5) (by lia) (map_getD (.num 2) (by show _<5;lia));have hp:[([Pt.fB 1 2,.fB 1 3,.hits 2 2 2,.again 1 3,.num 2]).getD (c / 18 % 5).toNat (.num 2)]∈zv:=by
      have:=show(c / 18 % 5).toNat<5 by lia
      generalize (c / 18 % 5).toNat=j at *;rcases j with _ | _ | _ | _ | _ | j
      ·exact .head _
      ·exact .tail _ (.head _)
      ·exact .tail _ (.tail _ (.head _))
      ·exact .tail _ (.tail _ (.tail _ (.head _)))
      ·exact .tail _ (.tail _ (.tail _ (.tail _ (.head _))))
      ·lia
     dsimp?[];exact⟨dR.lit,∅,_,hpl,_,ev,by lia,λp np=>hN _ (.ref p) _ (ai np) hp (gN (none_of (s1.trans s2) np) aj (cE (rv.mono (ai np)) eA))⟩
    rintro H3 qv ps s3 hps rqv;have yj:=s2.trans s3;have Pu:=yj.seq Lg;change tSeq _ _ _ _ _;refine aZ (λN=>∀H4 rl v1 d1,aB H3 H4->H3 rl=none->H4 rl=some (.lst [v1])->nJ cs d1->cX (upd H3 rl (.lst [])) H4 (u9 (J7 (0,1+c / 6 % 3,d1,a0))) v1->N [some (.ref a),some (.int (t:Int)),some (.int (k:Int)),some (.ref cl),some (.ref nl),some (.int c),some (.int (c % 6)),some (.ref al),none,some (.int (1+c / 6 % 3)),some (.ref pl),some qv,some (.ref rl),none,none] H4) ?_ (λN hN=>?_)
    case refine_2=>
     dsimp?[yn];exact⟨ns,Pu,by lia,by lia,cs,YO.mono yj,gc,λu ds H' s' dk ru=>⟨_,(yj.trans s') _ _ RI,_,at0,by lia,λp H4 s4 np e4=>⟨by lia,λrl KI=>hN _ rl (.ref p) ds (s'.trans (s4.trans (ai KI))) (none_of (s'.trans s4) KI) aj dk (cX.fresh (EV (.of (s'.trans s4)) e4 b5 b5 (ru.mono s4) bQ) KI)⟩⟩⟩
    rintro H4 rl v1 d1 s4 KI wR dk1 QQ;have li:d9 (upd H3 rl (.lst [])) H4:=λb ys e=>by
     by_cases c:b=rl
     ·subst c;exact⟨_,wR⟩
     ·rw[aA c] at e;exact⟨_,s4 _ _ e⟩
    change tSeq _ _ _ _ _;refine aZ (λN=>∀H5 v2 d2,aB H3 H5->H5 rl=some (.lst [v1,v2])->nJ cs d2->cA (upd H3 rl (.lst [])) H5 [u9 (J7 (0,1+c / 6 % 3,d1,a0)),u9 (J7 (1+c / 6 % 3+1,9,d2,a1))] [v1,v2]->N [some (.ref a),some (.int (t:Int)),some (.int (k:Int)),some (.ref cl),some (.ref nl),some (.int c),some (.int (c % 6)),some (.ref al),none,some (.int (1+c / 6 % 3)),some (.ref pl),some qv,some (.ref rl),none,none] H5) ?_ (λN hN=>?_)
    case refine_2=>
     dsimp?[yn,cZ];refine⟨.inl ⟨rfl,_,bH.of wR⟩,ns,s4.seq Pu,by lia,by lia,cs,YO.mono (yj.trans s4),gc,λu ds H' s' dk ru=>⟨_,(yj.trans (s4.trans s')) _ _ RI,_,at1,by lia,λp H5 s5 np e5=>⟨_,(s'.trans s5) _ _ wR,by show 1<sizeLine;lia,hN _ (.ref p) ds (bI (s4.trans (s'.trans s5)) KI) aj dk ?_⟩⟩⟩;show bq (fy _ (upd _ _ _)) _ _;rw[fJ (ys:=[]) aj];exact cE (QQ.mono (s'.trans s5)) (cE (EV (li.trans (s'.trans s5)) e5 b5 b5 ((ru.low li).mono s5) bQ) eA)
    rintro H5 v2 d2 s5 RJ dk2 IE;dsimp?[];refine⟨dR.lit,∅,by lia,λp H6 s6 np e6=>⟨by lia,λp1 H7 s7 FG e7=>?_⟩⟩;have sA:=s1.trans (yj.trans (s5.trans (s6.trans s7)));exact kk _ (.fH (List.map vV ps) (c / 90 % 5 - 2) 1 [(0,1+c / 6 % 3,d1,a0),(1+c / 6 % 3+1,9,d2,a1)]) _ sA ⟨ps,1+c / 6 % 3,d1,a0,d2,a1,rfl,hps,by lia,by lia,rfl,dk1,dk2,o0,o1⟩ (EV (.of sA) e7 bQ (rqv.mono (s5.trans (s6.trans s7))) (iJ (.of sA) (s7 _ _ e6) b5 b5) (gN (none_of (s1.trans yj) KI) ((s6.trans s7) _ _ RJ) ((IE.low (.of ((s1.trans yj).trans (ai KI)))).mono (s6.trans s7))))
   ·exact c6 (λY N wV=>by dsimp?[];rw[if_neg q];exact wV) hN
  change tSeq _ _ _ _ _;refine aZ (λN=>N [some (.ref a),some (.int (t:Int)),some (.int (k:Int)),some (.ref cl),some (.ref nl),some (.int c),some (.int (c % 6)),some (.ref al),none,none,none,none,none,none,none] H1) ?_ (λN hN=>?_)
  case refine_2=>
   by_cases q:c % 6=4
   ·refine dE (λY N wV=>by dsimp?[];rw[if_pos q];exact wV) ?_;change tSeq _ _ _ _ _;refine aZ (λN=>∀H2 l,aB H1 H2->H1 l=none->H2 l=some (.lst [])->N [some (.ref a),some (.int (t:Int)),some (.int (k:Int)),some (.ref cl),some (.ref nl),some (.int c),some (.int (c % 6)),some (.ref al),none,none,none,none,some (.ref l),none,none] H2) ?_ (λN hN=>?_)
    case refine_2=>
     dsimp?[];exact⟨aap _,λl nl=>hN _ l (ai nl) nl aj⟩
    rintro H2 l s2 yF hl;change tSeq _ _ _ _ _;refine aZ (λN=>∀H3 rs vs,aB H1 H3->H3 l=some (.lst vs)->List.length rs<=3->(∀r∈rs,nJ cs r.ds/\mF n r.to/\dQ (.str r.word)=true/\MJ cs r.wh)->cA (upd H1 l (.lst [])) H3 ((rs.map GY).map u9) vs->∀Lx Ly,N [some (.ref a),some (.int (t:Int)),some (.int (k:Int)),some (.ref cl),some (.ref nl),some (.int c),some (.int (c % 6)),some (.ref al),none,none,none,none,some (.ref l),Lx,Ly] H3) ?_ (λN hN=>?_)
    case refine_2=>
     dsimp?[];refine⟨dR.lit,∅,by lia,by lia,?_⟩;have m3:(1+c / 6 % 3).toNat<=3:=by lia
     generalize (1+c / 6 % 3).toNat=mm at *;refine b9 (src_range (Ok:=λ_=>True)) (λi σ H3=>aB H1 H3/\∃(rs:List Rw) (vs:List V),H3 l=some (.lst vs)/\rs.length=i/\(∀r∈rs,nJ cs r.ds/\mF n r.to/\dQ (.str r.word)=true/\MJ cs r.wh)/\cA (upd H1 l (.lst [])) H3 ((rs.map GY).map u9) vs/\∃Lx Ly,σ=[some (.ref a),some (.int (t:Int)),some (.int (k:Int)),some (.ref cl),some (.ref nl),some (.int c),some (.int (c % 6)),some (.ref al),none,none,none,none,some (.ref l),Lx,Ly]) ⟨s2,[],[],hl,rfl,(λr hr=>by cases hr),eA,_,_,rfl⟩ (λ_ _ _ _ _=>trivial) ?_ ?_
     ·intro i x σ H3' H3 hi fR fo;symm;obtain⟨s3,rs,vs,CH,Pw,rk,rv,Lx,Ly,rfl⟩:=fR;obtain⟨rfl,rfl⟩:=fo;nofun;have lv:vs.length=i:=by have:=bq.length rv;rw[aak,aak] at this;lia
      have li:d9 (upd H1 l (.lst [])) H3:=λb ys e=>by
       by_cases c:b=l
       ·subst c;exact⟨_,CH⟩
       ·rw[aA c] at e;exact⟨_,s3 _ _ e⟩
      have yG:=s1.trans s3;simp only[gName,abc,abb,Int.zero_add];change tSeq _ _ _ _ _;refine aZ (λN=>N [some (.ref a),some (.int (t:Int)),some (.int (k:Int)),some (.ref cl),some (.ref nl),some (.int c),some (.int (c % 6)),some (.ref al),none,none,none,none,some (.ref l),some (.int (i:Int)),some .dI] H3) ?_ (λN hN=>?_)
      case refine_2=>
       dsimp?[];exact hN
      change tSeq _ _ _ _ _;refine aZ (λN=>∀H4 wv wh,aB H3 H4->MJ cs wh->cX H3 H4 (Ig wh) wv->N [some (.ref a),some (.int (t:Int)),some (.int (k:Int)),some (.ref cl),some (.ref nl),some (.int c),some (.int (c % 6)),some (.ref al),none,none,none,none,some (.ref l),some (.int (i:Int)),some wv] H4) ?_ (λN hN=>?_)
      case refine_2=>
       refine mi (λH'=>aB H3 H'/\0<cs.length) (λH'=>aB H3 H') (λH4 e=>?_) (λH4 e=>hN _ .dI none e (λ_ _ _ z=>by cases z) KG) (λY N hY hN=>?_)
       ·obtain⟨s4,c1⟩:=e;symm;obtain⟨i1,cc,ei,ec⟩:=iW (l:=cs) (i:Int) c1;obtain⟨cq,eq,hq⟩:=place ec;have qV:j2 ig ((i:Int) % (ig.length:Int))=some (.ref cq):=by rw[<-wy,ei];exact cB eq
        have Cu:=yG.trans s4;obtain⟨fb,hfs,hfb⟩:∃x,dQ (.str x)=true/\j2 [V.str "from",.str "below"] (c / 200 % 2)=some (.str x):=by
         rcases(show c / 200 % 2=0\/c / 200 % 2=1 by lia) with h | h
         ·rw[h];exact⟨_,(show dQ (.str "from")=true by decide +kernel),rfl⟩
         ·rw[h];exact⟨_,(show dQ (.str "below")=true by decide +kernel),rfl⟩
        nofun;dsimp?[Cu _ _ gq];exact⟨by lia,_,qV,_,rfl,_,Cu _ _ hq,_,at0,by lia,λp np=>⟨dR.lit,∅,_,aj,_,hfb,dR.lit,∅,by lia,λp1 H5 s5 FG e5=>hN _ (.ref p1) (some (cc.1,fb,1+c / 400 % 3)) (s4.trans ((ai np).trans s5)) (λ_ _ _ z=>by cases z;exact⟨abo.mpr ⟨_,aar ec,rfl⟩,hfs⟩) (wG (.of (s4.trans ((ai np).trans s5))) e5 bQ bQ b5)⟩⟩
       ·by_cases c1:0<cs.length
        ·obtain⟨d,d0,d1,hd⟩:∃d:Int,0<d/\d<=100/\j2 [V.int 18,.int 36,.int 72] (i:Int)=some (.int d):=by
          rcases(show i=0\/i=1\/i=2 by lia) with rfl | rfl | rfl
          ·exact⟨18,∅,∅,rfl⟩
          ·exact⟨36,∅,∅,rfl⟩
          ·exact⟨72,∅,∅,rfl⟩
         dsimp?[yG _ _ gq];rw[if_pos (by lia)];exact⟨by lia,λp np=>⟨_,aj,_,hd,d,rfl,dR.of (n:=64) d0 (Bt.of 1000000 (by lia) (by lia)),∅,oF (λ_=>hY _ ⟨ai np,c1⟩) (λ_=>hN _ (ai np))⟩⟩
        ·dsimp?[yG _ _ gq];rw[if_neg (by lia),if_neg ∅];exact hN _ (aB.refl _)
      rintro H4 wv wh s4 wk yq;obtain⟨aw,oa,qV⟩:∃x,mF n x/\j2 [V.str a0,.str a1,.str a2] (i:Int)=some (.str x):=by
       rcases(show i=0\/i=1\/i=2 by lia) with rfl | rfl | rfl
       ·exact⟨_,o0,rfl⟩
       ·exact⟨_,o1,rfl⟩
       ·exact⟨_,o2,rfl⟩
      obtain⟨ww,hw,RK⟩:∃x,dQ (.str x)=true/\j2 [V.str "roll",.str "hold",.str "x"] (i:Int)=some (.str x):=by
       rcases(show i=0\/i=1\/i=2 by lia) with rfl | rfl | rfl
       ·exact⟨_,(show dQ (.str "roll")=true by decide +kernel),rfl⟩
       ·exact⟨_,(show dQ (.str "hold")=true by decide +kernel),rfl⟩
       ·exact⟨_,(show dQ (.str "x")=true by decide +kernel),rfl⟩
      dsimp?[yn,cZ];refine⟨.inl ⟨rfl,_,bH.of (s4 _ _ CH)⟩,by lia,λp np=>⟨_,aj,_,RK,eX (by lia) (by lia),ns,((yG.trans s4).trans (ai np)).seq hS,by lia,by lia,cs,rc.mono ((yG.trans s4).trans (ai np)),gc,λu ds H5 s5 dk ru=>⟨_,(s3.trans (s4.trans ((ai np).trans s5))) _ _ RI,_,qV,by lia,λp1 H6 s6 FG e6=>?_⟩⟩⟩;have sB:=(ai np).trans (s5.trans s6);refine⟨_,(s4.trans sB) _ _ CH,by lia,bI (s3.trans (s4.trans sB)) yF,rs++ [⟨ww,wh,ds,aw⟩],_,aj,by rw[aaq,Pw];rfl,λr hr=>?_,?_,_,rfl⟩
      ·rcases List.mem_append.mp hr with hr | hr
       ·exact rk r hr
       ·rw[abp.mp hr];exact⟨dk,oa,hw,wk⟩
      ·show bq (fy _ (upd _ _ _)) _ _;rw[fJ (ys:=[]) aj,aaw,aaw];exact gZ (EV (li.trans (s4.trans sB)) e6 bQ ((yq.low li).mono sB) ((ru.low (li.trans (s4.trans (ai np)))).mono s6) bQ) (rv.mono (s4.trans sB))
     ·intro σ H3 dG;symm;obtain⟨s3,rs,vs,CH,Pw,rk,rv,Lx,Ly,rfl⟩:=dG;nofun;exact hN _ rs vs s3 CH (by lia) rk rv _ _
    rintro H3 rs vs s3 CH Pw rk rv Lx Ly;dsimp?[];refine⟨dR.lit,∅,by lia,λp H4 s4 np e4=>?_⟩;have sA:=s1.trans (s3.trans s4);exact kk _ (.pick (1+c / 7 % 2) rs) _ sA ⟨Pw,rk⟩ (wG (.of sA) e4 bQ b5 (gN (none_of s1 yF) (s4 _ _ CH) ((rv.low (.of (s1.trans (ai yF)))).mono s4)))
   ·exact c6 (λY N wV=>by dsimp?[];rw[if_neg q];exact wV) hN
  dsimp?[];exact⟨dR.lit,∅,by lia,λp H2 s2 np e2=>⟨by lia,λp1 H3 s3 FG e3=>kk _ (.fin (c / 6 % 9 - 4) 1) _ (s1.trans (s2.trans s3)) trivial (iJ (.of (s1.trans (s2.trans s3))) e3 bQ (iJ (.of (s1.trans (s2.trans s3))) (s3 _ _ e2) b5 b5))⟩⟩
theorem nW:bj ["_law_script","_law_counts","_law_k","_law_many","_law_names","_law_places"] ["_law_script"] (aq (top 46)):=⟨rfl,rfl,rfl,∅,rfl,∅,∅⟩
set_option tactic.hygienic true in
theorem NK (T:Txt K mg aG aI aJ aE aK ag aF):dj P w K mg base (bL P w) 4 "_law_game" ["_law_script"] (EY K):=by
 have eG:dj P w K mg base (bL P w) 1 "_law_at" ["_law_script","_law_k"] (jc K):=Fb T;have yr:dj P w K mg base (bL P w) 3 "_law_what" ["_law_script","_law_at_here","_law_k","_law_counts","_law_names"] (EX K):=NI T;refine T.xO.fE (λ_ _ _ _ _ _=>hZ λ_=>rfl) λf fd F=>F.gQ nW (λvs H Q E h=>?_) (λcw A outer s H vs Q E hr h=>?_)
 ·obtain⟨_,_,rfl,_⟩:=h;rfl
 ·symm;obtain⟨a,ns,rfl,hS,kk⟩:=h;nofun;clear G_;have nd:=nW.nd;refine⟨_,(ao (aS (i:=1) nd rfl (.inl rfl) (bK af))
  (ao (cV PassesOwn.never rfl (dD rfl T.z_range (aa (aU bS (bw eG (hr.mono ∅) rfl aO.pass (aa (pv 0) (aa ae af (se rfl)) (se rfl)) (he:=se rfl) (hpl:=na rfl)) ae) af (se rfl))) (aP (i:=2) nd rfl (.inl rfl)) (av (bR (dY aaD aaI aaJ cm.r (pv 1) (aa (aY (aa (aD bg (bK (aa aV (aa aV (aa aV af (se rfl)) (se rfl)) (se rfl))) (pv 2) (λ_ _=>rfl)) (aa (aU bN ae (aU bS (bw eG (hr.mono ∅) rfl aO.pass (aa (pv 0) (aa (aU bN ae (pv 2)) af (se rfl)) (se rfl)) (he:=se rfl) (hpl:=na rfl)) ae)) af (se rfl)) (se rfl))) af (se rfl))))))
  (ao (aS (i:=3) nd rfl (.inl rfl) (aU bN ae (aU bS (bw eG (hr.mono ∅) rfl aO.pass (aa (pv 0) (aa ae af (se rfl)) (se rfl)) (he:=se rfl) (hpl:=na rfl)) ae)))
  (ao (aS (i:=4) nd rfl (.inl rfl) (mZ (ni (K:=K)) (bK (aa aV (aa aV (aa aV (aa aV (aa aV (aa aV af (se rfl)) (se rfl)) (se rfl)) (se rfl)) (se rfl)) (se rfl))) qP (qQ (pv 3))))
  (ao (aS (i:=5) nd rfl (.inl rfl) (bK af))
  (ao (cV PassesOwn.never rfl (dD rfl T.z_range (aa (pv 3) af (se rfl))) (aP (i:=2) nd rfl (.inl rfl)) (av (bR (dY aaD aaI aaJ cm.r (pv 5) (aa (aY (aa (aD bg (pv 4) (pv 2) (λ_ _=>rfl)) (aa (bw yr (hr.mono ∅) rfl aO.pass (aa (pv 0) (aa (aU bN ae (aU c8 ae (pv 2))) (aa (pv 2) (aa (pv 1) (aa (pv 4) af (se rfl)) (se rfl)) (se rfl)) (se rfl)) (se rfl)) (he:=se rfl) (hpl:=na rfl)) af (se rfl)) (se rfl))) af (se rfl))))))
  (ao (jk (aY (aa (aD bg (pv 4) (aU lX (pv 3) ae) (λ_ _=>rfl)) (aa (aY (aa aV (aa (aY (aa ae (aa ae af (se rfl)) (se rfl))) af (se rfl)) (se rfl))) af (se rfl)) (se rfl))) (jj (pv 5) (aU lX (pv 3) ae) set_list))
  (av (aW (aY (aa (pv 1) (aa (pv 5) af (se rfl)) (se rfl)))))))))))),?_⟩
  refine(?_:let cO:TS:=_;let cI:TS:=_;let cJ:TS:=_;let d7:TS:=_;let qk:TS:=_;let yd:TS:=_;let EI:TS:=_;let ID:TS:=_;tSeq cO (tSeq cI (tSeq cJ (tSeq d7 (tSeq qk (tSeq yd (tSeq EI ID)))))) _ _ _);intro cO cI cJ d7 qk yd EI ID;have sl:=sizeLine_eq;change tSeq _ _ _ _ _;refine aZ (λN=>∀H1 cl,aB H H1->H cl=none->H1 cl=some (.lst [])->N [some (.ref a),some (.ref cl),none,none,none,none] H1) ?_ (λN hN=>?_)
  case refine_2=>
   dsimp?[];exact⟨aap _,λl nl=>hN _ l (ai nl) nl aj⟩
  rintro H1 cl s1 ncl gq;change tSeq _ _ _ _ _;refine aZ (λN=>∀H2 cs ig,aB H H2->H2 cl=some (.lst ig)->Hq cs->cA (upd H cl (.lst [])) H2 (cs.map λc=>.tup [.str c.1,.int c.2]) ig->∀z2,N [some (.ref a),some (.ref cl),z2,none,none,none] H2) ?_ (λN hN=>?_)
  case refine_2=>
   dsimp?[jc];refine⟨ns,s1.seq hS,∅,∅,λn8=>?_⟩;refine⟨∅,by lia,by lia,?_⟩;have m4:(n8 % 4).toNat<=3:=by lia
   generalize (n8 % 4).toNat=mm at *;refine b9 (src_range (Ok:=λ_=>True)) (λi σ H2=>aB H H2/\∃cs ig,H2 cl=some (.lst ig)/\Hq cs/\cs.length=i/\cA (upd H cl (.lst [])) H2 (cs.map λc=>.tup [.str c.1,.int c.2]) ig/\∃z2,σ=[some (.ref a),some (.ref cl),z2,none,none,none]) ⟨s1,[],[],gq,⟨aap _,λi c e=>by simp at e⟩,rfl,eA,_,rfl⟩ (λ_ _ _ _ _=>trivial) ?_ ?_
   ·intro i x σ H2 H3 hi fR fo;symm;obtain⟨s2,cs,ig,zO,ck,lcs,rv,z2,rfl⟩:=fR;obtain⟨rfl,rfl⟩:=fo;nofun;obtain⟨c,ec⟩:∃c,cN[i]?=some c:=⟨_,aat (show i<3 by lia)⟩;have lv:ig.length=i:=by have:=bq.length rv;rw[aak] at this;lia
    have li:d9 (upd H cl (.lst [])) H3:=λb ys e=>by
     by_cases c:b=cl
     ·subst c;exact⟨_,zO⟩
     ·rw[aA c] at e;exact⟨_,s2 _ _ e⟩
    dsimp?[jc,cZ,Int.zero_add];refine⟨.inl ⟨rfl,_,bH.of zO⟩,by lia,λp np=>⟨_,aj,_,j7 (l:=cN) ec,ns,(s2.trans (ai np)).seq hS,by lia,by lia,λn=>⟨∅,by lia,λp1 H4 s4 FG e4=>?_⟩⟩⟩;have Px:=(ai np).trans s4;refine⟨_,Px _ _ zO,by lia,bI (s2.trans Px) ncl,cs++ [(c,1+n % 4)],_,aj,⟨by rw[aaq];show cs.length+1<=3;lia,λj d ed=>?_⟩,by rw[aaq,lcs];rfl,?_,_,rfl⟩
    ·by_cases h:j<cs.length
     ·rw[aa5 h] at ed;exact ck.2 j d ed
     ·rw[aba (by lia)] at ed;have hj:=(abn.mp ed).1;have hj:j - cs.length<1:=hj;rw[show j - cs.length=0 by lia] at ed;cases ed;rw[show j=i by lia];exact⟨ec,by show 1<=1+n % 4;lia,by show 1+n % 4<=4;lia⟩
    ·show bq (fy _ (upd _ _ _)) _ _;rw[fJ (ys:=[]) aj,aaw];exact gZ (iJ (li.trans Px) e4 bQ b5) (rv.mono Px)
   ·intro σ H2 dG;symm;obtain⟨s2,cs,ig,zO,ck,lcs,rv,z2,rfl⟩:=dG;nofun;exact hN _ cs ig s2 zO ck rv _
  rintro H2 cs ig s2 zO ck rcs z2;have QF:=s2.seq hS;have RL:Rep H2 (Pb cs) (.ref cl):=aQ.mpr ⟨cl,ig,rfl,zO,rcs.rep⟩;change tSeq _ _ _ _ _;refine aZ (λN=>∀n:Nat,2<=n->n<=6->N [some (.ref a),some (.ref cl),z2,some (.int (n:Int)),none,none] H2) ?_ (λN hN=>?_)
  case refine_2=>
   dsimp?[jc];refine⟨ns,QF,∅,∅,λn8=>⟨∅,?_⟩⟩
   have:=hN (2+n8 % 5).toNat (by lia) (by lia)
   rw[Int.toNat_of_nonneg (by lia)] at this;exact this
  rintro n n2 n6;change tSeq _ _ _ _ _;refine aZ (λN=>∀H3 nl,aB H2 H3->KH H3 nl (pN.take n)->N [some (.ref a),some (.ref cl),z2,some (.int (n:Int)),some (.ref nl),none] H3) ?_ (λN hN=>?_)
  case refine_2=>
   dsimp?[];refine⟨by lia,λp np=>⟨_,bH.of aj,λp1 FG=>hN _ p1 ((ai np).trans (ai FG)) ?_⟩⟩;unfold KH;rw[aj,DF (by lia),aaS,List.map_take]
   rfl
  rintro H3 nl s3 hn;have yG:=s2.trans s3;have Pu:=yG.seq hS;have YT:=RL.mono s3;change tSeq _ _ _ _ _;refine aZ (λN=>∀H4 l,aB H3 H4->H3 l=none->H4 l=some (.lst [])->N [some (.ref a),some (.ref cl),z2,some (.int (n:Int)),some (.ref nl),some (.ref l)] H4) ?_ (λN hN=>?_)
  case refine_2=>
   dsimp?[];exact⟨aap _,λl nl=>hN _ l (ai nl) nl aj⟩
  rintro H4 l s4 yF hl;change tSeq _ _ _ _ _;refine aZ (λN=>∀H5 ps vs,aB H3 H5->H5 l=some (.lst vs)->List.length ps=n->(∀(j:Nat) (x:Str×Wt),ps[j]?=some x->pN[j]?=some x.1/\Ez cs n j x.2)->cA (upd H3 l (.lst [])) H5 (ps.map λp=>.tup [.str p.1,qH p.2]) vs->∀z2,N [some (.ref a),some (.ref cl),z2,some (.int (n:Int)),some (.ref nl),some (.ref l)] H5) ?_ (λN hN=>?_)
  case refine_2=>
   dsimp?[];refine⟨by lia,by lia,?_⟩;rw[aaS];refine b9 (src_range (Ok:=λ_=>True)) (λi σ H5=>aB H3 H5/\∃(ps:List (Str×Wt)) (vs:List V),H5 l=some (.lst vs)/\ps.length=i/\(∀(j:Nat) (x:Str×Wt),ps[j]?=some x->pN[j]?=some x.1/\Ez cs n j x.2)/\cA (upd H3 l (.lst [])) H5 (ps.map λp=>.tup [.str p.1,qH p.2]) vs/\∃z2,σ=[some (.ref a),some (.ref cl),z2,some (.int (n:Int)),some (.ref nl),some (.ref l)]) ⟨s4,[],[],hl,rfl,(λj x e=>by simp at e),eA,_,rfl⟩ (λ_ _ _ _ _=>trivial) ?_ ?_
   ·intro i x σ H5 H6 hi fR fo;symm;obtain⟨s5,ps,vs,wJ,KD,pk,rv,z2,rfl⟩:=fR;obtain⟨rfl,rfl⟩:=fo;nofun;have lv:vs.length=i:=by have:=bq.length rv;rw[aak] at this;lia
    have li:d9 (upd H3 l (.lst [])) H6:=λb ys e=>by
     by_cases c:b=l
     ·subst c;exact⟨_,wJ⟩
     ·rw[aA c] at e;exact⟨_,s5 _ _ e⟩
    obtain⟨c,ec⟩:∃c,pN[i]?=some c:=⟨_,aat (show i<6 by lia)⟩;have qV:j2 ((pN.take n).map V.str) (i:Int)=some (.str c):=j7 (by rw[List.getElem?_take,if_pos (by lia)];exact ec);dsimp?[EX,cZ,Int.zero_add];refine⟨.inl ⟨rfl,_,bH.of wJ⟩,_,s5 _ _ hn,_,qV,eX (by lia) (by lia),ns,.ref cl,cs,nl,5+7*i,by lia,i,rfl,rfl,rfl,s5.seq Pu,by lia,YT.mono s5,ck,n,s5 _ _ hn,by lia,n6,λu w H7 s7 pk7 r7=>⟨by lia,λp H8 s8 np e8=>?_⟩⟩;have Py:=s7.trans s8;refine⟨_,Py _ _ wJ,by lia,bI (s5.trans Py) yF,ps++ [(c,w)],_,aj,by rw[aaq,KD];rfl,λj x ex=>?_,?_,_,rfl⟩
    ·by_cases h:j<ps.length
     ·rw[aa5 h] at ex;exact pk j x ex
     ·rw[aba (by lia)] at ex;have hj:j - ps.length<1:=(abn.mp ex).1;rw[show j - ps.length=0 by lia] at ex;cases ex;rw[show j=i by lia];exact⟨ec,pk7⟩
    ·show bq (fy _ (upd _ _ _)) _ _;rw[fJ (ys:=[]) aj,aaw];exact gZ (iJ (li.trans Py) e8 bQ ((r7.low li).mono s8)) (rv.mono Py)
   ·intro σ H5 dG;symm;obtain⟨s5,ps,vs,wJ,KD,pk,rv,z2,rfl⟩:=dG;nofun;exact hN _ ps vs s5 wJ KD pk rv _
  rintro H5 ps vs s5 wJ KD pk rv z2;have lv:vs.length=n:=by have:=bq.length rv;rw[aak] at this;lia
  obtain⟨c,ec⟩:∃c,pN[n - 1]?=some c:=⟨_,aat (show n - 1<6 by lia)⟩;have qV:j2 ((pN.take n).map V.str) ((n:Int) - 1)=some (.str c):=by
   rw[show(n:Int) - 1=((n - 1:Nat):Int) by lia];exact j7 (by rw[List.getElem?_take,if_pos (by lia)];exact ec)
  change tSeq _ _ _ _ _;refine aZ (λN=>∀H6 Cv,aB H3 H6->H6 l=some (.lst Cv)->bq H6 ((ps.set (n - 1) (c,.fin 1 2)).map λp=>.tup [.str p.1,qH p.2]) Cv->N [some (.ref a),some (.ref cl),z2,some (.int (n:Int)),some (.ref nl),some (.ref l)] H6) ?_ (λN hN=>?_)
  case refine_2=>
   dsimp?[rSetL];refine⟨_,s5 _ _ hn,_,qV,by lia,λp H6 s6 np e6=>⟨by lia,λp1 H7 s7 FG e7=>⟨by lia,λp2 H8 s8 YU e8=>⟨_,(s6.trans (s7.trans s8)) _ _ wJ,n - 1,by rw[lv,show(n:Int) - 1=((n - 1:Nat):Int) by lia];exact gW (by lia),hN _ _ (bI (s5.trans (s6.trans (s7.trans s8))) yF) aj ?_⟩⟩⟩⟩;have sA:=s6.trans (s7.trans s8);have li:d9 (upd H3 l (.lst [])) H8:=λb ys e=>by
    by_cases c:b=l
    ·subst c;exact⟨_,sA _ _ wJ⟩
    ·rw[aA c] at e;exact⟨_,sA _ _ (s5 _ _ e)⟩
   rw[List.map_set];refine bq.mono (fz (G:=upd H3 l (.lst []))) ?_;rw[fJ (ys:=[]) aj];exact E4 (rv.mono sA) (iJ li e8 bQ (iJ li (s8 _ _ e7) bQ (iJ li ((s7.trans s8) _ _ e6) b5 b5)))
  rintro H6 Cv s6 hl6 rv6;dsimp?[];refine⟨by lia,λp H7 s7 np e7=>kk _ ⟨cs,ps.set (n - 1) (c,.fin 1 2)⟩ n _ (yG.trans (s6.trans s7)) ⟨n2,n6,ck.1,ck.2,by show(List.set _ _ _).length=n;rw[aaP];exact KD,λj x ex=>?_⟩ (bo.mpr ⟨p,_,_,rfl,e7,YT.mono (s6.trans s7),aQ.mpr ⟨l,_,rfl,s7 _ _ hl6,rv6.mono s7⟩⟩)⟩;have ex:(ps.set (n - 1) (c,.fin 1 2))[j]?=some x:=ex;rw[List.getElem?_set] at ex;split at ex
  ·rename_i h;split at ex
   ·cases ex;rw[<-h];exact⟨ec,trivial⟩
   ·cases ex
  ·exact pk j x ex
theorem jd:bj ["_law_game_here","_law_name","_law_numbers","_law_what_here","_law_at_here"] ["_law_game_here","_law_name","_law_numbers"] (aq (top 47)):=⟨rfl,rfl,rfl,∅,rfl,∅,∅⟩
set_option tactic.hygienic true in
theorem IF (T:Txt K mg aG aI aJ aE aK ag aF):dj P w K mg base (bL P w) 1 "_law_arrived" ["_law_game_here","_law_name","_law_numbers"] vo:=by
 refine T.sL.fE (λ_ _ _ _ _ _=>xR λ_ _ _=>rfl) λf fd F=>F.gQ jd (λvs H Q E h=>?_) (λcw A outer s H vs Q E hr h=>?_)
 ·obtain⟨_,_,_,_,_,_,_,rfl,_⟩:=h;rfl
 ·symm;obtain⟨gv,nm,l,g,ns,fu,zN,rfl,rg,gg,hl,ln,ak,kk⟩:=h;nofun;clear G_;have nd:=jd.nd;refine⟨_,(ao (aS (i:=3) nd rfl (.inl rfl) (cR (dr hr) (cf (d3 (K:=K)) (by rfl) T.z_dict rfl (aa (aD au (pv 0) ae (λ_ _=>rfl)) af (se rfl)) (he:=se rfl) (hpl:=na rfl)) (pv 1) (λ_ _=>rfl)))
  (ao (aS (i:=4) nd rfl (.inl rfl) (cf (d3 (K:=K)) (by rfl) T.z_dict rfl (aa (cD rfl (N:=["_law_game_here","_law_name","_law_numbers","_law_what_here","_law_at_here"]) (so:=aq (top 47)) (N':=["_law_k","_law_game_here"]) (k:=1) (fr:=[0]) rfl rfl ⟨rfl,∅,∅,∅,rfl,∅,∅⟩ (dD rfl T.z_range (aa (bf bD (by rfl) T.z_len aav (aa (aD au (pv 0) ae (λ_ _=>rfl)) af (se rfl)) (he:=se rfl) (hpl:=na rfl)) af (se rfl))) (λ_ _ _ _ _=>(aP (i:=0) (show(["_law_k","_law_game_here"]:List Str).Nodup by decide +kernel) rfl (.inl rfl))) (λ_ _ _ _ _=>cL)
   (λ_ _ _ _ _=>(aY (aa (aD au (aD bg (aD au (pv 1) ae (λ_ _=>rfl)) (pv 0) (λ_ _=>rfl)) ae (λ_ _=>rfl)) (aa (pv 0) af (se rfl)) (se rfl))))) af (se rfl)) (he:=se rfl) (hpl:=na rfl)))
  (ao (jl PassesOwn.never (aN bY (aD au (pv 3) ae (λ_ _=>rfl)) aV (aX _)) (ao (aS (i:=1) nd rfl (.inl rfl) (aD bg (bK (aa (aD au (pv 3) ae (λ_ _=>rfl)) (aa (aD au (pv 3) ae (λ_ _=>rfl)) af (se rfl)) (se rfl))) (cf mn (by rfl) T.z_int rfl (aa (iQ xc (aD bg (pv 2) (cR (dr hr) (pv 4) (aD au (pv 3) ae (λ_ _=>rfl)) (λ_ _=>rfl)) (λ_ _=>rfl)) (aD au (pv 3) ae (λ_ _=>rfl)) (aX _)) af (se rfl)) (he:=se rfl) (hpl:=na rfl)) (λ_ _=>rfl)))
  (av (aS (i:=3) nd rfl (.inl rfl) (cR (dr hr) (cf (d3 (K:=K)) (by rfl) T.z_dict rfl (aa (aD au (pv 0) ae (λ_ _=>rfl)) af (se rfl)) (he:=se rfl) (hpl:=na rfl)) (pv 1) (λ_ _=>rfl))))))
  (av (aW (aY (aa (pv 1) (aa (pv 2) af (se rfl)) (se rfl)))))))),?_⟩
  refine(?_:let cO:TS:=_;let cI:TS:=_;let cJ:TS:=_;let d7:TS:=_;tSeq cO (tSeq cI (tSeq cJ d7)) _ _ _);intro cO cI cJ d7;have sl:=sizeLine_eq;symm;obtain⟨gp,cv,pv,rfl,qq,rc,rp⟩:=bo.mp (show Rep H (.tup _) gv from rg);obtain⟨cl,ig,rfl,gq,qo⟩:=aQ.mp (show Rep H (.lst _) cv from rc);obtain⟨pl,Cp,rfl,hpl,vi⟩:=aQ.mp (show Rep H (.lst _) pv from rp);have Pz:ig.length=g.cs.length:=by have:=qo.length;rw[aak] at this;lia
  have lc:=gg.lc;obtain⟨x0,YV⟩:∃x,look g.ps nm=some x:=by
   cases fu with
   | zero=>cases ak
   | succ fu=>
    unfold eF at ak;cases h:look g.ps nm with
    | none=>rw[h] at ak;cases ak
    | some x=>exact⟨x,rfl⟩
  nofun;clear G_;change tSeq _ _ _ _ _;refine aZ (λN=>∀H1 v,aB H H1->Rep H1 (qH x0) v->N [some (.ref gp),some (.str nm),some (.ref l),some v,none] H1) ?_ (λN hN=>?_)
  case refine_2=>
   symm;obtain⟨rows,e1,e2,e3,e4⟩:=j5 (K:=K) vi;obtain⟨v,ev,rv⟩:=e4 _ _ YV;nofun;dsimp?[qq];exact⟨rows,by rw[<-e1];exact bH.of hpl,e2,by rw[e3];exact iI gg.np,λdd Cw=>⟨v,.inl ⟨_,.inr nm,.inl aj,rfl,ev.symm⟩,hN _ v (ai Cw) (rv.mono (ai Cw))⟩⟩
  rintro H1 v0 s1 Rb;change tSeq _ _ _ _ _;refine aZ (λN=>∀H2 d,aB H1 H2->H2 d=some (.dK (km g.cs 0))->N [some (.ref gp),some (.str nm),some (.ref l),some v0,some (.ref d)] H2) ?_ (λN hN=>?_)
  case refine_2=>
   dsimp?[s1 _ _ qq,s1 _ _ gq];refine⟨by lia,by lia,?_⟩;rw[aaS];refine comp_map src_range (λ_ _ _ _ h=>by rw[h.1];exact aB.refl _) (by lia) (λi y H2=>∀c,g.cs[i]?=some c->∃q,y=.ref q/\H2 q=some (.tup [.str c.1,.int (i:Int)])) (λi y H2 H3 s3 h c ec=>by obtain⟨q,e,hq⟩:=h c ec;exact⟨q,e,s3 _ _ hq⟩) ?_ ?_
   ·rintro i x w0 H2 H3 Q2 hi s2 ⟨rfl,rfl⟩ kq;have FH:=s1.trans s2;have ec:=aat (show i<g.cs.length by lia);obtain⟨cv,ev,RM⟩:=qo.at (i:=i) (by rw[aal,ec];rfl);symm;obtain⟨cq,y1,y2,rfl,KJ,q1,q2⟩:=bo.mp (show Rep _ (.tup _) cv from RM);obtain rfl:=aH.mp q1;nofun;dsimp?[Int.zero_add,FH _ _ qq,FH _ _ gq];exact⟨_,cB ev,_,rfl,_,FH _ _ KJ,_,at0,by lia,λp H4 s4 np e4=>kq _ _ s4 (λc' IG=>by rw[ec] at IG;cases IG;exact⟨p,rfl,e4⟩)⟩
   ·intro ys H2 s2 ly hy D n1 n2;obtain⟨rows,e1,e2,e3⟩:=rE (K:=K) (H:=upd H2 D (.lst ys)) g.cs 0 ys (by lia) (λj v c ev ec=>by obtain⟨q,e,hq⟩:=hy j v ev c ec;exact⟨q,e,by rw[aaY];exact ai n2 _ _ hq⟩);exact⟨rows,by rw[<-e1];exact bH.of aj,e2,wH gg.nc e3,λd Ik=>hN _ d (s2.trans ((ai n2).trans (ai Ik))) (by rw[aj,e3])⟩
  rintro H2 d s2 hd;change tSeq _ _ _ _ _;refine aZ (λN=>∀H3 v,aB H H3->N [some (.ref gp),some (.str zN),some (.ref l),some v,some (.ref d)] H3) ?_ (λN hN=>?_)
  case refine_2=>
   refine Bb (λm σ H3=>aB H2 H3/\∃nm x v,eF g ns m nm=some zN/\look g.ps nm=some x/\Rep H3 (qH x) v/\σ=[some (.ref gp),some (.str nm),some (.ref l),some v,some (.ref d)]) (m:=fu) ⟨aB.refl _,nm,x0,v0,ak,YV,Rb.mono s2,rfl⟩ ?_;intro m σ H3 He;symm;obtain⟨s3,nm2,x,v,Bg,YW,Ib,rfl⟩:=He;have yG:=s1.trans (s2.trans s3);obtain⟨m,rfl⟩:∃m',m=m'+1:=by
    cases m with
    | zero=>cases Bg
    | succ m=>exact⟨m,rfl⟩
   nofun;clear G_;have Bg:=Bg;unfold eF at Bg;rw[YW] at Bg;have no:(∀c k a b,x≠.ask c k a b)->nm2=zN:=λh=>by
    cases x with
    | ask c k a b=>exact absurd rfl (h c k a b)
    | fin t b=>exact aaE Bg
    | score c=>exact aaE Bg
    | pick w rs=>exact aaE Bg
    | fH p t b rs=>exact aaE Bg
   have hv:∃q vs kd,v=.ref q/\H3 q=some (.tup (.str kd::vs))/\(kd=aaj "ask"↔∃c k a b,x=.ask c k a b):=by
    cases x with
    | ask c k a b=>
     symm;obtain⟨q,v1,v2,v3,v4,v5,rfl,hq,r1,_⟩:=o7.mp (show Rep H3 (.tup _) v from Ib);nofun;rw[aH.mp r1] at hq;exact⟨q,_,_,rfl,hq,⟨λ_=>⟨c,k,a,b,rfl⟩,λ_=>rfl⟩⟩
    | fin t b=>
     symm;obtain⟨q,v1,v2,rfl,hq,r1,_⟩:=bo.mp (show Rep H3 (.tup _) v from Ib);nofun;rw[aH.mp r1] at hq;exact⟨q,_,_,rfl,hq,⟨λe=>absurd e ∅,fun⟨_,_,_,_,e⟩=>by cases e⟩⟩
    | score c=>
     symm;obtain⟨q,v1,v2,rfl,hq,r1,_⟩:=bo.mp (show Rep H3 (.tup _) v from Ib);nofun;rw[aH.mp r1] at hq;exact⟨q,_,_,rfl,hq,⟨λe=>absurd e ∅,fun⟨_,_,_,_,e⟩=>by cases e⟩⟩
    | pick w rs=>
     symm;obtain⟨q,v1,v2,v3,rfl,hq,r1,_⟩:=cP.mp (show Rep H3 (.tup _) v from Ib);nofun;rw[aH.mp r1] at hq;exact⟨q,_,_,rfl,hq,⟨λe=>absurd e ∅,fun⟨_,_,_,_,e⟩=>by cases e⟩⟩
    | fH p t b rs=>
     symm;obtain⟨q,v1,v2,v3,v4,rfl,hq,r1,_⟩:=dm.mp (show Rep H3 (.tup _) v from Ib);nofun;rw[aH.mp r1] at hq;exact⟨q,_,_,rfl,hq,⟨λe=>absurd e ∅,fun⟨_,_,_,_,e⟩=>by cases e⟩⟩
   symm;obtain⟨q,vs,kd,rfl,hq,ik⟩:=hv;nofun;clear G_;by_cases ka:kd=aaj "ask"
   ·symm;obtain⟨c,k,a,b,rfl⟩:=ik.mp ka;have hc:c∈g.cs.map (·.1):=gg.wt _ (fk YW);have sc:=bZ hc;obtain⟨q',v1,v2,v3,v4,v5,e0,C5,r1,r2,r3,r4,r5⟩:=o7.mp (show Rep H3 (.tup _) (.ref q) from Ib);nofun;clear G_;cases e0;rw[aH.mp r1,aH.mp r2,bb.mp r3,aH.mp r4,aH.mp r5] at C5;have Bg:(if k<=ns.getD (bU g.cs c) 0 then eF g ns m a else eF g ns m b)=some zN:=Bg;have NL:eF g ns m (if k<=ns.getD (bU g.cs c) 0 then a else b)=some zN:=by split <;>(rename_i h;first | rw[if_pos h] at Bg | rw[if_neg h] at Bg) <;>exact Bg
    generalize RN:(if k<=ns.getD (bU g.cs c) 0 then a else b)=nx at *;obtain⟨x1,YX⟩:∃x,look g.ps nx=some x:=by
     cases m with
     | zero=>cases NL
     | succ m=>
      unfold eF at NL;cases h:look g.ps nx with
      | none=>rw[h] at NL;cases NL
      | some x=>exact⟨x,rfl⟩
    refine⟨true,λH'=>H3=H',λQ hQ=>?_,λH' e=>?_⟩
    ·dsimp?[C5];exact hQ _ rfl
    ·subst e;rw[if_pos rfl];change tSeq _ _ _ _ _;refine aZ (λN=>∀H4,aB H3 H4->N [some (.ref gp),some (.str nx),some (.ref l),some (.ref q),some (.ref d)] H4) ?_ (λN hN=>?_)
     case refine_2=>
      dsimp?[C5];refine⟨.str b,rfl,.str a,rfl,by lia,λp np=>?_⟩;have sp:=ai (o:=.lst [V.str b,V.str a]) np;refine⟨_,sp _ _ C5,_,at1,_,nS (sp _ _ (s3 _ _ hd)) hc,_,_,rfl,sp _ _ (yG _ _ hl),_,du (by lia),_,sp _ _ C5,_,at2,_,rfl,_,rfl,_,aj,.str nx,?_,hN _ sp⟩;subst RN;split <;>rfl
     rintro H4 s4;have Cu:=yG.trans s4;symm;obtain⟨rows,e1,e2,e3,e4⟩:=j5 (K:=K) (vi.mono Cu);obtain⟨v,ev,rv⟩:=e4 _ _ YX;nofun;dsimp?[Cu _ _ qq];exact⟨rows,by rw[<-e1];exact bH.of (Cu _ _ hpl),e2,by rw[e3];exact iI gg.np,λdd Cw=>⟨v,.inl ⟨_,.inr nx,.inl aj,rfl,ev.symm⟩,m,by lia,s3.trans (s4.trans (ai Cw)),nx,NL,x1,YX,v,rv.mono (ai Cw),rfl,rfl⟩⟩
   ·have e1:=no (λc k a b e=>ka (ik.mpr ⟨c,k,a,b,e⟩));subst e1;refine⟨false,λH'=>H3=H',λQ hQ=>?_,λH' e=>?_⟩
    ·dsimp?[hq];rw[decide_eq_false ka];exact hQ _ rfl
    ·subst e;rw[if_neg ∅];exact hN _ _ yG
  rintro H3 v3 s3;dsimp?[];exact⟨by lia,λp H4 s4 np e4=>kk _ _ (s3.trans s4) e4⟩
theorem jB:bj ["_law_game_here","_law_numbers","_law_deeds_here","_law_thrown","_law_found","_law_at_here","_law_deed","_law_k"] ["_law_game_here","_law_numbers","_law_deeds_here","_law_thrown"] (aq (top 48)):=⟨rfl,rfl,rfl,∅,rfl,∅,∅⟩
theorem NM (T:Txt K mg aG aI aJ aE aK ag aF):dj P w K mg base (bL P w) 1 "_law_behind" ["_law_game_here","_law_numbers","_law_deeds_here","_law_thrown"] A8:=by
 refine T.um.fE (λ_ _ _ _ _ _=>zu λ_ _ _ _=>rfl) λf fd F=>F.gQ jB (λvs H Q E h=>?_) (λcw A outer s H vs Q E hr h=>?_)
 ·obtain⟨_,_,_,_,_,_,_,_,rfl,_⟩:=h;rfl
 ·symm;obtain⟨gv,l,dv,v,g,ns,ds,n,rfl,rg,G,hl,ir,dsk,rd,v0,kk⟩:=h;nofun;clear G_;have nd:=jB.nd;refine⟨_,(ao (aS (i:=4) nd rfl (.inr rfl) (cf (dP (K:=K)) (by rfl) T.z_list rfl (aa (pv 1) af (se rfl)) (he:=se rfl) (hpl:=na rfl)))
  (ao (aS (i:=5) nd rfl (.inl rfl) (cf (d3 (K:=K)) (by rfl) T.z_dict rfl (aa (cD rfl (N:=["_law_game_here","_law_numbers","_law_deeds_here","_law_thrown","_law_found","_law_at_here","_law_deed","_law_k"]) (so:=aq (top 48)) (N':=["_law_k","_law_game_here"]) (k:=1) (fr:=[0]) rfl rfl ⟨rfl,∅,∅,∅,rfl,∅,∅⟩ (dD rfl T.z_range (aa (bf bD (by rfl) T.z_len aav (aa (aD au (pv 0) ae (λ_ _=>rfl)) af (se rfl)) (he:=se rfl) (hpl:=na rfl)) af (se rfl))) (λ_ _ _ _ _=>(aP (i:=0) (show(["_law_k","_law_game_here"]:List Str).Nodup by decide +kernel) rfl (.inl rfl))) (λ_ _ _ _ _=>cL)
   (λ_ _ _ _ _=>(aY (aa (aD au (aD bg (aD au (pv 1) ae (λ_ _=>rfl)) (pv 0) (λ_ _=>rfl)) ae (λ_ _=>rfl)) (aa (pv 0) af (se rfl)) (se rfl))))) af (se rfl)) (he:=se rfl) (hpl:=na rfl)))
  (ao (cV PassesOwn.never rfl (bC (K:=K) (pv 2)) (aP (i:=6) nd rfl (.inl rfl)) (ao (aS (i:=7) nd rfl (.inl rfl) (cR (dr hr) (pv 5) (aD au (pv 6) ae (λ_ _=>rfl)) (λ_ _=>rfl)))
  (ao (bF (aN bY (aD au (pv 6) ae (λ_ _=>rfl)) aV (aX _)) (av (jk (aD au (pv 6) ae (λ_ _=>rfl)) (jj (pv 4) (pv 7) set_list)))
   (av (bF (aN bY (aD au (pv 6) ae (λ_ _=>rfl)) aV (aX _)) (av (jk (aU bN (aD bg (pv 4) (pv 7) (λ_ _=>rfl)) (aD au (pv 6) ae (λ_ _=>rfl))) (jj (pv 4) (pv 7) set_list)))
   (av (bF (aN bY (aD au (pv 6) ae (λ_ _=>rfl)) aV (aX _)) (av (jk (aU bN (aD bg (pv 4) (pv 7) (λ_ _=>rfl)) (pv 3)) (jj (pv 4) (pv 7) set_list)))
   (ao (jk (aU bN (aD bg (pv 4) (cR (dr hr) (pv 5) (aD au (pv 6) ae (λ_ _=>rfl)) (λ_ _=>rfl)) (λ_ _=>rfl)) (aD bg (pv 4) (pv 7) (λ_ _=>rfl))) (jj (pv 4) (cR (dr hr) (pv 5) (aD au (pv 6) ae (λ_ _=>rfl)) (λ_ _=>rfl)) set_list))
  (av (jk ae (jj (pv 4) (pv 7) set_list)))))))))
  (av (aS (i:=4) nd rfl (.inr rfl) (cD rfl (N:=["_law_game_here","_law_numbers","_law_deeds_here","_law_thrown","_law_found","_law_at_here","_law_deed","_law_k"]) (so:=aq (top 48)) (N':=["_law_j","_law_game_here","_law_found"]) (k:=1) (fr:=[0,4]) rfl rfl ⟨rfl,∅,∅,∅,rfl,∅,∅⟩ (dD rfl T.z_range (aa (bf bD (by rfl) T.z_len aav (aa (pv 4) af (se rfl)) (he:=se rfl) (hpl:=na rfl)) af (se rfl))) (λ_ _ _ _ _=>(aP (i:=0) (show(["_law_j","_law_game_here","_law_found"]:List Str).Nodup by decide +kernel) rfl (.inl rfl))) (λ_ _ _ _ _=>cL)
   (λ_ _ _ _ _=>(bf (oy rfl) (by rfl) T.z_min rfl (aa (aD bg (pv 2) (pv 0) (λ_ _=>rfl)) (aa (aD au (aD bg (aD au (pv 1) ae (λ_ _=>rfl)) (pv 0) (λ_ _=>rfl)) ae (λ_ _=>rfl)) af (se rfl)) (se rfl)) (he:=se rfl) (hpl:=na rfl)))))))))
  (av (aW (pv 4)))))),?_⟩
  refine(?_:let cO:TS:=_;let cI:TS:=_;let cJ:TS:=_;let d7:TS:=_;tSeq cO (tSeq cI (tSeq cJ d7)) _ _ _);intro cO cI cJ d7;have sl:=sizeLine_eq;symm;obtain⟨gp,cv,pv,rfl,qq,rc,rp⟩:=bo.mp (show Rep H (.tup _) gv from rg);obtain⟨cl,ig,rfl,gq,qo⟩:=aQ.mp (show Rep H (.lst _) cv from rc);have Pz:ig.length=g.cs.length:=by have:=qo.length;rw[aak] at this;lia
  have c3:=G.c3;obtain⟨dl,pY,rfl,M7,M8⟩:=aQ.mp rd;have ldv:pY.length=ds.length:=by have:=M8.length;rw[aak] at this;lia
  obtain⟨d2,dk⟩:=dsk;nofun;clear G_;have place:∀{i:Nat} {c},g.cs[i]?=some c->∃q,ig[i]?=some (.ref q)/\H q=some (.tup [.str c.1,.int c.2]):=λ{i c} e=>by
   obtain⟨v,ev,rv⟩:=qo.at (i:=i) (by rw[aal,e];rfl);symm;obtain⟨q,a,b,rfl,hq,r1,r2⟩:=bo.mp (show Rep H (.tup _) v from rv);rw[aH] at r1;rw[bb] at r2;subst r1 r2;nofun;exact⟨q,ev,hq⟩
  change tSeq _ _ _ _ _;refine aZ (λN=>∀H1 p,aB H H1->H p=none->H1 p=some (.lst (ns.map V.int))->N [some (.ref gp),some (.ref l),some (.ref dl),some (.int v),some (.ref p),none,none,none] H1) ?_ (λN hN=>?_)
  case refine_2=>
   dsimp?[];exact⟨_,.inl (bH.of hl),λp np=>hN _ p (ai np) np aj⟩
  rintro H1 p s1 np hp;change tSeq _ _ _ _ _;refine aZ (λN=>∀H2 d,aB H1 H2->H2 d=some (.dK (km g.cs 0))->N [some (.ref gp),some (.ref l),some (.ref dl),some (.int v),some (.ref p),some (.ref d),none,none] H2) ?_ (λN hN=>?_)
  case refine_2=>
   dsimp?[s1 _ _ qq,s1 _ _ gq];refine⟨by lia,by lia,?_⟩;rw[aaS];refine comp_map src_range (λ_ _ _ _ h=>by rw[h.1];exact aB.refl _) (by lia) (λi y H2=>∀c,g.cs[i]?=some c->∃q,y=.ref q/\H2 q=some (.tup [.str c.1,.int (i:Int)])) (λi y H2 H3 s3 h c ec=>by obtain⟨q,e,hq⟩:=h c ec;exact⟨q,e,s3 _ _ hq⟩) ?_ ?_
   ·rintro i x w0 H2 H3 Q2 hi s2 ⟨rfl,rfl⟩ kq;have FH:=s1.trans s2;have ec:=aat (show i<g.cs.length by lia);symm;obtain⟨cq,ev,KJ⟩:=place ec;nofun;dsimp?[Int.zero_add,FH _ _ qq,FH _ _ gq];exact⟨_,cB ev,_,rfl,_,FH _ _ KJ,_,at0,by lia,λp H4 s4 np e4=>kq _ _ s4 (λc' IG=>by rw[ec] at IG;cases IG;exact⟨p,rfl,e4⟩)⟩
   ·intro ys H2 s2 ly hy D n1 n2;obtain⟨rows,e1,e2,e3⟩:=rE (K:=K) (H:=upd H2 D (.lst ys)) g.cs 0 ys (by lia) (λj v c ev ec=>by obtain⟨q,e,hq⟩:=hy j v ev c ec;exact⟨q,e,by rw[aaY];exact ai n2 _ _ hq⟩);exact⟨rows,by rw[<-e1];exact bH.of aj,e2,wH G.gg.nc e3,λd Ik=>hN _ d (s2.trans ((ai n2).trans (ai Ik))) (by rw[aj,e3])⟩
  rintro H2 d s2 hd;have FH:=s1.trans s2;change tSeq _ _ _ _ _;refine aZ (λN=>∀H3 p',aB H H3->H p'=none->H3 p'=some (.lst ((ds.foldl (fV g.cs v) ns).map V.int))->∀z6 z7,N [some (.ref gp),some (.ref l),some (.ref dl),some (.int v),some (.ref p'),some (.ref d),z6,z7] H3) ?_ (λN hN=>?_)
  case refine_2=>
   dsimp?[];refine⟨⟨_,bH.of (FH _ _ M7)⟩,b9 (src_list (Ok:=aB H) (λH3 s3=>bH.of (s3 _ _ M7))) (λi σ H3=>aB H H3/\(∀o,H2 d=some o->H3 d=some o)/\∃p',H p'=none/\p'≠d/\H3 p'=some (.lst (((ds.take i).foldl (fV g.cs v) ns).map V.int))/\x8 g.cs ((ds.take i).foldl (fV g.cs v) ns)/\∃z6 z7,σ=[some (.ref gp),some (.ref l),some (.ref dl),some (.int v),some (.ref p'),some (.ref d),z6,z7]) ⟨FH,λo e=>e,p,np,(λz=>by have:=s2 _ _ hp;rw[z,hd] at this;cases this),s2 _ _ hp,ir,_,_,rfl⟩ (λ_ _ _ _ h=>h.1) ?_ ?_⟩
   ·intro i x σ H4 H3 hi fR fo;symm;obtain⟨s3,kd,p',ya,pd,pe,PB,z6,z7,rfl⟩:=fR;obtain⟨rfl,ex⟩:=fo;obtain⟨dd,ed,zP⟩:=M8.get ex;rw[aal] at ed;obtain⟨de,YY,rfl⟩:=abm.mp ed;nofun;clear G_;have KL:=dk de (aar YY);have PD:=kd _ hd;have tk:(ds.take (i+1)).foldl (fV g.cs v) ns=fV g.cs v ((ds.take i).foldl (fV g.cs v) ns) de:=by rw[aaG,YY,aa4];rfl
    rw[tk];have YZ:=Im G.c0 v0 KL PB;generalize (ds.take i).foldl (fV g.cs v) ns=ms at *;simp only[gName,abc,abb];symm;obtain⟨q,rfl,hq⟩:=Hr zP;nofun;clear G_;have wW:=s3 _ _ hq;have sc:=bZ (E6 KL);have FI:=PB.1;change tSeq _ _ _ _ _;refine aZ (λN=>N [some (.ref gp),some (.ref l),some (.ref dl),some (.int v),some (.ref p'),some (.ref d),some (.ref q),some (.int ((bU g.cs (zN de):Nat):Int))] H3) ?_ (λN hN=>?_)
    case refine_2=>
     dsimp?[wW];exact⟨_,NG de,_,nS PD (E6 KL),hN⟩
    change tSeq _ _ _ _ _;refine aZ (λN=>N [some (.ref gp),some (.ref l),some (.ref dl),some (.int v),some (.ref p'),some (.ref d),some (.ref q),some (.int ((bU g.cs (zN de):Nat):Int))] (upd H3 p' (.lst ((nU g.cs v ms de).map V.int)))) ?_ (λN hN=>?_)
    case refine_2=>
     cases de with
     | set n k=>
      simp only[Lw] at wW;rw[show nU g.cs v ms (.set n k)=ms.set (bU g.cs n) k from rfl,List.map_set] at hN;refine dE (λY N k=>by dsimp?[wW];exact k) ?_;dsimp?[wW,rSetL];exact⟨_,pe,_,gW (by rw[aak,FI];exact sc),hN⟩
     | plus n k=>
      simp only[Lw] at wW;rw[show nU g.cs v ms (.plus n k)=ms.set (bU g.cs n) (ms.getD (bU g.cs n) 0+k) from rfl,List.map_set] at hN;refine c6 (λY N k=>by dsimp?[wW];rw[if_neg ∅];exact k) ?_;change tIfS _ _ _ _ [some (.ref gp),some (.ref l),some (.ref dl),some (.int v),some (.ref p'),some (.ref d),some (.ref q),some (.int ((bU g.cs (zN (.plus n k)):Nat):Int))] H3;refine dE (λY N k=>by dsimp?[wW];exact k) ?_;dsimp?[wW,rSetL];exact⟨_,pe,_,du (by rw[FI];exact sc),_,rfl,_,pe,_,gW (by rw[aak,FI];exact sc),hN⟩
     | face n=>
      simp only[Lw] at wW;rw[show nU g.cs v ms (.face n)=ms.set (bU g.cs n) (ms.getD (bU g.cs n) 0+v) from rfl,List.map_set] at hN;refine c6 (λY N k=>by dsimp?[wW];rw[if_neg ∅];exact k) ?_;change tIfS _ _ _ _ [some (.ref gp),some (.ref l),some (.ref dl),some (.int v),some (.ref p'),some (.ref d),some (.ref q),some (.int ((bU g.cs (zN (.face n)):Nat):Int))] H3;refine c6 (λY N k=>by dsimp?[wW];rw[if_neg ∅];exact k) ?_;change tIfS _ _ _ _ [some (.ref gp),some (.ref l),some (.ref dl),some (.int v),some (.ref p'),some (.ref d),some (.ref q),some (.int ((bU g.cs (zN (.face n)):Nat):Int))] H3;refine dE (λY N k=>by dsimp?[wW];exact k) ?_;dsimp?[wW,rSetL];exact⟨_,pe,_,du (by rw[FI];exact sc),_,rfl,_,pe,_,gW (by rw[aak,FI];exact sc),hN⟩
     | move n m=>
      simp only[Lw] at wW;have sm:=bZ KL.2.1;rw[show nU g.cs v ms (.move n m)=(ms.set (bU g.cs m) (ms.getD (bU g.cs m) 0+ms.getD (bU g.cs n) 0)).set (bU g.cs n) 0 from rfl,List.map_set,List.map_set] at hN;refine c6 (λY N k=>by dsimp?[wW];rw[if_neg ∅];exact k) ?_;change tIfS _ _ _ _ [some (.ref gp),some (.ref l),some (.ref dl),some (.int v),some (.ref p'),some (.ref d),some (.ref q),some (.int ((bU g.cs (zN (.move n m)):Nat):Int))] H3;refine c6 (λY N k=>by dsimp?[wW];rw[if_neg ∅];exact k) ?_;change tIfS _ _ _ _ [some (.ref gp),some (.ref l),some (.ref dl),some (.int v),some (.ref p'),some (.ref d),some (.ref q),some (.int ((bU g.cs (zN (.move n m)):Nat):Int))] H3;refine c6 (λY N k=>by dsimp?[wW];rw[if_neg ∅];exact k) ?_;dsimp?[wW,rSetL];refine⟨_,nS PD KL.2.1,_,_,rfl,pe,_,du (by rw[FI];exact sm),_,pe,_,du (by rw[FI];exact sc),_,rfl,_,rfl,_,nS PD KL.2.1,_,_,rfl,pe,_,gW (by rw[aak,FI];exact sm),_,aj,_,gW (by rw[aaP,aak,FI];exact sc),?_⟩;rw[vp];exact hN
    have s4:aB H (upd H3 p' (.lst ((nU g.cs v ms de).map V.int))):=bI s3 ya;have KN:upd H3 p' (.lst ((nU g.cs v ms de).map V.int)) d=some (.dK (km g.cs 0)):=by rw[aA (Ne.symm pd)];exact PD
    have Y0:upd H3 p' (.lst ((nU g.cs v ms de).map V.int)) p'=some (.lst ((nU g.cs v ms de).map V.int)):=aj;have lr:(nU g.cs v ms de).length=g.cs.length:=E5.trans FI;have cla:=clamp G.c0 PB KL (v:=v);have Jp:=YZ.1;generalize nU g.cs v ms de=rw at *;generalize fV g.cs v ms de=nw at *;generalize upd H3 p' (.lst (List.map V.int rw))=H4 at *;dsimp?[Y0];refine⟨by rw[aak];lia,by rw[aak];lia,?_⟩;rw[aaS,aak];refine comp_map src_range (λ_ _ _ _ h=>by rw[h.1];exact aB.refl _) (by lia) (λi y H2=>y=.int (nw.getD i 0)) (λi y H2 H3 s3 h=>h) ?_ ?_
    ·rintro j x w0 H5 H6 Q2 hj s5 ⟨rfl,rfl⟩ kq;have Lz:=s4.trans s5;have RO:j<g.cs.length:=by lia
     symm;obtain⟨cq,ev,KJ⟩:=place (aat RO);nofun;have cj:=cla j RO;rw[wb (aat RO)] at cj;dsimp?[Int.zero_add,Lz _ _ qq,Lz _ _ gq,s5 _ _ Y0];refine⟨_,du (by lia),_,cB ev,_,rfl,_,Lz _ _ KJ,_,at1,_,rfl,_,rfl,kq _ _ (aB.refl _) ?_⟩;rw[<-cj];congr 1;split <;>lia
    ·intro ys H5 s5 ly hy D n1 n2;have Lz:=s4.trans s5;have ey:ys=nw.map V.int:=by
      apply List.ext_getElem?;intro j;rw[aal];cases e:ys[j]? with
      | none=>rw[aa3 (by have:=List.getElem?_eq_none_iff.mp e;lia)];rfl
      | some y=>
       have hj:=(abn.mp e).1;rw[hy j y e,aa6,aat (show j<nw.length by lia)]
       rfl
     exact⟨Lz.trans (ai n2),λo e=>by rw[hd] at e;cases e;exact ai n2 _ _ (s5 _ _ KN),D,none_of Lz n2,(λz=>by rw[z,s5 _ _ KN] at n2;cases n2),by rw[aj,ey],YZ,rfl,_,rfl⟩
   ·intro σ H3 dG;symm;obtain⟨s3,kd,p',ya,pd,pe,PB,z6,z7,rfl⟩:=dG;nofun;rw[ldv,aaA (aam _)] at pe;exact hN _ p' s3 ya pe _ _
  rintro H3 p' s3 ya pe z6 z7;dsimp?[];exact kk _ _ s3 ya pe
theorem lS:bj ["_law_pool","_law_tables"] ["_law_pool"] (aq (top 49)):=⟨rfl,rfl,rfl,∅,rfl,∅,∅⟩
theorem NN (T:Txt K mg aG aI aJ aE aK ag aF):dj P w K mg base (bL P w) 1 "_law_table" ["_law_pool"] EZ:=by
 refine T.vR.fE (λ_ _ _ _ _ _=>hZ λ_=>rfl) λf fd F=>F.gQ lS (λvs H Q E h=>?_) (λcw A outer s H vs Q E hr h=>?_)
 ·obtain⟨_,_,rfl,_⟩:=h;rfl
 ·symm;obtain⟨v,ps,rfl,rp,hp,kk⟩:=h;nofun;clear G_;have nd:=lS.nd;refine⟨_,(ao (aS (i:=1) nd rfl (.inl rfl) (MD aV (bK (aa (aY (aa ae (aa ae af (se rfl)) (se rfl))) af (se rfl))) aV (bK (aa (aY (aa ae (aa ae af (se rfl)) (se rfl))) (aa (aY (aa ae (aa ae af (se rfl)) (se rfl))) (aa (aY (aa ae (aa ae af (se rfl)) (se rfl))) af (se rfl)) (se rfl)) (se rfl))) aV (bK (aa (aY (aa ae (aa ae af (se rfl)) (se rfl))) (aa (aY (aa ae (aa ae af (se rfl)) (se rfl))) (aa (aY (aa ae (aa ae af (se rfl)) (se rfl))) af (se rfl)) (se rfl)) (se rfl)))))
  (ao (bF (aN bY (aD au (aD bg (pv 0) ae (λ_ _=>rfl)) ae (λ_ _=>rfl)) aV (aX _)) (av (aW (cD rfl (N:=["_law_pool","_law_tables"]) (so:=aq (top 49)) (N':=["_law_value"]) (k:=1) (fr:=[]) rfl rfl ⟨rfl,∅,∅,∅,rfl,∅,∅⟩ (j1 rfl T.z_range (aa ae (aa (aU bN (aD au (aD bg (pv 0) ae (λ_ _=>rfl)) ae (λ_ _=>rfl)) ae) af (se rfl)) (se rfl))) (λ_ _ _ _ _=>(aP (i:=0) (show(["_law_value"]:List Str).Nodup by decide +kernel) rfl (.inl rfl))) (λ_ _ _ _ _=>cL)
   (λ_ _ _ _ _=>(aY (aa ae (aa (pv 0) af (se rfl)) (se rfl)))))))
   br)
  (av (aW (cR (dr hr) (pv 1) (aD au (aD bg (pv 0) ae (λ_ _=>rfl)) ae (λ_ _=>rfl)) (λ_ _=>rfl)))))),?_⟩
  refine(?_:let cO:TS:=_;let cI:TS:=_;let cJ:TS:=_;tSeq cO (tSeq cI cJ) _ _ _);intro cO cI cJ;have sl:=sizeLine_eq;symm;obtain⟨pl,Cp,rfl,hpl,vi⟩:=aQ.mp rp;nofun;clear G_;change tSeq _ _ _ _ _;refine aZ (λN=>∀H1 d l1 l2 l3,aB H H1->H1 d=some (.dK [(Sum.inr (aaj "number"),.ref l1),(Sum.inr (aaj "hits"),.ref l2),(Sum.inr (aaj "again"),.ref l3)])->H l1=none->H l2=none->H l3=none->Rep H1 (.lst [.tup [.int 1,.int 2]]) (.ref l1)->Rep H1 (.lst [.tup [.int 1,.int 0],.tup [.int 2,.int 1],.tup [.int 1,.int 2]]) (.ref l2)->Rep H1 (.lst [.tup [.int 1,.int 1],.tup [.int 4,.int 2],.tup [.int 4,.int 3]]) (.ref l3)->N [some (.ref pl),some (.ref d)] H1) ?_ (λN hN=>?_)
  case refine_2=>
   dsimp?[X2];intro d RP;refine⟨by lia,λp1 H2 s2 n2 e2=>⟨by lia,λl1 m1=>⟨by lia,λp2 H3 s3 n3 e3=>⟨by lia,λp3 H4 s4 n4 e4=>⟨by lia,λp4 H5 s5 n5 e5=>⟨by lia,λl2 m2=>⟨by lia,λp5 H6 s6 n6 e6=>⟨by lia,λp6 H7 s7 n7 e7=>⟨by lia,λp7 H8 s8 n8 e8=>⟨by lia,λl3 m3=>?_⟩⟩⟩⟩⟩⟩⟩⟩⟩⟩;have q9:=ai (o:=.lst [V.ref p5,.ref p6,.ref p7]) m3;have q8:=s8.trans q9;have q7:=s7.trans q8;have q6:=s6.trans q7;have q5:=(ai (o:=.lst [V.ref p2,.ref p3,.ref p4]) m2).trans q6;have q4:=s5.trans q5;have q3:=s4.trans q4;have q2:=s3.trans q3;have q1:=(ai (o:=.lst [V.ref p1]) m1).trans q2;have q0:=s2.trans q1;have sd:=(ai (o:=.dK []) RP).trans s2;have z1:H l1=none:=none_of sd m1;have z2:H l2=none:=none_of (sd.trans ((ai m1).trans (s3.trans (s4.trans s5)))) m2;have z3:H l3=none:=none_of (sd.trans ((ai m1).trans (s3.trans (s4.trans (s5.trans ((ai m2).trans (s6.trans (s7.trans s8)))))))) m3;have Y1:=q0 _ _ (aj (H:=H) (a:=d) (o:=.dK []));have sH:=(ai (o:=.dK []) RP).trans q0;have g1:=q2 _ _ (aj (H:=H2) (a:=l1) (o:=.lst [V.ref p1]));have g2:=q6 _ _ (aj (H:=H5) (a:=l2) (o:=.lst [V.ref p2,.ref p3,.ref p4]));have g3:=aj (H:=H8) (a:=l3) (o:=.lst [V.ref p5,.ref p6,.ref p7]);have t1:=q1 _ _ e2;have t2:=q3 _ _ e3;have t3:=q4 _ _ e4;have t4:=q5 _ _ e5;have t5:=q7 _ _ e6;have t6:=q8 _ _ e7;have t7:=q9 _ _ e8;generalize upd H8 l3 (.lst [V.ref p5,.ref p6,.ref p7])=H9 at *;have kp:∀{a o k},H9 a=some o->(∀kvs,o≠.dK kvs)->upd H9 d (.dK k) a=some o:=λ{a o k} e h=>by
    rw[aA (λz=>by rw[z,Y1] at e;cases e;exact h _ rfl)];exact e
   have tp:∀{a x y k},H9 a=some (.tup [.int x,.int y])->Rep (upd H9 d (.dK k)) (.tup [.int x,.int y]) (.ref a):=λ{a x y k} e=>bo.mpr ⟨a,_,_,rfl,kp e (λ_ z=>by cases z),bb.mpr rfl,bb.mpr rfl⟩;refine⟨.inr (aaj "number"),rfl,.inr (aaj "hits"),rfl,.inr (aaj "again"),rfl,∅,∅,∅,Y1,hN _ d l1 l2 l3 (λa o e=>by rw[aA (λz=>by rw[z,RP] at e;cases e)];exact sH _ _ e) aj z1 z2 z3 ?_ ?_ ?_⟩
   ·exact aQ.mpr ⟨l1,_,rfl,kp g1 (λ_ z=>by cases z),aM.mpr ⟨_,_,rfl,tp t1,bx.mpr rfl⟩⟩
   ·exact aQ.mpr ⟨l2,_,rfl,kp g2 (λ_ z=>by cases z),aM.mpr ⟨_,_,rfl,tp t2,aM.mpr ⟨_,_,rfl,tp t3,aM.mpr ⟨_,_,rfl,tp t4,bx.mpr rfl⟩⟩⟩⟩
   ·exact aQ.mpr ⟨l3,_,rfl,kp g3 (λ_ z=>by cases z),aM.mpr ⟨_,_,rfl,tp t5,aM.mpr ⟨_,_,rfl,tp t6,aM.mpr ⟨_,_,rfl,tp t7,bx.mpr rfl⟩⟩⟩⟩
  rintro H1 d l1 l2 l3 s1 hd n1 n2 n3 r1 r2 r3;have key:∀(p:Pt),ps=[p]->∃q,Cp=[.ref q]/\H q=some (.tup (mT p)):=λp e=>by
   subst e;symm;obtain⟨v,r,rfl,a,b⟩:=aM.mp (show bq H [vV p] Cp from vi);obtain rfl:=bx.mp b;obtain⟨q,rfl,hq⟩:=AZ a;nofun;exact⟨q,rfl,hq⟩
  have fB:∀n:Nat,ps=[.fB 1 n]->n<=6->(Nm.weigh (fh ps) (uq ps))=(List.range n).map (λi:Nat=>((i:Int)+1,1))->tSeq cI cJ {nx:=λx H'=>Q V.dI H',rt:=Q} [some (.ref pl),some (.ref d)] H1:=λn e n6 ew=>by
   symm;obtain⟨q,rfl,hq⟩:=key _ e;nofun;simp only[mT] at hq;have Fs:=s1 _ _ hq;have Fc:=s1 _ _ hpl;refine aZ (λ_=>True) trivial (λN _=>?_);refine dE (λY N k=>by
    dsimp?[Fc];refine⟨_,Fs,_,at0,rfl,?_⟩;rw[if_pos rfl];exact k) ?_
   dsimp?[Fc];refine⟨_,Fs,_,at2,_,rfl,∅,∅,by lia,by lia,?_⟩;rw[show((n:Int)+1 - 1).toNat=n by lia];refine comp_map src_range (λ_ _ _ _ h=>by rw[h.1];exact aB.refl _) (by lia) (λi y H2=>Rep H2 (.tup [.int 1,.int (1+ (i:Int))]) y) (λi y H2 H3 s3 h=>h.mono s3) ?_ ?_
   ·rintro i x w0 H2 H3 Q2 hi s2 ⟨rfl,rfl⟩ kq;dsimp?[];exact⟨by lia,λp H4 s4 np e4=>kq _ _ s4 (bo.mpr ⟨p,_,_,rfl,e4,bb.mpr rfl,bb.mpr rfl⟩)⟩
   ·intro ys H2 s2 ly hy D Yk Y2;refine kk D _ (s1.trans (s2.trans (ai Y2))) (none_of s1 Yk) ?_;rw[ew];refine aQ.mpr ⟨D,ys,rfl,aj,bq.of (by rw[aak,aak,List.length_range,ly]) λi dd v e1 e2=>?_⟩;rw[aal,aal] at e1;symm;obtain⟨x,ex,rfl⟩:=abm.mp e1;obtain⟨k,ek,rfl⟩:=abm.mp ex;nofun;obtain⟨h1,h2⟩:=abn.mp ek;rw[List.getElem_range] at h2;subst h2;show Rep _ (.tup [.int 1,.int ((i:Int)+1)]) v;rw[Int.add_comm];exact(hy i v e2).mono (ai Y2)
  have other:∀(p:Pt) (kd:Str) (l:Addr) (ws:List (Int×Int)),ps=[p]->(∃r,mT p=.str kd::r)->kd≠aaj "dice"->dZ [(Sum.inr (aaj "number"),V.ref l1),(Sum.inr (aaj "hits"),.ref l2),(Sum.inr (aaj "again"),.ref l3)] (Sum.inr kd:Key)=some (.ref l)->H l=none->Rep H1 (.lst (ws.map λx=>.tup [.int x.2,.int x.1])) (.ref l)->Nm.weigh (fh ps) (uq ps)=ws->tSeq cI cJ {nx:=λx H'=>Q V.dI H',rt:=Q} [some (.ref pl),some (.ref d)] H1:=λp kd l ws e ⟨r,ek⟩ nk vk nl rl eD=>by
   symm;obtain⟨q,rfl,hq⟩:=key _ e;nofun;rw[ek] at hq;have Fs:=s1 _ _ hq;have Fc:=s1 _ _ hpl;refine aZ (λN=>N [some (.ref pl),some (.ref d)] H1) ?_ (λN hN=>?_)
   case refine_2=>
    exact c6 (λY N k=>by
     dsimp?[Fc];refine⟨_,Fs,_,at0,rfl,?_⟩;rw[if_neg (λz=>nk (by cases z;rfl))];exact k) hN
   dsimp?[Fc];exact⟨_,Fs,_,at0,.ref l,.inl ⟨_,.inr kd,.inl hd,rfl,vk.symm⟩,kk l H1 s1 nl (by rw[eD];exact rl)⟩
  have pe:=hp;simp only[zv,aaR,aa9,or_false] at pe;change tSeq _ _ _ _ _;rcases pe with e | e | e | e | e
  ·exact fB 2 e ∅ (by rw[e];decide +kernel)
  ·exact fB 3 e ∅ (by rw[e];decide +kernel)
  ·exact other (.hits 2 2 2) _ l2 [(0,1),(1,2),(2,1)] e ⟨_,rfl⟩ ∅ (by rfl) n2 r2 (by rw[e];decide +kernel)
  ·exact other (.again 1 3) _ l3 [(1,1),(2,4),(3,4)] e ⟨_,rfl⟩ ∅ (by rfl) n3 r3 (by rw[e];decide +kernel)
  ·exact other (.num 2) _ l1 [(2,1)] e ⟨_,rfl⟩ ∅ (by rfl) n1 r1 (by rw[e];decide +kernel)
theorem nX:bj ["_law_game_here","_law_state","_law_what_here","_law_found","_law_weight","_law_value","_law_low","_law_high","_law_deeds_here","_law_goal","_law_at_here","_law_word","_law_when"] ["_law_game_here","_law_state"] (aq (top 50)):=⟨rfl,rfl,rfl,∅,rfl,∅,∅⟩
theorem NO (T:Txt K mg aG aI aJ aE aK ag aF):dj P w K mg base (bL P w) 2 "_law_ways" ["_law_game_here","_law_state"] A9:=by
 have fA:dj P w K mg base (bL P w) 1 "_law_arrived" ["_law_game_here","_law_name","_law_numbers"] vo:=IF T;have lT:dj P w K mg base (bL P w) 1 "_law_behind" ["_law_game_here","_law_numbers","_law_deeds_here","_law_thrown"] A8:=NM T;have wK:dj P w K mg base (bL P w) 1 "_law_table" ["_law_pool"] EZ:=NN T;refine T.xP.fE (λ_ _ _ _ _ _=>iz λ_ _=>rfl) λf fd F=>F.gQ nX (λvs H Q E h=>?_) (λcw A outer s H vs Q E hr h=>?_)
 ·obtain⟨_,_,_,_,_,rfl,_⟩:=h;rfl
 ·symm;obtain⟨gv,sv,g,st,n,rfl,rg,G,rs,sr,k0,kk⟩:=h;nofun;clear G_;have nd:=nX.nd;refine⟨_,(ao (aS (i:=2) nd rfl (.inl rfl) (cR (dr hr) (cf (d3 (K:=K)) (by rfl) T.z_dict rfl (aa (aD au (pv 0) ae (λ_ _=>rfl)) af (se rfl)) (he:=se rfl) (hpl:=na rfl)) (aD au (pv 1) ae (λ_ _=>rfl)) (λ_ _=>rfl)))
  (ao (aS (i:=3) nd rfl (.inl rfl) (bK af))
  (ao (bF (aN bY (aD au (pv 2) ae (λ_ _=>rfl)) aV (aX _)) (av (cV PassesOwn.never rfl (bC (K:=K) (bw wK (hr.mono ∅) rfl aO.pass (aa (aD au (pv 2) ae (λ_ _=>rfl)) af (se rfl)) (he:=se rfl) (hpl:=na rfl))) (di (K:=K) (n:=2) rfl (bu (aP (i:=4) nd rfl (.inl rfl)) (bu (aP (i:=5) nd rfl (.inl rfl)) dg))) (av (cV PassesOwn.never rfl (bC (K:=K) (aD au (pv 2) ae (λ_ _=>rfl))) (di (K:=K) (n:=4) rfl (bu (aP (i:=6) nd rfl (.inl rfl)) (bu (aP (i:=7) nd rfl (.inl rfl)) (bu (aP (i:=8) nd rfl (.inl rfl)) (bu (aP (i:=9) nd rfl (.inl rfl)) dg))))) (av (bF (PW.pt (pw_and (aN xb (pv 6) (pv 5) (aX _)) (pw_and1 (aN xb (pv 5) (pv 7) (aX _))))) (av (bR (dY aaD aaI aaJ cm.r (pv 3) (aa (aY (aa (pv 4) (aa (bw fA (hr.mono ∅) rfl aO.pass (aa (pv 0) (aa (pv 9) (aa (bw lT (hr.mono ∅) rfl aO.pass (aa (pv 0) (aa (aD au (pv 1) ae (λ_ _=>rfl)) (aa (pv 8) (aa (pv 5) af (se rfl)) (se rfl)) (se rfl)) (se rfl)) (he:=se rfl) (hpl:=na rfl)) af (se rfl)) (se rfl)) (se rfl)) (he:=se rfl) (hpl:=na rfl)) af (se rfl)) (se rfl))) af (se rfl)))))
   br))))))
   br)
  (ao (bF (aN bY (aD au (pv 2) ae (λ_ _=>rfl)) aV (aX _)) (ao (aS (i:=10) nd rfl (.inl rfl) (cf (d3 (K:=K)) (by rfl) T.z_dict rfl (aa (cD rfl (N:=["_law_game_here","_law_state","_law_what_here","_law_found","_law_weight","_law_value","_law_low","_law_high","_law_deeds_here","_law_goal","_law_at_here","_law_word","_law_when"]) (so:=aq (top 50)) (N':=["_law_k","_law_game_here"]) (k:=1) (fr:=[0]) rfl rfl ⟨rfl,∅,∅,∅,rfl,∅,∅⟩ (dD rfl T.z_range (aa (bf bD (by rfl) T.z_len aav (aa (aD au (pv 0) ae (λ_ _=>rfl)) af (se rfl)) (he:=se rfl) (hpl:=na rfl)) af (se rfl))) (λ_ _ _ _ _=>(aP (i:=0) (show(["_law_k","_law_game_here"]:List Str).Nodup by decide +kernel) rfl (.inl rfl))) (λ_ _ _ _ _=>cL)
   (λ_ _ _ _ _=>(aY (aa (aD au (aD bg (aD au (pv 1) ae (λ_ _=>rfl)) (pv 0) (λ_ _=>rfl)) ae (λ_ _=>rfl)) (aa (pv 0) af (se rfl)) (se rfl))))) af (se rfl)) (he:=se rfl) (hpl:=na rfl)))
  (av (cV PassesOwn.never rfl (bC (K:=K) (aD au (pv 2) ae (λ_ _=>rfl))) (di (K:=K) (n:=4) rfl (bu (aP (i:=11) nd rfl (.inl rfl)) (bu (aP (i:=12) nd rfl (.inl rfl)) (bu (aP (i:=8) nd rfl (.inl rfl)) (bu (aP (i:=9) nd rfl (.inl rfl)) dg))))) (av (bF (PW.pt (pw_or (aN CV (pv 12) yJ (aX _)) (pw_or1 (aN bY (iQ xc (aD bg (aD au (pv 1) ae (λ_ _=>rfl)) (cR (dr hr) (pv 10) (aD au (pv 12) ae (λ_ _=>rfl)) (λ_ _=>rfl)) (λ_ _=>rfl)) (aD au (pv 12) ae (λ_ _=>rfl)) (aX _)) (iQ bY (aD au (pv 12) ae (λ_ _=>rfl)) aV (aX _)) (aX _))))) (av (bR (dY aaD aaI aaJ cm.r (pv 3) (aa (aY (aa (pv 11) (aa (bw fA (hr.mono ∅) rfl aO.pass (aa (pv 0) (aa (pv 9) (aa (bw lT (hr.mono ∅) rfl aO.pass (aa (pv 0) (aa (aD au (pv 1) ae (λ_ _=>rfl)) (aa (pv 8) (aa ae af (se rfl)) (se rfl)) (se rfl)) (se rfl)) (he:=se rfl) (hpl:=na rfl)) af (se rfl)) (se rfl)) (se rfl)) (he:=se rfl) (hpl:=na rfl)) af (se rfl)) (se rfl))) af (se rfl)))))
   br)))))
   br)
  (av (aW (pv 3))))))),?_⟩
  refine(?_:let cO:TS:=_;let cI:TS:=_;let cJ:TS:=_;let d7:TS:=_;let qk:TS:=_;tSeq cO (tSeq cI (tSeq cJ (tSeq d7 qk))) _ _ _);intro cO cI cJ d7 qk;have sl:=sizeLine_eq;symm;obtain⟨gp,cv,pv,rfl,qq,rc,rp⟩:=bo.mp (show Rep H (.tup _) gv from rg);obtain⟨cl,ig,rfl,gq,qo⟩:=aQ.mp (show Rep H (.lst _) cv from rc);obtain⟨pl,Cp,rfl,hpl,vi⟩:=aQ.mp (show Rep H (.lst _) pv from rp);have Pz:ig.length=g.cs.length:=by have:=qo.length;rw[aak] at this;lia
  have c3:=G.c3;have gg:=G.gg;obtain⟨sq,sn,nv,rfl,CI,NP,PF⟩:=bo.mp (show Rep H (.tup _) sv from rs);obtain rfl:=aH.mp NP;obtain⟨nl,nvs,rfl,NQ,RQ⟩:=aQ.mp PF;obtain rfl:=tF RQ;obtain⟨⟨i0,x0,vj,na,es⟩,ir⟩:=id sr;nofun;clear G_;have lk:=G.look vj;rw[<-es] at lk;have pk:=(G.pn i0 x0 vj).2;generalize x0.2=x at *;change tSeq _ _ _ _ _;refine aZ (λN=>∀H1 v,aB H H1->Rep H1 (qH x) v->N [some (.ref gp),some (.ref sq),some v,none,none,none,none,none,none,none,none,none,none] H1) ?_ (λN hN=>?_)
  case refine_2=>
   symm;obtain⟨rows,e1,e2,e3,e4⟩:=j5 (K:=K) vi;obtain⟨v,ev,rv⟩:=e4 _ _ lk;nofun;dsimp?[qq,CI];exact⟨rows,by rw[<-e1];exact bH.of hpl,e2,by rw[e3];exact iI gg.np,λdd Cw=>⟨_,(ai Cw) _ _ CI,_,at0,v,.inl ⟨_,.inr st.1,.inl aj,rfl,ev.symm⟩,hN _ v (ai Cw) (rv.mono (ai Cw))⟩⟩
  rintro H1 wv s1 yq;change tSeq _ _ _ _ _;refine aZ (λN=>∀H2 l,aB H1 H2->H1 l=none->H2 l=some (.lst [])->N [some (.ref gp),some (.ref sq),some wv,some (.ref l),none,none,none,none,none,none,none,none,none] H2) ?_ (λN hN=>?_)
  case refine_2=>
   dsimp?[];exact⟨aap _,λl nl=>hN _ l (ai nl) nl aj⟩
  rintro H2 l s2 yF hl;have yE:=s1.trans s2;have hv:∃q vs kd,wv=.ref q/\H1 q=some (.tup (.str kd::vs))/\(kd=aaj "throw"↔∃p t b rs,x=.fH p t b rs)/\(kd=aaj "pick"↔∃w rs,x=.pick w rs):=by
   cases x with
   | ask c k a b=>exact absurd rfl (na c k a b)
   | fin t b=>
    symm;obtain⟨q,v1,v2,rfl,hq,r1,_⟩:=bo.mp (show Rep H1 (.tup _) wv from yq);nofun;rw[aH.mp r1] at hq;exact⟨q,_,_,rfl,hq,⟨λe=>absurd e ∅,fun⟨_,_,_,_,e⟩=>by cases e⟩,⟨λe=>absurd e ∅,fun⟨_,_,e⟩=>by cases e⟩⟩
   | score c=>
    symm;obtain⟨q,v1,v2,rfl,hq,r1,_⟩:=bo.mp (show Rep H1 (.tup _) wv from yq);nofun;rw[aH.mp r1] at hq;exact⟨q,_,_,rfl,hq,⟨λe=>absurd e ∅,fun⟨_,_,_,_,e⟩=>by cases e⟩,⟨λe=>absurd e ∅,fun⟨_,_,e⟩=>by cases e⟩⟩
   | pick w rs=>
    symm;obtain⟨q,v1,v2,v3,rfl,hq,r1,_⟩:=cP.mp (show Rep H1 (.tup _) wv from yq);nofun;rw[aH.mp r1] at hq;exact⟨q,_,_,rfl,hq,⟨λe=>absurd e ∅,fun⟨_,_,_,_,e⟩=>by cases e⟩,⟨λ_=>⟨w,rs,rfl⟩,λ_=>rfl⟩⟩
   | fH p t b rs=>
    symm;obtain⟨q,v1,v2,v3,v4,rfl,hq,r1,_⟩:=dm.mp (show Rep H1 (.tup _) wv from yq);nofun;rw[aH.mp r1] at hq;exact⟨q,_,_,rfl,hq,⟨λ_=>⟨p,t,b,rs,rfl⟩,λ_=>rfl⟩,⟨λe=>absurd e ∅,fun⟨_,_,e⟩=>by cases e⟩⟩
  symm;obtain⟨wq,vs0,kd,rfl,rF,it,ip⟩:=hv;nofun;clear G_;have Hu:=s2 _ _ rF;have make:∀(H4:Hp) (vs:List V) (ds:List Dd) (dv:V) (to:Str) (v:Int) (wd:V) (wD:Dat) (s:bV),aB H1 H4->H4 l=some (.lst vs)->d9 (upd H1 l (.lst [])) H4->nJ g.cs ds->0<=v->eF g (ds.foldl (fV g.cs v) st.2) (g.ps.length+1) to=some s.1->s.2=ds.foldl (fV g.cs v) st.2->cX (upd H1 l (.lst [])) H4 wD wd->∀(p2 p3 p4:Addr) (H5 H6 H7 H8:Hp),aB H4 H5->H4 p2=none->H5 p2=some (.lst ((ds.foldl (fV g.cs v) st.2).map V.int))->aB H5 H6->H6 p3=some (.tup [.str s.1,.ref p2])->aB H6 H7->H7 p4=some (.tup [wd,.ref p3])->∀D,cA (upd H1 l (.lst [])) H4 D vs->aB H1 (upd H7 l (.lst (vs++ [.ref p4])))/\cA (upd H1 l (.lst [])) (upd H7 l (.lst (vs++ [.ref p4]))) (D++ [.tup [wD,cF s]]) (vs++ [.ref p4]):=λH4 vs ds dv to v wd wD s s4 Cy li dk v0 ak e2 rw p2 p3 p4 H5 H6 H7 H8 s5 n2 h2 s6 h3 s7 h4 D rD=>by
   have NR:=s5.trans (s6.trans s7);refine⟨bI (s4.trans NR) yF,?_⟩;show bq (fy _ (upd _ _ _)) _ _;rw[fJ (ys:=[]) aj];have YU:upd H1 l (.lst []) p2=none:=by
    rw[aA (λz=>by rw[z,Cy] at n2;cases n2)];exact none_of s4 n2
   refine gZ (iJ (li.trans NR) h4 (rw.mono NR) (iJ (li.trans NR) (s7 _ _ h3) bQ (gN YU ((s6.trans s7) _ _ h2) ?_))) (rD.mono NR);rw[e2];exact ints_rep _
  change tSeq _ _ _ _ _;by_cases kt:kd=aaj "throw"
  ·symm;obtain⟨fP,t,b,yt,rfl⟩:=it.mp kt;obtain⟨ps,cut,d1,t1,d2,t2,rfl,hp,c1,c2,rfl,k1,k2,o1,o2⟩:=pk;obtain⟨wq',w1,w2,w3,w4,e0,Cz,r1,r2,r3,r4⟩:=dm.mp (show Rep H1 (.tup _) (.ref wq) from yq);nofun;clear G_;cases e0;rw[aH.mp r1] at Cz;symm;obtain⟨rl,Y3,rfl,wR,IH⟩:=aQ.mp r4;obtain⟨va,RS,rfl,ra,IH⟩:=aM.mp IH;obtain⟨vb,RS,rfl,rb',IH⟩:=aM.mp IH;obtain rfl:=bx.mp IH;obtain⟨qa,a1,a2,a3,a4,rfl,Y4,ra1,ra2,ra3,ra4⟩:=dm.mp (show Rep H1 (.tup _) va from ra);obtain⟨qb,b1,b2,b3,b4,rfl,Y5,rb1,rb2,rb3,rb4⟩:=dm.mp (show Rep H1 (.tup _) vb from rb');rw[bb.mp ra1,bb.mp ra2,aH.mp ra4] at Y4;rw[bb.mp rb1,bb.mp rb2,aH.mp rb4] at Y5;have RT:∀(v:Int) (ds:List Dd) (to:Str),0<=v->nJ g.cs ds->mF n to->∃nm,eF g (ds.foldl (fV g.cs v) st.2) (g.ps.length+1) to=some nm:=λv ds to v0 dk o=>by
    obtain⟨s,e,_,_,e2⟩:=G.at o (jw G.c0 v0 dk.2 ir);obtain⟨nm,en,_⟩:=abm.mp e;exact⟨nm,en⟩
   obtain⟨l4,pv9⟩:=sY (show lE ps from hp);obtain⟨ts,go,_⟩:∃ts,b6 g st ts/\∀t∈dF ts,qh g t:=by
    rcases(G.cl st sr).2 with h | h
    ·obtain⟨w,rs,e,_⟩:=h;rw[lk] at e;cases e
    ·exact h
   nofun;clear G_;have ew:=Hs lk hp go;refine aZ (λN=>∀H3 vs,aB H1 H3->H3 l=some (.lst vs)->cA (upd H1 l (.lst [])) H3 (fK g st ts) vs->∀z4 z5 z6 z7 z8 z9,N [some (.ref gp),some (.ref sq),some (.ref wq),some (.ref l),z4,z5,z6,z7,z8,z9,none,none,none] H3) ?_ (λN hN=>?_)
   case refine_2=>
    refine dE (λY N k=>by
     dsimp?[Hu];rw[if_pos kt];exact k) ?_
    dsimp?[EZ,s2 _ _ Cz];refine⟨ps,r2.mono s2,hp,λtl H3 s3 Y6 rtl=>?_⟩;symm;obtain⟨tl',PJ,e0,Y7,Y8⟩:=aQ.mp rtl;nofun;clear G_;cases e0;have yj:=s2.trans s3;have tnl:tl≠l:=λz=>by rw[z,hl] at Y6;cases Y6
    have lW:(Nm.weigh (fh ps) (uq ps)).length<=10:=by
     have h:∀ps∈zv,(Nm.weigh (fh ps) (uq ps)).length<=10:=∅
     exact h ps hp
    rw[ew] at hN;have ltv:PJ.length=(Nm.weigh (fh ps) (uq ps)).length:=by have:=Y8.length;rw[aak] at this;lia
    generalize Nm.weigh (fh ps) (uq ps)=W at *;refine⟨⟨_,bH.of Y7⟩,b9 (src_list (Ok:=λH'=>H' tl=some (.lst PJ)) (λH' e=>bH.of e)) (λi σ H4=>aB H1 H4/\H4 tl=some (.lst PJ)/\(∀a vs,H3 a=some (.tup vs)->H4 a=some (.tup vs))/\∃vs,H4 l=some (.lst vs)/\vs.length=i/\cA (upd H1 l (.lst [])) H4 ((W.take i).map λx=>.tup [.int x.2,cF (FF g st [(0,cut,d1,t1),(cut+1,9,d2,t2)] x.1)]) vs/\∃z4 z5 z6 z7 z8 z9,σ=[some (.ref gp),some (.ref sq),some (.ref wq),some (.ref l),z4,z5,z6,z7,z8,z9,none,none,none]) ⟨yj,Y7,λ_ _ e=>e,[],s3 _ _ hl,rfl,by rw[List.take_zero];exact eA,_,_,_,_,_,_,rfl⟩ (λ_ _ _ _ h=>h.2.1) ?_ ?_⟩
    ·intro i xv σ H4' H4 hi fR fo;symm;obtain⟨s4,NS,RU,vs,Cy,RV,rv,z4,z5,z6,z7,z8,z9,rfl⟩:=fR;obtain⟨rfl,NT⟩:=fo;obtain⟨dd,ed,zP⟩:=Y8.get NT;rw[aal] at ed;obtain⟨y,ey,rfl⟩:=abm.mp ed;obtain⟨q,u1,u2,rfl,hq,Fd,Bh⟩:=bo.mp (show Rep _ (.tup _) xv from zP);rw[bb.mp Fd,bb.mp Bh] at hq;obtain⟨y0,y9⟩:=pv9 y (aar ey);nofun;clear G_;have JQ:(W.take (i+1)).map (λx=>Dat.tup [.int x.2,cF (FF g st [(0,cut,d1,t1),(cut+1,9,d2,t2)] x.1)])=(W.take i).map (λx=>Dat.tup [.int x.2,cF (FF g st [(0,cut,d1,t1),(cut+1,9,d2,t2)] x.1)])++ [.tup [.int y.2,cF (FF g st [(0,cut,d1,t1),(cut+1,9,d2,t2)] y.1)]]:=by rw[aaG,ey,aaw];rfl
     rw[JQ];generalize (W.take i).map (λx=>Dat.tup [.int x.2,cF (FF g st [(0,cut,d1,t1),(cut+1,9,d2,t2)] x.1)])=DD at *;refine⟨q,_,rfl,gP.of (RU _ _ hq),rfl,?_⟩;dsimp?[s4 _ _ Cz];refine⟨.ref rl,rfl,rl,rfl,⟨_,bH.of (s4 _ _ wR)⟩,b9 (src_list (Ok:=aB H1) (λH' s'=>bH.of (s' _ _ wR))) (λj σ H5=>aB H1 H5/\H5 tl=some (.lst PJ)/\(∀a vs,H3 a=some (.tup vs)->H5 a=some (.tup vs))/\∃Cv,H5 l=some (.lst Cv)/\Cv.length=i+ (if (1<=j/\y.1<=cut)\/2<=j then 1 else 0)/\cA (upd H1 l (.lst [])) H5 (DD++if (1<=j/\y.1<=cut)\/2<=j then [.tup [.int y.2,cF (FF g st [(0,cut,d1,t1),(cut+1,9,d2,t2)] y.1)]] else []) Cv/\∃z6 z7 z8 z9,σ=[some (.ref gp),some (.ref sq),some (.ref wq),some (.ref l),some (.int y.2),some (.int y.1),z6,z7,z8,z9,none,none,none]) ⟨s4,NS,RU,vs,Cy,by rw[if_neg (by lia)];lia,by rw[if_neg (by lia),aaN];exact rv,_,_,_,_,rfl⟩ (λ_ _ _ _ h=>h.1) ?_ ?_⟩
     ·intro j rv' σ Y9 H5 hj fR fo;symm;obtain⟨s5,Hv,PK,Cv,wJ,LA,IE,z6,z7,z8,z9,rfl⟩:=fR;obtain⟨rfl,PL⟩:=fo;obtain⟨qr,lo,II,ds,to,dv,rfl,hqr,PM,dk,ok,cY,cN⟩:∃qr lo II ds to dv,rv'=.ref qr/\H1 qr=some (.tup [.int lo,.int II,dv,.str to])/\Rep H1 (.lst (ds.map xT)) dv/\nJ g.cs ds/\mF n to/\(lo<=y.1/\y.1<=II->¬((1<=j/\y.1<=cut)\/2<=j)/\((1<=j+1/\y.1<=cut)\/2<=j+1)/\∀nm,eF g (ds.foldl (fV g.cs y.1) st.2) (g.ps.length+1) to=some nm->FF g st [(0,cut,d1,t1),(cut+1,9,d2,t2)] y.1=(nm,ds.foldl (fV g.cs y.1) st.2))/\(¬(lo<=y.1/\y.1<=II)->(((1<=j+1/\y.1<=cut)\/2<=j+1)↔((1<=j/\y.1<=cut)\/2<=j))):=by
       have rt:=A4 (cut:=cut) (d1:=d1) (d2:=d2) (t1:=t1) (t2:=t2) y0 y9;have hj:j<2:=hj;rcases(show j=0\/j=1 by lia) with rfl | rfl
       ·cases PL;refine⟨qa,0,cut,d1,t1,a3,rfl,Y4,ra3,k1,o1,λc=>⟨by lia,by lia,λnm en=>?_⟩,λc=>by lia⟩;rw[if_pos c.2] at rt;unfold FF;rw[rt]
        show(Ci g st.2 _ _).getD st=_
        unfold Ci;rw[en]
        rfl
       ·cases PL;refine⟨qb,cut+1,9,d2,t2,b3,rfl,Y5,rb3,k2,o2,λc=>⟨by lia,by lia,λnm en=>?_⟩,λc=>by lia⟩;rw[if_neg (by lia)] at rt;unfold FF;rw[rt]
        show(Ci g st.2 _ _).getD st=_
        unfold Ci;rw[en]
        rfl
      nofun;refine⟨qr,_,rfl,gP.of (s5 _ _ hqr),rfl,?_⟩;simp only[gCons,gName,gNil,abc,abb];refine⟨_,_,rfl,_,_,rfl,_,_,rfl,_,_,rfl,rfl,?_⟩;change tIfS _ _ _ _ [some (.ref gp),some (.ref sq),some (.ref wq),some (.ref l),some (.int y.2),some (.int y.1),some (.int lo),some (.int II),some dv,some (.str to),none,none,none] H5;have EN:=s1.trans s5;by_cases c:lo<=y.1/\y.1<=II
      ·refine dE (λY N k=>by dsimp?[];rw[if_pos c.1,if_pos c.2];exact k) ?_;obtain⟨nm,en⟩:=RT y.1 ds to y0 dk ok;symm;obtain⟨Za,Zb,c3'⟩:=cY c;nofun;have esT:=c3' nm en;rw[if_neg Za,aaN] at IE;rw[if_neg Za] at LA;have li:d9 (upd H1 l (.lst [])) H5:=λb ys e=>by
        by_cases c:b=l
        ·subst c;exact⟨_,wJ⟩
        ·rw[aA c] at e;exact⟨_,s5 _ _ e⟩
       refine E9 (λN=>∀(p2 p3 p4:Addr) (H6 H7 H8:Hp),aB H5 H6->H5 p2=none->H6 p2=some (.lst ((ds.foldl (fV g.cs y.1) st.2).map V.int))->aB H6 H7->H7 p3=some (.tup [.str nm,.ref p2])->aB H7 H8->H8 p4=some (.tup [.int y.2,.ref p3])->N [some (.ref gp),some (.ref sq),some (.ref wq),some (.ref l),some (.int y.2),some (.int y.1),some (.int lo),some (.int II),some dv,some (.str to),none,none,none] (upd H8 l (.lst (Cv++ [.ref p4])))) ?_ (λN hN=>?_)
       case refine_2=>
        dsimp?[cZ,vo,A8,EN _ _ CI];exact⟨.inl ⟨rfl,_,bH.of wJ⟩,g,rg.mono EN,st.2,ds,n,G,EN _ _ NQ,ir,dk,PM.mono s5,y0,λp2 H6 s6 n2 h2=>⟨g,rg.mono (EN.trans s6),gg,_,h2,(jw G.c0 y0 dk.2 ir).1,_,nm,en,λp3 H7 s7 h3=>⟨by lia,λp4 H8 s8 n4 h4=>⟨_,(s6.trans (s7.trans s8)) _ _ wJ,by lia,hN p2 p3 p4 H6 H7 H8 s6 n2 h2 s7 h3 s8 h4⟩⟩⟩⟩
       rintro p2 p3 p4 H6 H7 H8 s6 n2 h2 s7 h3 s8 h4;obtain⟨m1,m2⟩:=make H5 Cv ds dv to y.1 (.int y.2) (.int y.2) (nm,ds.foldl (fV g.cs y.1) st.2) s5 wJ li dk y0 en rfl b5 p2 p3 p4 H6 H7 H8 H8 s6 n2 h2 s7 h3 s8 h4 DD IE;have Zc:=s6.trans (s7.trans s8);refine⟨m1,by rw[aA tnl];exact Zc _ _ Hv,λa ws e=>by rw[aA (λz=>by rw[z,s3 _ _ hl] at e;cases e)];exact Zc _ _ (PK _ _ e),_,aj,?_,?_,_,_,_,_,rfl⟩
       ·rw[if_pos Zb,aaq,LA];rfl
       ·rw[if_pos Zb,esT];exact m2
      ·refine c6 (λY N k=>by
        dsimp?[];by_cases e:lo<=y.1
        ·rw[if_pos e,if_neg (λz=>c ⟨e,z⟩)];exact k
        ·rw[if_neg e,if_neg ∅];exact k) ?_
       have e:=propext (cN c);refine⟨s5,Hv,PK,Cv,wJ,?_,?_,_,_,_,_,rfl⟩
       ·simp only[e];exact LA
       ·simp only[e];exact IE
     ·intro σ H5 dG;symm;obtain⟨s5,Hv,PK,Cv,wJ,LA,IE,z6,z7,z8,z9,rfl⟩:=dG;nofun;rw[if_pos (.inr (aam _))] at LA IE;exact⟨s5,Hv,PK,Cv,wJ,LA,IE,_,_,_,_,_,_,rfl⟩
    ·intro σ H4 dG;symm;obtain⟨s4,NS,RU,vs,Cy,RV,rv,z4,z5,z6,z7,z8,z9,rfl⟩:=dG;nofun;rw[ltv,aaA (aam _)] at rv;exact hN _ vs s4 Cy rv _ _ _ _ _ _
   rintro H3 vs s3 CH D3 z4 z5 z6 z7 z8 z9;change tSeq _ _ _ _ _;refine aZ (λN=>N [some (.ref gp),some (.ref sq),some (.ref wq),some (.ref l),z4,z5,z6,z7,z8,z9,none,none,none] H3) ?_ (λN hN=>?_)
   case refine_2=>
    exact c6 (λY N k=>by
     dsimp?[s3 _ _ rF];rw[if_neg (by rw[kt];decide +kernel)];exact k) hN
   dsimp?[];exact kk ts go _ _ (s1.trans s3) (gN (none_of s1 yF) CH (D3.low (.of (s1.trans (ai yF)))))
  ·refine aZ (λN=>N [some (.ref gp),some (.ref sq),some (.ref wq),some (.ref l),none,none,none,none,none,none,none,none,none] H2) ?_ (λN hN=>?_)
   case refine_2=>
    exact c6 (λY N k=>by
     dsimp?[Hu];rw[if_neg kt];exact k) hN
   change tSeq _ _ _ _ _;by_cases kp:kd=aaj "pick"
   ·symm;obtain⟨w,yt,rfl⟩:=ip.mp kp;obtain⟨lr3,hrs⟩:=pk;obtain⟨wq',w1,w2,w3,e0,Cz,r1,r2,r3⟩:=cP.mp (show Rep H1 (.tup _) (.ref wq) from yq);nofun;clear G_;cases e0;rw[aH.mp r1] at Cz;symm;obtain⟨rl,Y3,rfl,wR,IH⟩:=aQ.mp r3;nofun;clear G_;have lrv:Y3.length=yt.length:=by have:=IH.length;rw[aak,aak] at this;lia
    refine aZ (λN=>∀H3 vs,aB H1 H3->H3 l=some (.lst vs)->cA (upd H1 l (.lst [])) H3 ((cQ g.cs st.2 (.pick w yt)).map (λr:Rw=>Dat.tup [.str r.word,cF (E7 g st r)])) vs->∀z8 z9 Zd LB LC,N [some (.ref gp),some (.ref sq),some (.ref wq),some (.ref l),none,none,none,none,z8,z9,Zd,LB,LC] H3) ?_ (λN hN=>?_)
    case refine_2=>
     refine dE (λY N k=>by
      dsimp?[Hu];rw[if_pos kp];exact k) ?_
     change tSeq _ _ _ _ _;refine aZ (λN=>∀H3 d,aB H2 H3->H3 d=some (.dK (km g.cs 0))->N [some (.ref gp),some (.ref sq),some (.ref wq),some (.ref l),none,none,none,none,none,none,some (.ref d),none,none] H3) ?_ (λN hN=>?_)
     case refine_2=>
      dsimp?[yE _ _ qq,yE _ _ gq];refine⟨by lia,by lia,?_⟩;rw[aaS];refine comp_map src_range (λ_ _ _ _ h=>by rw[h.1];exact aB.refl _) (by lia) (λi y H2=>∀c,g.cs[i]?=some c->∃q,y=.ref q/\H2 q=some (.tup [.str c.1,.int (i:Int)])) (λi y H2 H3 s3 h c ec=>by obtain⟨q,e,hq⟩:=h c ec;exact⟨q,e,s3 _ _ hq⟩) ?_ ?_
      ·rintro i x w0 H3 H4 Q2 hi s3 ⟨rfl,rfl⟩ kq;have yG:=yE.trans s3;have ec:=aat (show i<g.cs.length by lia);obtain⟨cv,ev,RM⟩:=qo.at (i:=i) (by rw[aal,ec];rfl);symm;obtain⟨cq,y1,y2,rfl,KJ,q1,q2⟩:=bo.mp (show Rep _ (.tup _) cv from RM);obtain rfl:=aH.mp q1;nofun;dsimp?[Int.zero_add,yG _ _ qq,yG _ _ gq];exact⟨_,cB ev,_,rfl,_,yG _ _ KJ,_,at0,by lia,λp H4 s4 np e4=>kq _ _ s4 (λc' IG=>by rw[ec] at IG;cases IG;exact⟨p,rfl,e4⟩)⟩
      ·intro ys H3 s3 ly hy D n1 n2;obtain⟨rows,e1,e2,e3⟩:=rE (K:=K) (H:=upd H3 D (.lst ys)) g.cs 0 ys (by lia) (λj v c ev ec=>by obtain⟨q,e,hq⟩:=hy j v ev c ec;exact⟨q,e,by rw[aaY];exact ai n2 _ _ hq⟩);exact⟨rows,by rw[<-e1];exact bH.of aj,e2,wH gg.nc e3,λd Ik=>hN _ d (s3.trans ((ai n2).trans (ai Ik))) (by rw[aj,e3])⟩
     rintro H3 d s3 hd;have yj:=s2.trans s3;have dl:d≠l:=λz=>by rw[z,s3 _ _ hl] at hd;cases hd
     dsimp?[s3 _ _ (s2 _ _ Cz)];refine⟨⟨_,bH.of (yj _ _ wR)⟩,b9 (src_list (Ok:=aB H1) (λH' s'=>bH.of (s' _ _ wR))) (λi σ H4=>aB H1 H4/\H4 d=some (.dK (km g.cs 0))/\∃vs,H4 l=some (.lst vs)/\vs.length<=i/\cA (upd H1 l (.lst [])) H4 (((yt.take i).filter λr=>d4 g.cs st.2 r.wh).map (λr:Rw=>Dat.tup [.str r.word,cF (E7 g st r)])) vs/\∃z8 z9 LB LC,σ=[some (.ref gp),some (.ref sq),some (.ref wq),some (.ref l),none,none,none,none,z8,z9,some (.ref d),LB,LC]) ⟨yj,hd,[],s3 _ _ hl,aap _,by rw[List.take_zero];exact eA,_,_,_,_,rfl⟩ (λ_ _ _ _ h=>h.1) ?_ ?_⟩
     ·intro i rv σ H4' H4 hi fR fo;symm;obtain⟨s4,KN,vs,Cy,RV,rD,z8,z9,LB,LC,rfl⟩:=fR;obtain⟨rfl,PL⟩:=fo;obtain⟨dd,ed,zP⟩:=IH.get PL;rw[aaM,aal] at ed;obtain⟨r,er,rfl⟩:=abm.mp ed;obtain⟨q,u1,u2,u3,u4,rfl,hq,Fd,Bh,ru3,ru4⟩:=dm.mp (show Rep _ (.tup _) rv from zP);rw[aH.mp Fd,aH.mp ru4] at hq;obtain⟨dk,ok,_,wc⟩:=hrs r (aar er);nofun;clear G_;have Cu:=s1.trans s4;have tkY:d4 g.cs st.2 r.wh=true->((yt.take (i+1)).filter λr=>d4 g.cs st.2 r.wh).map (λr:Rw=>Dat.tup [.str r.word,cF (E7 g st r)])=((yt.take i).filter λr=>d4 g.cs st.2 r.wh).map (λr:Rw=>Dat.tup [.str r.word,cF (E7 g st r)])++ [.tup [.str r.word,cF (E7 g st r)]]:=λh=>by
       rw[aaG,er,List.filter_append,aaw];show _++List.map _ (List.filter _ [r])=_;rw[List.filter_cons_of_pos (p:=λr:Rw=>d4 g.cs st.2 r.wh) (a:=r) (l:=[]) h]
       rfl
      have tkN:¬d4 g.cs st.2 r.wh=true->((yt.take (i+1)).filter λr=>d4 g.cs st.2 r.wh).map (λr:Rw=>Dat.tup [.str r.word,cF (E7 g st r)])=((yt.take i).filter λr=>d4 g.cs st.2 r.wh).map (λr:Rw=>Dat.tup [.str r.word,cF (E7 g st r)]):=λh=>by
       rw[aaG,er,List.filter_append,aaw];show _++List.map _ (List.filter _ [r])=_;rw[List.filter_cons_of_neg (p:=λr:Rw=>d4 g.cs st.2 r.wh) (a:=r) (l:=[]) h];simp
      generalize ((yt.take i).filter λr=>d4 g.cs st.2 r.wh).map (λr:Rw=>Dat.tup [.str r.word,cF (E7 g st r)])=DD at *;have li:d9 (upd H1 l (.lst [])) H4:=λb ys e=>by
       by_cases c:b=l
       ·subst c;exact⟨_,Cy⟩
       ·rw[aA c] at e;exact⟨_,s4 _ _ e⟩
      refine⟨q,_,rfl,gP.of (s4 _ _ hq),rfl,?_⟩;simp only[gCons,gName,gNil,abc,abb];refine⟨_,_,rfl,_,_,rfl,_,_,rfl,_,_,rfl,rfl,?_⟩;change tIfS _ _ _ _ [some (.ref gp),some (.ref sq),some (.ref wq),some (.ref l),none,none,none,none,some u3,some (.str r.to),some (.ref d),some (.str r.word),some u2] H4;refine mi (λH'=>H4=H'/\d4 g.cs st.2 r.wh=true) (λH'=>H4=H'/\¬d4 g.cs st.2 r.wh=true) (λH5 e=>?_) (λH5 e=>?_) (λY N hY hN=>?_)
      ·obtain⟨rfl,hh⟩:=e;rw[tkY hh];symm;obtain⟨s,eg,_,_,e2⟩:=G.at ok (jw (v:=0) G.c0 ∅ dk.2 ir);obtain⟨nm,en,es2⟩:=abm.mp eg;nofun;have esR:E7 g st r=(nm,r.ds.foldl (fV g.cs 0) st.2):=by
        unfold E7 G4;rw[en]
        rfl
       refine E9 (λN=>∀(p2 p3 p4:Addr) (H6 H7 H8:Hp),aB H4 H6->H4 p2=none->H6 p2=some (.lst ((r.ds.foldl (fV g.cs 0) st.2).map V.int))->aB H6 H7->H7 p3=some (.tup [.str nm,.ref p2])->aB H7 H8->H8 p4=some (.tup [.str r.word,.ref p3])->N [some (.ref gp),some (.ref sq),some (.ref wq),some (.ref l),none,none,none,none,some u3,some (.str r.to),some (.ref d),some (.str r.word),some u2] (upd H8 l (.lst (vs++ [.ref p4])))) ?_ (λN hN=>?_)
       case refine_2=>
        dsimp?[cZ,vo,A8,Cu _ _ CI];exact⟨.inl ⟨rfl,_,bH.of Cy⟩,g,rg.mono Cu,st.2,r.ds,n,G,Cu _ _ NQ,ir,dk,ru3.mono s4,∅,λp2 H6 s6 n2 h2=>⟨g,rg.mono (Cu.trans s6),gg,_,h2,(jw (v:=0) G.c0 ∅ dk.2 ir).1,_,nm,en,λp3 H7 s7 h3=>⟨by lia,λp4 H8 s8 n4 h4=>⟨_,(s6.trans (s7.trans s8)) _ _ Cy,by lia,hN p2 p3 p4 H6 H7 H8 s6 n2 h2 s7 h3 s8 h4⟩⟩⟩⟩
       rintro p2 p3 p4 H6 H7 H8 s6 n2 h2 s7 h3 s8 h4;obtain⟨m1,m2⟩:=make H4 vs r.ds u3 r.to 0 (.str r.word) (.str r.word) (nm,r.ds.foldl (fV g.cs 0) st.2) s4 Cy li dk ∅ en rfl bQ p2 p3 p4 H6 H7 H8 H8 s6 n2 h2 s7 h3 s8 h4 DD rD;have s48:=s6.trans (s7.trans s8);rw[esR];have II:i<yt.length:=by lia
       exact⟨m1,by rw[aA dl];exact s48 _ _ KN,_,aj,by rw[aaq];show vs.length+1<=i+1;lia,m2,_,_,_,_,rfl⟩
      ·obtain⟨rfl,hh⟩:=e;rw[tkN hh];exact⟨s4,KN,vs,Cy,by lia,rD,_,_,_,_,rfl⟩
      ·have Fe:Rep H4 (Ig r.wh) u2:=Bh.mono s4;cases hw:r.wh with
       | none=>
        rw[hw] at Fe;have e:u2=.dI:=by rw[Ig,Rep] at Fe;exact Fe
        subst e;dsimp?[];exact hY _ ⟨rfl,by rw[hw];rfl⟩
       | some p=>
        symm;obtain⟨a,b,k⟩:=p;rw[hw] at Fe;obtain⟨wp,x1,x2,x3,rfl,Ze,q1,q2,q3⟩:=cP.mp (show Rep H4 (.tup _) u2 from Fe);nofun;rw[aH.mp q1,aH.mp q2,bb.mp q3] at Ze;have ha:=(wc a b k hw).1;have eh:d4 g.cs st.2 r.wh=if b=aaj "from" then decide (k<=st.2.getD (bU g.cs a) 0) else decide (st.2.getD (bU g.cs a) 0<k):=by
         rw[hw]
         show(if a∈g.cs.map (·.1) then _ else _)=_
         rw[if_pos ha]
        dsimp?[Ze,Cu _ _ CI];rw[if_neg (by intro z;cases z)];refine⟨_,nS KN ha,_,_,rfl,Cu _ _ NQ,_,du (by rw[ir.1];exact bZ ha),_,rfl,?_⟩;by_cases c:decide (k<=st.2.getD (bU g.cs a) 0)=decide (b=aaj "from")
        ·rw[if_pos c];exact hY _ ⟨rfl,by rw[eh,<-EW];exact decide_eq_true c⟩
        ·rw[if_neg c];exact hN _ ⟨rfl,λz=>c (by rw[eh,<-EW] at z;exact of_decide_eq_true z)⟩
     ·intro σ H4 dG;symm;obtain⟨s4,KN,vs,Cy,RV,rD,z8,z9,LB,LC,rfl⟩:=dG;nofun;rw[lrv,aaA (aam _)] at rD;exact hN _ vs s4 Cy rD _ _ _ _ _
    rintro H3 vs s3 CH D3 z8 z9 Zd LB LC;dsimp?[];by_cases em:cQ g.cs st.2 (.pick w yt)=[]
    ·rw[em] at D3;have ev:vs=[]:=bx.mp D3;subst ev;exact k0 ⟨w,yt,lk,em⟩ _ _ (s1.trans s3) (none_of s1 yF) CH
    ·obtain⟨ts,go,_⟩:∃ts,b6 g st ts/\∀t∈dF ts,qh g t:=by
      rcases(G.cl st sr).2 with h | h
      ·symm;obtain⟨w',EL,e,e2⟩:=h;nofun;rw[lk] at e;cases e;exact absurd e2 em
      ·exact h
     refine kk ts go _ _ (s1.trans s3) ?_;rw[tG lk go];exact gN (none_of s1 yF) CH (D3.low (.of (s1.trans (ai yF))))
   ·refine aZ (λN=>N [some (.ref gp),some (.ref sq),some (.ref wq),some (.ref l),none,none,none,none,none,none,none,none,none] H2) ?_ (λN hN=>?_)
    case refine_2=>
     exact c6 (λY N k=>by
      dsimp?[Hu];rw[if_neg kp];exact k) hN
    have go:b6 g st []:=by
     unfold b6;rw[lk];cases x with
     | ask c k a b=>exact absurd rfl (na c k a b)
     | fin t b=>rfl
     | score c=>rfl
     | pick w rs=>exact absurd (ip.mpr ⟨w,rs,rfl⟩) kp
     | fH p t b rs=>exact absurd (it.mpr ⟨p,t,b,rs,rfl⟩) kt
    dsimp?[];refine kk [] go _ _ yE ?_;rw[E8 lk (λw rs e=>kp (ip.mpr ⟨w,rs,e⟩))];exact gN (none_of s1 yF) hl eA
theorem lU:bj ["_law_game_here","_law_state","_law_ways_here","_law_states","_law_what_here"] ["_law_game_here","_law_state","_law_ways_here","_law_states"] (aq (top 51)):=⟨rfl,rfl,rfl,∅,rfl,∅,∅⟩
theorem NU (T:Txt K mg aG aI aJ aE aK ag aF):dj P w K mg base (bL P w) 1 "_law_place" ["_law_game_here","_law_state","_law_ways_here","_law_states"] E1:=by
 refine T.vS.fE (λ_ _ _ _ _ _=>zu λ_ _ _ _=>rfl) λf fd F=>F.gQ lU (λvs H Q E h=>?_) (λcw A outer s H vs Q E hr h=>?_)
 ·obtain⟨_,_,_,_,_,_,_,_,_,rfl,_⟩:=h;rfl
 ·symm;obtain⟨gv,sv,wv,l,g,st,ts,ss,n,rfl,rg,G,rs,sr,go,rw0,rss,qL,sub,RW,kk⟩:=h;nofun;clear G_;have nd:=lU.nd;refine⟨_,(ao (aS (i:=4) nd rfl (.inl rfl) (cR (dr hr) (cf (d3 (K:=K)) (by rfl) T.z_dict rfl (aa (aD au (pv 0) ae (λ_ _=>rfl)) af (se rfl)) (he:=se rfl) (hpl:=na rfl)) (aD au (pv 1) ae (λ_ _=>rfl)) (λ_ _=>rfl)))
  (ao (bF (aN bY (aD au (pv 4) ae (λ_ _=>rfl)) aV (aX _)) (av (aW (aY (aa aV (aa (aD au (pv 4) ae (λ_ _=>rfl)) (aa (cD rfl (N:=["_law_game_here","_law_state","_law_ways_here","_law_states","_law_what_here"]) (so:=aq (top 51)) (N':=["_law_weight","_law_other","_law_states"]) (k:=2) (fr:=[3]) rfl rfl ⟨rfl,∅,∅,∅,rfl,∅,∅⟩ (bC (K:=K) (pv 2)) (λ_ _ _ _ _=>(di (K:=K) (n:=2) rfl (bu (aP (i:=0) (show(["_law_weight","_law_other","_law_states"]:List Str).Nodup by decide +kernel) rfl (.inl rfl)) (bu (aP (i:=1) (show(["_law_weight","_law_other","_law_states"]:List Str).Nodup by decide +kernel) rfl (.inl rfl)) dg)))) (λ_ _ _ _ _=>cL)
   (λ_ _ _ _ _=>(aY (aa (pv 0) (aa (DG (K:=K) aaD PySem.F.slot_list_index PySem.F.type_list_index (oU (by exact hr.units)) (pv 2) (aa (pv 1) af (se rfl))) af (se rfl)) (se rfl))))) af (se rfl)) (se rfl)) (se rfl)))))
   br)
  (ao (bF (aN bY (aD au (pv 4) ae (λ_ _=>rfl)) aV (aX _)) (av (aW (aY (aa aV (aa (aD au (pv 4) ae (λ_ _=>rfl)) (aa (cD rfl (N:=["_law_game_here","_law_state","_law_ways_here","_law_states","_law_what_here"]) (so:=aq (top 51)) (N':=["_law_word","_law_other","_law_states"]) (k:=2) (fr:=[3]) rfl rfl ⟨rfl,∅,∅,∅,rfl,∅,∅⟩ (bC (K:=K) (pv 2)) (λ_ _ _ _ _=>(di (K:=K) (n:=2) rfl (bu (aP (i:=0) (show(["_law_word","_law_other","_law_states"]:List Str).Nodup by decide +kernel) rfl (.inl rfl)) (bu (aP (i:=1) (show(["_law_word","_law_other","_law_states"]:List Str).Nodup by decide +kernel) rfl (.inl rfl)) dg)))) (λ_ _ _ _ _=>cL)
   (λ_ _ _ _ _=>(DG (K:=K) aaD PySem.F.slot_list_index PySem.F.type_list_index (oU (by exact hr.units)) (pv 2) (aa (pv 1) af (se rfl))))) af (se rfl)) (se rfl)) (se rfl)))))
   br)
  (ao (bF (aN bY (aD au (pv 4) ae (λ_ _=>rfl)) aV (aX _)) (av (aW (aY (aa aV (aa (aY (aa (aD bg (aD au (pv 1) ae (λ_ _=>rfl)) (dY aaD PySem.F.slot_list_index PySem.F.type_list_index (oU hr.units) (cD rfl (N:=["_law_game_here","_law_state","_law_ways_here","_law_states","_law_what_here"]) (so:=aq (top 51)) (N':=["_law_name","_law_most"]) (k:=2) (fr:=[]) rfl rfl ⟨rfl,∅,∅,∅,rfl,∅,∅⟩ (bC (K:=K) (aD au (pv 0) ae (λ_ _=>rfl))) (λ_ _ _ _ _=>(di (K:=K) (n:=2) rfl (bu (aP (i:=0) (show(["_law_name","_law_most"]:List Str).Nodup by decide +kernel) rfl (.inl rfl)) (bu (aP (i:=1) (show(["_law_name","_law_most"]:List Str).Nodup by decide +kernel) rfl (.inl rfl)) dg)))) (λ_ _ _ _ _=>cL)
   (λ_ _ _ _ _=>(pv 0))) (aa (aD au (pv 4) ae (λ_ _=>rfl)) af (se rfl))) (λ_ _=>rfl)) (aa ae af (se rfl)) (se rfl))) af (se rfl)) (se rfl)))))
   br)
  (av (aW (pv 4))))))),?_⟩
  refine(?_:let cO:TS:=_;let cI:TS:=_;let cJ:TS:=_;let d7:TS:=_;let qk:TS:=_;tSeq cO (tSeq cI (tSeq cJ (tSeq d7 qk))) _ _ _);intro cO cI cJ d7 qk;have sl:=sizeLine_eq;symm;obtain⟨gp,cv,pv,rfl,qq,rc,rp⟩:=bo.mp (show Rep H (.tup _) gv from rg);obtain⟨cl,ig,rfl,gq,qo⟩:=aQ.mp (show Rep H (.lst _) cv from rc);obtain⟨pl,Cp,rfl,hpl,vi⟩:=aQ.mp (show Rep H (.lst _) pv from rp);have Pz:ig.length=g.cs.length:=by have:=qo.length;rw[aak] at this;lia
  have c3:=G.c3;have gg:=G.gg;obtain⟨sq,sn,nv,rfl,CI,NP,PF⟩:=bo.mp (show Rep H (.tup _) sv from rs);obtain rfl:=aH.mp NP;obtain⟨nl,nvs,rfl,NQ,RQ⟩:=aQ.mp PF;obtain rfl:=tF RQ;obtain⟨wl,LD,rfl,qB,FJ⟩:=aQ.mp rw0;obtain⟨l',svs,e0,La,Zf⟩:=aQ.mp rss;nofun;clear G_;cases e0;symm;obtain⟨⟨i0,x0,vj,na,es⟩,ir⟩:=id sr;nofun;clear G_;have lk:=G.look vj;rw[<-es] at lk;have pk:=(G.pn i0 x0 vj).2;generalize x0.2=x at *;have Zg:∀e∈ss.map cF,Ke e:=λe he=>by obtain⟨s,hs,rfl⟩:=abo.mp he;exact tH (RW s hs)
  change tSeq _ _ _ _ _;refine aZ (λN=>∀H1 v,aB H H1->Rep H1 (qH x) v->N [some (.ref gp),some (.ref sq),some (.ref wl),some (.ref l),some v] H1) ?_ (λN hN=>?_)
  case refine_2=>
   symm;obtain⟨rows,e1,e2,e3,e4⟩:=j5 (K:=K) vi;obtain⟨v,ev,rv⟩:=e4 _ _ lk;nofun;dsimp?[qq,CI];exact⟨rows,by rw[<-e1];exact bH.of hpl,e2,by rw[e3];exact iI gg.np,λdd Cw=>⟨_,(ai Cw) _ _ CI,_,at0,v,.inl ⟨_,.inr st.1,.inl aj,rfl,ev.symm⟩,hN _ v (ai Cw) (rv.mono (ai Cw))⟩⟩
  rintro H1 wv s1 yq;cases x with
  | ask c k a b=>exact absurd rfl (na c k a b)
  | fH fP t b yt=>
   symm;obtain⟨wq,w1,w2,w3,w4,rfl,rF,r1,r2,r3,r4⟩:=dm.mp (show Rep H1 (.tup _) wv from yq);nofun;rw[aH.mp r1] at rF;have ew:fK g st ts=ts.map λx=>.tup [.int x.1,cF x.2]:=by unfold fK;rw[lk]
   rw[ew] at FJ;have RX:LD.length=ts.length:=by have:=FJ.length;rw[aak] at this;lia
   have lts:ts.length<=1296:=by
    unfold b6 at go;rw[lk] at go;symm;obtain⟨ps,B,_,gl,_,_,lt,_⟩:=go;nofun
    have:=(j4 gl).2.2.1
    lia
   change tSeq _ _ _ _ _;refine aZ (λ_=>True) trivial (λN _=>?_);refine dE (λY N k=>by dsimp?[rF];exact k) ?_;dsimp?[rF];refine⟨⟨_,bH.of (s1 _ _ qB)⟩,iu (K:=K) (src_list (Ok:=aB H1) (λH' s'=>bH.of (s' _ _ (s1 _ _ qB)))) (λi u v H3=>∃x,ts[i]?=some x/\u=.int x.1/\Rep H3 (cF x.2) v) ?_ (by lia) (λi y H3=>∀x,ts[i]?=some x->cX H H3 (wa ss x) y) (λi y H2 H3 s3 h x e=>(h x e).mono s3) ?_ ?_⟩
   ·rintro i x H2 H3 hi s2 ⟨rfl,ex⟩;symm;obtain⟨dd,ed,zP⟩:=FJ.get ex;rw[aal] at ed;obtain⟨y,ey,rfl⟩:=abm.mp ed;obtain⟨q,u1,u2,rfl,hq,Fd,Bh⟩:=bo.mp (show Rep _ (.tup _) x from zP);obtain rfl:=bb.mp Fd;nofun;exact⟨aB.refl _,q,_,_,rfl,gP.of ((s1.trans s2) _ _ hq),y,ey,rfl,Bh.mono (s1.trans s2)⟩
   ·intro i u v H2 Q2 hi s2 fo kq;symm;obtain⟨y,ey,rfl,rv⟩:=fo;nofun;have hm:y.2∈ss:=sub _ (abo.mpr ⟨y,aar ey,rfl⟩);have ix:=Bf hm;have lx:=List.idxOf_lt_length_of_mem hm;have yE:=s1.trans s2;dsimp?[GI];exact⟨.inl ⟨rfl,_,bH.of (yE _ _ La)⟩,_,yE _ _ La,ss.map cF,Zf.mono yE,Zg,cF y.2,rv,tH (RW _ hm),_,ix.1,ix.2,by lia,by lia,λp H4 s4 np e4=>kq _ _ s4 (λx ex=>by rw[ey] at ex;cases ex;exact iJ (.of (yE.trans s4)) e4 b5 b5)⟩
   ·intro ys H2 s2 ly hy D n1 n2;refine⟨by lia,λp H3 s3 np e3=>?_⟩;have sA:=s1.trans (s2.trans ((ai n2).trans s3));refine kk _ _ sA ?_;have e:eP g ss st ts=.tup [.str "throw",.tup [.int t,.int b],.lst (ts.map (wa ss))]:=by
     unfold eP;rw[lk]
    rw[e];symm;obtain⟨q2,y1,y2,rfl,Iq,q1,q3⟩:=bo.mp r3;obtain rfl:=bb.mp q1;obtain rfl:=bb.mp q3;nofun;refine wG (.of sA) e3 bQ (iJ (.of sA) ((s2.trans ((ai n2).trans s3)) _ _ Iq) b5 b5) (gN (none_of s1 n1) (s3 _ _ aj) ?_);refine bq.of (by rw[aak,ly,RX]) λi d v e1 e2=>?_;rw[aal] at e1;symm;obtain⟨x,ex,rfl⟩:=abm.mp e1;nofun;exact(hy i v e2 x ex).mono ((ai n2).trans s3)
  | pick w yt=>
   symm;obtain⟨wq,w1,w2,w3,rfl,rF,r1,r2,r3⟩:=cP.mp (show Rep H1 (.tup _) wv from yq);nofun;rw[aH.mp r1,bb.mp r2] at rF;change tSeq _ _ _ _ _;refine aZ (λN=>N [some (.ref gp),some (.ref sq),some (.ref wl),some (.ref l),some (.ref wq)] H1) ?_ (λN hN=>?_)
   case refine_2=>exact c6 (λY N k=>by dsimp?[rF];rw[if_neg ∅];exact k) hN
   change tSeq _ _ _ _ _;refine aZ (λ_=>True) trivial (λN _=>?_);refine dE (λY N k=>by dsimp?[rF];exact k) ?_;dsimp?[rF];have lo:ts.length=(cQ g.cs st.2 (.pick w yt)).length:=by
    unfold b6 at go;rw[lk] at go;have go:Goes g st (ts.map (·.2)):=go;unfold Goes at go;rw[lk] at go
    have:=go.2.1
    rw[aak] at this;exact this
   have lo3:(cQ g.cs st.2 (.pick w yt)).length<=3:=aay (List.length_filter_le _ _) pk.1;have ew:fK g st ts=((cQ g.cs st.2 (.pick w yt)).zip ts).map λx=>.tup [.str x.1.word,cF x.2.2]:=by unfold fK;rw[lk]
   rw[ew] at FJ;have RX:LD.length=ts.length:=by have:=FJ.length;rw[aak,List.length_zip] at this;lia
   refine⟨⟨_,bH.of (s1 _ _ qB)⟩,iu (K:=K) (src_list (Ok:=aB H1) (λH' s'=>bH.of (s' _ _ (s1 _ _ qB)))) (λi u v H3=>∃x,ts[i]?=some x/\Rep H3 (cF x.2) v) ?_ (by lia) (λi y H3=>∀x,ts[i]?=some x->y=.int ((ss.idxOf x.2:Nat):Int)) (λi y H2 H3 s3 h=>h) ?_ ?_⟩
   ·rintro i x H2 H3 hi s2 ⟨rfl,ex⟩;symm;obtain⟨dd,ed,zP⟩:=FJ.get ex;rw[aal] at ed;obtain⟨⟨r,y⟩,ey,rfl⟩:=abm.mp ed;obtain⟨q,u1,u2,rfl,hq,Fd,Bh⟩:=bo.mp (show Rep _ (.tup _) x from zP);nofun;exact⟨aB.refl _,q,_,_,rfl,gP.of ((s1.trans s2) _ _ hq),y,(List.getElem?_zip_eq_some.mp ey).2,Bh.mono (s1.trans s2)⟩
   ·intro i u v H2 Q2 hi s2 fo kq;symm;obtain⟨y,ey,rv⟩:=fo;nofun;have hm:y.2∈ss:=sub _ (abo.mpr ⟨y,aar ey,rfl⟩);have ix:=Bf hm;have lx:=List.idxOf_lt_length_of_mem hm;have yE:=s1.trans s2;dsimp?[GI];exact⟨.inl ⟨rfl,_,bH.of (yE _ _ La)⟩,_,yE _ _ La,ss.map cF,Zf.mono yE,Zg,cF y.2,rv,tH (RW _ hm),_,ix.1,ix.2,by lia,kq _ _ (aB.refl _) (λx ex=>by rw[ey] at ex;cases ex;rfl)⟩
   ·intro ys H2 s2 ly hy D n1 n2;refine⟨by lia,λp H3 s3 np e3=>?_⟩;have sA:=s1.trans (s2.trans ((ai n2).trans s3));refine kk _ _ sA ?_;have e:eP g ss st ts=.tup [.str "pick",.int w,.lst ((ts.map (·.2)).map λt=>.int ((ss.idxOf t:Nat):Int))]:=by
     unfold eP vZ;rw[lk]
    rw[e];refine wG (.of sA) e3 bQ b5 (gN (none_of s1 n1) (s3 _ _ aj) ?_);refine bq.of (by rw[aak,aak,ly,RX]) λi d v e1 e2=>?_;rw[aal,aal] at e1;symm;obtain⟨x,ex,rfl⟩:=abm.mp e1;obtain⟨x',LM,rfl⟩:=abm.mp ex;nofun;rw[hy i v e2 x' LM];exact bb.mpr rfl
  | score c=>
   symm;obtain⟨wq,w1,w2,rfl,rF,r1,r2⟩:=bo.mp (show Rep H1 (.tup _) wv from yq);nofun;rw[aH.mp r1,aH.mp r2] at rF;change tSeq _ _ _ _ _;refine aZ (λN=>N [some (.ref gp),some (.ref sq),some (.ref wl),some (.ref l),some (.ref wq)] H1) ?_ (λN hN=>?_)
   case refine_2=>exact c6 (λY N k=>by dsimp?[rF];rw[if_neg ∅];exact k) hN
   change tSeq _ _ _ _ _;refine aZ (λN=>N [some (.ref gp),some (.ref sq),some (.ref wl),some (.ref l),some (.ref wq)] H1) ?_ (λN hN=>?_)
   case refine_2=>exact c6 (λY N k=>by dsimp?[rF];rw[if_neg ∅];exact k) hN
   change tSeq _ _ _ _ _;refine aZ (λ_=>True) trivial (λN _=>?_);refine dE (λY N k=>by dsimp?[rF];exact k) ?_;dsimp?[rF,s1 _ _ qq,s1 _ _ CI];have hc:c∈g.cs.map (·.1):=pk;have sc:=bZ hc;refine⟨⟨_,bH.of (s1 _ _ gq)⟩,iu (K:=K) (src_list (Ok:=aB H1) (λH' s'=>bH.of (s' _ _ (s1 _ _ gq)))) (λi u v H3=>∃x,g.cs[i]?=some x/\u=.str x.1) ?_ (by lia) (λi y H3=>∀x,g.cs[i]?=some x->y=.str x.1) (λi y H2 H3 s3 h=>h) ?_ ?_⟩
   ·rintro i x H2 H3 hi s2 ⟨rfl,ex⟩;symm;obtain⟨dd,ed,zP⟩:=qo.get ex;rw[aal] at ed;obtain⟨y,ey,rfl⟩:=abm.mp ed;obtain⟨q,u1,u2,rfl,hq,Fd,Bh⟩:=bo.mp (show Rep _ (.tup _) x from zP);obtain rfl:=aH.mp Fd;nofun;exact⟨aB.refl _,q,_,_,rfl,gP.of ((s1.trans s2) _ _ hq),y,ey,rfl⟩
   ·intro i u v H2 Q2 hi s2 fo kq;symm;obtain⟨y,ey,rfl⟩:=fo;nofun;dsimp?[];exact kq _ _ (aB.refl _) (λx ex=>by rw[ey] at ex;cases ex;rfl)
   ·intro ys H2 s2 ly hy D n1 n2;have ey:ys=(g.cs.map (·.1)).map V.str:=by
     apply List.ext_getElem?;intro j;rw[aal,aal];cases e:ys[j]? with
     | none=>rw[aa3 (by have:=List.getElem?_eq_none_iff.mp e;lia)];rfl
     | some y=>
      have hj:=(abn.mp e).1;have ec:=aat (show j<g.cs.length by lia);rw[hy j y e _ ec,ec]
      rfl
    subst ey;have sD:=s2.trans (ai (o:=.lst ((g.cs.map (·.1)).map V.str)) n2);have ia:=KE hc;have kds:∀e∈(g.cs.map (·.1)).map Dat.str,Ke e:=λe he=>by obtain⟨x,hx,rfl⟩:=abo.mp he;exact Ho (G.hc hx)
    refine⟨.inl ⟨rfl,_,bH.of aj⟩,_,sD _ _ rF,_,at1,?_⟩;unfold GI;refine⟨D,_,(g.cs.map (·.1)).map Dat.str,.str c,.str c,_,rfl,rfl,aj,tE _,kds,aH.mpr rfl,Ho (G.hc hc),ia.1,ia.2,by have:(g.cs.map (·.1)).idxOf c<g.cs.length:=sc;lia,_,_,rfl,(s1.trans sD) _ _ NQ,_,du (by have:(g.cs.map (·.1)).idxOf c<g.cs.length:=sc;have:=ir.1;lia),∅,λp H3 s3 np e3=>⟨∅,λp4 H4 s4 np4 e4=>?_⟩⟩;have sA:=(s1.trans sD).trans (s3.trans s4);refine kk _ _ sA ?_;have e:eP g ss st ts=.tup [.str "end",.tup [.int (st.2.getD (bU g.cs c) 0),.int 1]]:=by
     unfold eP vZ;rw[lk]
     rfl
    rw[e];exact iJ (.of sA) e4 bQ (iJ (.of sA) (s4 _ _ e3) b5 b5)
  | fin t b=>
   symm;obtain⟨wq,w1,w2,rfl,rF,r1,r2⟩:=bo.mp (show Rep H1 (.tup _) wv from yq);nofun;rw[aH.mp r1] at rF;change tSeq _ _ _ _ _;refine aZ (λN=>N [some (.ref gp),some (.ref sq),some (.ref wl),some (.ref l),some (.ref wq)] H1) ?_ (λN hN=>?_)
   case refine_2=>exact c6 (λY N k=>by dsimp?[rF];rw[if_neg ∅];exact k) hN
   change tSeq _ _ _ _ _;refine aZ (λN=>N [some (.ref gp),some (.ref sq),some (.ref wl),some (.ref l),some (.ref wq)] H1) ?_ (λN hN=>?_)
   case refine_2=>exact c6 (λY N k=>by dsimp?[rF];rw[if_neg ∅];exact k) hN
   change tSeq _ _ _ _ _;refine aZ (λN=>N [some (.ref gp),some (.ref sq),some (.ref wl),some (.ref l),some (.ref wq)] H1) ?_ (λN hN=>?_)
   case refine_2=>exact c6 (λY N k=>by dsimp?[rF];rw[if_neg ∅];exact k) hN
   dsimp?[];symm;obtain⟨q2,y1,y2,rfl,Iq,q1,q3⟩:=bo.mp r2;obtain rfl:=bb.mp q1;obtain rfl:=bb.mp q3;nofun;refine kk _ _ s1 ?_;have e:eP g ss st ts=.tup [.str "end",.tup [.int t,.int b]]:=by
    unfold eP vZ;rw[lk]
    rfl
   rw[e];exact iJ (.of s1) rF bQ (iJ (.of s1) Iq b5 b5)
theorem qy:bj ["_law_game_here","_law_states","_law_board","_law_words","_law_state","_law_ways_here","_law_word","_law_other"] ["_law_game_here"] (aq (top 52)):=⟨rfl,rfl,rfl,∅,rfl,∅,∅⟩
noncomputable def ko (a b c:Addr):Hp:=upd (upd (upd (λ_=>none) a (.lst [])) b (.lst [])) c (.lst [])
theorem Ff {a b c:Addr} {H:Hp} {xs ys zs:List V} (h1:H a=some (.lst xs)) (h2:H b=some (.lst ys)) (h3:H c=some (.lst zs)):d9 (ko a b c) H:=λd us e=>by
 unfold ko at e;by_cases c3:d=c
 ·exact⟨zs,c3▸h3⟩
 ·rw[aA c3] at e;by_cases c2:d=b
  ·exact⟨ys,c2▸h2⟩
  ·rw[aA c2] at e;by_cases c1:d=a
   ·exact⟨xs,c1▸h1⟩
   ·rw[aA c1] at e;cases e
theorem KO {a b c d:Addr} (h:d=a\/d=b\/d=c):∃ys,ko a b c d=some (.lst ys):=by
 unfold ko;by_cases c3:d=c
 ·exact⟨_,by rw[c3];exact aj⟩
 ·rw[aA c3];by_cases c2:d=b
  ·exact⟨_,by rw[c2];exact aj⟩
  ·rw[aA c2];rcases h with h | h | h
   ·exact⟨_,by rw[h];exact aj⟩
   ·exact absurd h c2
   ·exact absurd h c3
theorem nY {a b c d:Addr} {H:Hp} {o:HO} (h:d=a\/d=b\/d=c):fy (ko a b c) (upd H d o)=fy (ko a b c) H:=by
 obtain⟨ys,e⟩:=KO h;exact fJ e
structure tJ (H H':Hp) (a b c:Addr) (ss:List bV) (Bs Ws:List Dat):Prop where
 sm:aB H H'
 na:H a=none
 nb:H b=none
 nc:H c=none
 ab:a≠b
 ac:a≠c
 bc:b≠c
 at_:∃xs ys zs,H' a=some (.lst xs)/\H' b=some (.lst ys)/\H' c=some (.lst zs)/\cA (ko a b c) H' (ss.map cF) xs/\cA (ko a b c) H' Bs ys/\cA (ko a b c) H' Ws zs
theorem tJ.li {H H':Hp} {a b c:Addr} {ss:List bV} {Bs Ws:List Dat} (D:tJ H H' a b c ss Bs Ws):d9 (ko a b c) H':=by
 obtain⟨xs,ys,zs,h1,h2,h3,_⟩:=D.at_;exact Ff h1 h2 h3
theorem tJ.mono {H H' yD:Hp} {a b c:Addr} {ss:List bV} {Bs Ws:List Dat} (D:tJ H H' a b c ss Bs Ws) (s:aB H' yD):tJ H yD a b c ss Bs Ws:=by
 obtain⟨xs,ys,zs,h1,h2,h3,r1,r2,r3⟩:=D.at_;exact {D with sm:=D.sm.trans s,at_:=⟨xs,ys,zs,s _ _ h1,s _ _ h2,s _ _ h3,r1.mono s,r2.mono s,r3.mono s⟩}
theorem tJ.RY {H H':Hp} {a b c:Addr} {ss:List bV} {Bs Ws:List Dat} (D:tJ H H' a b c ss Bs Ws) {xs:List V} {v:V} {s:bV} (h:H' a=some (.lst xs)) (r:cX (ko a b c) H' (cF s) v):tJ H (upd H' a (.lst (xs++ [v]))) a b c (ss++ [s]) Bs Ws:=by
 obtain⟨Ft,ys,zs,h1,h2,h3,r1,r2,r3⟩:=D.at_;rw[h] at h1;cases h1;refine {D with sm:=bI D.sm D.na,at_:=⟨_,ys,zs,aj,by rw[aA (Ne.symm D.ab)];exact h2,by rw[aA (Ne.symm D.ac)];exact h3,?_⟩};unfold cA;rw[nY (.inl rfl),aaw];exact⟨gZ r r1,r2,r3⟩
theorem tJ.RZ {H H':Hp} {a b c:Addr} {ss:List bV} {Bs Ws:List Dat} (D:tJ H H' a b c ss Bs Ws) {ys:List V} {v:V} {d:Dat} (h:H' b=some (.lst ys)) (r:cX (ko a b c) H' d v):tJ H (upd H' b (.lst (ys++ [v]))) a b c ss (Bs++ [d]) Ws:=by
 obtain⟨xs,Li,zs,h1,h2,h3,r1,r2,r3⟩:=D.at_;rw[h] at h2;cases h2;refine {D with sm:=bI D.sm D.nb,at_:=⟨xs,_,zs,by rw[aA D.ab];exact h1,aj,by rw[aA (Ne.symm D.bc)];exact h3,?_⟩};unfold cA;rw[nY (.inr (.inl rfl))];exact⟨r1,gZ r r2,r3⟩
theorem tJ.R1 {H H':Hp} {a b c:Addr} {ss:List bV} {Bs Ws:List Dat} (D:tJ H H' a b c ss Bs Ws) {zs:List V} {v:V} {d:Dat} (h:H' c=some (.lst zs)) (r:cX (ko a b c) H' d v):tJ H (upd H' c (.lst (zs++ [v]))) a b c ss Bs (Ws++ [d]):=by
 obtain⟨xs,ys,zs',h1,h2,h3,r1,r2,r3⟩:=D.at_;rw[h] at h3;cases h3;refine {D with sm:=bI D.sm D.nc,at_:=⟨xs,ys,_,by rw[aA D.ac];exact h1,by rw[aA D.bc];exact h2,aj,?_⟩};unfold cA;rw[nY (.inr (.inr rfl))];exact⟨r1,r2,gZ r r3⟩
theorem Fg {g:Gm} {ss SS:List bV} {st:bV} {ts:List (Int×bV)} (a:o9 ss SS) (h:∀t∈dF ts,t∈ss):eP g ss st ts=eP g SS st ts:=by
 have e1:ts.map (wa ss)=ts.map (wa SS):=List.map_congr_left λx hx=>by
  unfold wa;rw[a.idx (h _ (abo.mpr ⟨x,hx,rfl⟩))]
 have e2:(ts.map (·.2)).map (λt=>Dat.int ((ss.idxOf t:Nat):Int))=(ts.map (·.2)).map (λt=>Dat.int ((SS.idxOf t:Nat):Int)):=List.map_congr_left λx hx=>by rw[a.idx (h _ hx)]
 unfold eP vZ;rw[e1];cases look g.ps st.1 with
 | none=>rfl
 | some x=>cases x with
  | pick w rs=>show Dat.tup _=Dat.tup _;rw[e2]
  | _=>rfl
set_option tactic.hygienic true in
theorem zQ {g:Gm} {st:bV} {ts:List (Int×bV)} (go:b6 g st ts):(fK g st ts).length=ts.length/\(∀(i:Nat) d,(fK g st ts)[i]?=some d->∃x e,ts[i]?=some x/\d=.tup [e,cF x.2]/\((∃k,e=.int k)\/∃w rs,look g.ps st.1=some (.pick w rs))/\∀w rs,look g.ps st.1=some (.pick w rs)->∃r,(cQ g.cs st.2 (.pick w rs))[i]?=some r/\e=.str r.word)/\∀w rs,look g.ps st.1=some (.pick w rs)->(cQ g.cs st.2 (.pick w rs)).length=ts.length:=by
 by_cases c:∃w rs,look g.ps st.1=some (.pick w rs)
 ·obtain⟨w,rs,lk⟩:=c;have lo:ts.length=(cQ g.cs st.2 (.pick w rs)).length:=by
   unfold b6 at go;rw[lk] at go;have go:Goes g st (ts.map (·.2)):=go;unfold Goes at go;rw[lk] at go
   have:=go.2.1
   rw[aak] at this;exact this
  have ew:fK g st ts=((cQ g.cs st.2 (.pick w rs)).zip ts).map λx=>.tup [.str x.1.word,cF x.2.2]:=by unfold fK;rw[lk]
  rw[ew];refine⟨by rw[aak,List.length_zip];lia,λi d e=>?_,λw' EL e=>by rw[lk] at e;cases e;exact lo.symm⟩;rw[aal] at e;obtain⟨⟨r,x⟩,ex,rfl⟩:=abm.mp e;obtain⟨a1,a2⟩:=List.getElem?_zip_eq_some.mp ex;exact⟨x,_,a2,rfl,.inr ⟨w,rs,lk⟩,λw' EL e=>by rw[lk] at e;cases e;exact⟨r,a1,rfl⟩⟩
 ·have ew:fK g st ts=ts.map λx=>.tup [.int x.1,cF x.2]:=by
   unfold fK;split
   ·rename_i e;exact absurd ⟨_,_,e⟩ c
   ·rfl
  rw[ew];refine⟨aak _,λi d e=>?_,λw rs e=>absurd ⟨w,rs,e⟩ c⟩;rw[aal] at e;obtain⟨x,ex,rfl⟩:=abm.mp e;exact⟨x,_,ex,rfl,.inl ⟨_,rfl⟩,λw rs e=>absurd ⟨w,rs,e⟩ c⟩
theorem Fh {g:Gm} {st:bV} {ts:List (Int×bV)} {n:Nat} (G:ie g n) (sr:qh g st) (go:b6 g st ts):ts.length<=1296:=by
 unfold b6 at go;cases lk:look g.ps st.1 with
 | none=>rw[lk] at go;exact go.elim
 | some x=>cases x with
  | fH p t b rs=>
   rw[lk] at go;obtain⟨ps,B,_,gl,_,_,lt,_⟩:=go
   have:=(j4 gl).2.2.1
   lia
  | pick w rs=>
   rw[lk] at go;have go:Goes g st (ts.map (·.2)):=go;unfold Goes at go;rw[lk] at go;have h2:=go.2.1;rw[aak] at h2;obtain⟨⟨i0,x0,vj,na,es⟩,ir⟩:=id sr;have tZ:=G.look vj;rw[<-es,lk] at tZ;have pk:=(G.pn i0 x0 vj).2;rw[<-aaE tZ] at pk
   have:(cQ g.cs st.2 (.pick w rs)).length<=rs.length:=List.length_filter_le _ _
   have:=pk.1
   lia
  | fin t b=>rw[lk] at go;have go:ts=[]:=go;rw[go];decide
  | score c=>rw[lk] at go;have go:ts=[]:=go;rw[go];decide
  | ask c k a b=>rw[lk] at go;exact go.elim
theorem jt {ss ts:List bV} {t:bV}:aL ss (ts++ [t])=fQ (aL ss ts) t:=by
 unfold aL;rw[aa4]
 rfl
theorem Fi {ts:List (Int×bV)} {i:Nat} {x:Int×bV} (e:ts[i]?=some x):dF (ts.take (i+1))=dF (ts.take i)++ [x.2]:=by
 unfold dF;rw[aaG,e,aaw]
 rfl
theorem CA {ss:List bV} {ts:List (Int×bV)} {i:Nat}:(aL ss (dF (ts.take i))).length<=(aL ss (dF ts)).length:=by
 have:dF ts=dF (ts.take i)++dF (ts.drop i):=by unfold dF;rw[<-aaw,List.take_append_drop]
 rw[this];have e:aL ss (dF (ts.take i)++dF (ts.drop i))=aL (aL ss (dF (ts.take i))) (dF (ts.drop i)):=aa4;rw[e];exact(eY _ _).len
theorem Bi {ss:List bV} {s:bV}:df (cF s)∈(ss.map cF).map df↔s∈ss:=by
 rw[aaM]
 constructor
 ·intro h;obtain⟨t,ht,e⟩:=abo.mp h;rw[<-Be (show df (cF t)=df (cF s) from e)];exact ht
 ·exact λh=>abo.mpr ⟨s,h,rfl⟩
theorem yu {g:Gm} {st:bV} {ts:List (Int×bV)} {n:Nat} (G:ie g n) (sr:qh g st) (go:b6 g st ts):∀t∈dF ts,qh g t:=by
 rcases(G.cl st sr).2 with h | ⟨YK,FK,h⟩
 ·exact absurd h go.stuck
 ·by_cases c:∃wo rs,look g.ps st.1=some (.pick wo rs)
  ·obtain⟨w,rs,lk⟩:=c;unfold b6 at go FK;rw[lk] at go FK;have go:Goes g st (ts.map (·.2)):=go;have FK:Goes g st (YK.map (·.2)):=FK;unfold Goes at go FK;rw[lk] at go FK;obtain⟨_,l1,h1⟩:=go;obtain⟨_,l2,h2⟩:=FK;intro t ht;obtain⟨i,hi,ei⟩:=List.getElem_of_mem (show t∈ts.map (·.2) from ht);have er:=aat (show i< (cQ g.cs st.2 (.pick w rs)).length by lia);obtain⟨a,ea,ga,_⟩:=h1 i _ er;obtain⟨b,eb,gb,_⟩:=h2 i _ er;rw[ga] at gb;cases gb
   have:t=a:=by rw[aat hi] at ea;rw[<-ei];exact aaE ea
   rw[this];exact h a (aar eb)
  ·rw[sW (λwo rs e=>c ⟨wo,rs,e⟩) go FK];exact h
theorem qh.hs {g:Gm} {s:bV} {n:Nat} (G:ie g n) (h:qh g s):dQ (.str s.1)=true:=by
 obtain⟨⟨j,x,e,_,es⟩,_⟩:=h;rw[es];exact G.Pc e
theorem KP {g:Gm} {st:bV} {ts:List (Int×bV)} {n:Nat} (G:ie g n) (sr:qh g st) (go:b6 g st ts):Ke (.lst (fK g st ts)):=by
 refine j6 (n:=4) (d8 λd hd=>?_) ∅;obtain⟨i,hi,ei⟩:=List.getElem_of_mem hd;obtain⟨x,e,ex,rfl,ek,ep⟩:=(zQ go).2.1 i d (by rw[aat hi,ei]);have hx:=yu G sr go x.2 (abo.mpr ⟨x,aar ex,rfl⟩);refine jA ?_ (jA (bP (hx.hs G)) (d8 λd hd=>by obtain⟨k,_,rfl⟩:=abo.mp hd;exact b8 (n:=0) _));rcases ek with ⟨k,rfl⟩ | ⟨w,rs,lk⟩
 ·exact b8 _
 ·obtain⟨r,er,rfl⟩:=ep w rs lk;obtain⟨⟨i0,x0,vj,na,es⟩,ir⟩:=id sr;have tZ:=G.look vj;rw[<-es,lk] at tZ;have pk:=(G.pn i0 x0 vj).2;rw[<-aaE tZ] at pk;exact bP (pk.2 r (List.mem_filter.mp (aar er)).1).2.2.1
theorem Hw {g:Gm} {st:bV} {ts:List (Int×bV)} (go:b6 g st ts) (h:fK g st ts=[]) (w:Int) (rs:List Rw):look g.ps st.1≠some (.pick w rs):=λlk=>by
 obtain⟨l1,_,l2⟩:=zQ go;have l2:=l2 w rs lk;rw[h,aaW] at l1;exact go.stuck ⟨w,rs,lk,List.length_eq_zero_iff.mp (by lia)⟩
theorem yv {a:TS} {D:Ends} {σ:L2.St} {H:Hp} (C:L2.St->Hp->Prop) (hb:∀σ' H',C σ' H'->D.nx σ' H') (ha:∀D':Ends,(∀σ' H',C σ' H'->D'.nx σ' H')->D'.rt=D.rt->a D' σ H):a D σ H:=ha D hb rfl
theorem Bj (ds:List Dat):df (.lst ds)=df (.lst [])↔ds=[]:=by
 rw[df,df,iy];cases ds with
 | nil=>rw[iy];exact⟨λ_=>rfl,λ_=>rfl⟩
 | cons d ds=>rw[iy];exact⟨λh=>(by injection h with h;cases h),λh=>by cases h⟩
theorem Fj {g:Gm} {st:bV} {ts us:List (Int×bV)} (h:b6 g st ts) (k:b6 g st us):fK g st us=fK g st ts:=by
 by_cases c:∃wo rs,look g.ps st.1=some (.pick wo rs)
 ·obtain⟨w,rs,lk⟩:=c;rw[tG lk h,tG lk k]
 ·rw[sW (λwo rs e=>c ⟨wo,rs,e⟩) h k]
theorem NV {H:Hp} {x:Wt} {v:V} (h:Rep H (qH x) v):∃q vs kd,v=.ref q/\H q=some (.tup (.str kd::vs))/\(kd=aaj "pick"↔∃w rs,x=.pick w rs):=by
 cases x with
 | ask c k a b=>
  obtain⟨q,v1,v2,v3,v4,v5,rfl,hq,r1,_⟩:=o7.mp (show Rep H (.tup _) v from h);rw[aH.mp r1] at hq;exact⟨q,_,_,rfl,hq,⟨λe=>absurd e ∅,fun⟨_,_,e⟩=>by cases e⟩⟩
 | fin t b=>
  obtain⟨q,v1,v2,rfl,hq,r1,_⟩:=bo.mp (show Rep H (.tup _) v from h);rw[aH.mp r1] at hq;exact⟨q,_,_,rfl,hq,⟨λe=>absurd e ∅,fun⟨_,_,e⟩=>by cases e⟩⟩
 | score c=>
  obtain⟨q,v1,v2,rfl,hq,r1,_⟩:=bo.mp (show Rep H (.tup _) v from h);rw[aH.mp r1] at hq;exact⟨q,_,_,rfl,hq,⟨λe=>absurd e ∅,fun⟨_,_,e⟩=>by cases e⟩⟩
 | pick w rs=>
  obtain⟨q,v1,v2,v3,rfl,hq,r1,_⟩:=cP.mp (show Rep H (.tup _) v from h);rw[aH.mp r1] at hq;exact⟨q,_,_,rfl,hq,⟨λ_=>⟨w,rs,rfl⟩,λ_=>rfl⟩⟩
 | fH p t b rs=>
  obtain⟨q,v1,v2,v3,v4,rfl,hq,r1,_⟩:=dm.mp (show Rep H (.tup _) v from h);rw[aH.mp r1] at hq;exact⟨q,_,_,rfl,hq,⟨λe=>absurd e ∅,fun⟨_,_,e⟩=>by cases e⟩⟩
theorem KQ {g:Gm} {SS:List bV} {st:bV} {ts:List (Int×bV)} {H:Hp} {v:V} (go:b6 g st ts) (h:Rep H (eP g SS st ts) v):∃q vs kd,v=.ref q/\H q=some (.tup (.str kd::vs))/\(kd=aaj "pick"↔∃w rs,look g.ps st.1=some (.pick w rs)):=by
 obtain⟨x,lk⟩:=mD go;unfold eP vZ at h;rw[lk] at h ⊢;cases x with
 | pick w rs=>
  obtain⟨q,v1,v2,v3,rfl,hq,r1,_⟩:=cP.mp (show Rep H (.tup _) v from h);rw[aH.mp r1] at hq;exact⟨q,_,_,rfl,hq,⟨λ_=>⟨w,rs,rfl⟩,λ_=>rfl⟩⟩
 | fH p t b rs=>
  obtain⟨q,v1,v2,v3,rfl,hq,r1,_⟩:=cP.mp (show Rep H (.tup _) v from h);rw[aH.mp r1] at hq;exact⟨q,_,_,rfl,hq,⟨λe=>absurd e ∅,fun⟨_,_,e⟩=>by cases e⟩⟩
 | ask c k a b=>
  obtain⟨q,v1,v2,rfl,hq,r1,_⟩:=bo.mp (show Rep H (.tup _) v from h);rw[aH.mp r1] at hq;exact⟨q,_,_,rfl,hq,⟨λe=>absurd e ∅,fun⟨_,_,e⟩=>by cases e⟩⟩
 | fin t b=>
  obtain⟨q,v1,v2,rfl,hq,r1,_⟩:=bo.mp (show Rep H (.tup _) v from h);rw[aH.mp r1] at hq;exact⟨q,_,_,rfl,hq,⟨λe=>absurd e ∅,fun⟨_,_,e⟩=>by cases e⟩⟩
 | score c=>
  obtain⟨q,v1,v2,rfl,hq,r1,_⟩:=bo.mp (show Rep H (.tup _) v from h);rw[aH.mp r1] at hq;exact⟨q,_,_,rfl,hq,⟨λe=>absurd e ∅,fun⟨_,_,e⟩=>by cases e⟩⟩
theorem tJ.no {H H':Hp} {a b c p:Addr} {ss:List bV} {Bs Ws:List Dat} (D:tJ H H' a b c ss Bs Ws) (n:H' p=none):ko a b c p=none:=by
 obtain⟨xs,ys,zs,h1,h2,h3,_⟩:=D.at_;unfold ko;rw[aA (λz=>by rw[z,h3] at n;cases n),aA (λz=>by rw[z,h2] at n;cases n),aA (λz=>by rw[z,h1] at n;cases n)]
theorem words_of {g:Gm} {st:bV} {ts:List (Int×bV)} (go:b6 g st ts):∃L:List Str,eK g st=.lst (L.map Dat.str)/\(∀w rs,look g.ps st.1=some (.pick w rs)->L=(cQ g.cs st.2 (.pick w rs)).map (·.word))/\((∀w rs,look g.ps st.1≠some (.pick w rs))->L=[]):=by
 obtain⟨x,lk⟩:=mD go;refine⟨(cQ g.cs st.2 x).map (·.word),?_,λw rs e=>?_,λh=>?_⟩
 ·unfold eK;rw[lk,aaM]
  rfl
 ·rw[lk] at e;rw[aaE e]
 ·cases x with
  | pick w rs=>exact absurd lk (h w rs)
  | _=>rfl
theorem KR (T:Txt K mg aG aI aJ aE aK ag aF):dj P w K mg base (bL P w) 3 "_law_due" ["_law_game_here"] E2:=by
 have fA:dj P w K mg base (bL P w) 1 "_law_arrived" ["_law_game_here","_law_name","_law_numbers"] vo:=IF T;have yw:dj P w K mg base (bL P w) 2 "_law_ways" ["_law_game_here","_law_state"] A9:=NO T;have wL:dj P w K mg base (bL P w) 1 "_law_place" ["_law_game_here","_law_state","_law_ways_here","_law_states"] E1:=NU T;refine T.zt.fE (λ_ _ _ _ _ _=>hZ λ_=>rfl) λf fd F=>F.gQ qy (λvs H Q E h=>?_) (λcw A outer s H vs Q E hr h=>?_)
 ·obtain⟨_,_,_,_,_,_,_,_,_,rfl,_⟩:=h;rfl
 ·symm;obtain⟨gv,g,n,ft,nm,fu,o,SS,tss,rfl,rg,G,hd,ak,sp,o2,qL,sub,k1,k2,kk⟩:=h;nofun;clear G_;have nd:=qy.nd;refine⟨_,(ao (aS (i:=1) nd rfl (.inl rfl) (bK (aa (bw fA (hr.mono ∅) rfl aO.pass (aa (pv 0) (aa (aD au (aD bg (aD au (pv 0) ae (λ_ _=>rfl)) ae (λ_ _=>rfl)) ae (λ_ _=>rfl)) (aa (cD rfl (N:=["_law_game_here","_law_states","_law_board","_law_words","_law_state","_law_ways_here","_law_word","_law_other"]) (so:=aq (top 52)) (N':=["_law_count"]) (k:=1) (fr:=[]) rfl rfl ⟨rfl,∅,∅,∅,rfl,∅,∅⟩ (bC (K:=K) (aD au (pv 0) ae (λ_ _=>rfl))) (λ_ _ _ _ _=>(aP (i:=0) (show(["_law_count"]:List Str).Nodup by decide +kernel) rfl (.inl rfl))) (λ_ _ _ _ _=>cL)
   (λ_ _ _ _ _=>ae)) af (se rfl)) (se rfl)) (se rfl)) (he:=se rfl) (hpl:=na rfl)) af (se rfl))))
  (ao (aS (i:=2) nd rfl (.inr rfl) (bK af))
  (ao (aS (i:=3) nd rfl (.inl rfl) (bK af))
  (ao (jl PassesOwn.never (aN mY (bf bD (by rfl) T.z_len aav (aa (pv 2) af (se rfl)) (he:=se rfl) (hpl:=na rfl)) (bf bD (by rfl) T.z_len aav (aa (pv 1) af (se rfl)) (he:=se rfl) (hpl:=na rfl)) (aX _)) (ao (aS (i:=4) nd rfl (.inl rfl) (aD bg (pv 1) (bf bD (by rfl) T.z_len aav (aa (pv 2) af (se rfl)) (he:=se rfl) (hpl:=na rfl)) (λ_ _=>rfl)))
  (ao (aS (i:=5) nd rfl (.inl rfl) (bw yw (hr.mono ∅) rfl aO.pass (aa (pv 0) (aa (pv 4) af (se rfl)) (se rfl)) (he:=se rfl) (hpl:=na rfl)))
  (ao (bF (PW.pt (pw_and (aN (DX hr.units) (pv 5) (bK af) (aX _)) (pw_and1 (aN bY (aD au (cR (dr hr) (cf (d3 (K:=K)) (by rfl) T.z_dict rfl (aa (aD au (pv 0) ae (λ_ _=>rfl)) af (se rfl)) (he:=se rfl) (hpl:=na rfl)) (aD au (pv 4) ae (λ_ _=>rfl)) (λ_ _=>rfl)) ae (λ_ _=>rfl)) aV (aX _))))) (av (aW aV))
   br)
  (ao (cV PassesOwn.never rfl (bC (K:=K) (pv 5)) (di (K:=K) (n:=2) rfl (bu (aP (i:=6) nd rfl (.inl rfl)) (bu (aP (i:=7) nd rfl (.inl rfl)) dg))) (av (bF (aN (B5 hr.units) (pv 7) (pv 1) rfl) (ao (bF (aN bY (bf bD (by rfl) T.z_len aav (aa (pv 1) af (se rfl)) (he:=se rfl) (hpl:=na rfl)) ae (aX _)) (av (aW aV))
   br)
  (av (bR (dY aaD aaI aaJ cm.r (pv 1) (aa (pv 7) af (se rfl))))))
   br)))
  (ao (bR (dY aaD aaI aaJ cm.r (pv 2) (aa (bw wL (hr.mono ∅) rfl aO.pass (aa (pv 0) (aa (pv 4) (aa (pv 5) (aa (pv 1) af (se rfl)) (se rfl)) (se rfl)) (se rfl)) (he:=se rfl) (hpl:=na rfl)) af (se rfl))))
  (av (bR (dY aaD aaI aaJ cm.r (pv 3) (aa (cD rfl (N:=["_law_game_here","_law_states","_law_board","_law_words","_law_state","_law_ways_here","_law_word","_law_other"]) (so:=aq (top 52)) (N':=["_law_word","_law_other","_law_board"]) (k:=2) (fr:=[2]) rfl rfl ⟨rfl,∅,∅,∅,rfl,∅,∅⟩ (bC (K:=K) (pv 5)) (λ_ _ _ _ _=>(di (K:=K) (n:=2) rfl (bu (aP (i:=0) (show(["_law_word","_law_other","_law_board"]:List Str).Nodup by decide +kernel) rfl (.inl rfl)) (bu (aP (i:=1) (show(["_law_word","_law_other","_law_board"]:List Str).Nodup by decide +kernel) rfl (.inl rfl)) dg)))) (λ_ _ _ _ _=>(qW (aN bY (aD au (aD bg (pv 2) (aU lX (bf bD (by rfl) T.z_len aav (aa (pv 2) af (se rfl)) (he:=se rfl) (hpl:=na rfl)) ae) (λ_ _=>rfl)) ae (λ_ _=>rfl)) aV (aX _))))
   (λ_ _ _ _ _=>(pv 0))) af (se rfl)))))))))))
  (av (aW (aY (aa (pv 2) (aa (pv 1) (aa (pv 3) af (se rfl)) (se rfl)) (se rfl))))))))),?_⟩
  refine(?_:let cO:TS:=_;let cI:TS:=_;let cJ:TS:=_;let d7:TS:=_;let qk:TS:=_;tSeq cO (tSeq cI (tSeq cJ (tSeq d7 qk))) _ _ _);intro cO cI cJ d7 qk;have sl:=sizeLine_eq;symm;obtain⟨gp,cv,pv,rfl,qq,rc,rp⟩:=bo.mp (show Rep H (.tup _) gv from rg);obtain⟨cl,ig,rfl,gq,qo⟩:=aQ.mp (show Rep H (.lst _) cv from rc);obtain⟨pl,Cp,rfl,hpl,vi⟩:=aQ.mp (show Rep H (.lst _) pv from rp);have Pz:ig.length=g.cs.length:=by have:=qo.length;rw[aak] at this;lia
  have c3:=G.c3;have gg:=G.gg;have p0:∃p0 q0 x0,Cp[0]?=some (.ref q0)/\H q0=some (.tup [.str ft,p0])/\g.ps[0]?=some x0/\x0.1=ft:=by
   cases e:g.ps with
   | nil=>rw[e] at hd;cases hd
   | cons x0 xs=>
    rw[e] at hd vi;have hx:x0.1=ft:=aaE hd;obtain⟨u,us,rfl,r1,_⟩:=aM.mp (show bq H (_::_) Cp from vi);obtain⟨q,y1,y2,rfl,hq,q1,q2⟩:=bo.mp (show Rep H (.tup _) u from r1);rw[aH.mp q1] at hq;exact⟨y2,q,x0,rfl,hx▸hq,rfl,hx⟩
  obtain⟨w0,q0,x0,e0,Rc,vj,ex1⟩:=p0;nofun;clear G_;have ir0:x8 g.cs (abu g.cs.length 0):=⟨abe,λi c e=>by rw[aa6,List.getElem?_replicate,if_pos (abn.mp e).1];exact⟨∅,G.c0 i c e⟩⟩;change tSeq _ _ _ _ _;refine aZ (λN=>∀H1 a q l,aB H H1->H a=none->H1 a=some (.lst [.ref q])->H1 q=some (.tup [.str nm,.ref l])->l≠a->H1 l=some (.lst ((abu g.cs.length 0).map V.int))->N [some (.ref gp),some (.ref a),none,none,none,none,none,none] H1) ?_ (λN hN=>?_)
  case refine_2=>
   dsimp?[vo,qq,hpl];refine⟨_,cB e0,q0,rfl,_,Rc,_,at0,⟨_,bH.of gq⟩,comp_map (src_list (Ok:=aB H) (λH' s'=>bH.of (s' _ _ gq))) (λ_ _ _ _ h=>by rw[h.1];exact aB.refl _) (by lia) (λi y H5=>y=.int 0) (λi y H5 H6 s6 h=>h) (λi x w H2 H3 Q hi s2 it kq=>kq _ _ (aB.refl _) rfl) (λys H2 s2 ly hy l n1 n2=>?_)⟩;have ey:ys=(abu g.cs.length 0).map V.int:=by
    rw[List.map_replicate];exact List.eq_replicate_iff.mpr ⟨by lia,λb hb=>by obtain⟨i,hi,rfl⟩:=List.getElem_of_mem hb;exact hy i _ (aat hi)⟩
   subst ey;have sD:=s2.trans (ai (o:=.lst ((abu g.cs.length 0).map V.int)) n2);refine⟨ft,rfl,g,rg.mono sD,gg,_,aj,abe,_,_,ak,λq H3 s3 hq=>⟨by lia,λp np=>hN _ p q l (sD.trans (s3.trans (ai np))) (none_of (sD.trans s3) np) aj (ai np _ _ hq) ?_ (ai np _ _ (s3 _ _ aj))⟩⟩;intro z;rw[<-z,s3 _ _ aj] at np;cases np
  rintro H1 a q l s1 na ha hq la hl;change tSeq _ _ _ _ _;refine aZ (λN=>∀H2 b,aB H1 H2->H1 b=none->H2 b=some (.lst [])->N [some (.ref gp),some (.ref a),some (.ref b),none,none,none,none,none] H2) ?_ (λN hN=>?_)
  case refine_2=>
   dsimp?[];exact⟨aap _,λl nl=>hN _ l (ai nl) nl aj⟩
  rintro H2 b s2 nb hb;change tSeq _ _ _ _ _;refine aZ (λN=>∀H3 c,aB H2 H3->H2 c=none->H3 c=some (.lst [])->N [some (.ref gp),some (.ref a),some (.ref b),some (.ref c),none,none,none,none] H3) ?_ (λN hN=>?_)
  case refine_2=>
   dsimp?[];exact⟨aap _,λl nl=>hN _ l (ai nl) nl aj⟩
  rintro H3 c s3 nc hc;have NW:=s2.trans s3;have ab:a≠b:=λz=>by rw[<-z,ha] at nb;cases nb
  have ac:a≠c:=λz=>by rw[<-z,s2 _ _ ha] at nc;cases nc
  have bc:b≠c:=λz=>by rw[<-z,hb] at nc;cases nc
  have lb:l≠b:=λz=>by rw[<-z,hl] at nb;cases nb
  have lc:l≠c:=λz=>by rw[<-z,s2 _ _ hl] at nc;cases nc
  have D0:tJ H H3 a b c [(nm,abu g.cs.length 0)] [] []:=by
   have n3:∀ys,ko a b c l≠some (.lst ys):=λys e=>by
    unfold ko at e;rw[aA lc,aA lb,aA la] at e;cases e
   refine⟨s1.trans NW,na,none_of s1 nb,none_of (s1.trans s2) nc,ab,ac,bc,_,_,_,NW _ _ ha,s3 _ _ hb,hc,?_,eA,eA⟩;exact cE (iJ (Ff (NW _ _ ha) (s3 _ _ hb) hc) (NW _ _ hq) bQ (aQ.mpr ⟨l,_,rfl,by rw[gw n3];exact NW _ _ hl,ints_rep _⟩)) eA
  change tSeq _ _ _ _ _;refine aZ (λN=>o=0->∀H4 z4 z5 z6 z7,tJ H H4 a b c SS (zz g SS tss) (SS.map (eK g))->N [some (.ref gp),some (.ref a),some (.ref b),some (.ref c),z4,z5,z6,z7] H4) ?_ (λN hN=>?_)
  case refine_1=>
   intro o0 H4 z4 z5 z6 z7 D;symm;obtain⟨xs,ys,zs,h1,h2,h3,r1,r2,r3⟩:=D.at_;nofun;dsimp?[];refine⟨by lia,λp H5 s5 np e5=>kk o0 _ _ (D.sm.trans s5) ?_⟩;unfold yo;exact cP.mpr ⟨p,_,_,_,rfl,e5,aQ.mpr ⟨b,ys,rfl,s5 _ _ h2,r2.rep.mono s5⟩,aQ.mpr ⟨a,xs,rfl,s5 _ _ h1,r1.rep.mono s5⟩,aQ.mpr ⟨c,zs,rfl,s5 _ _ h3,r3.rep.mono s5⟩⟩
  refine Bb (λm σ H'=>∃dn rest ss z4 z5 z6 z7,tss=dn++rest/\m=rest.length/\fW g o SS dn.length ss rest/\dn.length<=SS.length/\tJ H H' a b c ss ((SS.zip dn).map λx=>eP g SS x.1 x.2) ((SS.take dn.length).map (eK g))/\σ=[some (.ref gp),some (.ref a),some (.ref b),some (.ref c),z4,z5,z6,z7]) (m:=tss.length) ⟨[],tss,_,none,none,none,none,rfl,rfl,sp,aap _,by rw[List.zip_nil_right,aaW,List.take_zero];exact D0,rfl⟩ ?_;intro m σ H4 He;symm;obtain⟨dn,rest,ss,z4,z5,z6,z7,et,rfl,R3,ld,D,rfl⟩:=He;have tY:=R3.tY;have lss:=tY.len;have KS:∀s∈ss,qh g s:=λs hs=>by obtain⟨r,e⟩:=tY;exact sub s (by rw[e];exact List.mem_append_left _ hs)
  obtain⟨xs,ys,zs,h1,h2,h3,r1,r2,r3⟩:=id D.at_;nofun;clear G_;have lx:xs.length=ss.length:=by have:=r1.length;rw[aak] at this;lia
  have ly:ys.length=dn.length:=by have:=r2.length;rw[aak,List.length_zip] at this;lia
  have li:=D.li;refine⟨decide (dn.length<ss.length),λH'=>H'=H4,λQ kq=>by
   dsimp?[h1,h2,lx,ly];rw[show decide ((dn.length:Int)< (ss.length:Int))=decide (dn.length<ss.length) from decide_eq_decide.mpr Int.ofNat_lt];exact kq _ rfl,?_⟩
  rintro H' rfl;have cs_:(dn.length=ss.length/\o=0/\rest=[]/\ss=SS)\/∃st,ss[dn.length]?=some st/\(lH g st/\o=1\/∃ts,b6 g st ts/\(120< (aL ss (dF ts)).length->o=2)/\((aL ss (dF ts)).length<=120->∃r,rest=ts::r/\fW g o SS (dn.length+1) (aL ss (dF ts)) r)):=by
   cases rest with
   | cons ts r=>
    symm;obtain⟨st,es,_,go,KU⟩:=R3;nofun;refine .inr ⟨st,es,.inr ⟨ts,go,λz=>?_,λ_=>⟨r,rfl,KU⟩⟩⟩
    have:=KU.tY.len
    lia
   | nil=>
    symm;obtain⟨_,a0,a1,a2⟩:=R3;nofun;rcases(show o=0\/o=1\/o=2 by lia) with h | h | h
    ·exact .inl ⟨by have:=a0 h;rw[this.1];exact this.2,h,rfl,(a0 h).1⟩
    ·symm;obtain⟨st,es,_,sk⟩:=a1 h;nofun;exact .inr ⟨st,es,.inl ⟨sk,h⟩⟩
    ·symm;obtain⟨st,ts,es,_,go,l⟩:=a2 h;nofun;exact .inr ⟨st,es,.inr ⟨ts,go,λ_=>h,λz=>by lia⟩⟩
  rcases cs_ with ⟨e1,o0,rfl,rfl⟩ | ⟨st,es,cs2⟩
  ·rw[if_neg (by rw[decide_eq_true_iff];lia)];rw[aaN] at et;subst et;refine hN o0 _ _ _ _ _ ?_;unfold zz
   rwa [e1,aaA (aam _)] at D
  have gC:=(abn.mp es).1;rw[if_pos (decide_eq_true gC)];have sr:=KS _ (aar es);obtain⟨sv,Zh,LF⟩:=r1.at (i:=dn.length) (by rw[aal,es];rfl);have LF:cX (ko a b c) H' (cF st) sv:=LF;symm;obtain⟨sq,sn,nv,rfl,CI,NP,PF⟩:=bo.mp (show Rep H' (.tup _) sv from LF.rep);obtain rfl:=aH.mp NP;nofun;clear G_;have Zi:∀H5,aB H' H5->∃(rows:List (Addr×Key×V)) (kd:Str) (q:Addr) (vs:List V),bH K H5 pl (rows.map λr=>V.ref r.1)/\(∀r∈rows,gP K H5 r.1 [kV r.2.1,r.2.2])/\(rows.map (·.2.1)).Nodup/\dZ (rows.map (·.2)) (.inr st.1)=some (.ref q)/\H5 q=some (.tup (.str kd::vs))/\(kd=aaj "pick"↔∃w rs,look g.ps st.1=some (.pick w rs)):=λH5 s5=>by
   symm;obtain⟨⟨i0,x0,vj,na,es⟩,ir⟩:=id sr;have lk:=G.look vj;rw[<-es] at lk;have EN:=D.sm.trans s5;obtain⟨rows,e1,e2,e3,e4⟩:=j5 (K:=K) (vi.mono EN);obtain⟨v,ev,rv⟩:=e4 _ _ lk;obtain⟨q,vs,kd,rfl,hq,ik⟩:=NV rv;nofun;exact⟨rows,kd,q,vs,by rw[<-e1];exact bH.of (EN _ _ hpl),e2,by rw[e3];exact iI gg.np,ev,hq,by rw[ik,lk];exact⟨fun⟨w,rs,e⟩=>⟨w,rs,by rw[e]⟩,fun⟨w,rs,e⟩=>⟨w,rs,aaE e⟩⟩⟩
  have kn:Ke (.lst []):=j6 (n:=1) (d8 λd hd=>by cases hd) ∅;rcases cs2 with ⟨sk,o1⟩ | ⟨ts,go,g1,g2⟩
  ·refine yv (λ_ _=>False) (λ_ _ f=>f.elim) (λDD _ KW=>?_);have KW:DD.rt=Q:=KW;change tSeq _ _ _ _ _;refine aZ (λN=>N [some (.ref gp),some (.ref a),some (.ref b),some (.ref c),some (.ref sq),z5,z6,z7] H') ?_ (λN hN=>?_)
   case refine_2=>
    dsimp?[h1,h2,ly];exact⟨_,cB Zh,hN⟩
   change tSeq _ _ _ _ _;refine aZ (λN=>∀H5 wl,aB H' H5->H' wl=none->H5 wl=some (.lst [])->N [some (.ref gp),some (.ref a),some (.ref b),some (.ref c),some (.ref sq),some (.ref wl),z6,z7] H5) ?_ (λN hN=>?_)
   case refine_2=>
    dsimp?[A9];exact⟨g,rg.mono D.sm,st,n,G,LF.rep,sr,λ_ p H5 s5 np e5=>hN _ p s5 np e5,λts go=>absurd sk go.stuck⟩
   rintro H5 wl s5 A7 qB;change tSeq _ _ _ _ _;refine aZ (λ_=>True) trivial (λN _=>?_);refine mi (λH6=>aB H5 H6) (λ_=>False) (λH6 s6=>?_) (λ_ f=>f.elim) (λY N hY _=>?_)
   ·dsimp?[];rw[KW];exact k1 o1 _ (D.sm.trans (s5.trans s6))
   ·dsimp?[B6];refine⟨aap _,λp np=>?_⟩;have s6:=ai (o:=.lst []) np;symm;obtain⟨rows,kd,q,vs,i1,i2,i3,i4,i5,i6⟩:=Zi _ (s5.trans s6);nofun;refine⟨.lst [],aQ.mpr ⟨wl,[],rfl,s6 _ _ qB,bx.mpr rfl⟩,.lst [],aQ.mpr ⟨p,[],rfl,aj,bx.mpr rfl⟩,kn,kn,?_⟩;rw[if_pos rfl];refine⟨_,(D.sm.trans (s5.trans s6)) _ _ qq,_,at1,pl,rfl,rows,i1,i2,i3,λl nl=>⟨_,(s5.trans (s6.trans (ai nl))) _ _ CI,_,at0,_,.inl ⟨_,.inr st.1,.inl aj,rfl,i4.symm⟩,q,rfl,_,ai nl _ _ i5,_,at0,rfl,?_⟩⟩;symm;obtain⟨w,rs,lk,_⟩:=sk;nofun;rw[if_pos (congrArg V.str (i6.mpr ⟨w,rs,lk⟩))];exact hY _ (s6.trans (ai nl))
  ·refine yv (λσ' H9=>∃z4 z5 z6 z7 r,rest=ts::r/\fW g o SS (dn.length+1) (aL ss (dF ts)) r/\tJ H H9 a b c (aL ss (dF ts)) (((SS.zip dn).map λx=>eP g SS x.1 x.2)++ [eP g SS st ts]) ((SS.take dn.length).map (eK g)++ [eK g st])/\σ'=[some (.ref gp),some (.ref a),some (.ref b),some (.ref c),z4,z5,z6,z7]) ?_ (λDD RN KW=>?_)
   ·intro σ' H9 dG;symm;obtain⟨z4,z5,z6,z7,r,rfl,KU,D9,rfl⟩:=dG;nofun;have tX:SS[dn.length]?=some st:=by obtain⟨q,e⟩:=tY;rw[e,aa5 gC];exact es
    have:=(abn.mp tX).1
    refine⟨r.length,aaZ _,dn++ [ts],r,aL ss (dF ts),z4,z5,z6,z7,by rw[et,List.append_assoc];rfl,rfl,by rw[aaq];exact KU,by rw[aaq,aaH];lia,?_,rfl⟩;rw[tz tX,aaw,aaq,aaH,aaG,tX,aaw];exact D9
   have KW:DD.rt=Q:=KW;have lB:((SS.zip dn).map (λx=>eP g SS x.1 x.2)).length=dn.length:=by rw[<-ly];exact r2.length
   have lW:((SS.take dn.length).map (eK g)).length<=120:=by rw[aak,aa1];lia
   generalize (SS.zip dn).map (λx=>eP g SS x.1 x.2)=Bs at *;generalize (SS.take dn.length).map (eK g)=Ws at *;change tSeq _ _ _ _ _;refine aZ (λN=>N [some (.ref gp),some (.ref a),some (.ref b),some (.ref c),some (.ref sq),z5,z6,z7] H') ?_ (λN hN=>?_)
   case refine_2=>
    dsimp?[h1,h2,ly];exact⟨_,cB Zh,hN⟩
   change tSeq _ _ _ _ _;refine aZ (λN=>∀H5 wv,aB H' H5->cX (ko a b c) H5 (.lst (fK g st ts)) wv->N [some (.ref gp),some (.ref a),some (.ref b),some (.ref c),some (.ref sq),some wv,z6,z7] H5) ?_ (λN hN=>?_)
   case refine_2=>
    dsimp?[A9];exact⟨g,rg.mono D.sm,st,n,G,LF.rep,sr,λsk=>absurd sk go.stuck,λus FK v H5 s5 r=>hN _ _ s5 (by rw[<-Fj go FK];exact r.low li)⟩
   rintro H5 wv s5 yq;symm;obtain⟨wl,LD,rfl,qB,FJ⟩:=aQ.mp (show Rep (fy (ko a b c) H5) (.lst _) wv from yq);have D5:=D.mono s5;obtain⟨w1,w2,w3⟩:=zQ go;nofun;have kw:=KP G sr go;have lw:LD.length=ts.length:=by have:=FJ.length;lia
   have lts:=Fh G sr go;have R5:=yu G sr go;change tSeq _ _ _ _ _;refine aZ (λN=>∀H6,aB H5 H6->N [some (.ref gp),some (.ref a),some (.ref b),some (.ref c),some (.ref sq),some (.ref wl),z6,z7] H6) ?_ (λN hN=>?_)
   case refine_2=>
    refine mi (λ_=>False) (λH6=>aB H5 H6) (λ_ f=>f.elim) (λH6 s6=>hN _ s6) (λY N _ hN=>?_);dsimp?[B6];refine⟨aap _,λp np=>?_⟩;have s6:=ai (o:=.lst []) np;refine⟨.lst (fK g st ts),yq.rep.mono s6,.lst [],aQ.mpr ⟨p,[],rfl,aj,bx.mpr rfl⟩,kw,kn,?_⟩;by_cases e:fK g st ts=[]
    ·symm;obtain⟨rows,kd,q,vs,i1,i2,i3,i4,i5,i6⟩:=Zi _ (s5.trans s6);nofun;rw[if_pos ((Bj _).mpr e)];refine⟨_,(D.sm.trans (s5.trans s6)) _ _ qq,_,at1,pl,rfl,rows,i1,i2,i3,λl nl=>⟨_,(s5.trans (s6.trans (ai nl))) _ _ CI,_,at0,_,.inl ⟨_,.inr st.1,.inl aj,rfl,i4.symm⟩,q,rfl,_,ai nl _ _ i5,_,at0,rfl,?_⟩⟩;rw[if_neg (λz=>by injection z with z;obtain⟨w,rs,lk⟩:=i6.mp z;exact Hw go e w rs lk)];exact hN _ (s6.trans (ai nl))
    ·rw[if_neg (λz=>e ((Bj _).mp z)),if_neg ∅];exact hN _ s6
   rintro H6 s6;have D6:=D5.mono s6;change tSeq _ _ _ _ _;refine aZ (λN=>(aL ss (dF ts)).length<=120->∀H7 z6 z7,tJ H H7 a b c (aL ss (dF ts)) Bs Ws->aB (fy (ko a b c) H6) (fy (ko a b c) H7)->N [some (.ref gp),some (.ref a),some (.ref b),some (.ref c),some (.ref sq),some (.ref wl),z6,z7] H7) ?_ (λN hN=>?_)
   case refine_2=>
    dsimp?[];have Zj:=fg s6 _ _ qB;refine⟨⟨_,bH.of (fz _ _ Zj)⟩,b9 (src_list (Ok:=λH'=>H' wl=some (.lst LD)) (λH' e=>bH.of e)) (λi σ H7=>tJ H H7 a b c (aL ss (dF (ts.take i))) Bs Ws/\aB (fy (ko a b c) H6) (fy (ko a b c) H7)/\(aL ss (dF (ts.take i))).length<=120/\∃z6 z7,σ=[some (.ref gp),some (.ref a),some (.ref b),some (.ref c),some (.ref sq),some (.ref wl),z6,z7]) ⟨by rw[List.take_zero];exact D6,aB.refl _,by rw[List.take_zero];exact aay lss qL,_,_,rfl⟩ (λ_ _ _ _ h=>fz _ _ (h.2.1 _ _ Zj)) ?_ ?_⟩
    ·intro i xv σ H7' H7 hi fR fo;symm;obtain⟨D7,Hx,l7,z6,z7,rfl⟩:=fR;obtain⟨rfl,NT⟩:=fo;obtain⟨dd,ed,zP⟩:=FJ.get NT;obtain⟨y,e,ey,rfl,_,_⟩:=w2 i dd ed;obtain⟨q,u1,u2,rfl,hq,Fd,Bh⟩:=bo.mp (show Rep _ (.tup _) xv from zP);nofun;have Fk:=(fg (G:=ko a b c) s6).trans Hx;have Bh:cX (ko a b c) H7 (cF y.2) u2:=Rep.mono Fk Bh;have hy:=R5 y.2 (abo.mpr ⟨y,aar ey,rfl⟩);refine⟨q,_,rfl,gP.of (fz _ _ (Fk _ _ hq)),rfl,?_⟩;symm;obtain⟨PN,R6,zs7,IJ,LG,NX,q1,q2,q3⟩:=id D7.at_;nofun;have lx7:PN.length=(aL ss (dF (ts.take i))).length:=by have:=q1.length;rw[aak] at this;lia
     have R7:∀e∈(aL ss (dF (ts.take i))).map cF,Ke e:=λe he=>by
      symm;obtain⟨s,hs,rfl⟩:=abo.mp he;nofun;refine tH (qh.hs G ?_);rcases fe.mp hs with h | h
      ·exact KS s h
      ·symm;obtain⟨x,hx,rfl⟩:=abo.mp h;nofun;exact R5 _ (abo.mpr ⟨x,List.mem_of_mem_take hx,rfl⟩)
     have sn:=Fi ey;have le:=CA (ss:=ss) (ts:=ts) (i:=i+1);dsimp?[Mz];refine⟨_,IJ,_,q1.rep,R7,cF y.2,Bh.rep,tH (hy.hs G),?_⟩;rw[sn,jt] at le ⊢;unfold fQ at le ⊢;by_cases m:y.2∈aL ss (dF (ts.take i))
     ·rw[if_pos m];rw[if_neg (λz=>z (Bi.mpr m))];exact⟨D7,Hx,l7,_,rfl⟩
     ·rw[if_neg m] at le ⊢;rw[aaq,aaH] at le;rw[if_pos (λz=>m (Bi.mp z))];refine⟨_,IJ,?_⟩;by_cases e:PN.length=120
      ·rw[if_pos (by lia),KW];exact k2 (g1 (by lia)) _ D7.sm
      ·rw[if_neg (by lia)];refine⟨.inl ⟨rfl,_,bH.of IJ⟩,?_⟩;unfold cZ;exact⟨a,_,u2,rfl,rfl,IJ,by lia,D7.RY IJ Bh,by rw[nY (.inl rfl)];exact Hx,by rw[aaq,aaH];lia,_,rfl⟩
    ·intro σ H7 dG;symm;obtain⟨D7,Hx,l7,z6,z7,rfl⟩:=dG;nofun;rw[lw,aaA (aam _)] at D7 l7;exact hN l7 _ _ _ D7 Hx
   rintro l7 H7 z6 z7 D7 Hx;symm;obtain⟨r,er,KU⟩:=g2 l7;nofun;have Fk:=(fg (G:=ko a b c) s6).trans Hx;have aag:=fz _ _ (Fk _ _ qB);change tSeq _ _ _ _ _;have a7:o9 (aL ss (dF ts)) SS:=KU.tY;have Zk:∀t∈dF ts,t∈aL ss (dF ts):=λt ht=>fe.mpr (.inr ht);refine aZ (λN=>∀H8,tJ H H8 a b c (aL ss (dF ts)) (Bs++ [eP g SS st ts]) Ws->aB (fy (ko a b c) H6) (fy (ko a b c) H8)->N [some (.ref gp),some (.ref a),some (.ref b),some (.ref c),some (.ref sq),some (.ref wl),z6,z7] H8) ?_ (λN hN=>?_)
   case refine_2=>
    symm;obtain⟨PN,R6,zs7,IJ,LG,NX,q1,q2,q3⟩:=id D7.at_;nofun;dsimp?[cZ,E1];have lB7:R6.length=Bs.length:=by have:=q2.length;lia
    refine⟨.inl ⟨rfl,_,bH.of LG⟩,g,rg.mono D7.sm,st,ts,aL ss (dF ts),n,G,cX.rep (G:=ko a b c) (Rep.mono ((fg (s5.trans s6)).trans Hx) LF),sr,go,cX.rep (G:=ko a b c) (Rep.mono Fk yq),aQ.mpr ⟨a,PN,rfl,IJ,q1.rep⟩,l7,Zk,λs hs=>?_,λv H8 s8 r8=>⟨R6,s8 _ _ LG,by lia,hN _ ?_ ?_⟩⟩
    ·rcases fe.mp hs with h | h
     ·exact(KS s h).hs G
     ·exact(R5 s h).hs G
    ·rw[Fg a7 Zk] at r8;exact(D7.mono s8).RZ (s8 _ _ LG) (r8.low D7.li)
    ·rw[nY (.inr (.inl rfl))];exact Hx.trans (fg s8)
   rintro H8 D8 sh8;symm;obtain⟨xs8,ys8,Zl,IJ,LG,NX,q1,q2,q3⟩:=id D8.at_;have NY:=(fg (G:=ko a b c) s6).trans sh8;have NZ:=fz _ _ (NY _ _ qB);obtain⟨L,eL,Lp,Ln⟩:=words_of go;nofun;have ly8:ys8.length=Bs.length+1:=by have:=q2.length;rw[aaq,aaH] at this;lia
   have lz8:Zl.length=Ws.length:=by have:=q3.length;lia
   obtain⟨pv,epv,rpv⟩:=q2.at (i:=Bs.length) (d:=eP g SS st ts) (by rw[aba (aam _),Nat.sub_self];rfl);symm;obtain⟨pq,aah,kd,rfl,hpq,ik⟩:=KQ go (cX.rep (G:=ko a b c) rpv);nofun;dsimp?[cZ];refine⟨.inl ⟨rfl,_,bH.of NX⟩,⟨_,bH.of NZ⟩,oM (src_list (Ok:=aB H8) (λH' s'=>bH.of (s' _ _ NZ))) (λσ=>∃w0 w1,σ=[w0,w1,some (.ref b)]) ⟨_,_,rfl⟩ (λi ys H9=>H9=H8/\ys=(L.take i).map V.str) ⟨rfl,by rw[List.take_zero];rfl⟩ (by lia) ?_ ?_⟩
   ·intro i xv σ H9 ys9 H9' Q' N' hi sm Kt _ R8 R9 kq kn';symm;obtain⟨rfl,rfl⟩:=Kt;obtain⟨w0,w1,rfl⟩:=R8;obtain⟨rfl,NT⟩:=R9;obtain⟨dd,ed,zP⟩:=FJ.get NT;obtain⟨y,e,ey,rfl,_,ew⟩:=w2 i dd ed;obtain⟨q,u1,u2,rfl,hq,Fd,Bh⟩:=bo.mp (show Rep _ (.tup _) xv from zP);nofun;refine⟨q,_,rfl,gP.of (fz _ _ (NY _ _ hq)),rfl,?_⟩;dsimp?[LG,ly8];rw[show((Bs.length+1:Nat):Int) - 1=(Bs.length:Int) by lia];refine⟨_,cB epv,pq,rfl,_,hpq,_,at0,rfl,?_⟩;by_cases c1:∃w rs,look g.ps st.1=some (.pick w rs)
    ·rw[if_pos (congrArg V.str (ik.mpr c1))];symm;obtain⟨w,rs,lk⟩:=c1;obtain⟨r,Co,rfl⟩:=ew w rs lk;obtain rfl:=aH.mp Fd;nofun;refine kq _ _ _ ⟨_,_,rfl⟩ (aB.refl _) ⟨rfl,?_⟩;rw[aaG,Lp w rs lk,aal,Co,aaw]
     rfl
    ·rw[if_neg (λz=>by injection z with z;exact c1 (ik.mp z))];refine kn' _ _ ⟨_,_,rfl⟩ (aB.refl _) ⟨rfl,?_⟩;rw[Ln (λw rs e=>c1 ⟨w,rs,e⟩),List.take_nil,List.take_nil]
   ·rintro ys9 H9 s9 ⟨rfl,rfl⟩ _ p n1 n2;have lL:L.length<=LD.length:=by
     by_cases c1:∃w rs,look g.ps st.1=some (.pick w rs)
     ·symm;obtain⟨w,rs,lk⟩:=c1;nofun;rw[Lp w rs lk,aak,w3 w rs lk,lw];exact aam _
     ·rw[Ln (λw rs e=>c1 ⟨w,rs,e⟩)];exact aap _
    rw[aaA lL];have Lk:=ai (o:=.lst (L.map V.str)) n1;refine⟨Zl,Lk _ _ NX,by lia,RN _ _ ⟨_,_,_,_,r,er,KU,(D8.mono Lk).R1 (Lk _ _ NX) ?_,rfl⟩⟩;rw[eL];exact gN (D8.no n1) aj (tE _)
theorem nZ:bj ["_law_game_here","error","_law_found"] ["_law_game_here"] (aq (top 53)):=⟨rfl,rfl,rfl,∅,rfl,∅,∅⟩
theorem Hy (T:Txt K mg aG aI aJ aE aK ag aF):dj P w K mg base (bL P w) 11 "_law_told" ["_law_game_here"] Ba:=by
 have Fl:dj P w K mg base (bL P w) 10 "spread" ["game"] (zB aK aE):=KC T;refine T.xQ.fE (λ_ _ _ _ _ _=>hZ λ_=>rfl) λf fd F=>F.gQ nZ (λvs H Q E h=>?_) (λcw A outer s H vs Q E hr h=>?_)
 ·obtain⟨_,_,_,_,_,_,_,_,rfl,_⟩:=h;rfl
 ·symm;obtain⟨gv,g,ft,nm,fu,o,SS,tss,rfl,rg,gg,hd,ak,Lu,o2,sp,qL,k1,k2,kk⟩:=h;nofun;have nd:=nZ.nd;refine⟨_,(ao (GL (i:=1) Fl (hr.mono ∅) rfl (aa (pv 0) af (se rfl)) rfl rfl rfl T.k_LuckError nd rfl rfl (λad=>(av (aS (i:=2) nd rfl (.inl rfl) (pv 1)))) (he:=se rfl) (hpl:=na rfl))
  (ao (bF (aN bY (bf (oP (K:=K)) (by rfl) T.z_isinstance rfl (aa (pv 2) (aa (qN (v:=V.ref _) rfl T.k_NoWay rfl) af (se rfl)) (se rfl)) (he:=se rfl) (hpl:=na rfl)) (bf (oP (K:=K)) (by rfl) T.z_isinstance rfl (aa (pv 2) (aa (qN (v:=V.ref _) rfl T.k_TooMany rfl) af (se rfl)) (se rfl)) (he:=se rfl) (hpl:=na rfl)) (aX _)) (av (aW aV))
   br)
  (av (aW (aD bg (bK (aa aV (aa aV af (se rfl)) (se rfl))) (cf mn (by rfl) T.z_int rfl (aa (bf (oP (K:=K)) (by rfl) T.z_isinstance rfl (aa (pv 2) (aa (qN (v:=V.ref _) rfl T.k_NoWay rfl) af (se rfl)) (se rfl)) (he:=se rfl) (hpl:=na rfl)) af (se rfl)) (he:=se rfl) (hpl:=na rfl)) (λ_ _=>rfl)))))),?_⟩
  refine(?_:let cO:TS:=_;let cI:TS:=_;let cJ:TS:=_;tSeq cO (tSeq cI cJ) _ _ _);intro cO cI cJ;have sl:=sizeLine_eq;change tSeq _ _ _ _ _;refine aZ (λN=>∀q ad H1,(o=1/\q=aK\/o=2/\q=aE)->aB H H1->H1 ad=some (JE ad (.ref q))->N [some gv,none,some (.ref ad)] H1) ?_ (λN hN=>?_)
  case refine_2=>
   dsimp?[Ic,Md,zB];exact⟨g,rg,gg,_,hd,nm,fu,ak,Lu,o,o2,SS,tss,sp,qL,λo1 H1 s1=>⟨T.e_NoWay_LuckError,λad Ms=>hN _ ad _ (.inl ⟨o1,rfl⟩) (s1.trans (ai Ms)) aj⟩,λo2 H1 s1=>⟨T.e_TooMany_LuckError,λad Ms=>hN _ ad _ (.inr ⟨o2,rfl⟩) (s1.trans (ai Ms)) aj⟩,kk⟩
  rintro q ad H1 hq s1 LH;change tSeq _ _ _ _ _;refine aZ (λN=>N [some gv,none,some (.ref ad)] H1) ?_ (λN hN=>?_)
  case refine_2=>
   refine c6 (λY N k=>?_) hN;dsimp?[];rcases hq with ⟨_,rfl⟩ | ⟨_,rfl⟩
   ·refine⟨_,LH,T.vT,_,rfl,_,T.i_NoWay_NoWay,_,LH,T.vT,_,rfl,_,T.n_NoWay_TooMany,?_⟩;rw[if_neg ∅];exact k
   ·refine⟨_,LH,T.oW,_,rfl,_,T.n_TooMany_NoWay,_,LH,T.oW,_,rfl,_,T.i_TooMany_TooMany,?_⟩;rw[if_neg ∅];exact k
  dsimp?[];rcases hq with ⟨o1,rfl⟩ | ⟨o2,rfl⟩
  ·exact⟨by lia,λp np=>⟨_,ai np _ _ LH,T.vT,_,rfl,_,T.i_NoWay_NoWay,_,aj,_,rfl,k1 o1 _ (s1.trans (ai np))⟩⟩
  ·exact⟨by lia,λp np=>⟨_,ai np _ _ LH,T.oW,_,rfl,_,T.n_TooMany_NoWay,_,aj,_,rfl,k2 o2 _ (s1.trans (ai np))⟩⟩
theorem Fm:bj ["_law_script","_law_game_here","_law_due_here","_law_handed","_law_found","_law_part","_law_name","_law_numbers"] ["_law_script"] (aq (top 54)):=⟨rfl,rfl,rfl,∅,rfl,∅,∅⟩
theorem N0 {g:Gm} {n:Nat} (G:ie g n) {d:Dd} (h:qI g.cs d):Kx 1 (xT d):=by
 cases d with
 | set a k=>exact uw (bP ∅) (bP (G.hc h.1)) (b8 _)
 | plus a k=>exact uw (bP ∅) (bP (G.hc h.1)) (b8 _)
 | face a=>exact jA (bP ∅) (bP (G.hc h))
 | move a b=>exact uw (bP ∅) (bP (G.hc h.1)) (bP (G.hc h.2.1))
theorem Fn {g:Gm} {n:Nat} (G:ie g n) {ds:List Dd} (h:nJ g.cs ds):Kx 2 (.lst (ds.map xT)):=d8 λd hd=>by
 obtain⟨x,hx,rfl⟩:=abo.mp hd;exact N0 G (h.2 x hx)
theorem yx {n:Nat} {to:Str} (h:mF n to):dQ (.str to)=true:=by
 obtain⟨j,_,e⟩:=h;exact Ey.2 _ (aar e)
theorem N2 {ps:List Pt} (h:ps∈zv):Kx 2 (.lst (ps.map vV)):=d8 λd hd=>by
 obtain⟨x,hx,rfl⟩:=abo.mp hd;cases x with
 | num n=>exact jA (bP ∅) (b8 _)
 | fB m s=>exact uw (bP ∅) (b8 _) (b8 _)
 | hits m k s=>exact EU (bP ∅) (b8 _) (b8 _) (b8 _)
 | again m s=>exact uw (bP ∅) (b8 _) (b8 _)
theorem N4 {g:Gm} {n:Nat} (G:ie g n) {wh:Option (Str×Str×Int)} (h:MJ g.cs wh):Kx 2 (Ig wh):=by
 cases wh with
 | none=>exact ET
 | some x=>
  obtain⟨a,b,k⟩:=x;obtain⟨h1,h2⟩:=h a b k rfl;exact uw (bP (G.hc h1)) (bP h2) (b8 _)
theorem N5 {g:Gm} {n i:Nat} (G:ie g n) {x:Wt} (h:Ez g.cs n i x):Kx 5 (qH x):=by
 cases x with
 | ask c k a b=>
  obtain⟨h1,⟨j,_,l1,e1⟩,⟨k,_,l2,e2⟩⟩:=h;refine wB (n:=4) λd hd=>?_;rcases aaR.mp hd with rfl | hd
  ·exact bP ∅
  rcases aaR.mp hd with rfl | hd
  ·exact bP (G.hc h1)
  rcases aaR.mp hd with rfl | hd
  ·exact b8 _
  rcases aaR.mp hd with rfl | hd
  ·exact bP (yx ⟨j,l1,e1⟩)
  ·rw[abp.mp hd];exact bP (yx ⟨k,l2,e2⟩)
 | fin t b=>exact jA (bP ∅) (jA (n:=3) (b8 _) (b8 _))
 | score c=>exact jA (bP ∅) (bP (G.hc h))
 | pick w rs=>
  refine uw (bP ∅) (b8 _) (d8 (n:=3) λd hd=>?_);rw[aaM] at hd;obtain⟨r,hr,rfl⟩:=abo.mp hd;obtain⟨a1,a2,a3,a4⟩:=h.2 r hr;exact EU (bP a3) (N4 G a4) (Fn G a1) (bP (yx a2))
 | fH fP t b rs=>
  obtain⟨ps,cut,d1,t1,d2,t2,rfl,hp,c1,c2,rfl,k1,k2,o1,o2⟩:=h;refine EU (bP ∅) (j6 (N2 hp) ∅) (jA (n:=3) (b8 _) (b8 _)) (d8 (n:=3) λd hd=>?_);rcases aaR.mp hd with rfl | hd
  ·exact EU (b8 _) (b8 _) (Fn G k1) (bP (yx o1))
  ·rw[abp.mp hd];exact EU (b8 _) (b8 _) (Fn G k2) (bP (yx o2))
theorem N6 {g:Gm} {n:Nat} (G:ie g n):Ke (CF g):=by
 refine jA (n:=7) (d8 (n:=6) λd hd=>?_) (d8 (n:=6) λd hd=>?_)
 ·obtain⟨c,hc,rfl⟩:=abo.mp hd;exact jA (bP (G.hc (abo.mpr ⟨c,hc,rfl⟩))) (b8 _)
 ·obtain⟨p,hp,rfl⟩:=abo.mp hd;obtain⟨i,hi,ei⟩:=List.getElem_of_mem hp;have ex:g.ps[i]?=some p:=by rw[aat hi,ei]
  exact jA (bP (G.Pc ex)) (N5 G (G.pn i p ex).2)
theorem KY {g:Gm} {SS:List bV} {st:bV} {ts:List (Int×bV)}:Kx 3 (eP g SS st ts):=by
 unfold eP vZ;cases look g.ps st.1 with
 | none=>exact ET
 | some x=>cases x with
  | fH p t b rs=>
   refine uw (bP ∅) (jA (n:=1) (b8 _) (b8 _)) (d8 (n:=1) λd hd=>?_);obtain⟨y,_,rfl⟩:=abo.mp hd;exact jA (b8 _) (b8 _)
  | pick w rs=>
   refine uw (bP ∅) (b8 _) (d8 (n:=1) λd hd=>?_);obtain⟨y,_,rfl⟩:=abo.mp hd;exact b8 _
  | _=>exact jA (bP ∅) (jA (n:=1) (b8 _) (b8 _))
theorem Fo {g:Gm} {n:Nat} (G:ie g n) {st:bV} (sr:qh g st):Kx 1 (eK g st):=by
 obtain⟨⟨i0,x0,vj,na,es⟩,ir⟩:=id sr;have lk:=G.look vj;rw[<-es] at lk;have pk:=(G.pn i0 x0 vj).2;unfold eK;rw[lk];refine d8 λd hd=>?_;obtain⟨r,hr,rfl⟩:=abo.mp hd;show Kx 0 (.str r.word);cases hx:x0.2 with
 | pick w rs=>
  rw[hx] at hr pk;exact bP (pk.2 r (List.mem_filter.mp hr).1).2.2.1
 | _=>rw[hx] at hr;cases hr
theorem KZ {g:Gm} {n:Nat} (G:ie g n) {SS:List bV} {tss:List (List (Int×bV))} (sub:∀s∈SS,qh g s):Ke (yo g SS tss):=by
 refine j6 (n:=5) (uw (d8 (n:=3) λd hd=>?_) (d8 (n:=3) λd hd=>?_) (d8 (n:=3) λd hd=>?_)) ∅
 ·obtain⟨x,_,rfl⟩:=abo.mp hd;exact KY
 ·obtain⟨s,hs,rfl⟩:=abo.mp hd;exact jA (bP ((sub s hs).hs G)) (d8 (n:=1) λd hd=>by obtain⟨k,_,rfl⟩:=abo.mp hd;exact b8 _)
 ·obtain⟨s,hs,rfl⟩:=abo.mp hd;exact j6 (Fo G (sub s hs)) ∅
noncomputable def Fp (g:Gm) (o:Nat) (SS:List bV) (tss:List (List (Int×bV))):Dat:=match o with
 | 0=>yo g SS tss
 | 1=>.str "noway"
 | _=>.str "many"
theorem K0 {g:Gm} {n o:Nat} (G:ie g n) {SS:List bV} {tss:List (List (Int×bV))} (sub:∀s∈SS,qh g s):Ke (Fp g o SS tss):=by
 unfold Fp;split
 ·exact KZ G sub
 ·exact Ho ∅
 ·exact Ho ∅
theorem Bk {g:Gm} {SS:List bV} {tss:List (List (Int×bV))} {Fr:Addr->Prop} {H':Hp} {p b l wl:Addr} {bs xs ws:List V} (hp:H' p=some (.tup [.ref b,.ref l,.ref wl])) (hb:H' b=some (.lst bs)) (rb:bq H' (zz g SS tss) bs) (hl:H' l=some (.lst xs)) (al:Al (λs v=>zx Fr H' v s.1 s.2) SS xs) (hw:H' wl=some (.lst ws)) (BE:bq H' (SS.map (eK g)) ws):Rep H' (yo g SS tss) (.ref p):=by
 unfold yo;refine cP.mpr ⟨p,_,_,_,rfl,hp,aQ.mpr ⟨b,bs,rfl,hb,rb⟩,aQ.mpr ⟨l,xs,rfl,hl,Al.Cc (al.imp λs v h=>?_)⟩,aQ.mpr ⟨wl,ws,rfl,hw,BE⟩⟩;obtain⟨a,l2,rfl,h1,h2,_⟩:=h;exact bo.mpr ⟨a,_,_,rfl,h1,aH.mpr rfl,aQ.mpr ⟨l2,_,rfl,h2,ints_rep _⟩⟩
theorem K2 (T:Txt K mg aG aI aJ aE aK ag aF) {f:Addr} {fd:FuncData} (F:zc K "law" "law" (top 54) f fd):gn P w K mg base (bL P w) 12 f fd ["_law_script"] (A5 K):=by
 have yA:dj P w K mg base (bL P w) 4 "_law_game" ["_law_script"] (EY K):=NK T;have zR:dj P w K mg base (bL P w) 3 "_law_due" ["_law_game_here"] E2:=KR T;have qz:dj P w K mg base (bL P w) 11 "_law_told" ["_law_game_here"] Ba:=Hy T;refine F.gQ Fm (λvs H Q E h=>?_) (λcw A outer s H vs Q E hr h=>?_)
 ·obtain⟨_,_,rfl,_⟩:=h;rfl
 ·symm;obtain⟨sa,ns,rfl,hS,l63,kk⟩:=h;nofun;clear G_;have nd:=Fm.nd;refine⟨_,(ao (aS (i:=1) nd rfl (.inl rfl) (bw yA (hr.mono ∅) rfl aO.pass (aa (pv 0) af (se rfl)) (he:=se rfl) (hpl:=na rfl)))
  (ao (aS (i:=2) nd rfl (.inl rfl) (bw zR (hr.mono ∅) rfl aO.pass (aa (pv 1) af (se rfl)) (he:=se rfl) (hpl:=na rfl)))
  (ao (aS (i:=3) nd rfl (.inl rfl) (aY (aa (cf (dP (K:=K)) (by rfl) T.z_list rfl (aa (aD au (pv 1) ae (λ_ _=>rfl)) af (se rfl)) (he:=se rfl) (hpl:=na rfl)) (aa (cf (dP (K:=K)) (by rfl) T.z_list rfl (aa (aD au (pv 1) ae (λ_ _=>rfl)) af (se rfl)) (he:=se rfl) (hpl:=na rfl)) af (se rfl)) (se rfl))))
  (ao (aS (i:=4) nd rfl (.inl rfl) (bw qz (hr.mono ∅) rfl aO.pass (aa (pv 3) af (se rfl)) (he:=se rfl) (hpl:=na rfl)))
  (ao (bF (PW.pt (pw_or (aN (DY hr.units) (pv 4) (pv 2) (aX _)) (pw_or1 (aN (DY hr.units) (pv 3) (pv 1) (aX _))))) (av (aW lq))
   br)
  (ao (bF (yL (rL (bf (oO (K:=K)) (by rfl) T.z_isinstance rfl (aa (pv 4) (aa (vv (v:=V.ty "tuple") rfl T.z_tuple rfl rfl) af (se rfl)) (se rfl)) (he:=se rfl) (hpl:=na rfl)))) (av (aW lq))
   br)
  (ao (cV PassesOwn.never rfl (Gu (K:=K) (pv 4)) (aP (i:=5) nd rfl (.inl rfl)) (av (bF (yL (rL (bf (oO (K:=K)) (by rfl) T.z_isinstance rfl (aa (pv 5) (aa (vv (v:=V.ty "list") rfl T.z_list rfl rfl) af (se rfl)) (se rfl)) (he:=se rfl) (hpl:=na rfl)))) (av (aW lq))
   br)))
  (ao (cV PassesOwn.never rfl (bC (K:=K) (aD au (pv 4) ae (λ_ _=>rfl))) (di (K:=K) (n:=2) rfl (bu (aP (i:=6) nd rfl (.inl rfl)) (bu (aP (i:=7) nd rfl (.inl rfl)) dg))) (ao (bF (yL (rL (bf (oO (K:=K)) (by rfl) T.z_isinstance rfl (aa (pv 7) (aa (vv (v:=V.ty "list") rfl T.z_list rfl rfl) af (se rfl)) (se rfl)) (he:=se rfl) (hpl:=na rfl)))) (av (aW lq))
   br)
  (av (bR (dY aaD aaI aaJ cm.r (pv 7) (aa ae af (se rfl)))))))
  (ao (bR (C7 aaD PySem.F.slot_list_reverse PySem.F.type_list_reverse za.r (aD au (pv 4) ae (λ_ _=>rfl))))
  (ao (bR (C7 aaD PySem.F.slot_list_clear PySem.F.type_list_clear Dc.r (aD au (pv 4) ae (λ_ _=>rfl))))
  (av (aW (iQ (DX hr.units) (bw qz (hr.mono ∅) rfl aO.pass (aa (pv 1) af (se rfl)) (he:=se rfl) (hpl:=na rfl)) (pv 2) (aX _)))))))))))))),?_⟩
  refine(?_:let cO:TS:=_;let cI:TS:=_;let cJ:TS:=_;let d7:TS:=_;let qk:TS:=_;let yd:TS:=_;let EI:TS:=_;let ID:TS:=_;let Zm:TS:=_;let Zn:TS:=_;let N7:TS:=_;tSeq cO (tSeq cI (tSeq cJ (tSeq d7 (tSeq qk (tSeq yd (tSeq EI (tSeq ID (tSeq Zm (tSeq Zn N7))))))))) _ _ _);intro cO cI cJ d7 qk yd EI ID Zm Zn N7;have sl:=sizeLine_eq;change tSeq _ _ _ _ _;refine aZ (λN=>∀v g n H1,aB H H1->ie g n->Rep H1 (CF g) v->N [some (.ref sa),some v,none,none,none,none,none,none] H1) ?_ (λN hN=>?_)
  case refine_2=>
   dsimp?[EY];exact⟨ns,hS,λv g n H1 s1 G rg=>hN v g n H1 s1 G rg⟩
  rintro gv g n H1 s1 G rg;have gg:=G.gg;symm;obtain⟨ft,nm,fu,o,SS,tss,hd,ak,Lu,o2,sp,qL,ndp,sub⟩:=G.out;have kg:=N6 G;have kr:=K0 (o:=o) (tss:=tss) G sub;obtain⟨gp,cv,pv,rfl,qq,rc,rp⟩:=bo.mp (show Rep H1 (.tup _) gv from rg);obtain⟨cl,ig,rfl,gq,qo⟩:=aQ.mp (show Rep H1 (.lst _) cv from rc);obtain⟨pl,Cp,rfl,hpl,vi⟩:=aQ.mp (show Rep H1 (.lst _) pv from rp);nofun;clear G_;change tSeq _ _ _ _ _;refine aZ (λN=>∀H2 dv,aB H1 H2->Rep H2 (Fp g o SS tss) dv->N [some (.ref sa),some (.ref gp),some dv,none,none,none,none,none] H2) ?_ (λN hN=>?_)
  case refine_2=>
   dsimp?[E2];exact⟨g,rg,n,G,ft,hd,nm,fu,ak,o,SS,tss,sp,o2,qL,sub,λe H' s=>hN _ _ s (by subst e;exact aH.mpr rfl),λe H' s=>hN _ _ s (by subst e;exact aH.mpr rfl),λe v H' s r=>hN _ _ s (by subst e;exact r)⟩
  rintro H2 dv s2 PM;change tSeq _ _ _ _ _;refine aZ (λN=>∀H3 hv,aB H2 H3->Rep H3 (CF g) hv->N [some (.ref sa),some (.ref gp),some dv,some hv,none,none,none,none] H3) ?_ (λN hN=>?_)
  case refine_2=>
   dsimp?[s2 _ _ qq];exact⟨ig,.inl (bH.of (s2 _ _ gq)),λl nl=>⟨_,ai nl _ _ (s2 _ _ qq),_,at1,pl,rfl,Cp,.inl (bH.of (ai nl _ _ (s2 _ _ hpl))),λl1 PQ=>⟨by lia,λp H3 s3 np e3=>hN _ _ ((ai nl).trans ((ai PQ).trans s3)) (bo.mpr ⟨p,_,_,rfl,e3,aQ.mpr ⟨l,_,rfl,s3 _ _ (ai PQ _ _ aj),qo.mono (s2.trans ((ai nl).trans ((ai PQ).trans s3)))⟩,aQ.mpr ⟨l1,_,rfl,s3 _ _ aj,vi.mono (s2.trans ((ai nl).trans ((ai PQ).trans s3)))⟩⟩)⟩⟩⟩
  rintro H3 hv s3 Zo;change tSeq _ _ _ _ _;refine aZ (λN=>∀H4 fv,aB H3 H4->Rep H4 (Fp g o SS tss) fv->(o=0->∃p b l wl bs xs ws,fv=.ref p/\H3 b=none/\H3 wl=none/\H4 p=some (.tup [.ref b,.ref l,.ref wl])/\H4 b=some (.lst bs)/\H4 l=some (.lst xs)/\Al (λs v=>zx (λa=>H3 a=none/\a≠b/\a≠l) H4 v s.1 s.2) SS xs/\H4 wl=some (.lst ws))->N [some (.ref sa),some (.ref gp),some dv,some hv,some fv,none,none,none] H4) ?_ (λN hN=>?_)
  case refine_2=>
   dsimp?[Ba];exact⟨g,Zo,gg,ft,hd,nm,fu,ak,Lu,o,o2,SS,tss,sp,qL,λe H' s=>hN _ _ s (by subst e;exact aH.mpr rfl) (λz=>by lia),λe H' s=>hN _ _ s (by subst e;exact aH.mpr rfl) (λz=>by lia),λe p b l wl bs xs ws H' s nb A7 hp hb rb wf hl al qB rws=>hN _ _ s (by subst e;exact Bk hp hb rb hl al qB rws) (λ_=>⟨p,b,l,wl,bs,xs,ws,rfl,nb,A7,hp,hb,hl,al,qB⟩)⟩
  rintro H4 fv s4 N8 hf;change tSeq _ _ _ _ _;have Zp:=s3.trans s4;have Iy:=s2.trans Zp;refine aZ (λN=>N [some (.ref sa),some (.ref gp),some dv,some hv,some fv,none,none,none] H4) ?_ (λN hN=>?_)
  case refine_2=>
   refine c6 (λY N k=>?_) hN;dsimp?[B6];refine⟨_,N8,_,PM.mono Zp,kr,kr,?_⟩;rw[if_neg (by simp)];refine⟨_,Zo.mono s4,_,rg.mono Iy,kg,kg,?_⟩;rw[if_neg (by simp)];exact k
  change tSeq _ _ _ _ _;by_cases o0:o=0
  case neg=>
   refine aZ (λ_=>True) trivial (λN _=>?_);have hs:∃x,fv=.str x:=by
    unfold Fp at N8;split at N8
    ·exact absurd rfl o0
    ·exact⟨_,aH.mp N8⟩
    ·exact⟨_,aH.mp N8⟩
   obtain⟨x,rfl⟩:=hs;refine dE (λY N k=>?_) ?_
   ·dsimp?[];exact⟨_,jg.str _,_,Gb (t:="str") (c:="tuple") (b:=false),by rw[if_pos rfl];exact k⟩
   ·dsimp?[];exact kk _
  subst o0;symm;obtain⟨p,b,l,wl,bs,xs,ws,rfl,nb,A7,hp,hb,hl,al,qB⟩:=hf rfl;nofun;clear G_;clear hf;refine aZ (λN=>N [some (.ref sa),some (.ref gp),some dv,some hv,some (.ref p),none,none,none] H4) ?_ (λN hN=>?_)
  case refine_2=>
   refine c6 (λY N k=>?_) hN;dsimp?[];exact⟨_,jg.tup hp,_,JA,by rw[if_neg ∅];exact k⟩
  change tSeq _ _ _ _ _;refine aZ (λN=>∀z,N [some (.ref sa),some (.ref gp),some dv,some hv,some (.ref p),z,none,none] H4) ?_ (λN hN=>?_)
  case refine_2=>
   dsimp?[];refine⟨⟨_,gP.of hp⟩,b9 (Gr (Ok:=λH'=>H'=H4) (λH' k=>by rw[k];exact gP.of hp)) (λi σ H'=>H4=H'/\∃z,σ=[some (.ref sa),some (.ref gp),some dv,some hv,some (.ref p),z,none,none]) ⟨rfl,_,rfl⟩ (λ_ _ _ _ h=>h.1.symm) ?_ ?_⟩
   ·intro i x σ Y9 H5 hi fR fo;symm;obtain⟨rfl,z,rfl⟩:=fR;obtain⟨rfl,ex⟩:=fo;have hx:∃(b:Addr) (y:List V),x=.ref b/\H5 b=some (.lst y):=by
     match i,ex with
     | 0,ex=>cases ex;exact⟨_,_,rfl,hb⟩
     | 1,ex=>cases ex;exact⟨_,_,rfl,hl⟩
     | 2,ex=>cases ex;exact⟨_,_,rfl,qB⟩
    obtain⟨b,y,rfl,hb⟩:=hx;nofun;dsimp?[];exact⟨_,jg.lst hb,_,Dj,by rw[if_neg ∅];exact⟨_,rfl⟩⟩
   ·intro σ H5 dG;symm;obtain⟨rfl,z,rfl⟩:=dG;nofun;exact hN _
  intro z;change tSeq _ _ _ _ _;refine aZ (λN=>∀H5 ws z6 z7,aB H3 H5->H5 p=some (.tup [.ref b,.ref l,.ref wl])->H5 b=some (.lst bs)->H5 wl=some (.lst ws)->N [some (.ref sa),some (.ref gp),some dv,some hv,some (.ref p),z,z6,z7] H5) ?_ (λN hN=>?_)
  case refine_2=>
   dsimp?[hp];refine⟨⟨_,bH.of hl⟩,b9 (src_list (Ok:=λH'=>H' l=some (.lst xs)) (λH' e=>bH.of e)) (λi σ H'=>aB H3 H'/\H' p=some (.tup [.ref b,.ref l,.ref wl])/\H' b=some (.lst bs)/\H' l=some (.lst xs)/\(∃ws,H' wl=some (.lst ws))/\(∀(j:Nat) v,xs[j]?=some v->∃a ll nm ys,v=.ref a/\H' a=some (.tup [.str nm,.ref ll])/\H' ll=some (.lst ys)/\ys.length<=3+i/\H3 ll=none/\ll≠b/\ll≠l)/\∃z6 z7,σ=[some (.ref sa),some (.ref gp),some dv,some hv,some (.ref p),z,z6,z7]) ⟨s4,hp,hb,hl,⟨_,qB⟩,λj v ev=>?_,_,_,rfl⟩ (λ_ _ _ _ h=>h.2.2.2.1) ?_ ?_⟩
   ·symm;obtain⟨st,es,q,ll,rfl,h1,h2,h3,h4,h5⟩:=al.get ev;nofun
    have:=(sub st (aar es)).2.1
    have:=G.c3
    exact⟨q,ll,_,_,rfl,h1,h2,by rw[aak];lia,h3,h4,h5⟩
   ·intro i x σ Y9 H5 hi fR fo;symm;obtain⟨s5,IK,qx,wJ,⟨Zq,Hm⟩,ar,z6,z7,rfl⟩:=fR;obtain⟨rfl,ex⟩:=fo;obtain⟨a,ll,gF,ys,rfl,ha,PR,ly,yF,nlb,nlx⟩:=ar i x ex;nofun;have lx:=al.length;refine⟨a,_,rfl,gP.of ha,rfl,?_⟩;dsimp?[cZ];refine⟨_,jg.lst PR,_,Dj,?_⟩;rw[if_neg ∅];have tk:∀{c:Addr} {vs:List V},H5 c=some (.tup vs)->upd H5 ll (.lst (ys++ [.int 9])) c=some (.tup vs):=λ{c vs} hc=>by rw[aA (λe=>by rw[e,PR] at hc;cases hc)];exact hc
    refine⟨.inl ⟨rfl,_,bH.of PR⟩,_,PR,by lia,bI s5 yF,tk IK,by rw[aA (Ne.symm nlb)];exact qx,by rw[aA (Ne.symm nlx)];exact wJ,?_,λj v ev=>?_,?_⟩
    ·by_cases c:wl=ll
     ·exact⟨_,by rw[c];exact aj⟩
     ·exact⟨_,by rw[aA c];exact Hm⟩
    ·symm;obtain⟨a',l',n',Li,rfl,h1,h2,h3,h4,h5,h6⟩:=ar j v ev;nofun;by_cases c:l'=ll
     ·exact⟨a',rfl,l',n',tk h1,_,by rw[c];exact aj,by rw[aaq];simp only[aaB,aaW];lia,h4,h5,h6⟩
     ·exact⟨a',rfl,l',n',tk h1,Li,by rw[aA c];exact h2,by lia,h4,h5,h6⟩
    ·exact⟨_,rfl⟩
   ·intro σ H5 dG;symm;obtain⟨s5,IK,qx,wJ,⟨Zq,Hm⟩,ar,z6,z7,rfl⟩:=dG;nofun;exact hN _ _ _ _ s5 IK qx Hm
  rintro H5 Zq z6 z7 s5 IK qx K3;change tSeq _ _ _ _ _;refine aZ (λN=>∀H6,aB H3 H6->H6 p=some (.tup [.ref b,.ref l,.ref wl])->(∃ys,H6 b=some (.lst ys))->N [some (.ref sa),some (.ref gp),some dv,some hv,some (.ref p),z,z6,z7] H6) ?_ (λN hN=>?_)
  case refine_2=>
   dsimp?[Jm,xq,IK];refine⟨.inl ⟨rfl,_,bH.of K3⟩,_,K3,hN _ (bI s5 A7) (by rw[aA (λe=>by rw[e,K3] at IK;cases IK)];exact IK) ?_⟩;by_cases c:b=wl
   ·exact⟨_,by rw[c];exact aj⟩
   ·exact⟨_,by rw[aA c];exact qx⟩
  rintro H6 s6 hp6 ⟨bs6,Hc⟩;change tSeq _ _ _ _ _;refine aZ (λN=>∀H7,aB H3 H7->N [some (.ref sa),some (.ref gp),some dv,some hv,some (.ref p),z,z6,z7] H7) ?_ (λN hN=>?_)
  case refine_2=>
   dsimp?[Jm,C9,hp6];exact⟨.inl ⟨rfl,_,bH.of Hc⟩,_,Hc,hN _ (bI s6 nb)⟩
  rintro H7 s7;dsimp?[Ba,B6];refine⟨g,rg.mono ((s2.trans s3).trans s7),gg,ft,hd,nm,fu,ak,Lu,0,o2,SS,tss,sp,qL,(λz=>by cases z),(λz=>by cases z),λ_ p b l wl bs xs ws H' s nb A7 hp hb rb wf hl al qB rws=>⟨_,Bk hp hb rb hl al qB rws,_,PM.mono ((s3.trans s7).trans s),kr,kr,?_⟩⟩;show Q (.bl (decide (df (yo g SS tss)=df (yo g SS tss)))) H';rw[decide_eq_true rfl];exact kk _
end
theorem all_mk {l:PySem.W.OpenLaw} {w:World} {K:abg} {h:Heap} {mg:Str->Option Value} {fa:Addr} (X:K.In h) (G:h.Ns mainGlobals mg) (hfa:mg "law"=some (.ref fa))
  {f0:Addr} {od0 an0:Option Addr} {sl0:Array (Option Value)} {oc0 kV0 dc0 pm0 Zr ct0:Value} {f1:Addr} {od1 Nd:Option Addr} {Xj:Array (Option Value)} {oc1 kV1 dc1 pm1 Zs ct1:Value} {f2:Addr} {od2 an2:Option Addr} {CD:Array (Option Value)} {oc2 kV2 dc2 pm2 Zt ct2:Value} {f3:Addr} {od3 an3:Option Addr} {sl3:Array (Option Value)} {oc3 kV3 dc3 pm3 Zu ct3:Value} {f4:Addr} {od4 an4:Option Addr} {sl4:Array (Option Value)} {oc4 kV4 dc4 pm4 Zv ct4:Value} {f5:Addr} {od5 Ku:Option Addr} {sl5:Array (Option Value)} {oc5 kV5 dc5 pm5 Zw ct5:Value} {f6:Addr} {od6 an6:Option Addr} {sl6:Array (Option Value)} {oc6 kV6 dc6 pm6 Zx ct6:Value} {f7:Addr} {od7 an7:Option Addr} {sl7:Array (Option Value)} {oc7 kV7 dc7 pm7 Zy ct7:Value} {f8:Addr} {od8 an8:Option Addr} {sl8:Array (Option Value)} {oc8 kV8 dc8 pm8 Zz ct8:Value} {f9:Addr} {od9 an9:Option Addr} {sl9:Array (Option Value)} {oc9 kV9 dc9 pm9 ZA ct9:Value} {Sa:Addr} {Sb Sd:Option Addr} {Se:Array (Option Value)} {Sf Sg Sh Si N9 Sj:Value} {Sk:Addr} {Sl Sm:Option Addr} {Sn:Array (Option Value)} {So Sq Sr Ss Oa Su:Value} {Sv:Addr} {Sw Sx:Option Addr} {Sy:Array (Option Value)} {Sz SA SD SE Ob SG:Value} {SH:Addr} {SI SJ:Option Addr} {SK:Array (Option Value)} {SM SN SO SQ Oc SR:Value} {SU:Addr} {SV SW:Option Addr} {SX:Array (Option Value)} {SY S0 S1 S2 Od S3:Value} {S4:Addr} {S5 S6:Option Addr} {S7:Array (Option Value)} {S8 S9 Ta Tb Oe Tc:Value} {Td:Addr} {Te Tf:Option Addr} {Tg:Array (Option Value)} {Th Ti Tj Tn Of To:Value} {Tp:Addr} {Tq Tr:Option Addr} {Ts:Array (Option Value)} {Tt Tu Tv Tx Og Tz:Value} {TB:Addr} {TC TF:Option Addr} {TH:Array (Option Value)} {TK TL TM TN Oh TQ:Value} {TU:Addr} {TV TX:Option Addr} {TY:Array (Option Value)} {TZ T3 T4 T5 Oi T6:Value} {T7:Addr} {T8 T9:Option Addr} {Ua:Array (Option Value)} {Ub Uc Ud Ue Oj Ug:Value} {Uh:Addr} {Ui Uj:Option Addr} {Uk:Array (Option Value)} {Ul Um Uo Up Ol Uq:Value} {Ur:Addr} {Us Ut:Option Addr} {Uu:Array (Option Value)} {Uv Uw Ux Uy Om Uz:Value} {UA:Addr} {UB UC:Option Addr} {UD:Array (Option Value)} {UE UG UH UI Oo UJ:Value} {UK:Addr} {UM UN:Option Addr} {UO:Array (Option Value)} {UP UQ UR US Oq UT:Value} {UU:Addr} {UW UX:Option Addr} {UY:Array (Option Value)} {UZ U0 U1 U2 Ot U3:Value} {U4:Addr} {U6 U7:Option Addr} {U8:Array (Option Value)} {U9 Va Vb Vc Ou Vd:Value} {Ve:Addr} {Vf Vg:Option Addr} {Vh:Array (Option Value)} {Vi Vj Vk Vl Ov Vm:Value} {Vn:Addr} {Vo Vp:Option Addr} {Vq:Array (Option Value)} {Vr Vs Vt Vu Ow Vv:Value} {Vw:Addr} {Vx Vy:Option Addr} {Vz:Array (Option Value)} {VA VB VC VD Ox VE:Value} {VF:Addr} {VG VH:Option Addr} {VI:Array (Option Value)} {VJ VL VM VN Oy VO:Value} {VP:Addr} {VQ VR:Option Addr} {VS:Array (Option Value)} {VT VU VW VX Oz VY:Value} {VZ:Addr} {V0 V1:Option Addr} {V2:Array (Option Value)} {V3 V4 V5 V6 OA V7:Value} {V8:Addr} {V9 Wa:Option Addr} {Wb:Array (Option Value)} {Wc Wd We Wf OB Wg:Value} {Wh:Addr} {Wi Wj:Option Addr} {Wk:Array (Option Value)} {Wl Wm Wn Wo OC Wp:Value} {Wq:Addr} {Wr Wu:Option Addr} {Wv:Array (Option Value)} {Ww Wx Wy Wz OD WA:Value} {WB:Addr} {WC WD:Option Addr} {WE:Array (Option Value)} {WG WH WI WJ OE WK:Value} {WL:Addr} {WM WN:Option Addr} {WO:Array (Option Value)} {WQ WR WS WT OF WU:Value} {WV:Addr} {WW WX:Option Addr} {WY:Array (Option Value)} {WZ W2 W3 W4 OG W5:Value} {tK:Tok} {tL:Tok} {tM:Tok} {aG aI aJ aE aK ag aF:Addr} {j8:Addr} {zS zT:Option Addr} {zU:Array (Option Value)} {zV zW zX zY tN zZ:Value} {j9:Addr} {z0 Aa:Option Addr} {Ab:Array (Option Value)} {Ac Ad Ae Af tO Ag:Value} {eR:Addr} {pf ph:Option Addr} {pj:Array (Option Value)} {pw px pz pA iK pB:Value} {eI:Addr} {n9 og:Option Addr} {oh:Array (Option Value)} {oi oj om oq hG ou:Value} {dJ:Addr} {ku kx:Option Addr} {kz:Array (Option Value)} {kA kB kC kD gi kG:Value} {gy:Addr} {ux uy:Option Addr} {uz:Array (Option Value)} {uA uB uC uD lV uE:Value} {dz:Addr} {jC jD:Option Addr} {jE:Array (Option Value)} {jF jG jH jI fL jJ:Value} {eU:Addr} {pC pE:Option Addr} {pF:Array (Option Value)} {pG pH pI pJ iL pK:Value} {dA:Addr} {jK jL:Option Addr} {jM:Array (Option Value)} {jN jO jP jQ fM jR:Value} {fI:Addr} {tP tQ:Option Addr} {tR:Array (Option Value)} {tS tT tU tV jS tW:Value} {eV:Addr} {pL pM:Option Addr} {pO:Array (Option Value)} {pP pQ pR pS iM pT:Value} {dM:Addr} {kH kI:Option Addr} {kJ:Array (Option Value)} {kK kL kO kP gj kR:Value} {dW:Addr} {mJ mK:Option Addr} {mL:Array (Option Value)} {mM mO mP mQ gO mR:Value} {dN:Addr} {kS kT:Option Addr} {kU:Array (Option Value)} {kX kY kZ lg gk lh:Value} {dB:Addr} {jT jU:Option Addr} {jV:Array (Option Value)} {jW jX jY jZ fN j0:Value}
  (a0:abk K mainGlobals "common_divisor"=some (some (.ref f0))) (l0:K.lookup f0=some ⟨oc0,od0,.func (abj "common_divisor" "common_divisor" (bh (top 7)) (ba (top 7)) (aq (top 7)) .none kV0 dc0 pm0 an0 Zr ct0),sl0⟩) (e0:abi K Zr "common_divisor"=true) (k0:abh K (.ref f0)=true)
  (a1:abk K mainGlobals "share"=some (some (.ref f1))) (l1:K.lookup f1=some ⟨oc1,od1,.func (abj "share" "share" (bh (top 8)) (ba (top 8)) (aq (top 8)) .none kV1 dc1 pm1 Nd Zs ct1),Xj⟩) (e1:abi K Zs "share"=true) (k1:abh K (.ref f1)=true)
  (a2:abk K mainGlobals "common_bottom"=some (some (.ref f2))) (l2:K.lookup f2=some ⟨oc2,od2,.func (abj "common_bottom" "common_bottom" (bh (top 9)) (ba (top 9)) (aq (top 9)) .none kV2 dc2 pm2 an2 Zt ct2),CD⟩) (e2:abi K Zt "common_bottom"=true) (k2:abh K (.ref f2)=true)
  (a3:abk K mainGlobals "table_by_weights"=some (some (.ref f3))) (l3:K.lookup f3=some ⟨oc3,od3,.func (abj "table_by_weights" "table_by_weights" (bh (top 11)) (ba (top 11)) (aq (top 11)) .none kV3 dc3 pm3 an3 Zu ct3),sl3⟩) (e3:abi K Zu "table_by_weights"=true) (k3:abh K (.ref f3)=true)
  (a4:abk K mainGlobals "table_of"=some (some (.ref f4))) (l4:K.lookup f4=some ⟨oc4,od4,.func (abj "table_of" "table_of" (bh (top 12)) (ba (top 12)) (aq (top 12)) .none kV4 dc4 pm4 an4 Zv ct4),sl4⟩) (e4:abi K Zv "table_of"=true) (k4:abh K (.ref f4)=true)
  (a5:abk K mainGlobals "bottom_of"=some (some (.ref f5))) (l5:K.lookup f5=some ⟨oc5,od5,.func (abj "bottom_of" "bottom_of" (bh (top 13)) (ba (top 13)) (aq (top 13)) .none kV5 dc5 pm5 Ku Zw ct5),sl5⟩) (e5:abi K Zw "bottom_of"=true) (k5:abh K (.ref f5)=true)
  (a6:abk K mainGlobals "weighed"=some (some (.ref f6))) (l6:K.lookup f6=some ⟨oc6,od6,.func (abj "weighed" "weighed" (bh (top 14)) (ba (top 14)) (aq (top 14)) .none kV6 dc6 pm6 an6 Zx ct6),sl6⟩) (e6:abi K Zx "weighed"=true) (k6:abh K (.ref f6)=true)
  (a7:abk K mainGlobals "power"=some (some (.ref f7))) (l7:K.lookup f7=some ⟨oc7,od7,.func (abj "power" "power" (bh (top 18)) (ba (top 18)) (aq (top 18)) .none kV7 dc7 pm7 an7 Zy ct7),sl7⟩) (e7:abi K Zy "power"=true) (k7:abh K (.ref f7)=true)
  (a8:abk K mainGlobals "most_faces"=some (some (.ref f8))) (l8:K.lookup f8=some ⟨oc8,od8,.func (abj "most_faces" "most_faces" (bh (top 19)) (ba (top 19)) (aq (top 19)) .none kV8 dc8 pm8 an8 Zz ct8),sl8⟩) (e8:abi K Zz "most_faces"=true) (k8:abh K (.ref f8)=true)
  (a9:abk K mainGlobals "part_bottom"=some (some (.ref f9))) (l9:K.lookup f9=some ⟨oc9,od9,.func (abj "part_bottom" "part_bottom" (bh (top 20)) (ba (top 20)) (aq (top 20)) .none kV9 dc9 pm9 an9 ZA ct9),sl9⟩) (e9:abi K ZA "part_bottom"=true) (k9:abh K (.ref f9)=true)
  (a10:abk K mainGlobals "part_count"=some (some (.ref Sa))) (l10:K.lookup Sa=some ⟨Sf,Sb,.func (abj "part_count" "part_count" (bh (top 21)) (ba (top 21)) (aq (top 21)) .none Sg Sh Si Sd N9 Sj),Se⟩) (e10:abi K N9 "part_count"=true) (k10:abh K (.ref Sa)=true)
  (a11:abk K mainGlobals "check_size"=some (some (.ref Sk))) (l11:K.lookup Sk=some ⟨So,Sl,.func (abj "check_size" "check_size" (bh (top 22)) (ba (top 22)) (aq (top 22)) .none Sq Sr Ss Sm Oa Su),Sn⟩) (e11:abi K Oa "check_size"=true) (k11:abh K (.ref Sk)=true)
  (a12:abk K mainGlobals "dice_faces"=some (some (.ref Sv))) (l12:K.lookup Sv=some ⟨Sz,Sw,.func (abj "dice_faces" "dice_faces" (bh (top 23)) (ba (top 23)) (aq (top 23)) .none SA SD SE Sx Ob SG),Sy⟩) (e12:abi K Ob "dice_faces"=true) (k12:abh K (.ref Sv)=true)
  (a13:abk K mainGlobals "again_faces"=some (some (.ref SH))) (l13:K.lookup SH=some ⟨SM,SI,.func (abj "again_faces" "again_faces" (bh (top 24)) (ba (top 24)) (aq (top 24)) .none SN SO SQ SJ Oc SR),SK⟩) (e13:abi K Oc "again_faces"=true) (k13:abh K (.ref SH)=true)
  (a14:abk K mainGlobals "burst_faces"=some (some (.ref SU))) (l14:K.lookup SU=some ⟨SY,SV,.func (abj "burst_faces" "burst_faces" (bh (top 25)) (ba (top 25)) (aq (top 25)) .none S0 S1 S2 SW Od S3),SX⟩) (e14:abi K Od "burst_faces"=true) (k14:abh K (.ref SU)=true)
  (a15:abk K mainGlobals "part_faces"=some (some (.ref S4))) (l15:K.lookup S4=some ⟨S8,S5,.func (abj "part_faces" "part_faces" (bh (top 26)) (ba (top 26)) (aq (top 26)) .none S9 Ta Tb S6 Oe Tc),S7⟩) (e15:abi K Oe "part_faces"=true) (k15:abh K (.ref S4)=true)
  (a16:abk K mainGlobals "value_of"=some (some (.ref Td))) (l16:K.lookup Td=some ⟨Th,Te,.func (abj "value_of" "value_of" (bh (top 27)) (ba (top 27)) (aq (top 27)) .none Ti Tj Tn Tf Of To),Tg⟩) (e16:abi K Of "value_of"=true) (k16:abh K (.ref Td)=true)
  (a17:abk K mainGlobals "sides_product"=some (some (.ref Tp))) (l17:K.lookup Tp=some ⟨Tt,Tq,.func (abj "sides_product" "sides_product" (bh (top 28)) (ba (top 28)) (aq (top 28)) .none Tu Tv Tx Tr Og Tz),Ts⟩) (e17:abi K Og "sides_product"=true) (k17:abh K (.ref Tp)=true)
  (a18:abk K mainGlobals "part_throws"=some (some (.ref TB))) (l18:K.lookup TB=some ⟨TK,TC,.func (abj "part_throws" "part_throws" (bh (top 29)) (ba (top 29)) (aq (top 29)) .none TL TM TN TF Oh TQ),TH⟩) (e18:abi K Oh "part_throws"=true) (k18:abh K (.ref TB)=true)
  (a19:abk K mainGlobals "throws_by_bottom"=some (some (.ref TU))) (l19:K.lookup TU=some ⟨TZ,TV,.func (abj "throws_by_bottom" "throws_by_bottom" (bh (top 30)) (ba (top 30)) (aq (top 30)) .none T3 T4 T5 TX Oi T6),TY⟩) (e19:abi K Oi "throws_by_bottom"=true) (k19:abh K (.ref TU)=true)
  (a20:abk K mainGlobals "pool_table"=some (some (.ref T7))) (l20:K.lookup T7=some ⟨Ub,T8,.func (abj "pool_table" "pool_table" (bh (top 31)) (ba (top 31)) (aq (top 31)) .none Uc Ud Ue T9 Oj Ug),Ua⟩) (e20:abi K Oj "pool_table"=true) (k20:abh K (.ref T7)=true)
  (a21:abk K mainGlobals "own_rows"=some (some (.ref Uh))) (l21:K.lookup Uh=some ⟨Ul,Ui,.func (abj "own_rows" "own_rows" (bh (top 34)) (ba (top 34)) (aq (top 34)) .none Um Uo Up Uj Ol Uq),Uk⟩) (e21:abi K Ol "own_rows"=true) (k21:abh K (.ref Uh)=true)
  (a22:abk K mainGlobals "own_what"=some (some (.ref Ur))) (l22:K.lookup Ur=some ⟨Uv,Us,.func (abj "own_what" "own_what" (bh (top 35)) (ba (top 35)) (aq (top 35)) .none Uw Ux Uy Ut Om Uz),Uu⟩) (e22:abi K Om "own_what"=true) (k22:abh K (.ref Ur)=true)
  (a23:abk K mainGlobals "throw_ways"=some (some (.ref UA))) (l23:K.lookup UA=some ⟨UE,UB,.func (abj "throw_ways" "throw_ways" (bh (top 38)) (ba (top 38)) (aq (top 38)) .none UG UH UI UC Oo UJ),UD⟩) (e23:abi K Oo "throw_ways"=true) (k23:abh K (.ref UA)=true)
  (a24:abk K mainGlobals "pick_ways"=some (some (.ref UK))) (l24:K.lookup UK=some ⟨UP,UM,.func (abj "pick_ways" "pick_ways" (bh (top 39)) (ba (top 39)) (aq (top 39)) .none UQ UR US UN Oq UT),UO⟩) (e24:abi K Oq "pick_ways"=true) (k24:abh K (.ref UK)=true)
  (a25:abk K mainGlobals "taken_up"=some (some (.ref UU))) (l25:K.lookup UU=some ⟨UZ,UW,.func (abj "taken_up" "taken_up" (bh (top 40)) (ba (top 40)) (aq (top 40)) .none U0 U1 U2 UX Ot U3),UY⟩) (e25:abi K Ot "taken_up"=true) (k25:abh K (.ref UU)=true)
  (a26:abk K mainGlobals "spread"=some (some (.ref U4))) (l26:K.lookup U4=some ⟨U9,U6,.func (abj "spread" "spread" (bh (top 41)) (ba (top 41)) (aq (top 41)) .none Va Vb Vc U7 Ou Vd),U8⟩) (e26:abi K Ou "spread"=true) (k26:abh K (.ref U4)=true)
  (a27:abk K mainGlobals "_law_at"=some (some (.ref Ve))) (l27:K.lookup Ve=some ⟨Vi,Vf,.func (abj "_law_at" "_law_at" (bh (top 43)) (ba (top 43)) (aq (top 43)) .none Vj Vk Vl Vg Ov Vm),Vh⟩) (e27:abi K Ov "_law_at"=true) (k27:abh K (.ref Ve)=true)
  (a28:abk K mainGlobals "_law_deeds"=some (some (.ref Vn))) (l28:K.lookup Vn=some ⟨Vr,Vo,.func (abj "_law_deeds" "_law_deeds" (bh (top 44)) (ba (top 44)) (aq (top 44)) .none Vs Vt Vu Vp Ow Vv),Vq⟩) (e28:abi K Ow "_law_deeds"=true) (k28:abh K (.ref Vn)=true)
  (a29:abk K mainGlobals "_law_what"=some (some (.ref Vw))) (l29:K.lookup Vw=some ⟨VA,Vx,.func (abj "_law_what" "_law_what" (bh (top 45)) (ba (top 45)) (aq (top 45)) .none VB VC VD Vy Ox VE),Vz⟩) (e29:abi K Ox "_law_what"=true) (k29:abh K (.ref Vw)=true)
  (a30:abk K mainGlobals "_law_game"=some (some (.ref VF))) (l30:K.lookup VF=some ⟨VJ,VG,.func (abj "_law_game" "_law_game" (bh (top 46)) (ba (top 46)) (aq (top 46)) .none VL VM VN VH Oy VO),VI⟩) (e30:abi K Oy "_law_game"=true) (k30:abh K (.ref VF)=true)
  (a31:abk K mainGlobals "_law_arrived"=some (some (.ref VP))) (l31:K.lookup VP=some ⟨VT,VQ,.func (abj "_law_arrived" "_law_arrived" (bh (top 47)) (ba (top 47)) (aq (top 47)) .none VU VW VX VR Oz VY),VS⟩) (e31:abi K Oz "_law_arrived"=true) (k31:abh K (.ref VP)=true)
  (a32:abk K mainGlobals "_law_behind"=some (some (.ref VZ))) (l32:K.lookup VZ=some ⟨V3,V0,.func (abj "_law_behind" "_law_behind" (bh (top 48)) (ba (top 48)) (aq (top 48)) .none V4 V5 V6 V1 OA V7),V2⟩) (e32:abi K OA "_law_behind"=true) (k32:abh K (.ref VZ)=true)
  (a33:abk K mainGlobals "_law_table"=some (some (.ref V8))) (l33:K.lookup V8=some ⟨Wc,V9,.func (abj "_law_table" "_law_table" (bh (top 49)) (ba (top 49)) (aq (top 49)) .none Wd We Wf Wa OB Wg),Wb⟩) (e33:abi K OB "_law_table"=true) (k33:abh K (.ref V8)=true)
  (a34:abk K mainGlobals "_law_ways"=some (some (.ref Wh))) (l34:K.lookup Wh=some ⟨Wl,Wi,.func (abj "_law_ways" "_law_ways" (bh (top 50)) (ba (top 50)) (aq (top 50)) .none Wm Wn Wo Wj OC Wp),Wk⟩) (e34:abi K OC "_law_ways"=true) (k34:abh K (.ref Wh)=true)
  (a35:abk K mainGlobals "_law_place"=some (some (.ref Wq))) (l35:K.lookup Wq=some ⟨Ww,Wr,.func (abj "_law_place" "_law_place" (bh (top 51)) (ba (top 51)) (aq (top 51)) .none Wx Wy Wz Wu OD WA),Wv⟩) (e35:abi K OD "_law_place"=true) (k35:abh K (.ref Wq)=true)
  (a36:abk K mainGlobals "_law_due"=some (some (.ref WB))) (l36:K.lookup WB=some ⟨WG,WC,.func (abj "_law_due" "_law_due" (bh (top 52)) (ba (top 52)) (aq (top 52)) .none WH WI WJ WD OE WK),WE⟩) (e36:abi K OE "_law_due"=true) (k36:abh K (.ref WB)=true)
  (a37:abk K mainGlobals "_law_told"=some (some (.ref WL))) (l37:K.lookup WL=some ⟨WQ,WM,.func (abj "_law_told" "_law_told" (bh (top 53)) (ba (top 53)) (aq (top 53)) .none WR WS WT WN OF WU),WO⟩) (e37:abi K OF "_law_told"=true) (k37:abh K (.ref WL)=true)
  (a38:abk K mainGlobals "law"=some (some (.ref WV))) (l38:K.lookup WV=some ⟨WZ,WW,.func (abj "law" "law" (bh (top 54)) (ba (top 54)) (aq (top 54)) .none W2 W3 W4 WX OG W5),WY⟩) (e38:abi K OG "law"=true) (k38:abh K (.ref WV)=true)
  (z_abs:abk K mainGlobals "abs"=some none)
  (z_dict:abk K mainGlobals "dict"=some none)
  (z_enumerate:abk K mainGlobals "enumerate"=some none)
  (z_int:abk K mainGlobals "int"=some none)
  (z_isinstance:abk K mainGlobals "isinstance"=some none)
  (z_len:abk K mainGlobals "len"=some none)
  (z_list:abk K mainGlobals "list"=some none)
  (z_max:abk K mainGlobals "max"=some none)
  (z_min:abk K mainGlobals "min"=some none)
  (z_range:abk K mainGlobals "range"=some none)
  (z_sorted:abk K mainGlobals "sorted"=some none)
  (z_sum:abk K mainGlobals "sum"=some none)
  (z_tuple:abk K mainGlobals "tuple"=some none)
  (c_MOST_THROWS:abk K mainGlobals "MOST_THROWS"=some (some (.int 1296 tK)))
  (c_MOST_BOTTOM:abk K mainGlobals "MOST_BOTTOM"=some (some (.int 1000000 tL)))
  (c_MOST_STATES:abk K mainGlobals "MOST_STATES"=some (some (.int 120 tM)))
  (k_LuckError:abk K mainGlobals "LuckError"=some (some (.ref aG)))
  (k_NoShare:abk K mainGlobals "NoShare"=some (some (.ref aI)))
  (k_NoTable:abk K mainGlobals "NoTable"=some (some (.ref aJ)))
  (k_TooMany:abk K mainGlobals "TooMany"=some (some (.ref aE)))
  (k_NoWay:abk K mainGlobals "NoWay"=some (some (.ref aK)))
  (k_Course:abk K mainGlobals "Course"=some (some (.ref ag)))
  (k_Finder:abk K mainGlobals "Finder"=some (some (.ref aF)))
  (x_NoShare:PySem.W.excIn K aI vD m9=true)
  (x_NoTable:PySem.W.excIn K aJ vD m9=true)
  (x_TooMany:PySem.W.excIn K aE vD m9=true)
  (x_NoWay:PySem.W.excIn K aK vD m9=true)
  (y_TooManycls:(PySem.W.clsIn K aE).isSome=true)
  (y_TooManyga:abl K (.ref aE) "__getattribute__"=some (some (.builtin "BaseException.__getattribute__")))
  (y_TooManygt:abl K (.ref aE) "__getattr__"=some none)
  (y_TooManycl:abl K (.ref aE) "__class__"=some (some (.builtin "object.__class__")))
  (y_TooManybe:PySem.W.mroIn K aE (.type "BaseException")=some true)
  (y_TooManyob:PySem.W.mroIn K aE (.type "object")=some true)
  (y_NoWaycls:(PySem.W.clsIn K aK).isSome=true)
  (y_NoWayga:abl K (.ref aK) "__getattribute__"=some (some (.builtin "BaseException.__getattribute__")))
  (y_NoWaygt:abl K (.ref aK) "__getattr__"=some none)
  (y_NoWaycl:abl K (.ref aK) "__class__"=some (some (.builtin "object.__class__")))
  (y_NoWaybe:PySem.W.mroIn K aK (.type "BaseException")=some true)
  (y_NoWayob:PySem.W.mroIn K aK (.type "object")=some true)
  (e_NoWay_LuckError:PySem.W.exmOne K (.ref aK) (.ref aG)=some true)
  (e_TooMany_LuckError:PySem.W.exmOne K (.ref aE) (.ref aG)=some true)
  (i_NoWay_NoWay:PySem.W.kitOne K (.ref aK) (.ref aK)=some true)
  (i_TooMany_TooMany:PySem.W.kitOne K (.ref aE) (.ref aE)=some true)
  (n_NoWay_TooMany:PySem.W.kitOne K (.ref aK) (.ref aE)=some false)
  (n_TooMany_NoWay:PySem.W.kitOne K (.ref aE) (.ref aK)=some false)
  (cl_Coursepg:PySem.W.plainGet K ag Str.empty=true)
  (cl_Coursehd:PySem.W.hasDictIn K ag=true)
  (cl_Coursepo:PySem.W.plainOver K ag=true)
  (cl_Coursesa:abl K (.ref ag) "__setattr__"=some (some (.builtin "object.__setattr__")))
  (cl_Finderpg:PySem.W.plainGet K aF Str.empty=true)
  (cl_Finderhd:PySem.W.hasDictIn K aF=true)
  (cl_Finderpo:PySem.W.plainOver K aF=true)
  (cl_Findersa:abl K (.ref aF) "__setattr__"=some (some (.builtin "object.__setattr__")))
  (na_Course_first:abl K (.ref ag) "first"=some none)
  (na_Course_mosts:abl K (.ref ag) "mosts"=some none)
  (na_Course_spots:abl K (.ref ag) "spots"=some none)
  (na_Course_tables:abl K (.ref ag) "tables"=some none)
  (na_Course_whats:abl K (.ref ag) "whats"=some none)
  (na_Finder_numbers:abl K (.ref aF) "numbers"=some none)
  (na_Finder_states:abl K (.ref aF) "states"=some none)
  (dia_Course:abl K (.ref ag) "__init__"=some (some (.ref j8)))
  (dii_Course:PySem.W.isFn K (.ref j8)=true)
  (dil_Course:K.lookup j8=some ⟨zV,zS,.func (abj "__init__" "Course.__init__" (bh (inClass (top 36) 0)) (ba (inClass (top 36) 0)) (aq (inClass (top 36) 0)) .none zW zX zY zT tN zZ),zU⟩)
  (dic_Course:abi K tN "Course.__init__"=true)
  (dik_Course:abh K (.ref j8)=true)
  (dim_Course:PySem.W.makesIn K ag=true)
  (diq_Course:abh K (.ref ag)=true)
  (dia_Finder:abl K (.ref aF) "__init__"=some (some (.ref j9)))
  (dii_Finder:PySem.W.isFn K (.ref j9)=true)
  (dil_Finder:K.lookup j9=some ⟨Ac,z0,.func (abj "__init__" "Finder.__init__" (bh (inClass (top 37) 0)) (ba (inClass (top 37) 0)) (aq (inClass (top 37) 0)) .none Ad Ae Af Aa tO Ag),Ab⟩)
  (dic_Finder:abi K tO "Finder.__init__"=true)
  (dik_Finder:abh K (.ref j9)=true)
  (dim_Finder:PySem.W.makesIn K aF=true)
  (diq_Finder:abh K (.ref aF)=true)
  (dma_Course_asked:abl K (.ref ag) "asked"=some (some (.ref eR)))
  (dmi_Course_asked:PySem.W.isFn K (.ref eR)=true)
  (dml_Course_asked:K.lookup eR=some ⟨pw,pf,.func (abj "asked" "Course.asked" (bh (inClass (top 36) 3)) (ba (inClass (top 36) 3)) (aq (inClass (top 36) 3)) .none px pz pA ph iK pB),pj⟩)
  (dmc_Course_asked:abi K iK "Course.asked"=true)
  (dmk_Course_asked:abh K (.ref eR)=true)
  (dma_Course_by_row:abl K (.ref ag) "by_row"=some (some (.ref eI)))
  (dmi_Course_by_row:PySem.W.isFn K (.ref eI)=true)
  (dml_Course_by_row:K.lookup eI=some ⟨oi,n9,.func (abj "by_row" "Course.by_row" (bh (inClass (top 36) 6)) (ba (inClass (top 36) 6)) (aq (inClass (top 36) 6)) .none oj om oq og hG ou),oh⟩)
  (dmc_Course_by_row:abi K hG "Course.by_row"=true)
  (dmk_Course_by_row:abh K (.ref eI)=true)
  (dma_Course_by_value:abl K (.ref ag) "by_value"=some (some (.ref dJ)))
  (dmi_Course_by_value:PySem.W.isFn K (.ref dJ)=true)
  (dml_Course_by_value:K.lookup dJ=some ⟨kA,ku,.func (abj "by_value" "Course.by_value" (bh (inClass (top 36) 7)) (ba (inClass (top 36) 7)) (aq (inClass (top 36) 7)) .none kB kC kD kx gi kG),kz⟩)
  (dmc_Course_by_value:abi K gi "Course.by_value"=true)
  (dmk_Course_by_value:abh K (.ref dJ)=true)
  (dma_Course_do:abl K (.ref ag) "do"=some (some (.ref gy)))
  (dmi_Course_do:PySem.W.isFn K (.ref gy)=true)
  (dml_Course_do:K.lookup gy=some ⟨uA,ux,.func (abj "do" "Course.do" (bh (inClass (top 36) 2)) (ba (inClass (top 36) 2)) (aq (inClass (top 36) 2)) .none uB uC uD uy lV uE),uz⟩)
  (dmc_Course_do:abi K lV "Course.do"=true)
  (dmk_Course_do:abh K (.ref gy)=true)
  (dma_Course_end_worth:abl K (.ref ag) "end_worth"=some (some (.ref dz)))
  (dmi_Course_end_worth:PySem.W.isFn K (.ref dz)=true)
  (dml_Course_end_worth:K.lookup dz=some ⟨jF,jC,.func (abj "end_worth" "Course.end_worth" (bh (inClass (top 36) 12)) (ba (inClass (top 36) 12)) (aq (inClass (top 36) 12)) .none jG jH jI jD fL jJ),jE⟩)
  (dmc_Course_end_worth:abi K fL "Course.end_worth"=true)
  (dmk_Course_end_worth:abh K (.ref dz)=true)
  (dma_Course_holds:abl K (.ref ag) "holds"=some (some (.ref eU)))
  (dmi_Course_holds:PySem.W.isFn K (.ref eU)=true)
  (dml_Course_holds:K.lookup eU=some ⟨pG,pC,.func (abj "holds" "Course.holds" (bh (inClass (top 36) 9)) (ba (inClass (top 36) 9)) (aq (inClass (top 36) 9)) .none pH pI pJ pE iL pK),pF⟩)
  (dmc_Course_holds:abi K iL "Course.holds"=true)
  (dmk_Course_holds:abh K (.ref eU)=true)
  (dma_Course_open_rows:abl K (.ref ag) "open_rows"=some (some (.ref dA)))
  (dmi_Course_open_rows:PySem.W.isFn K (.ref dA)=true)
  (dml_Course_open_rows:K.lookup dA=some ⟨jN,jK,.func (abj "open_rows" "Course.open_rows" (bh (inClass (top 36) 10)) (ba (inClass (top 36) 10)) (aq (inClass (top 36) 10)) .none jO jP jQ jL fM jR),jM⟩)
  (dmc_Course_open_rows:abi K fM "Course.open_rows"=true)
  (dmk_Course_open_rows:abh K (.ref dA)=true)
  (dma_Course_put:abl K (.ref ag) "put"=some (some (.ref fI)))
  (dmi_Course_put:PySem.W.isFn K (.ref fI)=true)
  (dml_Course_put:K.lookup fI=some ⟨tS,tP,.func (abj "put" "Course.put" (bh (inClass (top 36) 1)) (ba (inClass (top 36) 1)) (aq (inClass (top 36) 1)) .none tT tU tV tQ jS tW),tR⟩)
  (dmc_Course_put:abi K jS "Course.put"=true)
  (dmk_Course_put:abh K (.ref fI)=true)
  (dma_Course_start:abl K (.ref ag) "start"=some (some (.ref eV)))
  (dmi_Course_start:PySem.W.isFn K (.ref eV)=true)
  (dml_Course_start:K.lookup eV=some ⟨pP,pL,.func (abj "start" "Course.start" (bh (inClass (top 36) 4)) (ba (inClass (top 36) 4)) (aq (inClass (top 36) 4)) .none pQ pR pS pM iM pT),pO⟩)
  (dmc_Course_start:abi K iM "Course.start"=true)
  (dmk_Course_start:abh K (.ref eV)=true)
  (dma_Course_table_at:abl K (.ref ag) "table_at"=some (some (.ref dM)))
  (dmi_Course_table_at:PySem.W.isFn K (.ref dM)=true)
  (dml_Course_table_at:K.lookup dM=some ⟨kK,kH,.func (abj "table_at" "Course.table_at" (bh (inClass (top 36) 8)) (ba (inClass (top 36) 8)) (aq (inClass (top 36) 8)) .none kL kO kP kI gj kR),kJ⟩)
  (dmc_Course_table_at:abi K gj "Course.table_at"=true)
  (dmk_Course_table_at:abh K (.ref dM)=true)
  (dma_Course_what_at:abl K (.ref ag) "what_at"=some (some (.ref dW)))
  (dmi_Course_what_at:PySem.W.isFn K (.ref dW)=true)
  (dml_Course_what_at:K.lookup dW=some ⟨mM,mJ,.func (abj "what_at" "Course.what_at" (bh (inClass (top 36) 5)) (ba (inClass (top 36) 5)) (aq (inClass (top 36) 5)) .none mO mP mQ mK gO mR),mL⟩)
  (dmc_Course_what_at:abi K gO "Course.what_at"=true)
  (dmk_Course_what_at:abh K (.ref dW)=true)
  (dma_Course_words_at:abl K (.ref ag) "words_at"=some (some (.ref dN)))
  (dmi_Course_words_at:PySem.W.isFn K (.ref dN)=true)
  (dml_Course_words_at:K.lookup dN=some ⟨kX,kS,.func (abj "words_at" "Course.words_at" (bh (inClass (top 36) 11)) (ba (inClass (top 36) 11)) (aq (inClass (top 36) 11)) .none kY kZ lg kT gk lh),kU⟩)
  (dmc_Course_words_at:abi K gk "Course.words_at"=true)
  (dmk_Course_words_at:abh K (.ref dN)=true)
  (dma_Finder_number_of:abl K (.ref aF) "number_of"=some (some (.ref dB)))
  (dmi_Finder_number_of:PySem.W.isFn K (.ref dB)=true)
  (dml_Finder_number_of:K.lookup dB=some ⟨jW,jT,.func (abj "number_of" "Finder.number_of" (bh (inClass (top 37) 1)) (ba (inClass (top 37) 1)) (aq (inClass (top 37) 1)) .none jX jY jZ jU fN j0),jV⟩)
  (dmc_Finder_number_of:abi K fN "Finder.number_of"=true)
  (dmk_Finder_number_of:abh K (.ref dB)=true)
  :∃fd:FuncData,(∀(s:Shared) (v:Value),BindsTo s fd ⟨[v],[]⟩ [("_law_script",v)])/\∀base:Heap,K.In base->base.Ns mainGlobals mg->gn l.prog w K mg base (bL l.prog w) 30 fa fd ["_law_script"] (A5 K):=by
 have e:=hfa.symm.trans (aao X G a38);cases e;have T:Txt K mg aG aI aJ aE aK ag aF:=⟨aaU X G z_abs,aaU X G z_dict,aaU X G z_enumerate,aaU X G z_int,aaU X G z_isinstance,aaU X G z_len,aaU X G z_list,aaU X G z_max,aaU X G z_min,aaU X G z_range,aaU X G z_sorted,aaU X G z_sum,aaU X G z_tuple,⟨_,_,bA l0 e0 k0,aao X G a0⟩,⟨_,_,bA l1 e1 k1,aao X G a1⟩,⟨_,_,bA l2 e2 k2,aao X G a2⟩,⟨_,_,bA l3 e3 k3,aao X G a3⟩,⟨_,_,bA l4 e4 k4,aao X G a4⟩,⟨_,_,bA l5 e5 k5,aao X G a5⟩,⟨_,_,bA l6 e6 k6,aao X G a6⟩,⟨_,_,bA l7 e7 k7,aao X G a7⟩,⟨_,_,bA l8 e8 k8,aao X G a8⟩,⟨_,_,bA l9 e9 k9,aao X G a9⟩,⟨_,_,bA l10 e10 k10,aao X G a10⟩,⟨_,_,bA l11 e11 k11,aao X G a11⟩,⟨_,_,bA l12 e12 k12,aao X G a12⟩,⟨_,_,bA l13 e13 k13,aao X G a13⟩,⟨_,_,bA l14 e14 k14,aao X G a14⟩,⟨_,_,bA l15 e15 k15,aao X G a15⟩,⟨_,_,bA l16 e16 k16,aao X G a16⟩,⟨_,_,bA l17 e17 k17,aao X G a17⟩,⟨_,_,bA l18 e18 k18,aao X G a18⟩,⟨_,_,bA l19 e19 k19,aao X G a19⟩,⟨_,_,bA l20 e20 k20,aao X G a20⟩,⟨_,_,bA l21 e21 k21,aao X G a21⟩,⟨_,_,bA l22 e22 k22,aao X G a22⟩,⟨_,_,bA l23 e23 k23,aao X G a23⟩,⟨_,_,bA l24 e24 k24,aao X G a24⟩,⟨_,_,bA l25 e25 k25,aao X G a25⟩,⟨_,_,bA l26 e26 k26,aao X G a26⟩,⟨_,_,bA l27 e27 k27,aao X G a27⟩,⟨_,_,bA l28 e28 k28,aao X G a28⟩,⟨_,_,bA l29 e29 k29,aao X G a29⟩,⟨_,_,bA l30 e30 k30,aao X G a30⟩,⟨_,_,bA l31 e31 k31,aao X G a31⟩,⟨_,_,bA l32 e32 k32,aao X G a32⟩,⟨_,_,bA l33 e33 k33,aao X G a33⟩,⟨_,_,bA l34 e34 k34,aao X G a34⟩,⟨_,_,bA l35 e35 k35,aao X G a35⟩,⟨_,_,bA l36 e36 k36,aao X G a36⟩,⟨_,_,bA l37 e37 k37,aao X G a37⟩,⟨_,aao X G c_MOST_THROWS⟩,⟨_,aao X G c_MOST_BOTTOM⟩,⟨_,aao X G c_MOST_STATES⟩,aao X G k_LuckError,aao X G k_NoShare,aao X G k_NoTable,aao X G k_TooMany,aao X G k_NoWay,aao X G k_Course,aao X G k_Finder,x_NoShare,x_NoTable,x_TooMany,x_NoWay,⟨y_TooManycls,y_TooManyga,y_TooManygt,y_TooManycl,y_TooManybe,y_TooManyob⟩,⟨y_NoWaycls,y_NoWayga,y_NoWaygt,y_NoWaycl,y_NoWaybe,y_NoWayob⟩,e_NoWay_LuckError,e_TooMany_LuckError,i_NoWay_NoWay,i_TooMany_TooMany,n_NoWay_TooMany,n_TooMany_NoWay,⟨cl_Coursepg,cl_Coursehd,cl_Coursepo,cl_Coursesa⟩,⟨cl_Finderpg,cl_Finderhd,cl_Finderpo,cl_Findersa⟩,na_Course_first,na_Course_mosts,na_Course_spots,na_Course_tables,na_Course_whats,na_Finder_numbers,na_Finder_states,⟨_,_,bA dil_Course dic_Course dik_Course,⟨dim_Course,dia_Course,dii_Course,diq_Course⟩,aao X G k_Course⟩,⟨_,_,bA dil_Finder dic_Finder dik_Finder,⟨dim_Finder,dia_Finder,dii_Finder,diq_Finder⟩,aao X G k_Finder⟩,⟨_,_,bA dml_Course_asked dmc_Course_asked dmk_Course_asked,⟨dma_Course_asked,dmi_Course_asked,dmk_Course_asked⟩⟩,⟨_,_,bA dml_Course_by_row dmc_Course_by_row dmk_Course_by_row,⟨dma_Course_by_row,dmi_Course_by_row,dmk_Course_by_row⟩⟩,⟨_,_,bA dml_Course_by_value dmc_Course_by_value dmk_Course_by_value,⟨dma_Course_by_value,dmi_Course_by_value,dmk_Course_by_value⟩⟩,⟨_,_,bA dml_Course_do dmc_Course_do dmk_Course_do,⟨dma_Course_do,dmi_Course_do,dmk_Course_do⟩⟩,⟨_,_,bA dml_Course_end_worth dmc_Course_end_worth dmk_Course_end_worth,⟨dma_Course_end_worth,dmi_Course_end_worth,dmk_Course_end_worth⟩⟩,⟨_,_,bA dml_Course_holds dmc_Course_holds dmk_Course_holds,⟨dma_Course_holds,dmi_Course_holds,dmk_Course_holds⟩⟩,⟨_,_,bA dml_Course_open_rows dmc_Course_open_rows dmk_Course_open_rows,⟨dma_Course_open_rows,dmi_Course_open_rows,dmk_Course_open_rows⟩⟩,⟨_,_,bA dml_Course_put dmc_Course_put dmk_Course_put,⟨dma_Course_put,dmi_Course_put,dmk_Course_put⟩⟩,⟨_,_,bA dml_Course_start dmc_Course_start dmk_Course_start,⟨dma_Course_start,dmi_Course_start,dmk_Course_start⟩⟩,⟨_,_,bA dml_Course_table_at dmc_Course_table_at dmk_Course_table_at,⟨dma_Course_table_at,dmi_Course_table_at,dmk_Course_table_at⟩⟩,⟨_,_,bA dml_Course_what_at dmc_Course_what_at dmk_Course_what_at,⟨dma_Course_what_at,dmi_Course_what_at,dmk_Course_what_at⟩⟩,⟨_,_,bA dml_Course_words_at dmc_Course_words_at dmk_Course_words_at,⟨dma_Course_words_at,dmi_Course_words_at,dmk_Course_words_at⟩⟩,⟨_,_,bA dml_Finder_number_of dmc_Finder_number_of dmk_Finder_number_of,⟨dma_Finder_number_of,dmi_Finder_number_of,dmk_Finder_number_of⟩⟩⟩;exact⟨_,λs v=>.of_eq rfl,λbase _ _=>(K2 T (bA l38 e38 k38)).mono ∅⟩
theorem walk {l:PySem.W.OpenLaw} {q:Program} {loose:List Str} {XP:(Str->Option Value)->Heap->Prop} {YP:World->Heap->Prop} {d:DefRec} {K:Params->abg} (hn:l.most=some 63) (L7:d.params.defaults=[])
  (hY:∀(w:World) (h:Heap),YP w h->(K w.params).In h)
  (F:∀(w:World) (mg:Str->Option Value) (fa:Addr) (h:Heap),(K w.params).In h->h.Ns mainGlobals mg->mg d.name=some (.ref fa)->
   ∃fd:FuncData,(∀(s:Shared) (u:Value),BindsTo s fd ⟨[u],[]⟩ [("_law_script",u)])/\∀base:Heap,(K w.params).In base->base.Ns mainGlobals mg->gn l.prog w (K w.params) mg base (bL l.prog w) 30 fa fd ["_law_script"] (A5 (K w.params))):
  PySem.W.WalkO q loose XP YP l.row.toRowW d [] (λf vs=>PySem.call f vs):=
 L2.Ga (n:=63) (k:=30) (x:="_law_script") (CX:=λw=>bL l.prog w) (sp:=λw=>A5 (K w.params)) hn ∅ L7 ⟨rfl,∅,∅⟩ hY F (λ_ _ a ns hl _ hS=>⟨a,ns,rfl,hS,hl,λ_=>rfl⟩) λ_ _ _ _ _ z=>(Ax _ _) _ _ _ _ _ z
end K57
open PySem PySem.W PyProof.Rows
set_option maxRecDepth 100000 in
set_option maxHeartbeats 0 in
theorem PySem.Challenge.cw_pressluck_k57_whole_all_states_holds : PySem.Challenge.rw_pressluck_k57_whole_all_states.Holds := by
  w_on; refine holds_law (by decide +kernel) fun aai => ?_
  refine holds_open (q := K57.vw) (loose := []) (Xt := (fun s => xlAt K57.vw [] s && recOk (RowW.records (OpenRow.toRowW (PySem.W.OpenLaw.row PySem.Challenge.rw_pressluck_k57_whole_all_states))) s)) (XP := XL K57.vw []) (Yf := Hook.obs (kHook K57.pre.heap_1 K57.Hz K57.IL)) (Ya := Hook.val (kHook K57.pre.heap_1 K57.Hz K57.IL)) (YP := Hook.says (kHook K57.pre.heap_1 K57.Hz K57.IL)) (N := 6354) (Hd.Bm (by kernel_rfl) (by decide) (fun s => by kernel_rfl) K57.run) (Hook.of (kHook K57.pre.heap_1 K57.Hz K57.IL)) (Hook.keeps (kHook K57.pre.heap_1 K57.Hz K57.IL)) (fun s e => xl_of s (Bool.and_eq_true_iff.mp e).1) XL.keeps (by rfl) (by rfl) (by rfl) (fun s e => recFacts_of (Bool.and_eq_true_iff.mp e).2) (by rfl) (by first | assumption | decide +kernel) (by decide +kernel) ⟨rfl, rfl, rfl, rfl, rfl, by decide +kernel⟩ ?hw ?hc
  (case hw => w_witness2)
  k_fill
  refine K57.walk (l := PySem.Challenge.rw_pressluck_k57_whole_all_states) rfl rfl (fun w h Y => PySem.W.kIn_of Y) ?F
  case F =>
    intro w mg fa h KX G L8
    refine' K57.all_mk KX G L8 ?a0 ?l0 ?e0 ?k0 ?a1 ?l1 ?e1 ?k1 ?a2 ?l2 ?e2 ?k2 ?a3 ?l3 ?e3 ?k3 ?a4 ?l4 ?e4 ?k4 ?a5 ?l5 ?e5 ?k5 ?a6 ?l6 ?e6 ?k6 ?a7 ?l7 ?e7 ?k7 ?a8 ?l8 ?e8 ?k8 ?a9 ?l9 ?e9 ?k9 ?a10 ?l10 ?e10 ?k10 ?a11 ?l11 ?e11 ?k11 ?a12 ?l12 ?e12 ?k12 ?a13 ?l13 ?e13 ?k13 ?a14 ?l14 ?e14 ?k14 ?a15 ?l15 ?e15 ?k15 ?a16 ?l16 ?e16 ?k16 ?a17 ?l17 ?e17 ?k17 ?a18 ?l18 ?e18 ?k18 ?a19 ?l19 ?e19 ?k19 ?a20 ?l20 ?e20 ?k20 ?a21 ?l21 ?e21 ?k21 ?a22 ?l22 ?e22 ?k22 ?a23 ?l23 ?e23 ?k23 ?a24 ?l24 ?e24 ?k24 ?a25 ?l25 ?e25 ?k25 ?a26 ?l26 ?e26 ?k26 ?a27 ?l27 ?e27 ?k27 ?a28 ?l28 ?e28 ?k28 ?a29 ?l29 ?e29 ?k29 ?a30 ?l30 ?e30 ?k30 ?a31 ?l31 ?e31 ?k31 ?a32 ?l32 ?e32 ?k32 ?a33 ?l33 ?e33 ?k33 ?a34 ?l34 ?e34 ?k34 ?a35 ?l35 ?e35 ?k35 ?a36 ?l36 ?e36 ?k36 ?a37 ?l37 ?e37 ?k37 ?a38 ?l38 ?e38 ?k38 ?z_abs ?z_dict ?z_enumerate ?z_int ?z_isinstance ?z_len ?z_list ?z_max ?z_min ?z_range ?z_sorted ?z_sum ?z_tuple ?c_MOST_THROWS ?c_MOST_BOTTOM ?c_MOST_STATES ?k_LuckError ?k_NoShare ?k_NoTable ?k_TooMany ?k_NoWay ?k_Course ?k_Finder ?x_NoShare ?x_NoTable ?x_TooMany ?x_NoWay ?y_TooManycls ?y_TooManyga ?y_TooManygt ?y_TooManycl ?y_TooManybe ?y_TooManyob ?y_NoWaycls ?y_NoWayga ?y_NoWaygt ?y_NoWaycl ?y_NoWaybe ?y_NoWayob ?e_NoWay_LuckError ?e_TooMany_LuckError ?i_NoWay_NoWay ?i_TooMany_TooMany ?n_NoWay_TooMany ?n_TooMany_NoWay ?cl_Coursepg ?cl_Coursehd ?cl_Coursepo ?cl_Coursesa ?cl_Finderpg ?cl_Finderhd ?cl_Finderpo ?cl_Findersa ?na_Course_first ?na_Course_mosts ?na_Course_spots ?na_Course_tables ?na_Course_whats ?na_Finder_numbers ?na_Finder_states ?dia_Course ?dii_Course ?dil_Course ?dic_Course ?dik_Course ?dim_Course ?diq_Course ?dia_Finder ?dii_Finder ?dil_Finder ?dic_Finder ?dik_Finder ?dim_Finder ?diq_Finder ?dma_Course_asked ?dmi_Course_asked ?dml_Course_asked ?dmc_Course_asked ?dmk_Course_asked ?dma_Course_by_row ?dmi_Course_by_row ?dml_Course_by_row ?dmc_Course_by_row ?dmk_Course_by_row ?dma_Course_by_value ?dmi_Course_by_value ?dml_Course_by_value ?dmc_Course_by_value ?dmk_Course_by_value ?dma_Course_do ?dmi_Course_do ?dml_Course_do ?dmc_Course_do ?dmk_Course_do ?dma_Course_end_worth ?dmi_Course_end_worth ?dml_Course_end_worth ?dmc_Course_end_worth ?dmk_Course_end_worth ?dma_Course_holds ?dmi_Course_holds ?dml_Course_holds ?dmc_Course_holds ?dmk_Course_holds ?dma_Course_open_rows ?dmi_Course_open_rows ?dml_Course_open_rows ?dmc_Course_open_rows ?dmk_Course_open_rows ?dma_Course_put ?dmi_Course_put ?dml_Course_put ?dmc_Course_put ?dmk_Course_put ?dma_Course_start ?dmi_Course_start ?dml_Course_start ?dmc_Course_start ?dmk_Course_start ?dma_Course_table_at ?dmi_Course_table_at ?dml_Course_table_at ?dmc_Course_table_at ?dmk_Course_table_at ?dma_Course_what_at ?dmi_Course_what_at ?dml_Course_what_at ?dmc_Course_what_at ?dmk_Course_what_at ?dma_Course_words_at ?dmi_Course_words_at ?dml_Course_words_at ?dmc_Course_words_at ?dmk_Course_words_at ?dma_Finder_number_of ?dmi_Finder_number_of ?dml_Finder_number_of ?dmc_Finder_number_of ?dmk_Finder_number_of
    (case a0 => k_is)
    (case l0 => k_is)
    (case e0 => k_is)
    (case k0 => k_is)
    (case a1 => k_is)
    (case l1 => k_is)
    (case e1 => k_is)
    (case k1 => k_is)
    (case a2 => k_is)
    (case l2 => k_is)
    (case e2 => k_is)
    (case k2 => k_is)
    (case a3 => k_is)
    (case l3 => k_is)
    (case e3 => k_is)
    (case k3 => k_is)
    (case a4 => k_is)
    (case l4 => k_is)
    (case e4 => k_is)
    (case k4 => k_is)
    (case a5 => k_is)
    (case l5 => k_is)
    (case e5 => k_is)
    (case k5 => k_is)
    (case a6 => k_is)
    (case l6 => k_is)
    (case e6 => k_is)
    (case k6 => k_is)
    (case a7 => k_is)
    (case l7 => k_is)
    (case e7 => k_is)
    (case k7 => k_is)
    (case a8 => k_is)
    (case l8 => k_is)
    (case e8 => k_is)
    (case k8 => k_is)
    (case a9 => k_is)
    (case l9 => k_is)
    (case e9 => k_is)
    (case k9 => k_is)
    (case a10 => k_is)
    (case l10 => k_is)
    (case e10 => k_is)
    (case k10 => k_is)
    (case a11 => k_is)
    (case l11 => k_is)
    (case e11 => k_is)
    (case k11 => k_is)
    (case a12 => k_is)
    (case l12 => k_is)
    (case e12 => k_is)
    (case k12 => k_is)
    (case a13 => k_is)
    (case l13 => k_is)
    (case e13 => k_is)
    (case k13 => k_is)
    (case a14 => k_is)
    (case l14 => k_is)
    (case e14 => k_is)
    (case k14 => k_is)
    (case a15 => k_is)
    (case l15 => k_is)
    (case e15 => k_is)
    (case k15 => k_is)
    (case a16 => k_is)
    (case l16 => k_is)
    (case e16 => k_is)
    (case k16 => k_is)
    (case a17 => k_is)
    (case l17 => k_is)
    (case e17 => k_is)
    (case k17 => k_is)
    (case a18 => k_is)
    (case l18 => k_is)
    (case e18 => k_is)
    (case k18 => k_is)
    (case a19 => k_is)
    (case l19 => k_is)
    (case e19 => k_is)
    (case k19 => k_is)
    (case a20 => k_is)
    (case l20 => k_is)
    (case e20 => k_is)
    (case k20 => k_is)
    (case a21 => k_is)
    (case l21 => k_is)
    (case e21 => k_is)
    (case k21 => k_is)
    (case a22 => k_is)
    (case l22 => k_is)
    (case e22 => k_is)
    (case k22 => k_is)
    (case a23 => k_is)
    (case l23 => k_is)
    (case e23 => k_is)
    (case k23 => k_is)
    (case a24 => k_is)
    (case l24 => k_is)
    (case e24 => k_is)
    (case k24 => k_is)
    (case a25 => k_is)
    (case l25 => k_is)
    (case e25 => k_is)
    (case k25 => k_is)
    (case a26 => k_is)
    (case l26 => k_is)
    (case e26 => k_is)
    (case k26 => k_is)
    (case a27 => k_is)
    (case l27 => k_is)
    (case e27 => k_is)
    (case k27 => k_is)
    (case a28 => k_is)
    (case l28 => k_is)
    (case e28 => k_is)
    (case k28 => k_is)
    (case a29 => k_is)
    (case l29 => k_is)
    (case e29 => k_is)
    (case k29 => k_is)
    (case a30 => k_is)
    (case l30 => k_is)
    (case e30 => k_is)
    (case k30 => k_is)
    (case a31 => k_is)
    (case l31 => k_is)
    (case e31 => k_is)
    (case k31 => k_is)
    (case a32 => k_is)
    (case l32 => k_is)
    (case e32 => k_is)
    (case k32 => k_is)
    (case a33 => k_is)
    (case l33 => k_is)
    (case e33 => k_is)
    (case k33 => k_is)
    (case a34 => k_is)
    (case l34 => k_is)
    (case e34 => k_is)
    (case k34 => k_is)
    (case a35 => k_is)
    (case l35 => k_is)
    (case e35 => k_is)
    (case k35 => k_is)
    (case a36 => k_is)
    (case l36 => k_is)
    (case e36 => k_is)
    (case k36 => k_is)
    (case a37 => k_is)
    (case l37 => k_is)
    (case e37 => k_is)
    (case k37 => k_is)
    (case a38 => k_is)
    (case l38 => k_is)
    (case e38 => k_is)
    (case k38 => k_is)
    (case z_abs => k_is)
    (case z_dict => k_is)
    (case z_enumerate => k_is)
    (case z_int => k_is)
    (case z_isinstance => k_is)
    (case z_len => k_is)
    (case z_list => k_is)
    (case z_max => k_is)
    (case z_min => k_is)
    (case z_range => k_is)
    (case z_sorted => k_is)
    (case z_sum => k_is)
    (case z_tuple => k_is)
    (case c_MOST_THROWS => k_is)
    (case c_MOST_BOTTOM => k_is)
    (case c_MOST_STATES => k_is)
    (case k_LuckError => k_is)
    (case k_NoShare => k_is)
    (case k_NoTable => k_is)
    (case k_TooMany => k_is)
    (case k_NoWay => k_is)
    (case k_Course => k_is)
    (case k_Finder => k_is)
    (case x_NoShare => first | k_is | kit_is | kernel_rfl)
    (case x_NoTable => first | k_is | kit_is | kernel_rfl)
    (case x_TooMany => first | k_is | kit_is | kernel_rfl)
    (case x_NoWay => first | k_is | kit_is | kernel_rfl)
    (case y_TooManycls => first | k_is | kit_is | kernel_rfl)
    (case y_TooManyga => first | k_is | kit_is | kernel_rfl)
    (case y_TooManygt => first | k_is | kit_is | kernel_rfl)
    (case y_TooManycl => first | k_is | kit_is | kernel_rfl)
    (case y_TooManybe => first | k_is | kit_is | kernel_rfl)
    (case y_TooManyob => first | k_is | kit_is | kernel_rfl)
    (case y_NoWaycls => first | k_is | kit_is | kernel_rfl)
    (case y_NoWayga => first | k_is | kit_is | kernel_rfl)
    (case y_NoWaygt => first | k_is | kit_is | kernel_rfl)
    (case y_NoWaycl => first | k_is | kit_is | kernel_rfl)
    (case y_NoWaybe => first | k_is | kit_is | kernel_rfl)
    (case y_NoWayob => first | k_is | kit_is | kernel_rfl)
    (case e_NoWay_LuckError => first | k_is | kit_is | kernel_rfl)
    (case e_TooMany_LuckError => first | k_is | kit_is | kernel_rfl)
    (case i_NoWay_NoWay => first | k_is | kit_is | kernel_rfl)
    (case i_TooMany_TooMany => first | k_is | kit_is | kernel_rfl)
    (case n_NoWay_TooMany => first | k_is | kit_is | kernel_rfl)
    (case n_TooMany_NoWay => first | k_is | kit_is | kernel_rfl)
    (case cl_Coursepg => k_is)
    (case cl_Coursehd => k_is)
    (case cl_Coursepo => k_is)
    (case cl_Coursesa => k_is)
    (case cl_Finderpg => k_is)
    (case cl_Finderhd => k_is)
    (case cl_Finderpo => k_is)
    (case cl_Findersa => k_is)
    (case na_Course_first => k_is)
    (case na_Course_mosts => k_is)
    (case na_Course_spots => k_is)
    (case na_Course_tables => k_is)
    (case na_Course_whats => k_is)
    (case na_Finder_numbers => k_is)
    (case na_Finder_states => k_is)
    (case dia_Course => k_is)
    (case dii_Course => k_is)
    (case dil_Course => k_is)
    (case dic_Course => k_is)
    (case dik_Course => k_is)
    (case dim_Course => k_is)
    (case diq_Course => k_is)
    (case dia_Finder => k_is)
    (case dii_Finder => k_is)
    (case dil_Finder => k_is)
    (case dic_Finder => k_is)
    (case dik_Finder => k_is)
    (case dim_Finder => k_is)
    (case diq_Finder => k_is)
    (case dma_Course_asked => k_is)
    (case dmi_Course_asked => k_is)
    (case dml_Course_asked => k_is)
    (case dmc_Course_asked => k_is)
    (case dmk_Course_asked => k_is)
    (case dma_Course_by_row => k_is)
    (case dmi_Course_by_row => k_is)
    (case dml_Course_by_row => k_is)
    (case dmc_Course_by_row => k_is)
    (case dmk_Course_by_row => k_is)
    (case dma_Course_by_value => k_is)
    (case dmi_Course_by_value => k_is)
    (case dml_Course_by_value => k_is)
    (case dmc_Course_by_value => k_is)
    (case dmk_Course_by_value => k_is)
    (case dma_Course_do => k_is)
    (case dmi_Course_do => k_is)
    (case dml_Course_do => k_is)
    (case dmc_Course_do => k_is)
    (case dmk_Course_do => k_is)
    (case dma_Course_end_worth => k_is)
    (case dmi_Course_end_worth => k_is)
    (case dml_Course_end_worth => k_is)
    (case dmc_Course_end_worth => k_is)
    (case dmk_Course_end_worth => k_is)
    (case dma_Course_holds => k_is)
    (case dmi_Course_holds => k_is)
    (case dml_Course_holds => k_is)
    (case dmc_Course_holds => k_is)
    (case dmk_Course_holds => k_is)
    (case dma_Course_open_rows => k_is)
    (case dmi_Course_open_rows => k_is)
    (case dml_Course_open_rows => k_is)
    (case dmc_Course_open_rows => k_is)
    (case dmk_Course_open_rows => k_is)
    (case dma_Course_put => k_is)
    (case dmi_Course_put => k_is)
    (case dml_Course_put => k_is)
    (case dmc_Course_put => k_is)
    (case dmk_Course_put => k_is)
    (case dma_Course_start => k_is)
    (case dmi_Course_start => k_is)
    (case dml_Course_start => k_is)
    (case dmc_Course_start => k_is)
    (case dmk_Course_start => k_is)
    (case dma_Course_table_at => k_is)
    (case dmi_Course_table_at => k_is)
    (case dml_Course_table_at => k_is)
    (case dmc_Course_table_at => k_is)
    (case dmk_Course_table_at => k_is)
    (case dma_Course_what_at => k_is)
    (case dmi_Course_what_at => k_is)
    (case dml_Course_what_at => k_is)
    (case dmc_Course_what_at => k_is)
    (case dmk_Course_what_at => k_is)
    (case dma_Course_words_at => k_is)
    (case dmi_Course_words_at => k_is)
    (case dml_Course_words_at => k_is)
    (case dmc_Course_words_at => k_is)
    (case dmk_Course_words_at => k_is)
    (case dma_Finder_number_of => k_is)
    (case dmi_Finder_number_of => k_is)
    (case dml_Finder_number_of => k_is)
    (case dmc_Finder_number_of => k_is)
    (case dmk_Finder_number_of => k_is)
