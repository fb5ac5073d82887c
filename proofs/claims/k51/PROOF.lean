import PyProof.Rows.All
import Wide.All
import OpenK.AllK
import Wide.FinOn
import Lean
import PyProof.EqAt
import PyProof.EqKinds
import PyProof.TupleCall
import PyProof.NeKinds
import PySem.Challenge.RW_pressluck_k51_games_read
set_option Elab.async false
set_option linter.all false
set_option maxRecDepth 100000
theorem aaA : type_of% @List.length_map := @List.length_map
theorem aaB : type_of% @PySem.W.mg_of := @PySem.W.mg_of
theorem aaC : type_of% @Nat.le_refl := @Nat.le_refl
theorem aaD : type_of% @List.mem_cons := @List.mem_cons
theorem aaE : type_of% @List.length_append := @List.length_append
theorem aaF : type_of% @PySem.boot_len := @PySem.boot_len
theorem aaG : type_of% @List.getElem?_map := @List.getElem?_map
theorem aaH : type_of% @List.not_mem_nil := @List.not_mem_nil
theorem aaI : type_of% @List.map_cons := @List.map_cons
theorem aaJ : type_of% @List.mem_cons_of_mem := @List.mem_cons_of_mem
theorem aaK : type_of% @List.mem_cons_self := @List.mem_cons_self
theorem aaL : type_of% @List.length_cons := @List.length_cons
theorem aaM : type_of% @List.map_append := @List.map_append
theorem aaN : type_of% @Nat.ne_of_lt := @Nat.ne_of_lt
theorem aaO : type_of% @List.mem_of_getElem? := @List.mem_of_getElem?
theorem aaP : type_of% @Nat.zero_le := @Nat.zero_le
theorem aaQ : type_of% @Nat.lt_of_lt_of_le := @Nat.lt_of_lt_of_le
theorem aaR : type_of% @Nat.le_trans := @Nat.le_trans
theorem aaS : type_of% @Bool.false_ne_true := @Bool.false_ne_true
theorem aaT : type_of% @List.take_of_length_le := @List.take_of_length_le
theorem aaU : type_of% @List.size_toArray := @List.size_toArray
theorem aaV : type_of% @PySem.F.plainAttrs_list := @PySem.F.plainAttrs_list
theorem aaW : type_of% @List.getElem?_eq_getElem := @List.getElem?_eq_getElem
theorem aaX : type_of% @Int.emod_nonneg := @Int.emod_nonneg
theorem aaY : type_of% @Int.emod_lt_of_pos := @Int.emod_lt_of_pos
theorem aaZ : type_of% @PySem.F.slot_list_append := @PySem.F.slot_list_append
theorem aa0 : type_of% @PySem.F.type_list_append := @PySem.F.type_list_append
theorem aa1 : type_of% @Array.length_toList := @Array.length_toList
theorem aa2 : type_of% @List.mem_append_right := @List.mem_append_right
theorem aa3 : type_of% @List.map_nil := @List.map_nil
theorem aa4 : type_of% @List.take_add_one := @List.take_add_one
theorem aa5 : type_of% @List.length_nil := @List.length_nil
theorem aa6 : type_of% @Bool.and_eq_true := @Bool.and_eq_true
theorem aa7 : type_of% @PySem.W.mg_none_of := @PySem.W.mg_none_of
theorem aa8 : type_of% @List.lookup_cons := @List.lookup_cons
theorem aa9 : type_of% @Option.some.inj := @Option.some.inj
theorem aba : type_of% @Nat.lt_irrefl := @Nat.lt_irrefl
theorem abb : type_of% @List.map_map := @List.map_map
theorem abc : type_of% @List.length_take := @List.length_take
theorem abd : type_of% @List.flatMap_cons := @List.flatMap_cons
theorem abe : type_of% @PySem.F.plainAttrs_str := @PySem.F.plainAttrs_str
theorem abf : type_of% @PySem.W.kia_one := @PySem.W.kia_one
theorem abg : type_of% @List.append_nil := @List.append_nil
theorem abh : type_of% @PySem.mem_of_lookup := @PySem.mem_of_lookup
theorem abi : type_of% @Int.eq_ofNat_of_zero_le := @Int.eq_ofNat_of_zero_le
theorem abj : type_of% @List.sum_cons := @List.sum_cons
theorem abk : type_of% @Nat.min_eq_left := @Nat.min_eq_left
theorem abl : type_of% @List.set_cons_zero := @List.set_cons_zero
theorem abm : type_of% @List.set_cons_succ := @List.set_cons_succ
theorem abn : type_of% @Nat.mul_le_mul := @Nat.mul_le_mul
theorem abo : type_of% @Nat.mul_le_mul_right := @Nat.mul_le_mul_right
theorem abp : type_of% @List.getElem?_append_right := @List.getElem?_append_right
theorem abq : type_of% @Int.toNat_natCast := @Int.toNat_natCast
theorem abr : type_of% @List.length_singleton := @List.length_singleton
theorem abt : type_of% @List.length_reverse := @List.length_reverse
theorem abu : type_of% @Nat.lt_succ_self := @Nat.lt_succ_self
theorem abv : type_of% @Nat.lt_succ_of_lt := @Nat.lt_succ_of_lt
theorem abw : type_of% @List.cons_append := @List.cons_append
theorem abx : type_of% @Nat.pow_le_pow_right := @Nat.pow_le_pow_right
theorem aby : type_of% @List.getElem?_eq_none := @List.getElem?_eq_none
theorem abz : type_of% @List.getElem?_append_left := @List.getElem?_append_left
theorem abA : type_of% @PySem.F.slot_str_split := @PySem.F.slot_str_split
theorem abB : type_of% @PySem.F.type_str_split := @PySem.F.type_str_split
namespace Hd
open PySem PySem.W PyProof.Rows
noncomputable def uH (ok:Thread->Bool) (st:SharedT->Thread->Option (SharedT×Thread)) (n:Nat):SharedT->Thread->Option SharedT:=
 @Nat.rec (λ_=>SharedT->Thread->Option SharedT) (λ_ _=>none)
  (λ_ ih s t=>@Bool.rec (λ_=>Option SharedT) (@Bool.rec (λ_=>Option SharedT) none (@Option.rec (SharedT×Thread) (λ_=>Option SharedT) none (λr=>@Prod.rec _ _ (λ_=>Option SharedT) (λa b=>ih a b) r) (st s t)) (ok t)) (some s) (through t)) n
theorem oG {tb:String->Option Builtin} {p:Program} {w:World} {n₀:Nat} {ann:Option Value}:∀(n:Nat) (s:SharedT) (t:Thread) (s':SharedT),uH (stepOk n₀ ann) (stepT (denote tb) p w) n s t=some s'->topRun tb p w n₀ ann n s.abs t=some s'.abs
 | 0,_,_,_,h=>by cases h
 | n+1,s,t,s',h=>by
  unfold topRun
  replace h:@Bool.rec (λ_=>Option SharedT) (@Bool.rec (λ_=>Option SharedT) none (@Option.rec (SharedT×Thread) (λ_=>Option SharedT) none (λr=>@Prod.rec _ _ (λ_=>Option SharedT) (λa b=>uH (stepOk n₀ ann) (stepT (denote tb) p w) n a b) r) (stepT (denote tb) p w s t)) (stepOk n₀ ann t)) (some s) (through t)=some s':=h
  cases ht:through t with
  | true=>rw[ht] at h;cases h;rfl
  | false=>
   rw[ht] at h;cases hk:stepOk n₀ ann t with
   | false=>rw[hk] at h;cases h
   | true=>
    rw[hk] at h;cases hs:stepT (denote tb) p w s t with
    | none=>rw[hs] at h;cases h
    | some r=>obtain⟨s₂,t₂⟩:=r;rw[hs] at h;rw[stepT_spec hs];exact oG n s₂ t₂ s' h
noncomputable def bt (P:Params):BT:=((boot_heap P).objs.toList.foldl (fun(x:BT×Nat) o=>(x.1.ins x.2 o,x.2+1)) (.nil,0)).1
noncomputable def xW (w:World) (os:OsState):SharedT:=⟨bt w.params,11,{},Array.mk [],boot_drawn,boot_toks,os⟩
theorem zw (w:World) (os:OsState):(xW w os).abs=⟨boot_heap w.params,Array.mk [],boot_drawn,boot_toks,os⟩:=by kernel_rfl
theorem wF (w:World):((boot_heap w.params).isNs mainGlobals && (Array.mk []:Array GenState).size==0,(boot_heap w.params).objs.size,(boot_heap w.params).nsMap mainGlobals "__annotations__")=(true,11,some (.ref 6)):=by kernel_rfl
theorem AV {p q:Program} {loose:List Str} {Xt:Shared->Bool} {α:Type} {Yf:Shared->α} {Ya:World->α} {N:Nat} {g0:Bool}
  (Kn:∀w:World,(fencedOpening treeTable p w N).map (λs=>(s.heap,s.gens,s.drawn,s.toks))=some (boot_heap w.params,Array.mk [],boot_drawn,boot_toks))
  (run:∀(w:World) (os:OsState),(uH (stepOk 11 (some (.ref 6))) (stepT (denote treeTable) p w) N (xW w os) (topStub p)).map (λs=>((staticsOk (importedModules p.main.body) (boot_heap w.params) s.abs.heap && namesBound p s.abs.heap && gensDone s.abs && laidKept (boot_heap w.params) s.abs.heap),openSeen q loose (importedModules p.main.body) Xt g0 s.abs,Yf s.abs))=some (true,openGood q loose,Ya w)):
  LeftO p q loose Xt Yf Ya N g0:=λw=>by
 obtain⟨⟨h,gs,d,k,os⟩,e,e'⟩:=Option.map_eq_some_iff.mp (Kn w);obtain⟨rfl,rfl,rfl,rfl⟩:h=boot_heap w.params/\gs=Array.mk []/\d=boot_drawn/\k=boot_toks:=by simpa using e'
 obtain⟨z1,z2,z3⟩:_/\_/\_:=by simpa only[Prod.mk.injEq] using wF w
 obtain⟨s,r,l⟩:=Option.map_eq_some_iff.mp (run w os);obtain⟨l1,l2,l3⟩:_/\_/\_:=by simpa only[Prod.mk.injEq] using l
 have r:=oG _ _ _ _ r;rw[zw] at r;have t:topFrom treeTable p w N ⟨boot_heap w.params,Array.mk [],boot_drawn,boot_toks,os⟩=some s.abs:=by
  unfold topFrom;dsimp only;rw[z1,z2,z3,r];show(match staticsOk (importedModules p.main.body) (boot_heap w.params) s.abs.heap && namesBound p s.abs.heap && gensDone s.abs && laidKept (boot_heap w.params) s.abs.heap with | true=>_ | false=>_)=_;rw[l1]
 unfold openEnds;rw[e];show((topFrom treeTable p w N ⟨boot_heap w.params,Array.mk [],boot_drawn,boot_toks,os⟩)).map _=_;rw[t];show some (_,_)=_;rw[l2,l3]
noncomputable def Runs (p q:Program) (loose:List Str) (Xt:Shared->Bool) {α:Type} (Yf:Shared->α) (Ya:World->α) (N:Nat) (g0:Bool) (w:World):Prop:=
 ∀os:OsState,(uH (PySem.W.Fast.tw6613529449190102663 11 (some (.ref 6))) (PySem.W.Fast.tw10156331382660048174 (PySem.W.Fast.tw11892475500146522536 PySem.W.Fast.tw14364793385576792824) p w) N (xW w os) (topStub p)).map (λs=>((staticsOk (importedModules p.main.body) (boot_heap w.params) s.abs.heap && namesBound p s.abs.heap && gensDone s.abs && laidKept (boot_heap w.params) s.abs.heap),PySem.W.Fast.tw4187177175401517315 q loose (importedModules p.main.body) Xt g0 s.abs,Yf s.abs))=some (true,openGood q loose,Ya w)
theorem zx {p q:Program} {loose:List Str} {Xt:Shared->Bool} {α:Type} {Yf:Shared->α} {Ya:World->α} {N:Nat} {g0:Bool}
  (e:opening p=plainProg p.main.scope.names) (hN:Nat.ble 600 N=true) (f:∀s,fenceModules? p s=some s)
  (run:∀w:World,Runs p q loose Xt Yf Ya N g0 w):
  LeftO p q loose Xt Yf Ya N g0:=by
 refine AV (boot_open e hN f) ?_;unfold Runs at run;rw[PySem.W.Fast.te6613529449190102663,PySem.W.Fast.te10156331382660048174,PySem.W.Fast.te11892475500146522536,PySem.W.Fast.te14364793385576792824,PySem.W.Fast.te4187177175401517315];exact run
noncomputable def rb (p:Program) (N:Nat) (w:World) (os:OsState):Option SharedT:=uH (PySem.W.Fast.tw6613529449190102663 11 (some (.ref 6))) (PySem.W.Fast.tw10156331382660048174 (PySem.W.Fast.tw11892475500146522536 PySem.W.Fast.tw14364793385576792824) p w) N (xW w os) (topStub p)
noncomputable def sn (p q:Program) (loose:List Str) (Xt:Shared->Bool) (g0:Bool) (s:Shared):=PySem.W.Fast.tw4187177175401517315 q loose (importedModules p.main.body) Xt g0 s
noncomputable def GV (p q:Program) (loose:List Str) (Xt:Shared->Bool) {α:Type} (Yf:Shared->α) (Ya:World->α) (N:Nat) (g0:Bool) (w:World):Prop:=∀os:OsState,(rb p N w os).map (λs=>((staticsOk (importedModules p.main.body) (boot_heap w.params) s.abs.heap && namesBound p s.abs.heap && gensDone s.abs && laidKept (boot_heap w.params) s.abs.heap),Yf s.abs,(sn p q loose Xt g0 s.abs).2.1,(sn p q loose Xt g0 s.abs).2.2.2.2.2.2.2))=some (true,Ya w,bltViewBooted,wideGood q,clsGoodW q loose)
noncomputable def GX (p q:Program) (loose:List Str) (Xt:Shared->Bool) (N:Nat) (g0:Bool) (w:World):Prop:=∀os:OsState,(rb p N w os).map (λs=>((sn p q loose Xt g0 s.abs).1,(sn p q loose Xt g0 s.abs).2.2.2.1,(sn p q loose Xt g0 s.abs).2.2.2.2.1))=some (expectedOf q,true,pinGoodD (drecsOf q))
noncomputable def GY (p q:Program) (loose:List Str) (Xt:Shared->Bool) (N:Nat) (g0:Bool) (w:World):Prop:=∀os:OsState,(rb p N w os).map (λs=>(sn p q loose Xt g0 s.abs).2.2.1)=some true
noncomputable def GZ (p q:Program) (loose:List Str) (Xt:Shared->Bool) (N:Nat) (g0:Bool) (w:World):Prop:=∀os:OsState,(rb p N w os).map (λs=>((sn p q loose Xt g0 s.abs).2.2.2.2.2.1,(sn p q loose Xt g0 s.abs).2.2.2.2.2.2.1))=some (plainGoodE q (looseW q loose),plainGoodD q loose)
theorem nine {A B C D E F G J:Type} (x:A×B×C×D×E×F×G×J):x=(x.1,x.2.1,x.2.2.1,x.2.2.2.1,x.2.2.2.2.1,x.2.2.2.2.2.1,x.2.2.2.2.2.2.1,x.2.2.2.2.2.2.2):=rfl
theorem FC {p q:Program} {loose:List Str} {Xt:Shared->Bool} {α:Type} {Yf:Shared->α} {Ya:World->α} {N:Nat} {g0:Bool} {w:World} (a:GV p q loose Xt Yf Ya N g0 w) (b:GX p q loose Xt N g0 w) (c:GY p q loose Xt N g0 w) (d:GZ p q loose Xt N g0 w):Runs p q loose Xt Yf Ya N g0 w:=λos=>by
 obtain⟨s,r,l⟩:=Option.map_eq_some_iff.mp (a os);have b:=b os;have c:=c os;have d:=d os;rw[r] at b c d;have b:=aa9 b;have c:=aa9 c;have d:=aa9 d;show(rb p N w os).map _=_;rw[r];show some (_,sn p q loose Xt g0 s.abs,_)=some (_,openGood q loose,_);obtain⟨l1,l⟩:=Prod.mk.inj l;obtain⟨l2,l⟩:=Prod.mk.inj l;obtain⟨l3,l4⟩:=Prod.mk.inj l;obtain⟨b1,b⟩:=Prod.mk.inj b;obtain⟨b2,b3⟩:=Prod.mk.inj b;obtain⟨d1,d2⟩:=Prod.mk.inj d;have e:sn p q loose Xt g0 s.abs=openGood q loose:=by
  rw[nine (sn p q loose Xt g0 s.abs),show(sn p q loose Xt g0 s.abs).1=_ from b1,show(sn p q loose Xt g0 s.abs).2.1=_ from l3,show(sn p q loose Xt g0 s.abs).2.2.1=_ from c,show(sn p q loose Xt g0 s.abs).2.2.2.1=_ from b2,show(sn p q loose Xt g0 s.abs).2.2.2.2.1=_ from b3,show(sn p q loose Xt g0 s.abs).2.2.2.2.2.1=_ from d1,show(sn p q loose Xt g0 s.abs).2.2.2.2.2.2.1=_ from d2,show(sn p q loose Xt g0 s.abs).2.2.2.2.2.2.2=_ from l4];rfl
 rw[l1,e,l2]
end Hd
namespace K51
open PySem PySem.Spec PyProof.Rows
noncomputable def top (i:Nat):Stmt:=PySem.Challenge.pw_pressluck_k51_games_read.main.body.getD i (.Pass ⟨0,0,0,0⟩)
end K51
section Ou
open PySem PySem.W PyProof.Rows
local macro_rules | `(tactic| o_head $H) => `(tactic| (refine (fun (_ : PySem.W.Hook) => ?_) $H; assumption))
theorem K51.pre (h:PySem.W.OpenRow.Holds (PySem.W.OpenLaw.row PySem.Challenge.rw_pressluck_k51_games_read)):PySem.W.OpenRow.Holds (PySem.W.OpenLaw.row PySem.Challenge.rw_pressluck_k51_games_read):=by
 k_head
noncomputable def K51.AL:List Addr:=[2,3,15,22,23,24,25,28,35,36,37,40,47,48,49,52,59,60,61,64,71,72,73,76,83,84,85,88,90,91,93,94,95,97,98,100,101,102,104,105,107,108,109,112,113,114,116,117,119,120,121,124,125,126,129,130,131,133,134,136,137,138,140,141,143,144,145,147,148,150,151,152,154,155,157,158,159,161,162,164,165,166,168,169,171,172,173,176,177,178,181,182,183,186,187,188,190,191,193,194,195,198,199,200,202,203,205,206,207,210,211,212,215,216,217,220,221,222,223,224,225,226,227,228,229,231,232,234,235,236,238,239,241,242,243,245,246,248,249,250,252,253,255,256,257,260,261,262,263,264,267,268,269,271,272,274,275,276,278,279,281,282,283,285,286,288,289,290,292,293,295,296,297,299,300,302,303,304,306,307,309,310,311,313,314,316,317,318,320,321,323,324,325,327,328,330,331,332,334,335,337,338,339,342,343,344,346,347,349,350,351,353,354,356,357,358,360,361,363,364,365,367,368,370,371,372,374,375,377,378,379,382,383,384,387,388,389,392,393,394,397,398,399,401,402,404,405,406,408,409,411,412,413,415,416,418,419,420,422,423,425,426,427,430,431,432,435,436,437,439,440,442,443,444,446,447,449,450,451,453,454,456,457,458,460,461,463,464,465,467,468,470,471,472,474,475,477,478,479,481,482,484,485,486,488,489,491,492,493,496,497,498,500,501,503,504,505,507,508,510,511,512,515,516,517,520,521,522,525,526,527,529,530,532,533,534,536,537,539,540]
theorem K51.AW (P:PySem.Params):K51.AL=(K51.pre.heap_1 P).map (·.1):=by kernel_rfl
noncomputable def K51.vw:PySem.Program:={PySem.Challenge.pw_pressluck_k51_games_read with main:={PySem.Challenge.pw_pressluck_k51_games_read.main with body:=[K51.top 1,K51.top 2,K51.top 3,K51.top 4,K51.top 5,K51.top 6,K51.top 8,K51.top 9,K51.top 10,K51.top 11,K51.top 12,K51.top 13,K51.top 14,K51.top 15,K51.top 17,K51.top 18,K51.top 20,K51.top 21,K51.top 22,K51.top 23,K51.top 24,K51.top 25,K51.top 26,K51.top 27,K51.top 28,K51.top 29,K51.top 30,K51.top 31,K51.top 32,K51.top 33,K51.top 34,K51.top 35,K51.top 37,K51.top 38,K51.top 39,K51.top 40,K51.top 41,K51.top 42,K51.top 44,K51.top 45,K51.top 46,K51.top 47,K51.top 48,K51.top 50,K51.top 51,K51.top 52,K51.top 53,K51.top 54,K51.top 55,K51.top 56,K51.top 57,K51.top 58,K51.top 59,K51.top 60,K51.top 61,K51.top 62,K51.top 63,K51.top 64,K51.top 65,K51.top 66,K51.top 67,K51.top 68,K51.top 69,K51.top 70,K51.top 71,K51.top 72,K51.top 73,K51.top 74,K51.top 75,K51.top 76,K51.top 77,K51.top 78,K51.top 79,K51.top 80,K51.top 81,K51.top 82,K51.top 83,K51.top 84,K51.top 85,K51.top 86,K51.top 87,K51.top 88,K51.top 89,K51.top 91,K51.top 92,K51.top 93,K51.top 94,K51.top 95,K51.top 96,K51.top 97,K51.top 98,K51.top 99,K51.top 100,K51.top 101,K51.top 102,K51.top 103,K51.top 104,K51.top 105,K51.top 106]}}
set_option maxHeartbeats 0 in
theorem K51.Ko:PySem.Challenge.rw_pressluck_k51_games_read.wellSaid=true:=by
 unfold OpenLaw.wellSaid OpenRow.wellSaid OpenRow.partSaid looksOpen
 with_reducible repeat' refine look_both ?_ ?_
 all_goals decide (config:={kernel:=true})
theorem K51.Kp (w:World):Hd.GV (RowW.prog (OpenRow.toRowW (PySem.W.OpenLaw.row PySem.Challenge.rw_pressluck_k51_games_read))) K51.vw ["OF_MANY","OF_ONE","read_number_pooltexts","PERSONS","DEEDS","read_number_games"] (λs=>xlAt K51.vw [] s && recOk (RowW.records (OpenRow.toRowW (PySem.W.OpenLaw.row PySem.Challenge.rw_pressluck_k51_games_read))) s) (Hook.obs (kHook K51.pre.heap_1 K51.AL K51.AW)) (Hook.val (kHook K51.pre.heap_1 K51.AL K51.AW)) 7716 true (w.withFollow "special-get-raises" false):=λos=>by kernel_rfl
theorem K51.Kq (w:World):Hd.GX (RowW.prog (OpenRow.toRowW (PySem.W.OpenLaw.row PySem.Challenge.rw_pressluck_k51_games_read))) K51.vw ["OF_MANY","OF_ONE","read_number_pooltexts","PERSONS","DEEDS","read_number_games"] (λs=>xlAt K51.vw [] s && recOk (RowW.records (OpenRow.toRowW (PySem.W.OpenLaw.row PySem.Challenge.rw_pressluck_k51_games_read))) s) 7716 true (w.withFollow "special-get-raises" false):=λos=>by kernel_rfl
theorem K51.Kr (w:World):Hd.GY (RowW.prog (OpenRow.toRowW (PySem.W.OpenLaw.row PySem.Challenge.rw_pressluck_k51_games_read))) K51.vw ["OF_MANY","OF_ONE","read_number_pooltexts","PERSONS","DEEDS","read_number_games"] (λs=>xlAt K51.vw [] s && recOk (RowW.records (OpenRow.toRowW (PySem.W.OpenLaw.row PySem.Challenge.rw_pressluck_k51_games_read))) s) 7716 true (w.withFollow "special-get-raises" false):=λos=>by kernel_rfl
theorem K51.Kt (w:World):Hd.GZ (RowW.prog (OpenRow.toRowW (PySem.W.OpenLaw.row PySem.Challenge.rw_pressluck_k51_games_read))) K51.vw ["OF_MANY","OF_ONE","read_number_pooltexts","PERSONS","DEEDS","read_number_games"] (λs=>xlAt K51.vw [] s && recOk (RowW.records (OpenRow.toRowW (PySem.W.OpenLaw.row PySem.Challenge.rw_pressluck_k51_games_read))) s) 7716 true (w.withFollow "special-get-raises" false):=λos=>by kernel_rfl
theorem K51.Ku (w:World):Hd.GV (RowW.prog (OpenRow.toRowW (PySem.W.OpenLaw.row PySem.Challenge.rw_pressluck_k51_games_read))) K51.vw ["OF_MANY","OF_ONE","read_number_pooltexts","PERSONS","DEEDS","read_number_games"] (λs=>xlAt K51.vw [] s && recOk (RowW.records (OpenRow.toRowW (PySem.W.OpenLaw.row PySem.Challenge.rw_pressluck_k51_games_read))) s) (Hook.obs (kHook K51.pre.heap_1 K51.AL K51.AW)) (Hook.val (kHook K51.pre.heap_1 K51.AL K51.AW)) 7716 true (w.withFollow "special-get-raises" true):=λos=>by kernel_rfl
theorem K51.Kv (w:World):Hd.GX (RowW.prog (OpenRow.toRowW (PySem.W.OpenLaw.row PySem.Challenge.rw_pressluck_k51_games_read))) K51.vw ["OF_MANY","OF_ONE","read_number_pooltexts","PERSONS","DEEDS","read_number_games"] (λs=>xlAt K51.vw [] s && recOk (RowW.records (OpenRow.toRowW (PySem.W.OpenLaw.row PySem.Challenge.rw_pressluck_k51_games_read))) s) 7716 true (w.withFollow "special-get-raises" true):=λos=>by kernel_rfl
theorem K51.Kw (w:World):Hd.GY (RowW.prog (OpenRow.toRowW (PySem.W.OpenLaw.row PySem.Challenge.rw_pressluck_k51_games_read))) K51.vw ["OF_MANY","OF_ONE","read_number_pooltexts","PERSONS","DEEDS","read_number_games"] (λs=>xlAt K51.vw [] s && recOk (RowW.records (OpenRow.toRowW (PySem.W.OpenLaw.row PySem.Challenge.rw_pressluck_k51_games_read))) s) 7716 true (w.withFollow "special-get-raises" true):=λos=>by kernel_rfl
theorem K51.Kx (w:World):Hd.GZ (RowW.prog (OpenRow.toRowW (PySem.W.OpenLaw.row PySem.Challenge.rw_pressluck_k51_games_read))) K51.vw ["OF_MANY","OF_ONE","read_number_pooltexts","PERSONS","DEEDS","read_number_games"] (λs=>xlAt K51.vw [] s && recOk (RowW.records (OpenRow.toRowW (PySem.W.OpenLaw.row PySem.Challenge.rw_pressluck_k51_games_read))) s) 7716 true (w.withFollow "special-get-raises" true):=λos=>by kernel_rfl
theorem K51.run (w:World):Hd.Runs (RowW.prog (OpenRow.toRowW (PySem.W.OpenLaw.row PySem.Challenge.rw_pressluck_k51_games_read))) K51.vw ["OF_MANY","OF_ONE","read_number_pooltexts","PERSONS","DEEDS","read_number_games"] (λs=>xlAt K51.vw [] s && recOk (RowW.records (OpenRow.toRowW (PySem.W.OpenLaw.row PySem.Challenge.rw_pressluck_k51_games_read))) s) (Hook.obs (kHook K51.pre.heap_1 K51.AL K51.AW)) (Hook.val (kHook K51.pre.heap_1 K51.AL K51.AW)) 7716 true w:=PySem.W.byRow2 "special-get-raises" (λw=>Hd.FC (K51.Kp w) (K51.Kq w) (K51.Kr w) (K51.Kt w)) (λw=>Hd.FC (K51.Ku w) (K51.Kv w) (K51.Kw w) (K51.Kx w)) w
end Ou
set_option tactic.hygienic false
set_option compiler.extract_closed false
set_option hygiene false in
local macro_rules | `(tactic| symm) => `(tactic| (refine (?_ : let G_ : Prop := _; G_); intro G_))
set_option hygiene false in
local macro_rules | `(tactic| nofun) => `(tactic| dsimp only [G_])
local macro_rules | `(tactic| ac_rfl) => `(tactic| decide +kernel)
local macro_rules | `(tactic| omega) => `(tactic| lia)
namespace L2
open PySem PySem.Spec PyProof.Rows
abbrev Key:=Sum Int Str
noncomputable def oH:Key->Value->Bool
 | .inl k,v=>Value.isInt k v
 | .inr x,v=>Value.isStrOf x v
noncomputable def G0 (w:World):Key->Int
 | .inl k=>hashInt k
 | .inr x=>hashStr w x
theorem cI:∀{k:Key} {v:Value},oH k v=true->(∃i t,k=Sum.inl i/\v=Value.int i t)\/(∃x t,k=Sum.inr x/\v=Value.str x t)
 | .inl i,v,h=>by
  obtain⟨t,e⟩:=Value.isInt_shape (k:=i) (v:=v) h;exact .inl ⟨i,t,rfl,e⟩
 | .inr x,v,h=>by
  obtain⟨t,e⟩:=Value.isStrOf_shape (x:=x) (v:=v) h;exact .inr ⟨x,t,rfl,e⟩
theorem zy (i:Int) (t:Tok):oH (.inl i) (.int i t)=true:=by simp [oH,Value.isInt]
theorem zz (x:Str) (t:Tok):oH (.inr x) (.str x t)=true:=by simp [oH,Value.isStrOf]
theorem He (a b:Int):decide ((Sum.inl a:Key)=Sum.inl b)=(a==b):=by
 by_cases e:a=b
 ·subst e;simp
 ·have h:¬(Sum.inl a:Key)=Sum.inl b:=λq=>e (Sum.inl.inj q);rw[decide_eq_false h];exact(beq_eq_false_iff_ne.mpr e).symm
theorem Hg (a b:Str):decide ((Sum.inr a:Key)=Sum.inr b)=decide (a=b):=by
 by_cases e:a=b
 ·subst e;simp
 ·have h:¬(Sum.inr a:Key)=Sum.inr b:=λq=>e (Sum.inr.inj q);rw[decide_eq_false h,decide_eq_false e]
theorem Hh (a:Int) (b:Str):decide ((Sum.inl a:Key)=Sum.inr b)=false:=decide_eq_false (λq=>nomatch q)
theorem Hi (a:Str) (b:Int):decide ((Sum.inr a:Key)=Sum.inl b)=false:=decide_eq_false (λq=>nomatch q)
noncomputable def cG (prog:Program) (w:World):PySem.KeyKind prog w Key where
 is:=oH
 hash:=G0 w
 inj:=λv a b ha hb=>by
  rcases cI ha with ⟨i,t,rfl,rfl⟩ | ⟨x,t,rfl,rfl⟩
  ·rcases cI hb with ⟨j,u,rfl,e⟩ | ⟨y,u,rfl,e⟩
   ·injection e with e1 _;rw[e1]
   ·exact nomatch e
  ·rcases cI hb with ⟨j,u,rfl,e⟩ | ⟨y,u,rfl,e⟩
   ·exact nomatch e
   ·injection e with e1 _;rw[e1]
 byValue:=λk v h=>by
  rcases cI h with ⟨i,t,rfl,rfl⟩ | ⟨x,t,rfl,rfl⟩ <;>rfl
 pyHash:=λhv h=>by
  rcases cI hv with ⟨i,t,rfl,rfl⟩ | ⟨x,t,rfl,rfl⟩
  ·exact wpAny_pyHash_int h
  ·exact wpAny_pyHash_str h
 eqBool:=λhu hv h=>by
  rcases cI hu with ⟨i,t,rfl,rfl⟩ | ⟨x,t,rfl,rfl⟩
  ·rcases cI hv with ⟨j,u,rfl,rfl⟩ | ⟨y,u,rfl,rfl⟩
   ·rw[He] at h;exact wpAny_eqBool_int h
   ·rw[Hh] at h;exact SeqAt.EqAt.int_str i t y u _ _ _ _ h
  ·rcases cI hv with ⟨j,u,rfl,rfl⟩ | ⟨y,u,rfl,rfl⟩
   ·rw[Hi] at h;exact SeqAt.EqAt.str_int x t j u _ _ _ _ h
   ·rw[Hg] at h;exact wpAny_eqBool_str h
 «strs»:=λk x t v h=>by
  rcases cI h with ⟨i,u,rfl,e⟩ | ⟨y,u,rfl,e⟩
  ·exact nomatch e
  ·injection e with e1 _
   subst e1;cases v <;>rfl
theorem uI (prog:Program) (w:World) (i:Int) (t:Tok):(cG prog w).is (.inl i) (.int i t)=true:=zy i t
theorem uJ (prog:Program) (w:World) (x:Str) (t:Tok):(cG prog w).is (.inr x) (.str x t)=true:=zz x t
inductive V where
 | c6 | bl (b:Bool) | int (i:Int) | str (x:Str) | AX (b:Array UInt8) | JV (b:UInt64) | ref (a:Addr) | ty (n:String)
 deriving DecidableEq
noncomputable def RelV:V->Value->Prop
 | .c6,u=>u=Value.none
 | .bl b,u=>u=Value.bool b
 | .int i,u=>∃t,u=Value.int i t
 | .str x,u=>∃t,u=Value.str x t
 | .AX b,u=>∃t,u=Value.bytes b t
 | .JV b,u=>∃t,u=Value.float b t
 | .ref a,u=>u=Value.ref a
 | .ty n,u=>u=Value.type n
abbrev bS:List V->List Value->Prop:=Paired RelV
theorem bS.length {xs:List V} {us:List Value} (r:bS xs us):xs.length=us.length:=Paired.length r
theorem bS.get:∀{xs:List V} {us:List Value} {i:Nat} {x:V},bS xs us->xs[i]?=some x->∃u,us[i]?=some u/\RelV x u
 | _,_,_,_,.nil,e=>by simp at e
 | _,_,0,_,.cons r _,e=>by simp at e;subst e;exact⟨_,rfl,r⟩
 | _,_,i+1,x,.cons _ t,e=>by
  obtain⟨u,h1,h2⟩:=bS.get (i:=i) (x:=x) t (by simpa using e);exact⟨u,by simpa using h1,h2⟩
theorem bS.append:∀{xs ys:List V} {us ws:List Value},bS xs us->bS ys ws->bS (xs++ys) (us++ws)
 | _,_,_,_,.nil,s=>s
 | _,_,_,_,.cons r t,s=>.cons r (bS.append t s)
theorem bS.take:∀{xs:List V} {us:List Value} (n:Nat),bS xs us->bS (xs.take n) (us.take n)
 | _,_,0,_=>.nil
 | _,_,_+1,.nil=>.nil
 | _,_,n+1,.cons r t=>.cons r (bS.take n t)
theorem bS.drop:∀{xs:List V} {us:List Value} (n:Nat),bS xs us->bS (xs.drop n) (us.drop n)
 | _,_,0,r=>r
 | _,_,_+1,.nil=>.nil
 | _,_,n+1,.cons _ t=>bS.drop n t
noncomputable def mq:Option V->Option Value->Prop
 | some v,some u=>RelV v u
 | none,none=>True
 | _,_=>False
noncomputable def KV {κ:Type}:List (κ×V)->List (κ×Value)->Prop:=Paired fun(p:κ×V) (q:κ×Value)=>p.1=q.1/\RelV p.2 q.2
noncomputable def kV:Key->V
 | .inl i=>.int i
 | .inr x=>.str x
inductive HO where
 | lst (xs:List V)
 | tup (xs:List V)
 | dK (kvs:List (Key×V)) | dT (kvs:List (List Key×V))
 | set (S:Int->Bool) (n:Nat)
 | ins (C dx:Addr) (fs:List (Str×V))
 | own (x:Addr)
 | xd (fs:List (Str×V))
 | met (f x:Addr)
 | NH (lo hi:Int)
 | uE (o:Obj) (u:HO)
 | FD (ps:Array Value)
 | ext (φ:Heap->Prop)
abbrev Hp:=Addr->Option HO
noncomputable def upd (H:Hp) (a:Addr) (o:HO):Hp:=λb=>if b=a then some o else H b
theorem aj {H:Hp} {a:Addr} {o:HO}:upd H a o a=some o:=by unfold upd;rw[if_pos rfl]
theorem aV {H:Hp} {a b:Addr} {o:HO} (h:b≠a):upd H a o b=H b:=by unfold upd;rw[if_neg h]
theorem DL {H:Hp} {a:Addr} {o u:HO}:upd (upd H a o) a u=upd H a u:=by
 funext b;unfold upd;split <;>rfl
theorem Ky {H:Hp} {a b:Addr} {o u:HO} (h:H a=some o) (h':H b=some u) (d:o≠u):a≠b:=by
 intro e;subst e;rw[h] at h';exact d (aa9 h')
theorem d9 {H:Hp} {a b:Addr} {o:HO} (h:H a=some o) (h':H b=none):a≠b:=by
 intro e;subst e;rw[h] at h';cases h'
noncomputable def TabAt (H:Hp) (h:Heap) (a:Addr) (ps:Array Value):Prop:=∃mo:Array Value,h.get? a=some {cls:=.none,data:=.fields mo}/\
 (mo=#[]\/∃(l c:Value) (c1:Addr) (q:Str) (t:Tok),ps=#[l,c,.str q t]/\mo=#[l,c,.ref c1]/\H c1=some (.own a)/\h.CodeRec (.ref c1) q)
section
variable (P : Program) (w : World)
noncomputable def cJ (H:Hp) (h:Heap) (a:Addr):HO->Prop
 | .lst xs=>xs.length<=sizeLine/\∃(bI:List Value) (n:Nat),bS xs bI/\h.get? a=some {cls:=.type "list",data:=.seq bI.toArray n}
 | .tup xs=>xs.length<=sizeLine/\∃bI:List Value,bS xs bI/\IsTup h a bI.toArray
 | .dK kvs=>kvs.length<=sizeLine/\(a==sysModules)=false/\∃vs,KV kvs vs/\h.DictOf (cG P w) a vs
 | .dT kvs=>kvs.length<=sizeLine/\(a==sysModules)=false/\∃xs:List (List Key×Addr×Value),
   Paired (fun(p:List Key×V) (q:List Key×Addr×Value)=>p.1=q.1/\H q.2.1=some (.tup (p.1.map kV))/\RelV p.2 q.2.2) kvs xs/\
   ∃o es ep,h.get? a=some o/\o.ExactDict/\o.data=.dict es ep/\es.toList=xs.map (entryOfKey (tupleKind (cG P w)))/\(xs.map (·.1)).Nodup
 | .set S n=>h.SetOf (intKind P w) a S n
 | .ins C dx fs=>H dx=some (.own a)/\fs.length<=1000/\dx≠a/\h.get? a=some (PySem.W.instObj C dx)/\
   ∃mA,h.Ns1 dx mA/\(∀f,mq (fs.lookup f) (mA f))/\PySem.Within mA (fs.map (·.1))
 | .own _=>∃o,h.get? a=some o
 | .xd fs=>∃mA,h.Ns1 a mA/\∀f,mq (fs.lookup f) (mA f)
 | .NH lo hi=>∃t u v,h.get? a=some {cls:=.type "range",data:=.fields #[.int lo t,.int hi u,.int 1 v]}
 | .uE o u=>h.get? a=some o/\cJ H h a u
 | .FD ps=>TabAt H h a ps
 | .met f x=>h.get? a=some (PySem.W.methodObj (.ref f) (.ref x))
 | .ext φ=>φ h/\(∃o,h.get? a=some o)/\∀h1 h2:Heap,φ h1->(∀o,h1.get? a=some o->h2.get? a=some o)->φ h2
noncomputable def gW (H:Hp) (h:Heap):Prop:=∀a o,H a=some o->cJ P w H h a o
end
section
variable {P : Program} {w : World} {H H' : Hp} {h h' : Heap} {a : Addr} {o : HO}
theorem cJ.lt (x:cJ P w H h a o):a<h.objs.size:=by
 cases o with
 | lst xs=>obtain⟨_,_,_,_,e⟩:=x;exact Heap.lt_size e
 | tup xs=>obtain⟨_,_,_,p⟩:=x;exact p.lt
 | dK kvs=>obtain⟨_,_,_,_,o,_,_,e,_⟩:=x;exact Heap.lt_size e
 | dT kvs=>obtain⟨_,_,_,_,o,_,_,e,_⟩:=x;exact Heap.lt_size e
 | set S n=>obtain⟨o,_,_,_,e,_⟩:=x;exact Heap.lt_size e
 | ins C dx fs=>obtain⟨_,_,_,e,_⟩:=x;exact Heap.lt_size e
 | own y=>obtain⟨_,e⟩:=x;exact Heap.lt_size e
 | xd fs=>obtain⟨_,⟨_,_,_,e,_⟩,_⟩:=x;exact Heap.lt_size e
 | NH lo hi=>obtain⟨_,_,_,e⟩:=x;exact Heap.lt_size e
 | uE ob u=>obtain⟨e,_⟩:=x;exact Heap.lt_size e
 | FD ps=>obtain⟨_,e,_⟩:=x;exact Heap.lt_size e
 | met f y=>exact Heap.lt_size (show h.get? a=some _ from x)
 | ext φ=>obtain⟨_,⟨_,e⟩,_⟩:=x;exact Heap.lt_size e
theorem Paired.Hj {α β:Type} {F G:α->β->Prop}:∀{l₁:List α} {l₂:List β},Paired F l₁ l₂->(∀a b,F a b->G a b)->Paired G l₁ l₂
 | _,_,.nil,_=>.nil
 | _,_,.cons r t,f=>.cons (f _ _ r) (Paired.Hj t f)
theorem cJ.oJ (x:cJ P w H h a o) (k:∀b u,(b=a\/H b=some (.own a))->h.get? b=some u->h'.get? b=some u)
  (ho:∀b,H b=some (.own a)->H' b=some (.own a)) (ht:∀b xs,H b=some (.tup xs)->H' b=some (.tup xs)):cJ P w H' h' a o:=by
 induction o with
 | lst xs=>obtain⟨z,bI,n,r,e⟩:=x;exact⟨z,bI,n,r,k _ _ (.inl rfl) e⟩
 | tup xs=>obtain⟨z,bI,r,ob,e,c⟩:=x;exact⟨z,bI,r,ob,k _ _ (.inl rfl) e,c⟩
 | dK kvs=>obtain⟨z,y,vs,r,ob,es,ep,e,c⟩:=x;exact⟨z,y,vs,r,ob,es,ep,k _ _ (.inl rfl) e,c⟩
 | dT kvs=>
  obtain⟨z,y,xs,r,ob,es,ep,e,c⟩:=x;exact⟨z,y,xs,Paired.Hj r λp q z=>⟨z.1,ht _ _ z.2.1,z.2.2⟩,ob,es,ep,k _ _ (.inl rfl) e,c⟩
 | set S n=>obtain⟨ob,es,ep,t,e,c⟩:=x;exact⟨ob,es,ep,t,k _ _ (.inl rfl) e,c⟩
 | ins C dx fs=>
  obtain⟨d,z,ne,e,mA,⟨od,es,ep,e2,c⟩,r⟩:=x;exact⟨ho _ d,z,ne,k _ _ (.inl rfl) e,mA,⟨od,es,ep,k _ _ (.inr d) e2,c⟩,r⟩
 | own y=>obtain⟨ob,e⟩:=x;exact⟨ob,k _ _ (.inl rfl) e⟩
 | xd fs=>obtain⟨mA,⟨od,es,ep,e,c⟩,r⟩:=x;exact⟨mA,⟨od,es,ep,k _ _ (.inl rfl) e,c⟩,r⟩
 | NH lo hi=>obtain⟨t,u,v,e⟩:=x;exact⟨t,u,v,k _ _ (.inl rfl) e⟩
 | uE ob u ih=>obtain⟨e,q⟩:=x;exact⟨k _ _ (.inl rfl) e,ih q⟩
 | FD ps=>
  obtain⟨mo,e,q⟩:=x;refine⟨mo,k _ _ (.inl rfl) e,?_⟩;rcases q with q | ⟨l,c,c1,qn,t,e1,e2,e3,c2,o2,vs2,t2,f1,f2,f3,f4⟩
  ·exact .inl q
  ·cases f1;exact .inr ⟨l,c,c1,qn,t,e1,e2,ho _ e3,c1,o2,vs2,t2,rfl,k _ _ (.inr e3) f2,f3,f4⟩
 | met f y=>
  have e:h.get? a=some (PySem.W.methodObj (.ref f) (.ref y)):=x;show h'.get? a=some (PySem.W.methodObj (.ref f) (.ref y));exact k a _ (.inl rfl) e
 | ext φ=>obtain⟨p,⟨o,e⟩,st⟩:=x;exact⟨st _ _ p λo q=>k _ _ (.inl rfl) q,⟨o,k _ _ (.inl rfl) e⟩,st⟩
theorem gW.lt (x:gW P w H h) (e:H a=some o):a<h.objs.size:=(x a o e).lt
theorem gW.fresh (x:gW P w H h) (e:h.objs.size<=a):H a=none:=by
 cases q:H a with
 | none=>rfl
 | some u=>exact absurd (aaQ (x.lt q) e) (aba _)
theorem gW.kept (x:gW P w H h) (k:∀b u,h.get? b=some u->h'.get? b=some u):gW P w H h':=λa o e=>
 (x a o e).oJ (λb u _ q=>k b u q) (λ_ q=>q) λ_ _ q=>q
theorem gW.laid (x:gW P w H h) (k:∀b u,h.get? b=some u->h'.get? b=some u) (hp:h.objs.size<=a) (new:cJ P w (upd H a o) h' a o):gW P w (upd H a o) h':=λb u e=>by
 have hn:=x.fresh hp
 by_cases hb:b=a
 ·subst hb;rw[aj] at e;cases e;exact new
 ·rw[aV hb] at e;exact(x b u e).oJ (λc v _ q=>k c v q) (λc q=>by rw[aV (d9 q hn)];exact q) λc xs q=>by rw[aV (d9 q hn)];exact q
end
noncomputable def Rd (H:Hp) (a:Addr) (u:HO):Prop:=H a=some u\/∃o,H a=some (.uE o u)
theorem Rd.ok {P:Program} {w:World} {H:Hp} {h:Heap} {a:Addr} {u:HO} (r:Rd H a u) (x:gW P w H h):cJ P w H h a u:=by
 rcases r with r | ⟨o,r⟩
 ·exact x a u r
 ·obtain⟨_,q⟩:=x a _ r;exact q
noncomputable def Kz:Option HO->Prop
 | some (.lst _)=>True
 | some (.dK _)=>True
 | some (.dT _)=>True
 | some (.set _ _)=>True
 | some (.ins _ _ _)=>True
 | some (.ext _)=>True
 | _=>False
section
variable {P : Program} {w : World} {H : Hp} {h h' : Heap} {x e : Addr} {o' : HO}
theorem gW.write (ok:gW P w H h) (mu:Kz (H x)) (he:e=x\/H e=some (.own x)) (k:∀b u,b≠e->h.get? b=some u->h'.get? b=some u) (JW:∃u,h'.get? e=some u)
  (new:cJ P w (upd H x o') h' x o'):gW P w (upd H x o') h':=λb u q=>by
 have KA:∀c y,H c=some (.own y)->c≠x:=λc y r z=>by subst z;rw[r] at mu;exact mu
 have Ov:∀c xs,H c=some (.tup xs)->c≠x:=λc xs r z=>by subst z;rw[r] at mu;exact mu
 by_cases hb:b=x
 ·subst hb;rw[aj] at q;cases q;exact new
 ·rw[aV hb] at q
  by_cases Hk:b=e
  ·have q':H b=some (.own x):=by
    rcases he with z | z
    ·exact absurd (Hk.trans z) hb
    ·rw[Hk];exact z
   rw[q] at q';cases q';obtain⟨v,hv⟩:=JW;exact⟨v,by rw[Hk];exact hv⟩
  ·refine(ok b u q).oJ (λc v hc r=>k c v ?_ r) (λc r=>by rw[aV (KA c b r)];exact r) λc xs r=>by rw[aV (Ov c xs r)];exact r
   rcases hc with rfl | hc
   ·exact Hk
   ·rintro rfl;rcases he with z | z
    ·exact KA c b hc z
    ·rw[hc] at z;cases z;exact hb rfl
end
structure Un (fs ex:List Addr) (H H':Hp) (h h':Heap):Prop where
 keep:∀b o,h.get? b=some o->H b=none->b∉fs->b∉ex->h'.get? b=some o
 slot:∀b o,h.get? b=some o->H b=none->b∈fs->b∉ex->∃sl,h'.get? b=some {o with slots:=sl}
 free:∀b o,h.get? b=some o->H b=none->b∉ex->H' b=none
 there:∀b o,h.get? b=some o->b∉ex->∃o',h'.get? b=some o'
 iB:∀b xs,H b=some (.tup xs)->H' b=some (.tup xs)
 ir:∀b o u,H b=some (.uE o u)->H' b=some (.uE o u)
 jj:∀b ps,H b=some (.FD ps)->∃more,H' b=some (.FD (ps++more))
section
variable {fs fs' ex Ow : List Addr} {H H1 H2 : Hp} {h h1 h2 h' : Heap} {a x e : Addr} {o : HO}
theorem Un.any (u:Un fs ex H H1 h h1) {b:Addr} {ob:Obj} (q:h.get? b=some ob) (n:H b=none) (hx:b∉ex):∃sl,h1.get? b=some {ob with slots:=sl}:=by
 by_cases hb:b∈fs
 ·exact u.slot b ob q n hb hx
 ·exact⟨ob.slots,u.keep b ob q n hb hx⟩
theorem Un.kept (k:∀b u,h.get? b=some u->h'.get? b=some u):Un fs ex H H h h':=
 ⟨λb ob q _ _ _=>k b ob q,λb ob q _ _ _=>⟨ob.slots,k b ob q⟩,λ_ _ _ n _=>n,λb ob q _=>⟨ob,k b ob q⟩,λ_ _ q=>q,λ_ _ _ q=>q,λ_ ps q=>⟨#[],by rw[q];simp⟩⟩
theorem Un.refl:Un fs ex H H h h:=Un.kept λ_ _ q=>q
theorem Un.laid (k:∀b u,h.get? b=some u->h'.get? b=some u) (hp:h.objs.size<=a) (hn:H a=none):Un fs ex H (upd H a o) h h' where
 keep:=λb u q _ _ _=>k b u q
 slot:=λb u q _ _ _=>⟨u.slots,k b u q⟩
 free:=λb u q n _=>by rw[aV (aaN (aaQ (Heap.lt_size q) hp))];exact n
 there:=λb u q _=>⟨u,k b u q⟩
 iB:=λb xs q=>by rw[aV (d9 q hn)];exact q
 ir:=λb u xs q=>by rw[aV (d9 q hn)];exact q
 jj:=λb ps q=>⟨#[],by rw[aV (d9 q hn),q];simp⟩
theorem Un.write (mu:Kz (H x)) (he:e=x\/H e=some (.own x)) (k:∀b u,b≠e->h.get? b=some u->h'.get? b=some u) (JW:∃u,h'.get? e=some u):Un fs ex H (upd H x o) h h':=by
 have hx:∀b,H b=none->b≠x:=λb n z=>by subst z;rw[n] at mu;exact mu
 have hb:∀b,H b=none->b≠e:=λb n z=>by
  subst z;rcases he with r | r
  ·exact hx b n r
  ·rw[n] at r;cases r
 have hm:∀b u,H b=some u->¬Kz (some u)->b≠x:=λb u q nm z=>by subst z;rw[q] at mu;exact nm mu
 refine⟨λb u q n _ _=>k b u (hb b n) q,λb u q n _ _=>⟨u.slots,k b u (hb b n) q⟩,λb u q n _=>by rw[aV (hx b n)];exact n,λb u q _=>?_,
  λb xs q=>by rw[aV (hm b _ q λz=>z)];exact q,λb u xs q=>by rw[aV (hm b _ q λz=>z)];exact q,λb ps q=>⟨#[],by rw[aV (hm b _ q λz=>z),q];simp⟩⟩
 by_cases Hk:b=e
 ·subst Hk;exact JW
 ·exact⟨u,k b u Hk q⟩
end
noncomputable def NI (h:Heap) (H:Hp):List Addr:=(List.range h.objs.size).filter λa=>(H a).isSome
noncomputable def rW (h:Heap) (H:Hp):Heap:=PySem.W.hideAll h (NI h H)
theorem zA (h:Heap) (H:Hp):(rW h H).objs.size=h.objs.size:=PySem.W.hideAll_size _ _
theorem AY {h:Heap} {H:Hp} {b:Addr} {o:Obj} (e:h.get? b=some o) (n:H b=none):(rW h H).get? b=some o:=
 PySem.W.hideAll_get _ e λhm=>by
  have q:(H b).isSome=true:=(List.mem_filter.mp hm).2;rw[n] at q;simp at q
theorem DM {h:Heap} {H:Hp} {b:Addr} {o:Obj} (e:(rW h H).get? b=some o):h.get? b=some o/\H b=none:=by
 have e':h.get? b=some o:=PySem.W.of_hideAll (NI h H) e;refine⟨e',?_⟩;cases q:H b with
 | none=>rfl
 | some x=>
  have hm:b∈NI h H:=List.mem_filter.mpr ⟨List.mem_range.mpr (Heap.lt_size e'),by simp [q]⟩;have z:(rW h H).get? b=none:=PySem.W.hideAll_none (NI h H) hm;rw[z] at e;cases e
noncomputable def DN (g h:Heap) (L:Addr):List (Addr×Obj):=(List.range h.objs.size).filterMap λa=>if a=L\/(g.get? a).isSome=true then none else (h.get? a).map λo=>(a,o)
noncomputable def rest (g h:Heap) (L d:Addr):List (Addr×Obj):=(DN g h L).filter λp=>decide (p.1≠d)
structure Mod (K:PySem.W.Frag) (mg:Str->Option Value) (base:Heap):Prop where
 JX:K.In base
 glob:base.Ns mainGlobals mg
 blt:∃mb,base.Ns builtinsNs mb/\∀x:Str,x≠"__name__"->mb x=bootBuiltins x
 nolimit:base.NoLimit
structure Cx where
 prog:Program
 w:World
 K:PySem.W.Frag
 mg:Str->Option Value
 base:Heap
 A:Around
 N:List Str
 s₀:Shared
 H₀:Hp
 env:Env
 outer:List Env
 stack:List Env
 ex:List Addr
 fn:Str->Bool
 calm:Bool
 pn:List (Addr×Obj)
 xe:Value->Shared->Prop
def fO (l:List Env):List Addr:=l.filterMap (·.frame)
abbrev Cx.fs (X:Cx):List Addr:=fO X.outer
noncomputable def Ox (sc:Scope) (x:Str):Prop:=sc.names.lookup x=some .local\/sc.names.lookup x=some .cell\/sc.names.lookup x=some .free
noncomputable def Loc (sc:Scope) (x:Str):Prop:=sc.names.lookup x=some .local\/sc.names.lookup x=some .cell
noncomputable def Look (env:Env) (h:Heap) (m:Str->Option Value) (x:Str) (u:Value):Prop:=
 (env.kindOf x=some .local/\m x=some u)\/((env.kindOf x=some .cell\/env.kindOf x=some .free)/\∃c,env.cells.lookup x=some c/\h.IsCell c (some u))
structure Cx.Ok (X:Cx):Prop where
 mod:Mod X.K X.mg X.base
 kind:X.env.scope.kind=.function
 glob:X.env.globals=mainGlobals
 blt:X.env.builtins=builtinsNs
 above:X.s₀.heap.objs.size<=X.env.locals
 inj:∀x y c,X.env.cells.lookup x=some c->X.env.cells.lookup y=some c->x=y
 has:∀x,(X.env.kindOf x=some .cell\/X.env.kindOf x=some .free)->∃c,X.env.cells.lookup x=some c
 Hl:∀x c,X.fn x=true->X.env.cells.lookup x=some c->X.s₀.heap.objs.size<=c
 hd:X.calm=true->X.A.handled=none
 frames:X.A.frames=some X.stack
 JY:X.stack=X.outer\/(X.stack=X.env::X.outer/\X.env.frame=some X.env.locals)
 NJ:∀b∈X.ex,b≠X.env.locals/\∀x c,X.env.cells.lookup x=some c->c≠b
 bs:∀b o,X.base.get? b=some o->X.s₀.heap.get? b=some o/\X.H₀ b=none
 Dx:X.base.objs.size<=X.s₀.heap.objs.size
 wG:∀b o,X.base.get? b=some o->b∉X.ex
 zB:∀b∈X.ex,b∉X.fs
 mw:X.s₀.heap.FunFrames X.base X.outer
 FE:∀b∈X.fs,X.H₀ b=none
structure Inv (X:Cx) (pins:List (Addr×Obj)) (σ:List (Option V)) (H:Hp) (s:Shared):Prop where
 ok:X.Ok
 os:s.os=X.s₀.os
 bare:AllBare s.gens
 base:Un X.fs X.ex X.H₀ H X.s₀.heap s.heap
 loc:∃m,s.heap.Ns X.env.locals m/\∀(i:Nat) (x:Str) (v:V),X.N[i]?=some x->σ[i]?=some (some v)->Ox X.env.scope x->∃u,RelV v u/\Look X.env s.heap m x u
 cell:∀x c,X.env.cells.lookup x=some c->∃v,s.heap.IsCell c v
 free:H X.env.locals=none
 fj:∀x c,X.env.cells.lookup x=some c->H c=none
 pin:∀p∈X.pn++pins,s.heap.get? p.1=some p.2/\H p.1=none/\p.1≠X.env.locals/\p.1∉X.fs/\∀v,p.2.data≠.cell v
 cj:gW X.prog X.w H s.heap
 len:σ.length=X.N.length
section
variable {X : Cx} {pins : List (Addr × Obj)} {σ : List (Option V)} {H H' : Hp} {s : Shared} {h' : Heap}
theorem Cx.Ok.Oy (ok:X.Ok) {b:Addr} {o:Obj} (e:X.base.get? b=some o):b∉X.fs:=λhb=>by
 have:=(ok.mw.mem hb).1;rw[e] at this;cases this
theorem Inv.bs (I:Inv X pins σ H s):∀b o,X.base.get? b=some o->s.heap.get? b=some o/\H b=none:=λb o e=>
 ⟨I.base.keep b o (I.ok.bs b o e).1 (I.ok.bs b o e).2 (I.ok.Oy e) (I.ok.wG b o e),I.base.free b o (I.ok.bs b o e).1 (I.ok.bs b o e).2 (I.ok.wG b o e)⟩
theorem Inv.bk (I:Inv X pins σ H s):∀b o,X.base.get? b=some o->s.heap.get? b=some o:=λb o e=>(I.bs b o e).1
theorem Inv.mod (I:Inv X pins σ H s):Mod X.K X.mg X.base:=I.ok.mod
theorem Inv.oz (I:Inv X pins σ H s):X.K.In s.heap:=I.ok.mod.JX.keeps I.bk
theorem Inv.lt (I:Inv X pins σ H s):X.env.locals<s.heap.objs.size:=let ⟨_,hn,_⟩:=I.loc;hn.lt
theorem Inv.sz (I:Inv X pins σ H s):X.s₀.heap.objs.size<=s.heap.objs.size:=aaR I.ok.above (Nat.le_of_lt I.lt)
theorem Inv.Oz (I:Inv X pins σ H s) {a:Addr} (h:s.heap.objs.size<=a):a∉X.fs:=λhb=>by
 obtain⟨_,o,ho,_⟩:=I.ok.mw.mem hb;exact absurd (aaQ (Heap.lt_size ho) (aaR I.sz h)) (aba _)
theorem Inv.DO (I:Inv X pins σ H s):∀x c,X.env.cells.lookup x=some c->c≠X.env.locals:=λx c e z=>by
 obtain⟨v,o,ho,hd⟩:=I.cell x c e;obtain⟨m,⟨o',es,ep,AZ,hd',_⟩,_⟩:=I.loc;rw[z,AZ] at ho;cases ho;rw[hd'] at hd;cases hd
theorem Inv.mw (I:Inv X pins σ H s):s.heap.FunFrames X.base X.outer:=by
 have all:∀(l:List Env),(∀b∈fO l,b∈X.fs)->X.s₀.heap.FunFrames X.base l->s.heap.FunFrames X.base l:=by
  intro l
  induction l with
  | nil=>intro _ _;trivial
  | cons env r ih=>
   intro hs hl;obtain⟨hk,⟨L,o,hf,hn,ho,hd⟩,hr⟩:=hl;have hL:L∈X.fs:=hs L (by unfold fO;rw[List.filterMap_cons,hf];exact aaK);obtain⟨sl,e⟩:=I.base.slot L o ho (I.ok.FE L hL) hL λz=>I.ok.zB L z hL;exact⟨hk,⟨L,_,hf,hn,e,hd⟩,ih (λb hb=>hs b (by unfold fO;rw[List.filterMap_cons,hf];exact aaJ _ hb)) hr⟩
 exact all X.outer (λ_ hb=>hb) I.ok.mw
theorem Inv.stack (I:Inv X pins σ H s):s.heap.FunFrames X.base X.stack:=by
 rcases I.ok.JY with e | ⟨e,hf⟩
 ·rw[e];exact I.mw
 ·rw[e];obtain⟨m,hn,_⟩:=I.loc;refine .cons (by rw[I.ok.kind];decide) hf hn ?_ I.mw;exact Heap.get?_none_of_le (aaR I.ok.Dx I.ok.above)
theorem Inv.rX (I:Inv X pins σ H s):∀b∈fO X.stack,b∈X.env.locals::X.fs:=λb hb=>by
 rcases I.ok.JY with e | ⟨e,hf⟩
 ·rw[e] at hb;exact aaJ _ hb
 ·rw[e] at hb;unfold fO at hb;rw[List.filterMap_cons,hf] at hb;exact hb
theorem Inv.rY (I:Inv X pins σ H s):∀b∈fO X.stack,H b=none:=λb hb=>by
 rcases List.mem_cons.mp (I.rX b hb) with e | hb
 ·rw[e];exact I.free
 ·obtain⟨_,o,ho,_⟩:=I.ok.mw.mem hb;exact I.base.free b o ho (I.ok.FE b hb) λz=>I.ok.zB b z hb
theorem Inv.step {g':Array GenState} {t':Nat} {d':Drawn} {ch:List Addr} (I:Inv X pins σ H s)
  (AM:∀b∈ch,(b∈X.ex\/X.s₀.heap.objs.size<=b)/\b≠X.env.locals/\(∀x c,X.env.cells.lookup x=some c->c≠b)/\∀p∈X.pn++pins,p.1≠b)
  (keep:∀b o,b≠X.env.locals->b∉X.fs->b∉ch->s.heap.get? b=some o->H b=none->h'.get? b=some o)
  (slot:∀b o,b≠X.env.locals->b∈X.fs->b∉ch->s.heap.get? b=some o->H b=none->∃sl,h'.get? b=some {o with slots:=sl}) (free:∀b o,b∉ch->s.heap.get? b=some o->H b=none->H' b=none)
  (there:∀b o,b∉ch->s.heap.get? b=some o->∃o',h'.get? b=some o')
  (iB:∀b xs,H b=some (.tup xs)->H' b=some (.tup xs)) (ir:∀b o u,H b=some (.uE o u)->H' b=some (.uE o u)) (jj:∀b ps,H b=some (.FD ps)->∃more,H' b=some (.FD (ps++more)))
  (ns:∀m,s.heap.Ns X.env.locals m->h'.Ns X.env.locals m) (cj:gW X.prog X.w H' h') (hg:AllBare g'):
  Inv X pins σ H' {s with heap:=h',gens:=g',drawn:=d',toks:=t'}:=by
 have Z8:∀b o,X.s₀.heap.get? b=some o->b≠X.env.locals:=λb o e=>aaN (aaQ (Heap.lt_size e) I.ok.above);have NK:∀b o,X.s₀.heap.get? b=some o->b∉X.ex->b∉ch:=λb o e hx hb=>by
  rcases(AM b hb).1 with z | z
  ·exact hx z
  ·exact absurd (aaQ (Heap.lt_size e) z) (aba _)
 have cellK:∀x c,X.env.cells.lookup x=some c->∀v,s.heap.IsCell c v->h'.IsCell c v:=λx c e v ⟨o,ho,hd⟩=>by
  have FF:c∉ch:=λz=>(AM c z).2.2.1 x c e rfl
  by_cases hc:c∈X.fs
  ·obtain⟨sl,q⟩:=slot c o (I.DO x c e) hc FF ho (I.fj x c e);exact⟨_,q,hd⟩
  ·exact⟨o,keep c o (I.DO x c e) hc FF ho (I.fj x c e),hd⟩
 refine⟨I.ok,I.os,hg,⟨λb o e n hb hx=>?_,λb o e n hb hx=>?_,λb o e n hx=>?_,λb o e hx=>?_,λb xs e=>iB b xs (I.base.iB b xs e),λb o xs e=>ir b o xs (I.base.ir b o xs e),λb ps e=>?_⟩,?_,λx c e=>?_,?_,λx c e=>?_,λp hp=>?_,cj,I.len⟩
 ·exact keep b o (Z8 b o e) hb (NK b o e hx) (I.base.keep b o e n hb hx) (I.base.free b o e n hx)
 ·obtain⟨sl,e1⟩:=I.base.slot b o e n hb hx;obtain⟨sl',e2⟩:=slot b _ (Z8 b o e) hb (NK b o e hx) e1 (I.base.free b o e n hx);exact⟨sl',e2⟩
 ·obtain⟨o',e1⟩:=I.base.there b o e hx;exact free b o' (NK b o e hx) e1 (I.base.free b o e n hx)
 ·obtain⟨o',e1⟩:=I.base.there b o e hx;exact there b o' (NK b o e hx) e1
 ·obtain⟨m1,e1⟩:=I.base.jj b ps e;obtain⟨m2,e2⟩:=jj b _ e1;exact⟨m1++m2,by rw[e2,Array.append_assoc]⟩
 ·obtain⟨m,hn,hl⟩:=I.loc;refine⟨m,ns m hn,λi x v e1 e2 e3=>?_⟩;obtain⟨u,r,l⟩:=hl i x v e1 e2 e3;refine⟨u,r,?_⟩;rcases l with l | ⟨k,c,e,z⟩
  ·exact .inl l
  ·exact .inr ⟨k,c,e,cellK x c e _ z⟩
 ·obtain⟨v,z⟩:=I.cell x c e;exact⟨v,cellK x c e v z⟩
 ·obtain⟨m,⟨o,_,_,ho,_⟩,_⟩:=I.loc;exact free _ o (λz=>(AM _ z).2.1 rfl) ho I.free
 ·obtain⟨v,o,ho,hd⟩:=I.cell x c e;exact free c o (λz=>(AM c z).2.2.1 x c e rfl) ho (I.fj x c e)
 ·obtain⟨e,n,ne,nf,d⟩:=I.pin p hp;have FF:p.1∉ch:=λz=>(AM p.1 z).2.2.2 p hp rfl;exact⟨keep p.1 p.2 ne nf FF e n,free p.1 p.2 FF e n,ne,nf,d⟩
theorem Inv.un {t':Nat} (I:Inv X pins σ H s) (u:Un X.fs [] H H' s.heap h') (cj:gW X.prog X.w H' h'):Inv X pins σ H' {s with heap:=h',toks:=t'}:=by
 obtain⟨m,⟨o,es,ep,ho,r⟩,_⟩:=id I.loc;obtain⟨sl,hL⟩:=u.any ho I.free (by simp);exact I.step (g':=s.gens) (d':=s.drawn) (ch:=[]) (λ_ z=>nomatch z) (λb o _ hb _ e n=>u.keep b o e n hb (by simp)) (λb o _ hb _ e n=>u.slot b o e n hb (by simp)) (λb o _ e n=>u.free b o e n (by simp)) (λb o _ e=>u.there b o e (by simp)) u.iB u.ir u.jj (λm' hm=>by
  obtain⟨o',OA,wq,AZ,r'⟩:=hm;rw[ho] at AZ;cases AZ;exact⟨_,OA,wq,hL,r'⟩) cj I.bare
theorem Inv.call {g':Array GenState} {t':Nat} {d':Drawn} {ch:List Addr} (I:Inv X pins σ H s) (u:Un (fO X.stack) ch H H' s.heap h') (cj:gW X.prog X.w H' h') (hg:AllBare g')
  (AM:∀b∈ch,(b∈X.ex\/X.s₀.heap.objs.size<=b)/\b≠X.env.locals/\(∀x c,X.env.cells.lookup x=some c->c≠b)/\∀p∈X.pn++pins,p.1≠b):
  Inv X pins σ H' {s with heap:=h',gens:=g',drawn:=d',toks:=t'}:=by
 obtain⟨m,⟨o,es,ep,ho,r⟩,_⟩:=id I.loc;obtain⟨sl,hL⟩:=u.any ho I.free λz=>(AM _ z).2.1 rfl;exact I.step (ch:=ch) AM (λb o hL hb hc e n=>u.keep b o e n (λz=>(List.mem_cons.mp (I.rX b z)).elim hL hb) hc) (λb o _ _ hc e n=>u.any e n hc) (λb o hc e n=>u.free b o e n hc) (λb o hc e=>u.there b o e hc) u.iB u.ir u.jj (λm' hm=>by
  obtain⟨o',OA,wq,AZ,r'⟩:=hm;rw[ho] at AZ;cases AZ;exact⟨_,OA,wq,hL,r'⟩) cj hg
theorem Inv.turned {t':Nat} {it:Addr} (I:Inv X pins σ H s) (k:∀b o,b≠it->s.heap.get? b=some o->h'.get? b=some o) (hn:H it=none) (hL:it≠X.env.locals)
  (h1:it∈X.ex\/X.s₀.heap.objs.size<=it) (h2:∀x c,X.env.cells.lookup x=some c->c≠it) (h3:∀p∈X.pn++pins,p.1≠it):Inv X pins σ H {s with heap:=h',toks:=t'}:=by
 have Z9:∀b u,H b=some u->b≠it:=λb u e z=>by rw[z,hn] at e;cases e
 refine I.step (g':=s.gens) (d':=s.drawn) (ch:=[it]) (λb hb=>?_) (λb o _ _ hc e _=>k b o (λz=>hc (by simp [z])) e) (λb o _ _ hc e _=>⟨o.slots,k b o (λz=>hc (by simp [z])) e⟩) (λ_ _ _ _ n=>n)
  (λb o hc e=>⟨o,k b o (λz=>hc (by simp [z])) e⟩) (λ_ _ e=>e) (λ_ _ _ e=>e) (λb ps e=>⟨#[],by rw[e];simp⟩) (λm hm=>?_) (λb u e=>?_) I.bare
 ·have e:b=it:=by simpa using hb
  subst e;exact⟨h1,hL,h2,h3⟩
 ·obtain⟨o,es,ep,ho,r⟩:=hm;exact⟨o,es,ep,k _ o (Ne.symm hL) ho,r⟩
 ·refine(I.cj b u e).oJ (λc v hc q=>k c v ?_ q) (λ_ q=>q) λ_ _ q=>q;rcases hc with z | z
  ·rw[z];exact Z9 b u e
  ·exact Z9 c _ z
theorem Inv.tok (I:Inv X pins σ H s) (t:Nat):Inv X pins σ H {s with toks:=t}:=I.un (h':=s.heap) (t':=t) Un.refl I.cj
theorem Inv.kept {t':Nat} (I:Inv X pins σ H s) (k:∀b u,s.heap.get? b=some u->h'.get? b=some u):Inv X pins σ H {s with heap:=h',toks:=t'}:=I.un (Un.kept k) (I.cj.kept k)
theorem Inv.laid {a:Addr} {o:HO} {t':Nat} (I:Inv X pins σ H s) (k:∀b u,s.heap.get? b=some u->h'.get? b=some u) (hp:s.heap.objs.size<=a) (new:cJ X.prog X.w (upd H a o) h' a o):
  Inv X pins σ (upd H a o) {s with heap:=h',toks:=t'}:=I.un (Un.laid k hp (I.cj.fresh hp)) (I.cj.laid k hp new)
theorem Inv.write {x e:Addr} {o:HO} {t':Nat} (I:Inv X pins σ H s) (mu:Kz (H x)) (he:e=x\/H e=some (.own x)) (k:∀b u,b≠e->s.heap.get? b=some u->h'.get? b=some u) (JW:∃u,h'.get? e=some u)
  (new:cJ X.prog X.w (upd H x o) h' x o):Inv X pins σ (upd H x o) {s with heap:=h',toks:=t'}:=I.un (Un.write mu he k JW) (I.cj.write mu he k JW new)
theorem Inv.ku {FG:List (Addr×Obj)} (I:Inv X pins σ H s) (h:∀p∈FG,s.heap.get? p.1=some p.2/\H p.1=none/\p.1≠X.env.locals/\p.1∉X.fs/\∀v,p.2.data≠.cell v):Inv X FG σ H s:=
 ⟨I.ok,I.os,I.bare,I.base,I.loc,I.cell,I.free,I.fj,λp hp=>(List.mem_append.mp hp).elim (λz=>I.pin p (List.mem_append_left _ z)) (h p),I.cj,I.len⟩
theorem oK {N:List Str} (hN:N.Nodup) {i j:Nat} {x:Str} (a:N[i]?=some x) (b:N[j]?=some x):i=j:=by
 obtain⟨h1,e1⟩:=List.getElem?_eq_some_iff.mp a;obtain⟨h2,e2⟩:=List.getElem?_eq_some_iff.mp b;exact(List.getElem_inj hN).mp (e1.trans e2.symm)
theorem qU {M:Model} {A:Around} {E:Value->Shared->Prop} {i:Nat} {x:Str} {v:V} {u:Value} {Q:Unit->Shared->Prop} (I:Inv X pins σ H s) (hN:X.N.Nodup) (hi:X.N[i]?=some x) (hx:Loc X.env.scope x) (r:RelV v u)
  (h:∀s',Inv X pins (σ.set i (some v)) H s'->(∃a,Heap.SameBut a s.heap s'.heap/\(a=X.env.locals\/X.env.cells.lookup x=some a))->Q () s') (hf:X.fn x=true\/X.env.scope.names.lookup x=some .local:=by first | exact .inl rfl | exact .inr rfl | assumption):wpAny M A (storeName X.env x u) Q E s:=by
 obtain⟨m,hn,hl⟩:=id I.loc;have Hm:(X.env.scope.kind==.class || (X.env.scope.kind==.module && X.env.locals !=X.env.globals))=false:=by rw[I.ok.kind];rfl
 have KC:i<σ.length:=by rw[I.len];exact(List.getElem?_eq_some_iff.mp hi).1
 have DO:=I.DO;have tracked:∀{a:Addr} {h':Heap},(∃o,s.heap.get? a=some o/\H a=none)->Heap.SameBut a s.heap h'->gW X.prog X.w H h':=λ{a h'} ha hs b ob e=>by
  obtain⟨_,_,FH⟩:=ha;refine(I.cj b ob e).oJ (λc w' hc q=>(hs.2 c ?_).trans q) (λ_ q=>q) λ_ _ q=>q;rintro rfl;rcases hc with rfl | hc
  ·rw[FH] at e;cases e
  ·rw[FH] at hc;cases hc
 rcases hx with hk | hk
 ·refine wpAny_storeName_local hk hn (λh' hn' hs=>?_) Hm;obtain⟨oL,_,_,KD,_⟩:=id hn;refine h _ ⟨I.ok,I.os,I.bare,⟨λb o e n hb hx=>?_,λb o e n hb hx=>?_,I.base.free,λb o e hx=>?_,I.base.iB,I.base.ir,I.base.jj⟩,⟨_,hn',λj y v' e1 e2 e3=>?_⟩,λy c e=>?_,I.free,I.fj,λp hp=>?_,tracked ⟨oL,KD,I.free⟩ hs,by simpa using I.len⟩ ⟨_,hs,.inl rfl⟩
  ·exact(hs.2 b (aaN (aaQ (Heap.lt_size e) I.ok.above))).trans (I.base.keep b o e n hb hx)
  ·obtain⟨sl,e1⟩:=I.base.slot b o e n hb hx;exact⟨sl,(hs.2 b (aaN (aaQ (Heap.lt_size e) I.ok.above))).trans e1⟩
  ·obtain⟨o',e1⟩:=I.base.there b o e hx;exact⟨o',(hs.2 b (aaN (aaQ (Heap.lt_size e) I.ok.above))).trans e1⟩
  ·by_cases hj:j=i
   ·subst hj;rw[hi] at e1;cases e1;rw[List.getElem?_set_self KC] at e2;cases e2;exact⟨u,r,.inl ⟨hk,by simp⟩⟩
   ·rw[List.getElem?_set_ne (Ne.symm hj)] at e2;obtain⟨u',r',q⟩:=hl j y v' e1 e2 e3;refine⟨u',r',?_⟩;rcases q with ⟨k,e⟩ | ⟨k,c,e,z⟩
    ·refine .inl ⟨k,?_⟩;have:y≠x:=λe=>hj (oK hN e1 (e▸hi));simp [this,e]
    ·exact .inr ⟨k,c,e,z.sameBut hs (DO y c e)⟩
  ·obtain⟨w',z⟩:=I.cell y c e;exact⟨w',z.sameBut hs (DO y c e)⟩
  ·obtain⟨e,n,ne,nf,d⟩:=I.pin p hp;exact⟨(hs.2 p.1 ne).trans e,n,ne,nf,d⟩
 ·have OB:X.fn x=true:=by
   rcases hf with z | z
   ·exact z
   ·rw[z] at hk;cases hk
  obtain⟨c,hc⟩:=I.ok.has x (.inl hk);obtain⟨w',z⟩:=I.cell x c hc;refine wpAny_storeName_cell I.ok.kind hk hc z (λh' hc' hs=>?_);obtain⟨oc,hoc,OC⟩:=id z;refine h {s with heap:=h'} ⟨I.ok,I.os,I.bare,⟨λb o e n hb hx=>?_,λb o e n hb hx=>?_,I.base.free,λb o e hx=>?_,I.base.iB,I.base.ir,I.base.jj⟩,⟨m,hn.sameBut hs (Ne.symm (DO x c hc)),λj y v' e1 e2 e3=>?_⟩,λy c' e=>?_,I.free,I.fj,λp hp=>?_,tracked ⟨oc,hoc,I.fj x c hc⟩ hs,by simpa using I.len⟩ ⟨c,hs,.inr hc⟩
  ·exact(hs.2 b (aaN (aaQ (Heap.lt_size e) (I.ok.Hl x c OB hc)))).trans (I.base.keep b o e n hb hx)
  ·obtain⟨sl,e1⟩:=I.base.slot b o e n hb hx;exact⟨sl,(hs.2 b (aaN (aaQ (Heap.lt_size e) (I.ok.Hl x c OB hc)))).trans e1⟩
  ·obtain⟨o',e1⟩:=I.base.there b o e hx;exact⟨o',(hs.2 b (aaN (aaQ (Heap.lt_size e) (I.ok.Hl x c OB hc)))).trans e1⟩
  ·by_cases hj:j=i
   ·subst hj;rw[hi] at e1;cases e1;rw[List.getElem?_set_self KC] at e2;cases e2;exact⟨u,r,.inr ⟨.inl hk,c,hc,hc'⟩⟩
   ·rw[List.getElem?_set_ne (Ne.symm hj)] at e2;obtain⟨u',r',q⟩:=hl j y v' e1 e2 e3;refine⟨u',r',?_⟩;rcases q with q | ⟨k,c',e,z'⟩
    ·exact .inl q
    ·refine .inr ⟨k,c',e,z'.sameBut hs ?_⟩;rintro rfl;exact hj (oK hN e1 (I.ok.inj _ _ _ e hc▸hi))
  ·by_cases hcc:c'=c
   ·subst hcc;exact⟨_,hc'⟩
   ·obtain⟨w2,z2⟩:=I.cell y c' e;exact⟨w2,z2.sameBut hs hcc⟩
  ·obtain⟨e,n,ne,nf,d⟩:=I.pin p hp;refine⟨(hs.2 p.1 ?_).trans e,n,ne,nf,d⟩;intro q;rw[q,hoc] at e;have q':oc=p.2:=aa9 e;exact d w' (by rw[<-q'];exact OC)
theorem iC {M:Model} {A:Around} {E:Value->Shared->Prop} {i:Nat} {x:Str} {v:V} {u:Value} {Q:Unit->Shared->Prop} (I:Inv X pins σ H s) (hN:X.N.Nodup) (hi:X.N[i]?=some x) (hx:Loc X.env.scope x) (r:RelV v u)
  (h:∀s',Inv X pins (σ.set i (some v)) H s'->Q () s') (hf:X.fn x=true\/X.env.scope.names.lookup x=some .local:=by first | exact .inl rfl | exact .inr rfl | assumption):wpAny M A (storeName X.env x u) Q E s:=
 qU I hN hi hx r (λs' I' _=>h s' I') hf
theorem Inv.FI {s':Shared} {ch:List Addr} (I:Inv X pins σ H s) (ho:s'.os=s.os) (u:Un (fO X.stack) ch H H' s.heap s'.heap) (cj:gW X.prog X.w H' s'.heap) (hg:AllBare s'.gens)
  (AM:∀b∈ch,(b∈X.ex\/X.s₀.heap.objs.size<=b)/\b≠X.env.locals/\(∀x c,X.env.cells.lookup x=some c->c≠b)/\∀p∈X.pn++pins,p.1≠b):Inv X pins σ H' s':=by
 obtain⟨h',g',d',t',o'⟩:=s';have e:o'=s.os:=ho;subst e;exact I.call (g':=g') (t':=t') (d':=d') u cj hg AM
end
abbrev XK:=Value->Option Addr->Hp->Prop
abbrev St:=List (Option V)
abbrev VK:=V->Hp->Prop
abbrev TE:=St->Hp->VK->Prop
abbrev TT:=St->Hp->(Bool->Hp->Prop)->Prop
abbrev TA:=St->Hp->(List V->Hp->Prop)->Prop
structure Ends where
 nx:St->Hp->Prop
 rt:VK
 bk:St->Hp->Prop:=λ_ _=>False
 ct:St->Hp->Prop:=λ_ _=>False
abbrev TS:=Ends->St->Hp->Prop
noncomputable def EP (X:Cx) (pins:List (Addr×Obj)) (σ:St) (Q:VK) (u:Value) (s':Shared):Prop:=∃v H',Inv X pins σ H' s'/\RelV v u/\Q v H'
noncomputable def TP (X:Cx) (pins:List (Addr×Obj)) (σ:St) (Q:Bool->Hp->Prop) (b:Bool) (s':Shared):Prop:=∃H',Inv X pins σ H' s'/\Q b H'
noncomputable def AP (X:Cx) (pins:List (Addr×Obj)) (σ:St) (Q:List V->Hp->Prop) (us:List Value) (s':Shared):Prop:=∃vs H',Inv X pins σ H' s'/\bS vs us/\Q vs H'
noncomputable def SP (X:Cx) (pins:List (Addr×Obj)) (D:Ends) (f:Flow) (s':Shared):Prop:=
 match f with
 | .next=>∃σ' H',Inv X pins σ' H' s'/\D.nx σ' H'
 | .brk=>∃σ' H',Inv X pins σ' H' s'/\D.bk σ' H'
 | .cont=>∃σ' H',Inv X pins σ' H' s'/\D.ct σ' H'
 | .ret u=>∃v σ' H',Inv X pins σ' H' s'/\RelV v u/\D.rt v H'
noncomputable def PE (X:Cx) (e:Expr) (t:TE):Prop:=
 ∀(pins:List (Addr×Obj)) (s:Shared) (σ:St) (H:Hp) (Q:VK),Inv X pins σ H s->t σ H Q->wpAny (model X.prog X.w) X.A (eval e X.env) (EP X pins σ Q) X.xe s
noncomputable def PT (X:Cx) (e:Expr) (t:TT):Prop:=
 ∀(pins:List (Addr×Obj)) (s:Shared) (σ:St) (H:Hp) (Q:Bool->Hp->Prop),Inv X pins σ H s->t σ H Q->wpAny (model X.prog X.w) X.A (isTrue e X.env (eval e X.env)) (TP X pins σ Q) X.xe s
noncomputable def PW (X:Cx) (e:Expr) (t:TT):Prop:=
 ∀(whole:Sem Value) (pins:List (Addr×Obj)) (s:Shared) (σ:St) (H:Hp) (Q:Bool->Hp->Prop),Inv X pins σ H s->t σ H Q->wpAny (model X.prog X.w) X.A (isTrue e X.env whole) (TP X pins σ Q) X.xe s
theorem PW.pt {X:Cx} {e:Expr} {t:TT} (h:PW X e t):PT X e t:=h _
noncomputable def PA (X:Cx) (es:List Expr) (t:TA):Prop:=
 ∀(pos:Pos) (pins:List (Addr×Obj)) (s:Shared) (σ:St) (H:Hp) (Q:List V->Hp->Prop),Inv X pins σ H s->t σ H Q->wpAny (model X.prog X.w) X.A (spliced (backTo pos (starEach es X.env))) (AP X pins σ Q) X.xe s
noncomputable def PS (X:Cx) (st:Stmt) (t:TS):Prop:=
 ∀(pins:List (Addr×Obj)) (s:Shared) (σ:St) (H:Hp) (D:Ends),Inv X pins σ H s->t D σ H->wpAny (model X.prog X.w) X.A (exec st X.env) (SP X pins D) X.xe s
noncomputable def uF (X:Cx) (st:List Stmt) (t:TS):Prop:=
 ∀(pins:List (Addr×Obj)) (s:Shared) (σ:St) (H:Hp) (D:Ends),Inv X pins σ H s->t D σ H->wpAny (model X.prog X.w) X.A (execs st X.env) (SP X pins D) X.xe s
theorem cW {α:Type} {t:Sem α} {Q Q':α->Shared->Prop} {M:Model} {A:Around} {E:Value->Shared->Prop} {s:Shared} (h:wpAny M A t Q E s) (hQ:∀a s,Q a s->Q' a s):wpAny M A t Q' E s:=wpAny_mono h hQ λ_ _ x=>x
section
variable {X : Cx}
noncomputable def OD (o:Option (Option V)) (k:V->Prop):Prop:=match o with | some (some v)=>k v | _=>False
noncomputable def cK (x:V) (k:Addr->Prop):Prop:=match x with | .ref a=>k a | _=>False
noncomputable def iD (x:V) (k:Int->Prop):Prop:=match x with | .int a=>k a | _=>False
noncomputable def FJ (x:V) (k:Bool->Prop):Prop:=match x with | .bl a=>k a | _=>False
noncomputable def nE (x:V) (k:Str->Prop):Prop:=match x with | .str a=>k a | _=>False
noncomputable def dc (vs:List V) (k:V->Prop):Prop:=match vs with | [a]=>k a | _=>False
noncomputable def eA (vs:List V) (k:V->V->Prop):Prop:=match vs with | [a,b]=>k a b | _=>False
noncomputable def qj (vs:List V) (k:V->V->V->Prop):Prop:=match vs with | [a,b,c]=>k a b c | _=>False
noncomputable def my (vs:List V) (k:V->V->V->V->Prop):Prop:=match vs with | [a,b,c,d]=>k a b c d | _=>False
theorem rdV_c {v:V} {k:V->Prop}:OD (some (some v)) k=k v:=rfl
theorem rdR_c {a:Addr} {k:Addr->Prop}:cK (.ref a) k=k a:=rfl
theorem rdI_c {a:Int} {k:Int->Prop}:iD (.int a) k=k a:=rfl
theorem rdB_c {a:Bool} {k:Bool->Prop}:FJ (.bl a) k=k a:=rfl
theorem rdS_c {a:Str} {k:Str->Prop}:nE (.str a) k=k a:=rfl
theorem rdL1_c {a:V} {k:V->Prop}:dc [a] k=k a:=rfl
theorem rdL2_c {a b:V} {k:V->V->Prop}:eA [a,b] k=k a b:=rfl
theorem rdL3_c {a b c:V} {k:V->V->V->Prop}:qj [a,b,c] k=k a b c:=rfl
theorem rdL4_c {a b c d:V} {k:V->V->V->V->Prop}:my [a,b,c,d] k=k a b c d:=rfl
theorem rdV_eq {o:Option (Option V)} {k:V->Prop}:OD o k=∃v,o=some (some v)/\k v:=propext ⟨λh=>by rcases o with _ | _ | v;exact h.elim;exact h.elim;exact⟨v,rfl,h⟩,fun⟨v,e,h⟩=>by subst e;exact h⟩
theorem rdR_eq {x:V} {k:Addr->Prop}:cK x k=∃a,x=.ref a/\k a:=propext ⟨λh=>by cases x <;>first | exact⟨_,rfl,h⟩ | exact h.elim,fun⟨v,e,h⟩=>by subst e;exact h⟩
theorem rdI_eq {x:V} {k:Int->Prop}:iD x k=∃a,x=.int a/\k a:=propext ⟨λh=>by cases x <;>first | exact⟨_,rfl,h⟩ | exact h.elim,fun⟨v,e,h⟩=>by subst e;exact h⟩
theorem rdB_eq {x:V} {k:Bool->Prop}:FJ x k=∃a,x=.bl a/\k a:=propext ⟨λh=>by cases x <;>first | exact⟨_,rfl,h⟩ | exact h.elim,fun⟨v,e,h⟩=>by subst e;exact h⟩
theorem rdS_eq {x:V} {k:Str->Prop}:nE x k=∃a,x=.str a/\k a:=propext ⟨λh=>by cases x <;>first | exact⟨_,rfl,h⟩ | exact h.elim,fun⟨v,e,h⟩=>by subst e;exact h⟩
theorem rdL1_eq {vs:List V} {k:V->Prop}:dc vs k=∃a,vs=[a]/\k a:=propext ⟨λh=>by rcases vs with _ | ⟨a,_ | ⟨b,l⟩⟩ <;>first | exact⟨_,rfl,h⟩ | exact h.elim,fun⟨_,e,h⟩=>by subst e;exact h⟩
theorem rdL2_eq {vs:List V} {k:V->V->Prop}:eA vs k=∃a b,vs=[a,b]/\k a b:=propext ⟨λh=>by rcases vs with _ | ⟨a,_ | ⟨b,_ | ⟨c,l⟩⟩⟩ <;>first | exact⟨_,_,rfl,h⟩ | exact h.elim,fun⟨_,_,e,h⟩=>by subst e;exact h⟩
theorem rdL3_eq {vs:List V} {k:V->V->V->Prop}:qj vs k=∃a b c,vs=[a,b,c]/\k a b c:=propext ⟨λh=>by rcases vs with _ | ⟨a,_ | ⟨b,_ | ⟨c,_ | ⟨d,l⟩⟩⟩⟩ <;>first | exact⟨_,_,_,rfl,h⟩ | exact h.elim,fun⟨_,_,_,e,h⟩=>by subst e;exact h⟩
theorem rdL4_eq {vs:List V} {k:V->V->V->V->Prop}:my vs k=∃a b c d,vs=[a,b,c,d]/\k a b c d:=propext ⟨λh=>by rcases vs with _ | ⟨a,_ | ⟨b,_ | ⟨c,_ | ⟨d,_ | ⟨e,l⟩⟩⟩⟩⟩ <;>first | exact⟨_,_,_,_,rfl,h⟩ | exact h.elim,fun⟨_,_,_,_,e,h⟩=>by subst e;exact h⟩
noncomputable def tVar (i:Nat):TE:=λσ H Q=>OD σ[i]? λv=>Q v H
noncomputable def tC (v:V):TE:=λ_ H Q=>Q v H
theorem Hn {i:Nat} {x:Str} {pos:Pos} (hN:X.N[i]?=some x) (hv:Ox X.env.scope x) (hd:(x==("__debug__":Str))=false:=by decide) (zC:(x==("__classdict__":Str))=false:=by decide):PE X (.Name x pos) (tVar i):=by
 intro pins s σ H Q I h;obtain⟨v,e,h⟩:=rdV_eq.mp h;obtain⟨m,hn,hl⟩:=I.loc;obtain⟨u,r,l⟩:=hl i x v hN e hv;have fin:EP X pins σ Q u s:=⟨v,H,I,r,h⟩
 rcases l with ⟨hk,hm⟩ | ⟨hk,c,hc,FK⟩
 ·exact wpAny_Name (wpAny_loadName_local I.ok.kind hk hn hm fin) hd
 ·rcases hk with hk | hk
  ·exact wpAny_Name (wpAny_loadName_cell I.ok.kind hk hc FK fin) hd
  ·exact wpAny_Name (wpAny_loadName_free I.ok.kind hk hc FK fin zC) hd
theorem af {i j pos}:PE X (.Constant (.int i) j pos) (tC (.int i)):=λ_ _ _ H _ I h=>wpAny_Constant_int ⟨.int i,H,I.tok _,⟨_,rfl⟩,h⟩
theorem kx {b j pos}:PE X (.Constant (.bool b) j pos) (tC (.bl b)):=λ_ _ _ H _ I h=>Constant_bool ⟨.bl b,H,I,rfl,h⟩
theorem eB {j pos}:PE X (.Constant .none j pos) (tC .c6):=λ_ _ _ H _ I h=>Constant_none ⟨.c6,H,I,rfl,h⟩
theorem ao {x j pos}:PE X (.Constant (.str x) j pos) (tC (.str x)):=λ_ _ _ H _ I h=>Calls.Constant_str ⟨.str x,H,I.tok _,⟨_,rfl⟩,h⟩
noncomputable def Gl (X:Cx) (x:Str):Prop:=X.env.kindOf x=some .globalImplicit
theorem kA {E:Value->Shared->Prop} {pins:List (Addr×Obj)} {s:Shared} {σ:St} {H:Hp} {x:Str} {u:Value} {pos:Pos} {Q:Value->Shared->Prop} (I:Inv X pins σ H s) (hg:Gl X x) (hm:X.mg x=some u) (h:Q u s)
  (hd:(x==("__debug__":Str))=false:=by decide):wpAny (model X.prog X.w) X.A (eval (.Name x pos) X.env) Q E s:=
 Calls.Name_function_global I.ok.kind hg (Calls.loadGlobal_global (by rw[I.ok.glob];exact I.mod.glob.keeps I.bk) hm h) hd
theorem iE {E:Value->Shared->Prop} {pins:List (Addr×Obj)} {s:Shared} {σ:St} {H:Hp} {x:Str} {u:Value} {pos:Pos} {Q:Value->Shared->Prop} (I:Inv X pins σ H s) (hg:Gl X x) (hm:X.mg x=none) (hv:bootBuiltins x=some u) (h:Q u s)
  (hn:x≠"__name__":=by decide) (hd:(x==("__debug__":Str))=false:=by decide):wpAny (model X.prog X.w) X.A (eval (.Name x pos) X.env) Q E s:=by
 obtain⟨mb,h1,h2⟩:=I.mod.blt;exact Calls.Name_function_global I.ok.kind hg (Calls.loadGlobal_builtin (by rw[I.ok.glob];exact I.mod.glob.keeps I.bk) hm (by rw[I.ok.blt];exact h1.keeps I.bk) ((h2 x hn).trans hv) h) hd
theorem dG {x:Str} {v:V} {u:Value} {pos:Pos} (hg:Gl X x) (hm:X.mg x=some u) (r:RelV v u) (hd:(x==("__debug__":Str))=false:=by decide):PE X (.Name x pos) (tC v):=
 λ_ _ _ H _ I h=>kA I hg hm ⟨v,H,I,r,h⟩ hd
theorem dH {x:Str} {v:V} {u:Value} {pos:Pos} (hg:Gl X x) (hm:X.mg x=none) (hv:bootBuiltins x=some u) (r:RelV v u) (hn:x≠"__name__":=by decide) (hd:(x==("__debug__":Str))=false:=by decide):PE X (.Name x pos) (tC v):=
 λ_ _ _ H _ I h=>iE I hg hm hv ⟨v,H,I,r,h⟩ hn hd
noncomputable def t2I (ta tb:TE) (k:Int->Int->Hp->Prop):St->Hp->Prop:=λσ H=>ta σ H λx H1=>tb σ H1 λy H2=>∃i j,x=.int i/\y=.int j/\k i j H2
variable {a b : Expr} {ta tb : TE} {pos : Pos}
noncomputable def zD (p:Int->Int->Bool) (ta tb:TE):TE:=λσ H Q=>t2I ta tb (λi j H2=>Q (.bl (p i j)) H2) σ H
abbrev tLt:TE->TE->TE:=zD λi j=>decide (i<j)
abbrev tLe:TE->TE->TE:=zD λi j=>decide (i<=j)
abbrev tGt:TE->TE->TE:=zD λi j=>decide (j<i)
abbrev tGe:TE->TE->TE:=zD λi j=>decide (j<=i)
abbrev aal:TE->TE->TE:=zD λi j=>decide (i=j)
abbrev aam:TE->TE->TE:=zD λi j=>!decide (i=j)
noncomputable def tB (t:TE):TT:=λσ H Q=>t σ H λx H1=>FJ x λc=>Q c H1
theorem di {e:Expr} {t:TE} (h:PE X e t) (he:∀whole,isTrue e X.env whole=(do let v <-whole;standAt e.pos;holding [v] (truthy v)):=by intro _;rfl):PT X e (tB t):=by
 intro pins s σ H Q I hw;refine isTrue_plain (cW (h pins s σ H _ I hw) λv s1 eG=>?_) (he _);obtain⟨x,H1,I1,r1,q1⟩:=eG;obtain⟨d,rfl,q⟩:=rdB_eq.mp q1;cases r1;exact wpAny_truthy_bool ⟨H1,I1,q⟩
variable {tA NL : TT} {rest : List Expr}
noncomputable def tAnd (t u:TT):TT:=λσ H Q=>t σ H λc H1=>if c=true then u σ H1 Q else Q false H1
noncomputable def tOr (t u:TT):TT:=λσ H Q=>t σ H λc H1=>if c=true then Q true H1 else u σ H1 Q
noncomputable def tNot (t:TT):TT:=λσ H Q=>t σ H λc H1=>Q (!c) H1
theorem pw_and1 (ha:PT X a tA):PW X (.BoolOp .And [a] pos) tA:=by
 intro wh pins s σ H Q I h;refine isTrue_and (cW (ha pins s σ H Q I h) λc s1 e=>?_);cases c with
 | true=>exact isTrue_and_nil e
 | false=>exact e
theorem pw_or1 (ha:PT X a tA):PW X (.BoolOp .Or [a] pos) tA:=by
 intro wh pins s σ H Q I h;refine isTrue_or (cW (ha pins s σ H Q I h) λc s1 e=>?_);cases c with
 | false=>exact isTrue_or_nil e
 | true=>exact e
theorem pw_and (ha:PT X a tA) (hb:PW X (.BoolOp .And (b::rest) pos) NL):PW X (.BoolOp .And (a::b::rest) pos) (tAnd tA NL):=by
 intro wh pins s σ H Q I h;refine isTrue_and (cW (ha pins s σ H _ I h) λc s1 ⟨H1,I1,q1⟩=>?_);cases c with
 | true=>exact hb wh pins s1 σ H1 Q I1 q1
 | false=>exact⟨H1,I1,q1⟩
theorem pw_or (ha:PT X a tA) (hb:PW X (.BoolOp .Or (b::rest) pos) NL):PW X (.BoolOp .Or (a::b::rest) pos) (tOr tA NL):=by
 intro wh pins s σ H Q I h;refine isTrue_or (cW (ha pins s σ H _ I h) λc s1 ⟨H1,I1,q1⟩=>?_);cases c with
 | true=>exact⟨H1,I1,q1⟩
 | false=>exact hb wh pins s1 σ H1 Q I1 q1
theorem gy (ha:PT X a tA):PT X (.UnaryOp .Not a pos) (tNot tA):=by
 intro pins s σ H Q I h;exact isTrue_not (ha pins s σ H (λc H1=>Q (!c) H1) I h)
noncomputable def tAndV (ta tb:TE):TE:=λσ H Q=>ta σ H λx H1=>∃c,x=.bl c/\if c=true then tb σ H1 Q else Q (.bl false) H1
noncomputable def tNotV (ta:TE):TE:=λσ H Q=>ta σ H λx H1=>∃c,x=.bl c/\Q (.bl (!c)) H1
theorem fk {op} {t:TE} (h:PE X a t):PE X (.BoolOp op [a] pos) t:=λpins s σ H Q I hw=>BoolOp_one (h pins s σ H Q I hw)
theorem dP (ha:PE X a ta) (hb:PE X (.BoolOp .And (b::rest) pos) tb):PE X (.BoolOp .And (a::b::rest) pos) (tAndV ta tb):=by
 intro pins s σ H Q I h;refine BoolOp_and (cW (ha pins s σ H _ I h) λv s1 eG=>?_);obtain⟨x,H1,I1,r1,q1⟩:=eG;obtain⟨c,rfl,q1⟩:=q1;cases r1;refine wpAny_truthy_bool ?_;cases c with
 | true=>exact hb pins s1 σ H1 Q I1 q1
 | false=>exact⟨.bl false,H1,I1,rfl,q1⟩
theorem Ho (ha:PE X a ta):PE X (.UnaryOp .Not a pos) (tNotV ta):=by
 intro pins s σ H Q I h;refine UnaryOp_ (cW (ha pins s σ H _ I h) λv s1 eG=>?_);obtain⟨x,H1,I1,r1,q1⟩:=eG;obtain⟨c,rfl,q1⟩:=q1;cases r1;exact not_of (wpAny_truthy_bool ⟨.bl (!c),H1,I1,rfl,q1⟩)
noncomputable def tIf (t:TT) (ta tb:TE):TE:=λσ H Q=>t σ H λc H1=>if c=true then ta σ H1 Q else tb σ H1 Q
theorem dQ {c:Expr} (hc:PT X c tA) (ha:PE X a ta) (hb:PE X b tb):PE X (.IfExp c a b pos) (tIf tA ta tb):=by
 intro pins s σ H Q I h;refine wpAny_IfExp (cW (hc pins s σ H _ I h) λd s1 ⟨H1,I1,q1⟩=>?_);cases d with
 | true=>exact ha pins s1 σ H1 Q I1 q1
 | false=>exact hb pins s1 σ H1 Q I1 q1
end
noncomputable def bG (K:PySem.W.Frag) (H:Hp) (a:Addr) (xs:List V):Prop:=
 Rd H a (.lst xs)\/
  ∃(o:Obj) (bI:Array Value) (n:Nat),K.lookup a=some o/\o.cls=.type "list"/\o.dict=none/\o.data=.seq bI n/\bI.size<=sizeLine/\bS xs bI.toList
noncomputable def fM (K:PySem.W.Frag) (H:Hp) (a:Addr) (xs:List V):Prop:=
 Rd H a (.tup xs)\/
  ∃(o:Obj) (bI:Array Value) (n:Nat),K.lookup a=some o/\o.cls=.type "tuple"/\o.data=.seq bI n/\bI.size<=sizeLine/\bS xs bI.toList
noncomputable def OE:Value->Option V
 | .none=>some .c6
 | .bool b=>some (.bl b)
 | .int i _=>some (.int i)
 | .str x _=>some (.str x)
 | .bytes b _=>some (.AX b)
 | .float b _=>some (.JV b)
 | .ref a=>some (.ref a)
 | .type n=>some (.ty n)
 | _=>none
theorem RelV.abs {x:V} {u:Value} (r:RelV x u):OE u=some x:=by
 cases x with
 | c6=>cases r;rfl
 | bl _=>cases r;rfl
 | int _=>obtain⟨t,rfl⟩:=r;rfl
 | str _=>obtain⟨t,rfl⟩:=r;rfl
 | AX _=>obtain⟨t,rfl⟩:=r;rfl
 | JV _=>obtain⟨t,rfl⟩:=r;rfl
 | ref _=>cases r;rfl
 | ty _=>cases r;rfl
theorem RelV.inj {x y:V} {u:Value} (r:RelV x u) (q:RelV y u):x=y:=aa9 (r.abs.symm.trans q.abs)
theorem bS.inj:∀{xs ys:List V} {us:List Value},bS xs us->bS ys us->xs=ys
 | _,_,_,.nil,.nil=>rfl
 | _,_,_,.cons r t,.cons r' t'=>by rw[r.inj r',bS.inj t t']
section
variable {X : Cx} {pins : List (Addr × Obj)} {σ : St} {H : Hp} {s : Shared} {a : Addr} {xs ys : List V}
theorem bG.of {K:PySem.W.Frag} (h:H a=some (.lst xs)):bG K H a xs:=.inl (.inl h)
theorem fM.of {K:PySem.W.Frag} (h:H a=some (.tup xs)):fM K H a xs:=.inl (.inl h)
theorem Inv.list (I:Inv X pins σ H s) (h:bG X.K H a xs):∃bI:List Value,bS xs bI/\PlainL s.heap a bI.toArray/\xs.length<=sizeLine:=by
 rcases h with h | ⟨o,bI,n,hk,hc,hd,hs,hz,r⟩
 ·obtain⟨z,bI,n,r,e⟩:=h.ok I.cj;exact⟨bI,r,⟨_,n,e,rfl,rfl,rfl⟩,z⟩
 ·refine⟨bI.toList,r,⟨o,n,I.oz a o hk,hc,hd,by simpa using hs⟩,?_⟩;have e:=r.length;simp only[aa1] at e;omega
theorem Inv.tuple (I:Inv X pins σ H s) (h:fM X.K H a xs):∃bI:List Value,bS xs bI/\IsTup s.heap a bI.toArray/\xs.length<=sizeLine:=by
 rcases h with h | ⟨o,bI,n,hk,hc,hs,hz,r⟩
 ·obtain⟨z,bI,r,p⟩:=h.ok I.cj;exact⟨bI,r,p,z⟩
 ·refine⟨bI.toList,r,⟨o,I.oz a o hk,hc,n,by simpa using hs⟩,?_⟩;have e:=r.length;simp only[aa1] at e;omega
theorem Inv.uK (I:Inv X pins σ H s) (h:bG X.K H a xs) (h':bG X.K H a ys):xs=ys:=by
 obtain⟨bI,r,⟨o,n,e,_,_,d⟩,_⟩:=I.list h;obtain⟨its',r',⟨o',n',e',_,_,d'⟩,_⟩:=I.list h';rw[e] at e';cases e';rw[d] at d'
 injection d' with d1 _
 have:bI=its':=by simpa using congrArg Array.toList d1
 subst this;exact r.inj r'
theorem Inv.zE (I:Inv X pins σ H s) (h:fM X.K H a xs) (h':fM X.K H a ys):xs=ys:=by
 obtain⟨bI,r,⟨o,e,_,n,d⟩,_⟩:=I.tuple h;obtain⟨its',r',⟨o',e',_,n',d'⟩,_⟩:=I.tuple h';rw[e] at e';cases e';rw[d] at d'
 injection d' with d1 _
 have:bI=its':=by simpa using congrArg Array.toList d1
 subst this;exact r.inj r'
end
abbrev Cx.kB (X:Cx) (E:Value->Shared->Prop):Cx:={X with xe:=E}
abbrev Cx.Hq (X:Cx):Cx:=X.kB λ_ _=>False
theorem Cx.Ok.kB {X:Cx} (ok:X.Ok) (E:Value->Shared->Prop):(X.kB E).Ok:=
 ⟨ok.mod,ok.kind,ok.glob,ok.blt,ok.above,ok.inj,ok.has,ok.Hl,ok.hd,ok.frames,ok.JY,ok.NJ,ok.bs,ok.Dx,ok.wG,ok.zB,ok.mw,ok.FE⟩
theorem Cx.Ok.fm {X:Cx} {E:Value->Shared->Prop} (ok:(X.kB E).Ok):X.Ok:=
 ⟨ok.mod,ok.kind,ok.glob,ok.blt,ok.above,ok.inj,ok.has,ok.Hl,ok.hd,ok.frames,ok.JY,ok.NJ,ok.bs,ok.Dx,ok.wG,ok.zB,ok.mw,ok.FE⟩
section
variable {X : Cx} {pins : List (Addr × Obj)} {σ : St} {H : Hp} {s : Shared} {E : Value -> Shared -> Prop}
theorem Inv.kB (I:Inv X pins σ H s) (E:Value->Shared->Prop):Inv (X.kB E) pins σ H s:=⟨I.ok.kB E,I.os,I.bare,I.base,I.loc,I.cell,I.free,I.fj,I.pin,I.cj,I.len⟩
theorem Inv.fm (I:Inv (X.kB E) pins σ H s):Inv X pins σ H s:=⟨I.ok.fm,I.os,I.bare,I.base,I.loc,I.cell,I.free,I.fj,I.pin,I.cj,I.len⟩
theorem SP.fm {D:Ends} {f:Flow} {s':Shared} (h:SP (X.kB E) pins D f s'):SP X pins D f s':=by
 cases f with
 | next=>obtain⟨σ',H',I,q⟩:=h;exact⟨σ',H',I.fm,q⟩
 | brk=>obtain⟨σ',H',I,q⟩:=h;exact⟨σ',H',I.fm,q⟩
 | cont=>obtain⟨σ',H',I,q⟩:=h;exact⟨σ',H',I.fm,q⟩
 | ret u=>obtain⟨v,σ',H',I,r,q⟩:=h;exact⟨v,σ',H',I.fm,r,q⟩
theorem uF.Hq {st:List Stmt} {t:TS} (h:uF X.Hq st t):uF X st t:=λpins s σ H D I hw=>
 wpAny_mono (h pins s σ H D (I.kB _) hw) (λ_ _ q=>q.fm) λ_ _ z=>False.elim z
end
section
variable {X : Cx} {st : Stmt} {rest : List Stmt} {t u : TS} {e : Expr} {te : TE} {pos : Pos}
noncomputable def tNext:TS:=λD σ H=>D.nx σ H
noncomputable def tSeq (t u:TS):TS:=λD σ H=>t {D with nx:=u D} σ H
theorem aT:uF X [] tNext:=λ_ _ σ H _ I h=>wpAny_execs_nil ⟨σ,H,I,h⟩
theorem ag (h1:PS X st t) (h2:uF X rest u):uF X (st::rest) (tSeq t u):=by
 intro pins s σ H D I h;refine wpAny_execs_cons (cW (h1 pins s σ H {D with nx:=u D} I h) λf s1 q=>?_);cases f with
 | next=>
  obtain⟨σ',H',I',q⟩:=q;exact h2 pins s1 σ' H' D I' q
 | ret v=>exact q
 | brk=>exact q
 | cont=>exact q
theorem ak (h1:PS X st t):uF X [st] t:=by
 intro pins s σ H D I h;refine wpAny_execs_cons (cW (h1 pins s σ H D I h) λf s1 q=>?_);cases f with
 | next=>exact wpAny_execs_nil q
 | ret v=>exact q
 | brk=>exact q
 | cont=>exact q
noncomputable def Hr:TS:=λD σ H=>D.bk σ H
theorem A1:PS X (.Break pos) Hr:=λ_ _ σ H _ I h=>wpAny_Break ⟨σ,H,I,h⟩
theorem Inv.quiet {pins:List (Addr×Obj)} {σ:St} {H:Hp} {s:Shared} (I:Inv X pins σ H s):interactive X.env=false:=by simp [interactive,I.ok.kind]
noncomputable def tDrop (te:TE):TS:=λD σ H=>te σ H λ_ H1=>D.nx σ H1
theorem aX (he:PE X e te) (hs:swapsWith e none pos.line X.env=pure false:=by rfl):PS X (.Expr e pos) (tDrop te):=by
 intro pins s σ H D I h;exact wpAny_Expr_any (cW (he pins s σ H _ I h) λv s1 ⟨x,H1,I1,r1,q1⟩=>⟨σ,H1,I1,q1⟩) I.quiet hs
noncomputable def tRet (te:TE):TS:=λD σ H=>te σ H D.rt
theorem aO (he:PE X e te):PS X (.Return (some e) pos) (tRet te):=by
 intro pins s σ H D I h;exact wpAny_Return_some (cW (he pins s σ H _ I h) λv s1 ⟨x,H1,I1,r1,q1⟩=>⟨x,σ,H1,I1,r1,q1⟩)
noncomputable def tIfS (c:TT) (t u:TS):TS:=λD σ H=>c σ H λb H1=>if b=true then t D σ H1 else u D σ H1
theorem bp {c:Expr} {a b:List Stmt} {tc:TT} (hc:PT X c tc) (ha:uF X a t) (hb:uF X b u):PS X (.If c a b pos) (tIfS tc t u):=by
 intro pins s σ H D I h;refine wpAny_If (cW (hc pins s σ H _ I h) λd s1 ⟨H1,I1,q1⟩=>?_);cases d with
 | true=>exact ha pins s1 σ H1 D I1 q1
 | false=>exact hb pins s1 σ H1 D I1 q1
noncomputable def Hs:TS:=λ_ _ _=>False
theorem de:PS X st Hs:=λ_ _ _ _ _ _ h=>h.elim
end
abbrev TG:=V->St->Hp->(St->Hp->Prop)->Prop
abbrev FL:=List V->St->Hp->(St->Hp->Prop)->Prop
noncomputable def PG (X:Cx) (target:Expr) (t:TG):Prop:=
 ∀(pins:List (Addr×Obj)) (s:Shared) (σ:St) (H:Hp) (v:V) (u:Value) (Q:St->Hp->Prop),Inv X pins σ H s->RelV v u->t v σ H Q->
  wpAny (model X.prog X.w) X.A (assign target X.env u) (λ_ s'=>∃σ' H',Inv X pins σ' H' s'/\Q σ' H') X.xe s
noncomputable def JZ (X:Cx) (ts:List Expr) (t:FL):Prop:=
 ∀(pins:List (Addr×Obj)) (s:Shared) (σ:St) (H:Hp) (vs:List V) (us:List Value) (Q:St->Hp->Prop),Inv X pins σ H s->bS vs us->t vs σ H Q->
  wpAny (model X.prog X.w) X.A (assignInOrder ((assignEach ts X.env).map (·.2)) us) (λ_ s'=>∃σ' H',Inv X pins σ' H' s'/\Q σ' H') X.xe s
abbrev OF:=V->V->V->Hp->(Hp->Prop)->Prop
abbrev TIp:=V->V->Hp->VK->Prop
section
variable {X : Cx} {pos : Pos}
noncomputable def gName (i:Nat):TG:=λv σ H Q=>Q (σ.set i (some v)) H
theorem aU {i:Nat} {x:Str} (hN:X.N.Nodup) (hi:X.N[i]?=some x) (hx:Loc X.env.scope x) (hf:X.fn x=true\/X.env.scope.names.lookup x=some .local:=by first | exact .inl rfl | exact .inr rfl | assumption):PG X (.Name x pos) (gName i):=by
 intro pins s σ H v u Q I r h;exact wpAny_assign_Name (iC I hN hi hx r (λs' I'=>⟨_,H,I',h⟩) hf)
noncomputable def gNil:FL:=λvs σ H Q=>vs=[]/\Q σ H
noncomputable def gCons (t:TG) (u:FL):FL:=λvs σ H Q=>∃v r,vs=v::r/\t v σ H λσ' H'=>u r σ' H' Q
theorem dR:JZ X [] gNil:=by
 intro pins s σ H vs us Q I r h;obtain⟨e,h⟩:=h;subst e;cases r;exact assignInOrder_nil ⟨σ,H,I,h⟩
theorem bJ {e:Expr} {es:List Expr} {t:TG} {u:FL} (h1:PG X e t) (h2:JZ X es u)
  (hs:(assignEach (e::es) X.env).map (·.2)=assign e X.env::(assignEach es X.env).map (·.2):=by rfl):JZ X (e::es) (gCons t u):=by
 intro pins s σ H vs us Q I r h;obtain⟨v,vr,e1,h⟩:=h;subst e1;cases r with
 | cons r rr=>
  rw[hs];refine assignInOrder_cons (cW (h1 pins s σ H _ _ _ I r h) λ_ s1 ⟨σ1,H1,I1,q1⟩=>?_);exact h2 pins s1 σ1 H1 _ _ Q I1 rr q1
noncomputable def zF (K:PySem.W.Frag) (n:Nat) (t:FL):TG:=λv σ H Q=>∃a xs,v=.ref a/\fM K H a xs/\xs.length=n/\t xs σ H Q
theorem Ht {es:List Expr} {k:Nat} {t:FL} {n:Nat} (hc:X.calm=true) (h:JZ X es t)
  (hn:(assignEach es X.env).length=n:=by rfl) (qV:(assignEach es X.env).findIdx? (·.1)=none:=by rfl):PG X (.Tuple es k pos) (zF X.K n t):=by
 intro pins s σ H v u Q I r hw;obtain⟨a,xs,e1,hq,hl,hw⟩:=hw;subst e1;cases r;obtain⟨bI,rv,ht,hz⟩:=I.tuple hq;refine assign_Tuple_tuple (I.ok.hd hc) ht (by simp [hn,<-hl,rv.length]) qV λh' hx=>?_;have I1:Inv X pins σ H {s with heap:=h'}:=I.kept (t':=s.toks) λb o e=>hx b o (aaN (Heap.lt_size e)) e;exact h pins _ σ H xs _ Q I1 (by simpa using rv) hw
noncomputable def tAsg (te:TE) (g:TG):TS:=λD σ H=>te σ H λx H1=>g x σ H1 D.nx
theorem aH {i:Nat} {x:Str} {e:Expr} {te:TE} {pos':Pos} (he:PE X e te) (hN:X.N.Nodup:=by exact nd) (hi:X.N[i]?=some x:=by rfl) (hx:Loc X.env.scope x:=by first | exact Or.inl rfl | exact Or.inr rfl) (hs:swapsWith e (some (.Name x pos')) pos.line X.env=pure false:=by rfl) (hf:X.fn x=true\/X.env.scope.names.lookup x=some .local:=by first | exact .inl rfl | exact .inr rfl | assumption):
  PS X (.Assign [.Name x pos'] e pos) (tAsg te (gName i)):=by
 intro pins s σ H D I h;refine wpAny_Assign_Name (cW (he pins s σ H _ I h) λv s1 eG=>?_) hs;obtain⟨y,H1,I1,r1,q1⟩:=eG;exact iC I1 hN hi hx r1 (λs2 I2=>⟨_,H1,I2,q1⟩) hf
end
section
variable {X : Cx} {pos : Pos}
noncomputable def wH (c:TT) (tb:TS):TS:=λD σ H=>∃W:Nat->St->Hp->Prop,(∃m,W m σ H)/\∀m σ H,W m σ H->
 c σ H λb H1=>if b=true then ∃N:St->Hp->Prop,(∀σ' H',N σ' H'->∃m',m'<m/\W m' σ' H')/\tb {D with nx:=N,ct:=N,bk:=D.nx} σ H1 else D.nx σ H1
theorem uL {c:Expr} {body:List Stmt} {tc:TT} {tb:TS} (hp:PassesOwn (model X.prog X.w) X.A X.env X.xe) (hc:PT X c tc) (hb:uF X body tb):PS X (.While c body [] pos) (wH tc tb):=by
 intro pins s σ H D I h;obtain⟨W,⟨m0,w0⟩,turn⟩:=h;refine wpAny_While (codeAny_whileLoop (λn s'=>∃σ' H',Inv X pins σ' H' s'/\W n σ' H') ?_ m0 ⟨σ,H,I,w0⟩);rintro n s1 ⟨σ1,H1,I1,w1⟩;refine wpAny_passesOwn hp (cW (hc pins s1 σ1 H1 _ I1 (turn n σ1 H1 w1)) λb s2 ⟨H2,I2,q2⟩=>?_);cases b with
 | true=>
  obtain⟨N,hN,q2⟩:=q2;rw[if_pos rfl];refine wpAny_passesOwn hp (cW (hb pins s2 σ1 H2 _ I2 q2) λf s3 q3=>?_);cases f with
  | next=>
   obtain⟨σ3,H3,I3,n3⟩:=q3;obtain⟨m',hm,w3⟩:=hN σ3 H3 n3;exact⟨m',hm,σ3,H3,I3,w3⟩
  | cont=>
   obtain⟨σ3,H3,I3,n3⟩:=q3;obtain⟨m',hm,w3⟩:=hN σ3 H3 n3;exact⟨m',hm,σ3,H3,I3,w3⟩
  | brk=>exact q3
  | ret v=>exact q3
 | false=>
  rw[if_neg aaS];exact wpAny_execs_nil ⟨σ1,H2,I2,q2⟩
end
structure It where
 go:Nat->Hp->Prop
 wt:Nat->Hp->V->Hp->Prop
 stop:Nat->Hp->Prop
noncomputable def jV (X:Cx) (pins:List (Addr×Obj)) (H:Hp) (b:Addr):Prop:=
 H b=none/\b≠X.env.locals/\b∉X.fs/\(b∈X.ex\/X.s₀.heap.objs.size<=b)/\(∀x c,X.env.cells.lookup x=some c->c≠b)/\∀p∈X.pn++pins,p.1≠b
theorem Inv.zG {X:Cx} {pins:List (Addr×Obj)} {σ:St} {H H':Hp} {s:Shared} {b:Addr} (I:Inv X pins σ H s) (hb:s.heap.objs.size<=b) (hn:H' b=none):jV X pins H' b:=by
 refine⟨hn,Nat.ne_of_gt (aaQ I.lt hb),I.Oz hb,.inr (aaR I.sz hb),λx c e z=>?_,λp hp z=>?_⟩
 ·obtain⟨v,q⟩:=I.cell x c e;exact absurd (aaQ q.lt (by rw[z];exact hb)) (aba _)
 ·exact absurd (aaQ (Heap.lt_size (I.pin p hp).1) (by rw[z];exact hb)) (aba _)
structure Turn (P:Program) (w:World) (K:PySem.W.Frag) (tg:Expr) (J:It) (fp:List Addr) (it:Addr) (tn:Nat->Heap->Prop):Prop where
 mem:it∈fp
 obj:∀i h,tn i h->∀b∈fp,∃o,h.get? b=some o/\∀v,o.data≠.cell v
 keep:∀i h h',tn i h->(∀b∈fp,∀o,h.get? b=some o->h'.get? b=some o)->tn i h'
 item:∀(X:Cx),X.prog=P->X.w=w->X.K=K->X.calm=true->∀(i:Nat) (pins:List (Addr×Obj)) (s:Shared) (σ:St) (H:Hp) (E:Value->Shared->Prop),Inv X pins σ H s->(∀b∈fp,jV X pins H b)->tn i s.heap->J.go i H->
  wpAny (model P w) X.A (pyNext (.ref it)) (λr s1=>∃u,r=some u/\
   wpAny (model P w) X.A (letOwnedTupleGo tg (.ref it) u) (λ_ s2=>∃x H',Inv X pins σ H' s2/\RelV x u/\J.wt i H x H'/\tn (i+1) s2.heap/\∀b∈fp,H' b=none) E s1) E s
 done:∀(X:Cx),X.prog=P->X.w=w->X.K=K->X.calm=true->∀(i:Nat) (pins:List (Addr×Obj)) (s:Shared) (σ:St) (H:Hp) (E:Value->Shared->Prop),Inv X pins σ H s->(∀b∈fp,jV X pins H b)->tn i s.heap->J.stop i H->
  wpAny (model P w) X.A (pyNext (.ref it)) (λr s1=>r=none/\Inv X pins σ H s1) E s
 self:∀(A:Around) (i:Nat) (s:Shared) (Q:Value->Shared->Prop) (E:Value->Shared->Prop),tn i s.heap->Q (.ref it) s->wpAny (model P w) A (pyIter (.ref it)) Q E s
abbrev TI:=St->Hp->(It->Hp->Prop)->Prop
noncomputable def PIE (X:Cx) (pins:List (Addr×Obj)) (σ:St) (tg:Expr) (R:It->Hp->Prop) (FN:Value) (s2:Shared):Prop:=
 ∃(it:Addr) (fp:List Addr) (tn:Nat->Heap->Prop) (J:It) (H':Hp),FN=.ref it/\Inv X pins σ H' s2/\Turn X.prog X.w X.K tg J fp it tn/\tn 0 s2.heap/\(∀b∈fp,jV X pins H' b)/\R J H'
noncomputable def PI (X:Cx) (tg iter:Expr) (wi:TI):Prop:=
 ∀(pins:List (Addr×Obj)) (s:Shared) (σ:St) (H:Hp) (R:It->Hp->Prop),Inv X pins σ H s->wi σ H R->
  wpAny (model X.prog X.w) X.A (eval iter X.env) (λv s1=>wpAny (model X.prog X.w) X.A (pyIter v) (PIE X pins σ tg R) X.xe s1) X.xe s
theorem xX {M:Model} {A:Around} {E:Value->Shared->Prop} {s:Shared} {tg:Expr} {it:Addr} {u:Value} {o:Obj} {n:String} {vs:Array Value} {Q:Unit->Shared->Prop} (ho:s.heap.get? it=some o) (hc:o.cls=.type n) (hd:o.data=.fields vs)
  (hn:["enumerate","zip","dict_itemiterator","dict_reverseitemiterator","odict_iterator","itertools.zip_longest","itertools.pairwise"].contains n=false) (hQ:Q () s):wpAny M A (letOwnedTupleGo tg (.ref it) u) Q E s:=by
 unfold letOwnedTupleGo;cases tg <;>first
  | exact wpAny_pure hQ
  | (cases u <;>first
    | exact wpAny_pure hQ
    | (refine wpAny_bind (wpAny_load ho ?_)
       rw[hc,hd];show wpAny M A (if (["enumerate","zip","dict_itemiterator","dict_reverseitemiterator","odict_iterator","itertools.zip_longest","itertools.pairwise"].contains n && vs[0]?==some (rawInt _))=true then _ else _) Q E s;rw[if_neg (by intro h;rw[hn,Bool.false_and] at h;cases h)];exact wpAny_pure hQ))
noncomputable def DP (K:PySem.W.Frag) (a:Addr):It:=
 ⟨λi H=>∃xs x,bG K H a xs/\xs[i]?=some x,λi H x H'=>H'=H/\∀xs,bG K H a xs->xs[i]?=some x,λi H=>∃xs,bG K H a xs/\xs.length<=i⟩
noncomputable def OG (K:PySem.W.Frag) (a:Addr):It:=
 ⟨λi H=>∃xs x,fM K H a xs/\xs[i]?=some x,λi H x H'=>H'=H/\∀xs,fM K H a xs->xs[i]?=some x,λi H=>∃xs,fM K H a xs/\xs.length<=i⟩
noncomputable def KE (lo:Int) (n:Nat):It:=⟨λi _=>i<n,λi H x H'=>H'=H/\x=.int (lo+i),λi _=>n<=i⟩
theorem zH {P:Program} {w:World} {K:PySem.W.Frag} {tg:Expr} (a it:Addr):Turn P w K tg (DP K a) [it] it (λi h=>h.IsListIter it a i) where
 mem:=by simp
 obj:=λi h st b hb=>by
  have e:b=it:=by simpa using hb
  subst e;obtain⟨o,e,c,d⟩:=st;exact⟨o,e,λv z=>by rw[d] at z;cases z⟩
 keep:=λi h h' st k=>st.at λo e=>k it (by simp) o e
 item:=by
  intro X hP hw hK hc i pins s σ H E I hf st hg;subst hP hw hK;obtain⟨xs,x,hq,hx⟩:=hg;obtain⟨bI,rv,p,hz⟩:=I.list hq;obtain⟨u,hu,ru⟩:=rv.get hx;obtain⟨f0,f1,f2,f3,f4,f5⟩:=hf it (by simp);refine wpAny_pyNext_list_item st p.isList (x:=u) (by simpa using hu) λh' A2 sb=>?_;have I1:Inv X pins σ H {s with heap:=h'}:=I.turned (t':=s.toks) (λb o hb e=>(sb.2 b hb).trans e) f0 f1 f3 f4 f5;obtain⟨o,e,c,d⟩:=id A2;exact⟨u,rfl,xX (s:={s with heap:=h'}) e c d (by decide) ⟨x,H,I1,ru,⟨rfl,λys hy=>by rw[I.uK hy hq];exact hx⟩,A2,λb hb=>(hf b hb).1⟩⟩
 done:=by
  intro X hP hw hK hc i pins s σ H E I hf st hg;subst hP hw hK;obtain⟨xs,hq,hx⟩:=hg;obtain⟨bI,rv,p,hz⟩:=I.list hq;obtain⟨f0,f1,f2,f3,f4,f5⟩:=hf it (by simp);have hl:=rv.length;exact wpAny_pyNext_list_end (I.ok.hd hc) st p.isList (by simp;omega) λh' eb=>⟨rfl,I.turned (t':=s.toks) (λb o hb e=>eb b o hb e) f0 f1 f3 f4 f5⟩
 self:=λ_ _ _ _ _ st h=>wpAny_pyIter_listiter st h
theorem wI {P:Program} {w:World} {K:PySem.W.Frag} {tg:Expr} (a it:Addr):Turn P w K tg (OG K a) [it] it (λi h=>h.IsTupleIter it a i) where
 mem:=by simp
 obj:=λi h st b hb=>by
  have e:b=it:=by simpa using hb
  subst e;obtain⟨o,e,c,d⟩:=st;exact⟨o,e,λv z=>by rw[d] at z;cases z⟩
 keep:=λi h h' st k=>st.at λo e=>k it (by simp) o e
 item:=by
  intro X hP hw hK hc i pins s σ H E I hf st hg;subst hP hw hK;obtain⟨xs,x,hq,hx⟩:=hg;obtain⟨bI,rv,p,hz⟩:=I.tuple hq;obtain⟨u,hu,ru⟩:=rv.get hx;obtain⟨f0,f1,f2,f3,f4,f5⟩:=hf it (by simp);refine wpAny_pyNext_tuple_item st (show s.heap.IsTuple a bI.toArray from p) (x:=u) (by simpa using hu) λh' A2 sb=>?_;have I1:Inv X pins σ H {s with heap:=h'}:=I.turned (t':=s.toks) (λb o hb e=>(sb.2 b hb).trans e) f0 f1 f3 f4 f5;obtain⟨o,e,c,d⟩:=id A2;exact⟨u,rfl,xX (s:={s with heap:=h'}) e c d (by decide) ⟨x,H,I1,ru,⟨rfl,λys hy=>by rw[I.zE hy hq];exact hx⟩,A2,λb hb=>(hf b hb).1⟩⟩
 done:=by
  intro X hP hw hK hc i pins s σ H E I hf st hg;subst hP hw hK;obtain⟨xs,hq,hx⟩:=hg;obtain⟨bI,rv,p,hz⟩:=I.tuple hq;obtain⟨f0,f1,f2,f3,f4,f5⟩:=hf it (by simp);have hl:=rv.length;exact wpAny_pyNext_tuple_end (I.ok.hd hc) st (show s.heap.IsTuple a bI.toArray from p) (by simp;omega) λh' eb=>⟨rfl,I.turned (t':=s.toks) (λb o hb e=>eb b o hb e) f0 f1 f3 f4 f5⟩
 self:=λ_ _ _ _ _ st h=>wpAny_pyIter_tupleiter st h
theorem wJ {P:Program} {w:World} {K:PySem.W.Frag} {tg:Expr} (it:Addr) (lo:Int) (n:Nat):Turn P w K tg (KE lo n) [it] it (λi h=>IsRangeIter h it (lo+ (i:Nat)*1) ((n:Int) - (i:Nat)) 1) where
 mem:=by simp
 obj:=λi h st b hb=>by
  have e:b=it:=by simpa using hb
  subst e;exact⟨_,st,λv z=>by
   have z':Data.fields _=Data.cell v:=z;cases z'⟩
 keep:=λi h h' st k=>k it (by simp) _ st
 item:=by
  intro X hP hw hK hc i pins s σ H E I hf st hg;subst hP hw hK;obtain⟨f0,f1,f2,f3,f4,f5⟩:=hf it (by simp);have W:=Walks.range (prog:=X.prog) (w:=X.w) (I.ok.hd hc) it lo 1 n;refine W.item i s _ _ hg st λv h' tk hv A2 kk=>?_;obtain⟨t,rfl⟩:=hv;have I1:Inv X pins σ H {s with heap:=h',toks:=tk}:=I.turned (λb o hb e=>kk b o (by simpa using hb) e) f0 f1 f3 f4 f5;refine⟨_,rfl,xX (s:={s with heap:=h',toks:=tk}) (n:="range_iterator") A2 rfl rfl (by decide) ⟨.int (lo+i),H,I1,⟨t,?_⟩,⟨rfl,rfl⟩,A2,λb hb=>(hf b hb).1⟩⟩;rw[Int.mul_one]
 done:=by
  intro X hP hw hK hc i pins s σ H E I hf st hg;subst hP hw hK;obtain⟨f0,f1,f2,f3,f4,f5⟩:=hf it (by simp);exact wpAny_pyNext_range_end (I.ok.hd hc) st (by have:n<=i:=hg;omega) λh' eb=>⟨rfl,I.turned (t':=s.toks) (λb o hb e=>eb b o hb e) f0 f1 f3 f4 f5⟩
 self:=λ_ _ _ _ _ st h=>wpAny_pyIter_rangeiter st h
section
variable {X : Cx} {tg : Expr}
noncomputable def iList (K:PySem.W.Frag) (tl:TE):TI:=λσ H R=>tl σ H λx H1=>cK x λa=>(∃xs,bG K H1 a xs)/\R (DP K a) H1
noncomputable def iTup (K:PySem.W.Frag) (tl:TE):TI:=λσ H R=>tl σ H λx H1=>cK x λa=>(∃xs,fM K H1 a xs)/\R (OG K a) H1
theorem DQ {l:Expr} {tl:TE} (hl:PE X l tl):PI X tg l (iList X.K tl):=by
 intro pins s σ H R I h;refine cW (hl pins s σ H _ I h) λv s1 eG=>?_;obtain⟨x,H1,I1,r1,q1⟩:=eG;obtain⟨a,e,⟨xs,hq⟩,q⟩:=rdR_eq.mp q1;subst e;cases r1;obtain⟨bI,rv,p,hz⟩:=I1.list hq;refine wpAny_pyIter_list p.isList ?_;refine⟨s1.heap.objs.size,[s1.heap.objs.size],_,_,H1,rfl,I1.kept (t':=s1.toks) λb o e=>Heap.get?_push_of_some _ e,zH a _,⟨_,Heap.get?_push_size _ rfl,rfl,rfl⟩,λb hb=>?_,q⟩;have e:b=s1.heap.objs.size:=by simpa using hb
 subst e;exact I1.zG (aaC _) (I1.cj.fresh (aaC _))
theorem Hu {l:Expr} {tl:TE} (hl:PE X l tl):PI X tg l (iTup X.K tl):=by
 intro pins s σ H R I h;refine cW (hl pins s σ H _ I h) λv s1 eG=>?_;obtain⟨x,H1,I1,r1,q1⟩:=eG;obtain⟨a,e,⟨xs,hq⟩,q⟩:=rdR_eq.mp q1;subst e;cases r1;obtain⟨bI,rv,p,hz⟩:=I1.tuple hq;refine wpAny_pyIter_tuple (show s1.heap.IsTuple a bI.toArray from p) ?_;refine⟨s1.heap.objs.size,[s1.heap.objs.size],_,_,H1,rfl,I1.kept (t':=s1.toks) λb o e=>Heap.get?_push_of_some _ e,wI a _,⟨_,Heap.get?_push_size _ rfl,rfl,rfl⟩,λb hb=>?_,q⟩;have e:b=s1.heap.objs.size:=by simpa using hb
 subst e;exact I1.zG (aaC _) (I1.cj.fresh (aaC _))
theorem uM {pins:List (Addr×Obj)} {σ:St} {H:Hp} {s:Shared} {R:It->Hp->Prop} {E:Value->Shared->Prop} {lo hi:Int} {t u v:Tok} {tk:Nat} (I:Inv X pins σ H s) (h1:-(2^62)<=lo) (h2:lo<2^62) (h3:-(2^62)<=hi) (h4:hi<2^62)
  (q:R (KE lo (hi - lo).toNat) H):wpAny (model X.prog X.w) X.A (pyIter (.ref s.heap.objs.size)) (PIE X pins σ tg R) E {s with heap:=s.heap.push {cls:=.type "range",data:=.fields #[.int lo t,.int hi u,.int 1 v]},toks:=tk}:=by
 refine wpAny_pyIter_range (IsRange.new ..) (small_one h1 h2 h3 h4) ?_;have I1:Inv X pins σ H {s with heap:=s.heap.push {cls:=.type "range",data:=.fields #[.int lo t,.int hi u,.int 1 v]},toks:=tk}:=I.kept λb o e=>Heap.get?_push_of_some _ e;refine⟨(s.heap.push {cls:=.type "range",data:=.fields #[.int lo t,.int hi u,.int 1 v]}).objs.size,[(s.heap.push {cls:=.type "range",data:=.fields #[.int lo t,.int hi u,.int 1 v]}).objs.size],_,_,H,rfl,
  I1.kept (t':=tk) λb o e=>Heap.get?_push_of_some _ e,wJ _ lo (hi - lo).toNat,?_,λb hb=>?_,q⟩
 ·have e1:lo+ ((0:Nat):Int)*1=lo:=by simp
  have e2:(((hi - lo).toNat:Nat):Int) - ((0:Nat):Int)=Builtin.Range.rangeSize lo hi 1:=by rw[rangeSize_one];split <;>omega
  show IsRangeIter _ _ (lo+ ((0:Nat):Int)*1) ((((hi - lo).toNat:Nat):Int) - ((0:Nat):Int)) 1;rw[e1,e2];exact Heap.get?_push_size _ rfl
 ·have e:b=(s.heap.push {cls:=.type "range",data:=.fields #[.int lo t,.int hi u,.int 1 v]}).objs.size:=by simpa using hb
  subst e;exact I1.zG (aaC _) (I1.cj.fresh (aaC _))
noncomputable def iRng1 (ta:TA):TI:=λσ H R=>ta σ H λvs H1=>dc vs λx=>iD x λj=> -(2^62)<=j/\j<2^62/\R (KE 0 j.toNat) H1
noncomputable def iRng2 (ta:TA):TI:=λσ H R=>ta σ H λvs H1=>eA vs λx y=>iD x λi=>iD y λj=>(-(2^62)<=i/\i<2^62/\-(2^62)<=j/\j<2^62)/\R (KE i (j - i).toNat) H1
theorem dn {a:Expr} {ta:TA} {p pos:Pos} (hg:Gl X "range") (hm:X.mg "range"=none) (ha:PA X [a] ta) (hs:starEach [a] X.env=[(false,eval a X.env)]:=by rfl):PI X tg (.Call (.Name "range" p) [a] [] pos) (iRng1 ta):=by
 intro pins s σ H R I h;refine Call_ (iE I hg hm boot_range (PyProof.Rows.callWith_type1 (cW (ha pos pins s σ H _ I h) λus s1 eG=>?_) hs rfl));obtain⟨vs,H1,I1,r1,q1⟩:=eG;obtain⟨x,e,p1⟩:=rdL1_eq.mp q1;clear q1;obtain⟨j,rfl,q1,q2,q⟩:=rdI_eq.mp p1;subst e;cases r1 with
 | cons r rr=>
  cases rr;obtain⟨t,rfl⟩:=r;exact call_range_1 (uM I1 (by omega) (by omega) q1 q2 (by simpa using q))
theorem jd {a b:Expr} {ta:TA} {p pos:Pos} (hg:Gl X "range") (hm:X.mg "range"=none) (ha:PA X [a,b] ta) (hs:starEach [a,b] X.env=[(false,eval a X.env),(false,eval b X.env)]:=by rfl) (hs2:starEach [b] X.env=[(false,eval b X.env)]:=by rfl):
  PI X tg (.Call (.Name "range" p) [a,b] [] pos) (iRng2 ta):=by
 intro pins s σ H R I h;refine Call_ (iE I hg hm boot_range (PyProof.Rows.callWith_type1 (cW (ha pos pins s σ H _ I h) λus s1 eG=>?_) (by rw[hs,hs2]) (by rw[hs2];rfl)));obtain⟨vs,H1,I1,r1,q1⟩:=eG;obtain⟨x,y,e,p1⟩:=rdL2_eq.mp q1;clear q1;obtain⟨i,rfl,p2⟩:=rdI_eq.mp p1;obtain⟨j,rfl,⟨q1,q2,q3,q4⟩,q⟩:=rdI_eq.mp p2;subst e;cases r1 with
 | cons r rr=>
  cases rr with
  | cons r' rr=>
   cases rr;obtain⟨t,rfl⟩:=r;obtain⟨t',rfl⟩:=r';exact call_range_2 (uM I1 q1 q2 q3 q4 q)
noncomputable def KG (wi:TI) (g:TG) (tb:TS):TS:=λD σ H=>wi σ H λJ H1=>∃W:Nat->Nat->St->Hp->Prop,(∃m,W 0 m σ H1)/\∀i m σ H,W i m σ H->
 (J.stop i H/\D.nx σ H)\/(J.go i H/\∃N:St->Hp->Prop,(∀σ' H',N σ' H'->∃m',m'<m/\W (i+1) m' σ' H')/\∀x H',J.wt i H x H'->g x σ H' λσ2 H2=>tb {D with nx:=N,ct:=N,bk:=D.nx} σ2 H2)
noncomputable def oM (fp:List Addr) (h:Heap):List (Addr×Obj):=fp.filterMap λb=>(h.get? b).map λo=>(b,o)
theorem gY {fp:List Addr} {h:Heap} {b:Addr} {o:Obj} (hb:b∈fp) (e:h.get? b=some o):(b,o)∈oM fp h:=List.mem_filterMap.mpr ⟨b,hb,by rw[e];rfl⟩
theorem zI {fp:List Addr} {h:Heap} {p:Addr×Obj} (hp:p∈oM fp h):p.1∈fp/\h.get? p.1=some p.2:=by
 obtain⟨b,hb,e⟩:=List.mem_filterMap.mp hp;cases q:h.get? b with
 | none=>rw[q] at e;cases e
 | some o=>
  rw[q] at e;have e':(b,o)=p:=aa9 e;subst e';exact⟨hb,q⟩
theorem Inv.pinned {pins:List (Addr×Obj)} {σ:St} {H:Hp} {s:Shared} {fp:List Addr} (I:Inv X pins σ H s) (hf:∀b∈fp,jV X pins H b) (ho:∀b∈fp,∃o,s.heap.get? b=some o/\∀v,o.data≠.cell v):Inv X (pins++oM fp s.heap) σ H s:=
 I.ku λp hp=>(List.mem_append.mp hp).elim (λz=>I.pin p (aa2 _ z)) λz=>by
  obtain⟨hb,e⟩:=zI z;obtain⟨f0,f1,f2,_⟩:=hf p.1 hb;obtain⟨o,e',d⟩:=ho p.1 hb;rw[e] at e';cases e';exact⟨e,f0,f1,f2,d⟩
theorem Inv.oN {pins pl:List (Addr×Obj)} {σ:St} {H:Hp} {s:Shared} (I:Inv X (pins++pl) σ H s):Inv X pins σ H s:=I.ku λp hp=>I.pin p (aa2 _ (List.mem_append_left _ hp))
theorem cH {iter:Expr} {body:List Stmt} {wi:TI} {g:TG} {tb:TS} {pos:Pos} (hp:PassesOwn (model X.prog X.w) X.A X.env X.xe) (hc:X.calm=true) (hi:PI X tg iter wi) (hg:PG X tg g) (hb:uF X body tb)
  (hs:∀x,foldedSetIterable iter X.env x=pure x:=by intro _;rfl):PS X (.For tg iter body [] pos) (KG wi g tb):=by
 intro pins s σ H D I h;refine wpAny_For (cW (hi pins s σ H _ I h) λv s1 h1=>cW h1 λFN s2 h2=>?_) hs;obtain⟨it,fp,tn,J,H2,e,I2,T,zJ,f2,W,⟨m0,w0⟩,turn⟩:=h2;subst e;have wL:∀{H':Hp},(∀b∈fp,H' b=none)->∀b∈fp,jV X pins H' b:=λhn b hb=>⟨hn b hb,(f2 b hb).2⟩
 refine codeAny_forLoop_any (λn s'=>∃i σ' H',Inv X pins σ' H' s'/\tn i s'.heap/\(∀b∈fp,H' b=none)/\W i n σ' H') ?_ m0 ⟨0,σ,H2,I2,zJ,λb hb=>(f2 b hb).1,w0⟩;rintro n s3 ⟨i,σ3,H3,I3,st3,fr3,w3⟩;rcases turn i n σ3 H3 w3 with ⟨stop,qn⟩ | ⟨go,N,hN,step⟩
 ·refine wpAny_passesOwn hp (cW (T.done X rfl rfl rfl hc i pins s3 σ3 H3 X.xe I3 (wL fr3) st3 stop) λr s4 ⟨hr,I4⟩=>?_);subst hr;exact wpAny_execs_nil ⟨σ3,H3,I4,qn⟩
 ·refine wpAny_passesOwn hp (cW (T.item X rfl rfl rfl hc i pins s3 σ3 H3 X.xe I3 (wL fr3) st3 go) λr s4 ⟨u,hr,h4⟩=>?_);subst hr;refine wpAny_passesOwn hp (cW h4 λ_ s5 eG=>?_);obtain⟨x,H5,I5,r5,y5,OH,fr5⟩:=eG;have I5':=I5.pinned (wL fr5) (T.obj _ _ OH);refine wpAny_passesOwn hp (cW (hg _ s5 σ3 H5 x u _ I5' r5 (step x H5 y5)) λ_ s6 ⟨σ6,H6,I6,q6⟩=>?_);refine wpAny_passesOwn hp (cW (hb _ s6 σ6 H6 _ I6 q6) λf s7 q7=>?_);have again:∀{σ7:St} {H7:Hp},Inv X (pins++oM fp s5.heap) σ7 H7 s7->N σ7 H7->∃m,m<n/\∃i σ' H',Inv X pins σ' H' s7/\tn i s7.heap/\(∀b∈fp,H' b=none)/\W i m σ' H':=λ{σ7 H7} I7 n7=>by
   obtain⟨m',hm,w7⟩:=hN σ7 H7 n7;refine⟨m',hm,i+1,σ7,H7,I7.oN,T.keep _ _ _ OH λb hb o e=>(I7.pin (b,o) (aa2 _ (aa2 _ (gY hb e)))).1,λb hb=>?_,w7⟩;obtain⟨o,e,d⟩:=T.obj _ _ OH b hb;exact(I7.pin (b,o) (aa2 _ (aa2 _ (gY hb e)))).2.1
  cases f with
  | next=>obtain⟨σ7,H7,I7,n7⟩:=q7;exact again I7 n7
  | cont=>obtain⟨σ7,H7,I7,n7⟩:=q7;exact again I7 n7
  | brk=>obtain⟨σ7,H7,I7,q7⟩:=q7;exact⟨σ7,H7,I7.oN,q7⟩
  | ret v=>obtain⟨x7,σ7,H7,I7,r7,q7⟩:=q7;exact⟨x7,σ7,H7,I7.oN,r7,q7⟩
end
theorem A3 {c:TT} {tb:TS} {D:Ends} {σ:St} {H:Hp} (Pv:St->Hp->Prop) (μ:St->Hp->Nat) (h0:Pv σ H)
  (hs:∀σ H,Pv σ H->c σ H λb H1=>if b=true then tb {D with nx:=λσ' H'=>Pv σ' H'/\μ σ' H'<μ σ H,ct:=λσ' H'=>Pv σ' H'/\μ σ' H'<μ σ H,bk:=D.nx} σ H1 else D.nx σ H1)
  (mono:∀σ H Q Q',(∀b H1,Q b H1->Q' b H1)->c σ H Q->c σ H Q'):wH c tb D σ H:=by
 refine⟨λm σ H=>m=μ σ H/\Pv σ H,⟨_,rfl,h0⟩,?_⟩;rintro m σ H ⟨rfl,p⟩;refine mono σ H _ _ (λb H1 q=>?_) (hs σ H p);cases b with
 | true=>exact⟨_,λσ' H' ⟨p',l⟩=>⟨_,l,rfl,p'⟩,q⟩
 | false=>exact q
abbrev R2:=V->V->Hp->VK->Prop
noncomputable def gH (X:Cx) (f:Value->Value->Sem Value) (r:R2):Prop:=
 ∀(pins:List (Addr×Obj)) (s:Shared) (σ:St) (H:Hp) (x y:V) (v u:Value) (Q:VK),Inv X pins σ H s->RelV x v->RelV y u->r x y H Q->
  wpAny (model X.prog X.w) X.A (f v u) (EP X pins σ Q) X.xe s
noncomputable def NM (X:Cx) (f:Value->Sem Value) (r:V->Hp->VK->Prop):Prop:=
 ∀(pins:List (Addr×Obj)) (s:Shared) (σ:St) (H:Hp) (x:V) (v:Value) (Q:VK),Inv X pins σ H s->RelV x v->r x H Q->
  wpAny (model X.prog X.w) X.A (f v) (EP X pins σ Q) X.xe s
noncomputable def cq (X:Cx) (f:Value) (r:List V->Hp->VK->Prop):Prop:=
 ∀(pins:List (Addr×Obj)) (s:Shared) (σ:St) (H:Hp) (xs:List V) (us:List Value) (Q:VK),Inv X pins σ H s->bS xs us->r xs H Q->
  wpAny (model X.prog X.w) X.A (call f us) (EP X pins σ Q) X.xe s
noncomputable def tOp (r:R2) (ta tb:TE):TE:=λσ H Q=>ta σ H λx H1=>tb σ H1 λy H2=>r x y H2 Q
noncomputable def tUn (r:V->Hp->VK->Prop) (ta:TE):TE:=λσ H Q=>ta σ H λx H1=>r x H1 Q
noncomputable def rI (C:Int->Int->Prop) (g:Int->Int->V):R2:=λx y H Q=>iD x λi=>iD y λj=>C i j/\Q (g i j) H
noncomputable def rI0 (g:Int->Int->V):R2:=λx y H Q=>iD x λi=>iD y λj=>Q (g i j) H
noncomputable def rU (g:Int->V):V->Hp->VK->Prop:=λx H Q=>∃i,x=.int i/\Q (g i) H
section
variable {X : Cx} {a b c : Expr} {ta tb tc : TE} {pos : Pos}
theorem Hv (ha:PE X a ta) (hb:PE X b tb) {pins:List (Addr×Obj)} {s:Shared} {σ:St} {H:Hp} {R:V->V->Hp->Prop} (I:Inv X pins σ H s)
  (h:ta σ H λx H1=>tb σ H1 λy H2=>R x y H2) {Q:Value->Shared->Prop} {f:Value->Value->Sem Value}
  (hf:∀v u s2 x y H2,Inv X pins σ H2 s2->RelV x v->RelV y u->R x y H2->wpAny (model X.prog X.w) X.A (f v u) Q X.xe s2):
  wpAny (model X.prog X.w) X.A (eval a X.env) (λv s₁=>wpAny (model X.prog X.w) X.A (eval b X.env) (λu s₂=>wpAny (model X.prog X.w) X.A (f v u) Q X.xe s₂) X.xe s₁) X.xe s:=by
 refine cW (ha pins s σ H _ I h) λv s1 eG=>?_;obtain⟨x,H1,I1,r1,q1⟩:=eG;refine cW (hb pins s1 σ H1 _ I1 q1) λu s2 eG=>?_;obtain⟨y,H2,I2,r2,q2⟩:=eG;exact hf v u s2 x y H2 I2 r1 r2 q2
theorem aw {op:Operator} {r:R2} (ho:gH X (binaryOp op) r) (ha:PE X a ta) (hb:PE X b tb):PE X (.BinOp a op b pos) (tOp r ta tb):=by
 intro pins s σ H Q I h;exact wpAny_BinOp (Hv ha hb I h λv u s2 x y H2 I2 rx ry q=>ho pins s2 σ H2 x y v u Q I2 rx ry q)
theorem d8 {op:UnaryOp} {r:V->Hp->VK->Prop} (ho:NM X (unaryOp op) r) (ha:PE X a ta):PE X (.UnaryOp op a pos) (tUn r ta):=by
 intro pins s σ H Q I h;exact UnaryOp_ (cW (ha pins s σ H _ I h) λv s1 ⟨x,H1,I1,r1,q1⟩=>ho pins s1 σ H1 x v Q I1 r1 q1)
theorem KH {f:Value->Value->Sem Value} {C:Int->Int->Prop} {g:Int->Int->Int}
  (rule:∀(i j:Int) (t u:Tok) (s:Shared) (Q:Value->Shared->Prop) (E:Value->Shared->Prop),C i j->Q (.int (g i j) s.toks) {s with toks:=s.toks+1}->wpAny (model X.prog X.w) X.A (f (.int i t) (.int j u)) Q E s):
  gH X f (rI C λi j=>.int (g i j)):=by
 intro pins s σ H x y v u Q I rx ry h;obtain⟨i,rfl,h1⟩:=rdI_eq.mp h;obtain⟨j,rfl,hc,q⟩:=rdI_eq.mp h1;obtain⟨t,rfl⟩:=rx;obtain⟨t',rfl⟩:=ry;exact rule i j t t' s _ _ hc ⟨.int (g i j),H,I.tok _,⟨_,rfl⟩,q⟩
theorem KI {f:Value->Value->Sem Value} {g:Int->Int->Int}
  (rule:∀(i j:Int) (t u:Tok) (s:Shared) (Q:Value->Shared->Prop) (E:Value->Shared->Prop),Q (.int (g i j) s.toks) {s with toks:=s.toks+1}->wpAny (model X.prog X.w) X.A (f (.int i t) (.int j u)) Q E s):
  gH X f (rI0 λi j=>.int (g i j)):=by
 intro pins s σ H x y v u Q I rx ry h;obtain⟨i,rfl,h1⟩:=rdI_eq.mp h;obtain⟨j,rfl,q⟩:=rdI_eq.mp h1;obtain⟨t,rfl⟩:=rx;obtain⟨t',rfl⟩:=ry;exact rule i j t t' s _ _ ⟨.int (g i j),H,I.tok _,⟨_,rfl⟩,q⟩
theorem DR {f:Value->Value->Sem Value} {g:Int->Int->Bool}
  (rule:∀(i j:Int) (t u:Tok) (s:Shared) (Q:Value->Shared->Prop) (E:Value->Shared->Prop),Q (.bool (g i j)) s->wpAny (model X.prog X.w) X.A (f (.int i t) (.int j u)) Q E s):
  gH X f (rI0 λi j=>.bl (g i j)):=by
 intro pins s σ H x y v u Q I rx ry h;obtain⟨i,rfl,h1⟩:=rdI_eq.mp h;obtain⟨j,rfl,q⟩:=rdI_eq.mp h1;obtain⟨t,rfl⟩:=rx;obtain⟨t',rfl⟩:=ry;exact rule i j t t' s _ _ ⟨.bl (g i j),H,I,rfl,q⟩
noncomputable def CPow (i j:Int):Prop:=0<=j/\j<=1000000/\i.natAbs<2^64
theorem bC:gH X (binaryOp .Add) (rI0 λi j=>.int (i+j)):=KI λ_ _ _ _ _ _ _ q=>add_int q
theorem iF:gH X (binaryOp .Sub) (rI0 λi j=>.int (i - j)):=KI λ_ _ _ _ _ _ _ q=>sub_int q
theorem Hw:gH X (binaryOp .Mod) (rI (λ_ j=>0<j) λi j=>.int (i % j)):=KH λi j _ _ _ _ _ hc q=>by
 have h1:(0:Int)<j:=hc;exact mod_int' (by omega) (by rw[Int.fmod_eq_emod_of_nonneg i (by omega)];exact q)
theorem Hx:gH X (binaryOp .Pow) (rI CPow λi j=>.int (i^j.toNat)):=KH λ_ _ _ _ _ _ _ hc q=>pow_int_small hc.1 hc.2.1 hc.2.2 q
theorem unI {f:Value->Sem Value} {g:Int->Int}
  (rule:∀(i:Int) (t:Tok) (s:Shared) (Q:Value->Shared->Prop) (E:Value->Shared->Prop),Q (.int (g i) s.toks) {s with toks:=s.toks+1}->wpAny (model X.prog X.w) X.A (f (.int i t)) Q E s):
  NM X f (rU λi=>.int (g i)):=by
 intro pins s σ H x v Q I rx h;obtain⟨i,rfl,q⟩:=h;obtain⟨t,rfl⟩:=rx;exact rule i t s _ _ ⟨.int (g i),H,I.tok _,⟨_,rfl⟩,q⟩
theorem dh:NM X (unaryOp .USub) (rU λi=>.int (-i)):=unI λ_ _ _ _ _ q=>neg_int q
end
noncomputable def wM:V->V->Bool
 | .c6,.c6=>true | .c6,.int _=>true | .int _,.c6=>true | .c6,.bl _=>true | .bl _,.c6=>true | .c6,.str _=>true | .str _,.c6=>true
 | .int _,.int _=>true | .bl _,.bl _=>true | .str _,.str _=>true | .AX _,.AX _=>true
 | .int _,.str _=>true | .str _,.int _=>true | .bl _,.str _=>true | .str _,.bl _=>true
 | _,_=>false
noncomputable def rEq:R2:=λx y H Q=>wM x y=true/\Q (.bl (decide (x=y))) H
noncomputable def rNe:R2:=λx y H Q=>wM x y=true/\Q (.bl (!decide (x=y))) H
theorem xY {i j:Int}:decide (V.int i=V.int j)=(i==j):=by
 rw[Bool.eq_iff_iff];simp
theorem A4 {i j:Bool}:decide (V.bl i=V.bl j)=(i==j):=by
 rw[Bool.eq_iff_iff];simp
theorem xZ {i j:Str}:decide (V.str i=V.str j)=(i==j):=by
 rw[Bool.eq_iff_iff];simp
theorem x5 {i j:Array UInt8}:decide (V.AX i=V.AX j)=(i.toList==j.toList):=by
 rw[Bool.eq_iff_iff];cases i;cases j;simp
section
variable {X : Cx} {a b c : Expr} {ta tb tc : TE} {pos : Pos}
theorem bZ {pins:List (Addr×Obj)} {σ:St} {H:Hp} {s:Shared} {Q:VK} {k k':Bool} (I:Inv X pins σ H s) (q:Q (.bl k) H) (e:k=k'):EP X pins σ Q (.bool k') s:=by
 subst e;exact⟨.bl k,H,I,rfl,q⟩
theorem bF:gH X (compareOp .Eq) rEq:=by
 intro pins s σ H x y v u Q I rx ry h;obtain⟨hs,q⟩:=h;cases x with
 | c6=>
  cases rx;cases y with
  | c6=>cases ry;exact PySem.EqNone.eq_none_none (bZ I q (by simp))
  | bl j=>cases ry;exact PySem.EqNone.eq_none_bool (bZ I q (by simp))
  | int j=>obtain⟨t',rfl⟩:=ry;exact PySem.EqNone.eq_none_int (bZ I q (by simp))
  | str j=>obtain⟨t',rfl⟩:=ry;exact PySem.EqNone.eq_none_str (bZ I q (by simp))
  | _=>exact absurd (show false=true from hs) aaS
 | bl i=>
  cases rx;cases y with
  | c6=>cases ry;exact PySem.EqNone.eq_bool_none (bZ I q (by simp))
  | bl j=>cases ry;exact eq_bool (bZ I q A4)
  | str j=>obtain⟨t',rfl⟩:=ry;exact PySem.EqMixed.eq_bool_str (bZ I q (by simp))
  | _=>exact absurd (show false=true from hs) aaS
 | int i=>
  obtain⟨t,rfl⟩:=rx;cases y with
  | c6=>cases ry;exact PySem.EqNone.eq_int_none (bZ I q (by simp))
  | int j=>obtain⟨t',rfl⟩:=ry;exact eq_int (bZ I q xY)
  | str j=>obtain⟨t',rfl⟩:=ry;exact PySem.EqMixed.eq_int_str (bZ I q (by simp))
  | _=>exact absurd (show false=true from hs) aaS
 | str i=>
  obtain⟨t,rfl⟩:=rx;cases y with
  | c6=>cases ry;exact PySem.EqNone.eq_str_none (bZ I q (by simp))
  | bl j=>cases ry;exact PySem.EqMixed.eq_str_bool (bZ I q (by simp))
  | int j=>obtain⟨t',rfl⟩:=ry;exact PySem.EqMixed.eq_str_int (bZ I q (by simp))
  | str j=>obtain⟨t',rfl⟩:=ry;exact eq_str (bZ I q xZ)
  | _=>exact absurd (show false=true from hs) aaS
 | AX i=>
  obtain⟨t,rfl⟩:=rx;cases y with
  | AX j=>obtain⟨t',rfl⟩:=ry;exact PySem.W.eq_bytes (bZ I q x5)
  | _=>exact absurd (show false=true from hs) aaS
 | _=>cases y <;>exact absurd (show false=true from hs) aaS
theorem ik:gH X (compareOp .NotEq) rNe:=by
 intro pins s σ H x y v u Q I rx ry h;obtain⟨hs,q⟩:=h;cases x with
 | c6=>
  cases rx;cases y with
  | c6=>cases ry;exact PySem.EqNone.ne_none_none (bZ I q (by simp))
  | bl j=>cases ry;exact PySem.EqNone.ne_none_bool (bZ I q (by simp))
  | int j=>obtain⟨t',rfl⟩:=ry;exact PySem.EqNone.ne_none_int (bZ I q (by simp))
  | str j=>obtain⟨t',rfl⟩:=ry;exact PySem.EqNone.ne_none_str (bZ I q (by simp))
  | _=>exact absurd (show false=true from hs) aaS
 | bl i=>
  cases rx;cases y with
  | c6=>cases ry;exact PySem.EqNone.ne_bool_none (bZ I q (by simp))
  | bl j=>cases ry;exact ne_bool (bZ I q (congrArg not A4))
  | str j=>obtain⟨t',rfl⟩:=ry;exact PySem.EqMixed.ne_bool_str (bZ I q (by simp))
  | _=>exact absurd (show false=true from hs) aaS
 | int i=>
  obtain⟨t,rfl⟩:=rx;cases y with
  | c6=>cases ry;exact PySem.EqNone.ne_int_none (bZ I q (by simp))
  | int j=>obtain⟨t',rfl⟩:=ry;exact ne_int (bZ I q (congrArg not xY))
  | str j=>obtain⟨t',rfl⟩:=ry;exact PySem.EqMixed.ne_int_str (bZ I q (by simp))
  | _=>exact absurd (show false=true from hs) aaS
 | str i=>
  obtain⟨t,rfl⟩:=rx;cases y with
  | c6=>cases ry;exact PySem.EqNone.ne_str_none (bZ I q (by simp))
  | bl j=>cases ry;exact PySem.EqMixed.ne_str_bool (bZ I q (by simp))
  | int j=>obtain⟨t',rfl⟩:=ry;exact PySem.EqMixed.ne_str_int (bZ I q (by simp))
  | str j=>obtain⟨t',rfl⟩:=ry;exact ne_str (bZ I q (congrArg not xZ))
  | _=>exact absurd (show false=true from hs) aaS
 | AX i=>
  obtain⟨t,rfl⟩:=rx;cases y with
  | AX j=>obtain⟨t',rfl⟩:=ry;exact PySem.W.ne_bytes (bZ I q (congrArg not x5))
  | _=>exact absurd (show false=true from hs) aaS
 | _=>cases y <;>exact absurd (show false=true from hs) aaS
theorem qW:gH X (compareOp .Lt) (rI0 λi j=>.bl (decide (i<j))):=DR λ_ _ _ _ _ _ _ q=>lt_int q
theorem dS:gH X (compareOp .LtE) (rI0 λi j=>.bl (decide (i<=j))):=DR λ_ _ _ _ _ _ _ q=>le_int q
theorem eI:gH X (compareOp .Gt) (rI0 λi j=>.bl (decide (j<i))):=DR λ_ _ _ _ _ _ _ q=>gt_int q
theorem uN:gH X (compareOp .GtE) (rI0 λi j=>.bl (decide (j<=i))):=DR λ_ _ _ _ _ _ _ q=>ge_int q
theorem mz:gH X (compareOp .In) (λx y H Q=>∃i j,x=.str i/\y=.str j/\Q (.bl (!(Builtin.Str.occurrences j i 0 j.length 1).isEmpty)) H):=by
 intro pins s σ H x y v u Q I rx ry h;obtain⟨i,j,rfl,rfl,q⟩:=h;obtain⟨t,rfl⟩:=rx;obtain⟨t',rfl⟩:=ry;exact in_str (bZ I q rfl)
theorem rZ:gH X (compareOp .Is) (λx y H Q=>y=.c6/\Q (.bl (decide (x=.c6))) H):=by
 intro pins s σ H x y v u Q I rx ry h;obtain⟨rfl,q⟩:=h;cases ry;refine is_none_gen (bZ I q ?_);cases x <;>first
  | (cases rx;rfl)
  | (obtain⟨t,rfl⟩:=rx;rfl)
theorem sf:gH X (compareOp .IsNot) (λx y H Q=>y=.c6/\Q (.bl (!decide (x=.c6))) H):=by
 intro pins s σ H x y v u Q I rx ry h;obtain⟨rfl,q⟩:=h;cases ry;refine isnot_none_gen (bZ I q ?_);cases x <;>first
  | (cases rx;rfl)
  | (obtain⟨t,rfl⟩:=rx;rfl)
theorem aK (b:Expr) {op:CmpOp} (h:op≠.In:=by decide) (h2:op≠.NotIn:=by decide):behindInMarks op b=false:=by
 have e1:(op==CmpOp.In)=false:=by cases op <;>first | rfl | exact absurd rfl h
 have e2:(op==CmpOp.NotIn)=false:=by cases op <;>first | rfl | exact absurd rfl h2
 cases b <;>simp [behindInMarks,e1,e2]
theorem bD {op:CmpOp} {r:R2} (ho:gH X (compareOp op) r) (ha:PE X a ta) (hb:PE X b tb) (hm:behindInMarks op b=false):PE X (.Compare a [op] [b] pos) (tOp r ta tb):=by
 intro pins s σ H Q I h;exact wpAny_Compare1 (Hv ha hb I h λv u s2 x y H2 I2 rx ry q=>ho pins s2 σ H2 x y v u Q I2 rx ry q) hm
noncomputable def tTest (t:TE):TT:=λσ H Q=>t σ H λx H'=>FJ x λk=>Q k H'
theorem aM {op:CmpOp} {r:R2} (ho:gH X (compareOp op) r) (ha:PE X a ta) (hb:PE X b tb) (hm:behindInMarks op b=false):PT X (.Compare a [op] [b] pos) (tTest (tOp r ta tb)):=by
 intro pins s σ H Q I h;refine wpAny_isTrue_Compare1 (cW (ha pins s σ H _ I h) λv s1 ⟨x,H1,I1,r1,q1⟩=>cW (hb pins s1 σ H1 _ I1 q1) λu s2 ⟨y,H2,I2,r2,q2⟩=>
  cW (ho pins s2 σ H2 x y v u _ I2 r1 r2 q2) λc s3 ⟨z,H3,I3,r3,q3⟩=>?_) hm
 obtain⟨k,e,q3⟩:=rdB_eq.mp q3;subst e;cases r3;exact wpAny_truthy_bool ⟨H3,I3,q3⟩
noncomputable def tChain (r r':R2) (ta tb tc:TE):TE:=λσ H Q=>ta σ H λx H1=>tb σ H1 λy H2=>r x y H2 λz H3=>∃k,z=.bl k/\
 (if k=true then tc σ H3 λw' H4=>r' y w' H4 Q else Q (.bl false) H3)
theorem iG {op Hy:CmpOp} {r r':R2} (ho:gH X (compareOp op) r) (AZ:gH X (compareOp Hy) r') (ha:PE X a ta) (hb:PE X b tb) (hc:PE X c tc)
  (hm:lastMarks [op,Hy] [b,c]=false:=by with_unfolding_all rfl):PE X (.Compare a [op,Hy] [b,c] pos) (tChain r r' ta tb tc):=by
 intro pins s σ H Q I h;refine Compare_chain (cW (ha pins s σ H _ I h) λv s1 ⟨x,H1,I1,r1,q1⟩=>chain_link (cW (hb pins s1 σ H1 _ I1 q1) λu s2 ⟨y,H2,I2,r2,q2⟩=>
  cW (ho pins s2 σ H2 x y v u _ I2 r1 r2 q2) λd s3 ⟨z,H3,I3,r3,k,e,q3⟩=>?_)) hm
 subst e;cases r3;refine wpAny_truthy_bool ?_;cases k with
 | false=>exact ite_ff ⟨.bl false,H3,I3,rfl,q3⟩
 | true=>exact ite_tt (chain_last (cW (hc pins s3 σ H3 _ I3 q3) λw' s4 ⟨z',H4,I4,r4,q4⟩=>AZ pins s4 σ H4 y z' u w' Q I4 r2 r4 q4))
theorem uO {op Hy:CmpOp} {r r':R2} (ho:gH X (compareOp op) r) (AZ:gH X (compareOp Hy) r') (ha:PE X a ta) (hb:PE X b tb) (hc:PE X c tc)
  (hm:lastMarks [op,Hy] [b,c]=false:=by with_unfolding_all rfl):PT X (.Compare a [op,Hy] [b,c] pos) (tTest (tChain r r' ta tb tc)):=by
 intro pins s σ H Q I h;refine isTrue_chain (cW (ha pins s σ H _ I h) λv s1 ⟨x,H1,I1,r1,q1⟩=>test_link (cW (hb pins s1 σ H1 _ I1 q1) λu s2 ⟨y,H2,I2,r2,q2⟩=>
  cW (ho pins s2 σ H2 x y v u _ I2 r1 r2 q2) λd s3 ⟨z,H3,I3,r3,k,e,q3⟩=>?_)) hm
 subst e;cases r3;refine wpAny_truthy_bool ?_;cases k with
 | false=>
  exact ite_ff ⟨H3,I3,q3⟩
 | true=>
  refine ite_tt (test_last (cW (hc pins s3 σ H3 _ I3 q3) λw' s4 ⟨z',H4,I4,r4,q4⟩=>cW (AZ pins s4 σ H4 y z' u w' _ I4 r2 r4 q4) λd' s5 eG=>?_));obtain⟨z2,H5,I5,r5,q5⟩:=eG;obtain⟨k2,e2,q5⟩:=rdB_eq.mp q5;subst e2;cases r5;exact wpAny_truthy_bool ⟨H5,I5,q5⟩
theorem si:(sizeLine:Nat)<2^63:=by rw[sizeLine_eq];decide
theorem bf:gH X (binaryOp .Add) (λx y H Q=>∃i j,x=.str i/\y=.str j/\i.length+j.length<=sizeLine/\Q (.str (i++j)) H):=by
 intro pins s σ H x y v u Q I rx ry h;obtain⟨i,j,rfl,rfl,hz,q⟩:=h;obtain⟨t,rfl⟩:=rx;obtain⟨t',rfl⟩:=ry;exact add_str (λt' tk=>⟨.str (i++j),H,I.tok _,⟨_,rfl⟩,q⟩) hz
theorem vals1 {x:V} {us:List Value} (r:bS [x] us):∃u,us=[u]/\RelV x u:=by
 cases r with
 | cons r1 r2=>cases r2;exact⟨_,rfl,r1⟩
theorem vals2 {x y:V} {us:List Value} (r:bS [x,y] us):∃u w',us=[u,w']/\RelV x u/\RelV y w':=by
 cases r with
 | cons r1 r2=>
  cases r2 with
  | cons r3 r4=>cases r4;exact⟨_,_,rfl,r1,r3⟩
theorem uP:cq X (.builtin "abs") (λxs H Q=>∃i,xs=[.int i]/\Q (.int (if i<0 then -i else i)) H):=by
 intro pins s σ H xs us Q I r h;obtain⟨i,rfl,q⟩:=h;obtain⟨u,rfl,t,rfl⟩:=vals1 r;exact call_abs_int λu tk=>⟨.int (if i<0 then -i else i),H,I.tok _,⟨_,rfl⟩,q⟩
theorem qX (hc:X.calm=true):cq X (.builtin "max") (λxs H Q=>∃i j,xs=[.int i,.int j]/\Q (.int (if j >i then j else i)) H):=by
 intro pins s σ H xs us Q I r h;obtain⟨i,j,rfl,q⟩:=h;obtain⟨u,w',rfl,⟨t,rfl⟩,⟨t',rfl⟩⟩:=vals2 r;refine max_two_ints (I.ok.hd hc) λh' tk k=>⟨_,H,I.kept k,?_,q⟩
 by_cases hj:j >i
 ·rw[if_pos hj,if_pos hj];exact⟨_,rfl⟩
 ·rw[if_neg hj,if_neg hj];exact⟨_,rfl⟩
theorem zK (hc:X.calm=true):cq X (.builtin "min") (λxs H Q=>∃i j,xs=[.int i,.int j]/\Q (.int (if j<i then j else i)) H):=by
 intro pins s σ H xs us Q I r h;obtain⟨i,j,rfl,q⟩:=h;obtain⟨u,w',rfl,⟨t,rfl⟩,⟨t',rfl⟩⟩:=vals2 r;refine min_two_ints (I.ok.hd hc) λh' tk k=>⟨_,H,I.kept k,?_,q⟩
 by_cases hj:j<i
 ·rw[if_pos hj,if_pos hj];exact⟨_,rfl⟩
 ·rw[if_neg hj,if_neg hj];exact⟨_,rfl⟩
theorem zL:cq X (.type "int") (λxs H Q=>(∃i,xs=[.int i]/\Q (.int i) H)\/∃k,xs=[.bl k]/\Q (.int (if k then 1 else 0)) H):=by
 intro pins s σ H xs us Q I r h;rcases h with ⟨i,rfl,q⟩ | ⟨k,rfl,q⟩
 ·obtain⟨u,rfl,t,rfl⟩:=vals1 r;exact call_int_int ⟨.int i,H,I,⟨_,rfl⟩,q⟩
 ·obtain⟨u,rfl,r1⟩:=vals1 r;cases r1;exact call_int_bool ⟨.int (if k then 1 else 0),H,I.tok _,⟨_,rfl⟩,q⟩
theorem sj:cq X (.type "str") (λxs H Q=>∃i,xs=[.int i]/\i.natAbs.log2<1920/\Q (.str (toString i)) H):=by
 intro pins s σ H xs us Q I r h;obtain⟨i,rfl,hz,q⟩:=h;obtain⟨u,rfl,t,rfl⟩:=vals1 r;exact PySem.P.str_of_int hz ⟨.str _,H,I.tok _,⟨_,rfl⟩,q⟩
end
structure Hz (h:Heap) (x dx C:Addr) (mA:Str->Option Value):Prop where
 obj:h.get? x=some (PySem.W.instObj C dx)
 ns:h.Ns1 dx mA
 ne:dx≠x
set_option tactic.hygienic true in
theorem zM {h:Heap} {dx:Addr} {mA:Str->Option Value} (n:h.Ns1 dx mA):∃od,h.get? dx=some od/\∀name,PySem.W.lookIn name od=some (mA name):=by
 obtain⟨o,es,ep,ho,hd,hk,_,hm⟩:=n;refine⟨o,ho,λname=>?_⟩;have e:=hm name;unfold nsFind findBy at e;rw[<-Array.find?_toList] at e;unfold PySem.W.lookIn;rw[hd];dsimp only
 split
 ·rename_i y q
  rw[q] at e;exact congrArg some e
 ·rename_i q
  rw[q] at e;have a:es.toList.any (·.refKey)=false:=by
   rw[List.any_eq_false];intro y hy;obtain⟨z,t,HA⟩:=hk y (Array.mem_toList_iff.mp hy);simp [DictEntry.refKey,HA]
  have a':¬es.toList.any (·.refKey)=true:=by rw[a];exact aaS
  rw[if_neg a'];exact congrArg some e
theorem Hz.look {h:Heap} {x dx C:Addr} {mA:Str->Option Value} (I:Hz h x dx C mA):∃od,PySem.W.InstAt h x (PySem.W.instObj C dx) C (some od)/\∀name,PySem.W.lookIn name od=some (mA name):=
 let ⟨od,ho,hl⟩:=zM I.ns
 ⟨od,⟨I.obj,rfl,rfl,ho⟩,hl⟩
section
variable {prog : Program} {w : World} {A : Around} {E : Value -> Shared -> Prop} {s : Shared} {K : PySem.W.Frag} {x dx C f : Addr} {mA : Str -> Option Value} {name : Str} {v : Value}
end
theorem mq.some_of {v:V} {o:Option Value} (r:mq (some v) o):∃u,o=some u/\RelV v u:=by
 cases o with
 | none=>exact(show False from r).elim
 | some u=>exact⟨u,rfl,r⟩
section
variable {P : Program} {w : World} {H H' : Hp} {h h' : Heap} {a C dx : Addr} {fs fs' : List (Str × V)}
theorem DS (cj:gW P w H h) (e:H a=some (.ins C dx fs)):∃mA,Hz h a dx C mA/\(∀f,mq (fs.lookup f) (mA f))/\PySem.Within mA (fs.map (·.1))/\fs.length<=1000/\H dx=some (.own a):=by
 obtain⟨d,z,ne,ob,mA,n,r,q⟩:=(show cJ P w H h a (.ins C dx fs) from cj a _ e)
 exact⟨mA,⟨ob,n,ne⟩,r,q,z,d⟩
end
structure OI (K:PySem.W.Frag) (C:Addr):Prop where
 pg:PySem.W.plainGet K C Str.empty=true
 hd:PySem.W.hasDictIn K C=true
 po:PySem.W.plainOver K C=true
 sa:PySem.W.findIn K (.ref C) "__setattr__"=some (some (.builtin "object.__setattr__"))
theorem OI.get {K:PySem.W.Frag} {C:Addr} (c:OI K C) (f:Str):PySem.W.plainGet K C f=true:=c.pg
structure Con (K:PySem.W.Frag) (C:Addr) (f:Str) (v:V) (u:Value):Prop where
 at_:PySem.W.findIn K (.ref C) f=some (some u)
 rel:RelV v u
 get:PySem.W.specialIn K u "__get__"=some none
 cp:PySem.W.copiedNames.contains f=false
structure KJ (K:PySem.W.Frag) (C:Addr) (m:Str) (f:Addr):Prop where
 at_:PySem.W.findIn K (.ref C) m=some (some (.ref f))
 fn:PySem.W.isFn K (.ref f)=true
 kp:PySem.W.keepIn K (.ref f)=true
section
variable {X : Cx} {pins : List (Addr × Obj)} {σ : St} {H : Hp} {s : Shared} {a C dx : Addr} {fs : List (Str × V)} {f : Str} {v : V} {A : Around} {E : Value -> Shared -> Prop}
end
section
variable {X : Cx} {o e value : Expr} {f : Str} {pos pos' iH : Pos} {ta tv : TE}
end
section
variable {X : Cx} {pins : List (Addr × Obj)} {σ : St} {H : Hp} {s : Shared} {A : Around} {E : Value -> Shared -> Prop} {Q : Value -> Shared -> Prop} {c : Value} {b : Bool}
inductive gZ (K:PySem.W.Frag) (H:Hp):V->Value->Prop where
 | c6:gZ K H .c6 (.type "NoneType")
 | bl (x:Bool):gZ K H (.bl x) (.type "bool")
 | int (i:Int):gZ K H (.int i) (.type "int")
 | str (x:Str):gZ K H (.str x) (.type "str")
 | JV (x:UInt64):gZ K H (.JV x) (.type "float")
 | lst {a:Addr} {xs:List V} (e:H a=some (.lst xs)):gZ K H (.ref a) (.type "list")
 | uE {a:Addr} {o:Obj} {xs:List V} (e:H a=some (.uE o (.lst xs))):gZ K H (.ref a) (.type "list")
 | tup {a:Addr} {xs:List V} (e:H a=some (.tup xs)):gZ K H (.ref a) (.type "tuple")
 | dK {a:Addr} {kvs:List (Key×V)} (e:H a=some (.dK kvs)):gZ K H (.ref a) (.type "dict")
 | dT {a:Addr} {kvs:List (List Key×V)} (e:H a=some (.dT kvs)):gZ K H (.ref a) (.type "dict")
 | ins {a C dx:Addr} {fs:List (Str×V)} (e:H a=some (.ins C dx fs)) (cl:OI K C) (ha:PySem.W.findIn K (.ref C) "__class__"=some (some (.builtin "object.__class__")))
   (hn:PySem.W.specialIn K (.builtin "object.__class__") "__get__"=some (some (.builtin "getset_descriptor.__get__"))) (htk:PySem.W.takesIn K (.builtin "object.__class__")=some true)
   (hm:PySem.W.mroIn K C (.type "object")=some true):gZ K H (.ref a) (.ref C)
theorem zN {x:V} {u t:Value} (I:Inv X pins σ H s) (rx:RelV x u) (ty:gZ X.K H x t) (e:PySem.W.kitOne X.K t c=some b) (h:∀tk,Q (.bool b) {s with toks:=tk}):
  wpAny (model X.prog X.w) A (call (.builtin "isinstance") [u,c]) Q E s:=by
 cases ty with
 | c6=>cases (show u=Value.none from rx);exact abf PySem.W.kitx_none I.oz True.intro e (λz=>nomatch z) h
 | bl y=>cases (show u=Value.bool y from rx);exact abf PySem.W.kitx_bool I.oz True.intro e (λz=>nomatch z) h
 | int i=>obtain⟨t,q⟩:=(show ∃t,u=Value.int i t from rx);cases q;exact abf PySem.W.kitx_int I.oz True.intro e (λz=>nomatch z) h
 | str y=>obtain⟨t,q⟩:=(show ∃t,u=Value.str y t from rx);cases q;exact abf PySem.W.kitx_str I.oz True.intro e (λz=>nomatch z) h
 | JV y=>obtain⟨t,q⟩:=(show ∃t,u=Value.float y t from rx);cases q;exact abf PySem.W.kitx_float I.oz True.intro e (λz=>nomatch z) h
 | @lst a xs ea=>
  cases (show u=Value.ref a from rx);obtain⟨_,_,n,_,h1⟩:=(show cJ X.prog X.w H s.heap a (.lst xs) from I.cj a _ ea)
  exact abf PySem.W.kitx_list I.oz ⟨_,h1,rfl⟩ e (λz=>nomatch z) h
 | @uE a ob xs ea=>
  cases (show u=Value.ref a from rx);obtain⟨_,_,_,n,_,h1⟩:=(show cJ X.prog X.w H s.heap a (.uE ob (.lst xs)) from I.cj a _ ea)
  exact abf PySem.W.kitx_list I.oz ⟨_,h1,rfl⟩ e (λz=>nomatch z) h
 | @tup a xs ea=>
  cases (show u=Value.ref a from rx);obtain⟨_,_,_,p⟩:=(show cJ X.prog X.w H s.heap a (.tup xs) from I.cj a _ ea)
  obtain⟨o,h1,h2,_⟩:=p;exact abf PySem.W.kitx_tuple I.oz ⟨o,h1,h2⟩ e (λz=>nomatch z) h
 | @dK a kvs ea=>
  cases (show u=Value.ref a from rx);obtain⟨_,_,vs,_,p⟩:=(show cJ X.prog X.w H s.heap a (.dK kvs) from I.cj a _ ea)
  obtain⟨o,es,ep,h1,h2,_⟩:=p;exact abf PySem.W.kitx_dict I.oz ⟨o,h1,h2.1⟩ e (λz=>nomatch z) h
 | @dT a kvs ea=>
  cases (show u=Value.ref a from rx);obtain⟨_,_,xs,_,o,es,ep,h1,h2,_⟩:=(show cJ X.prog X.w H s.heap a (.dT kvs) from I.cj a _ ea)
  exact abf PySem.W.kitx_dict I.oz ⟨o,h1,h2.1⟩ e (λz=>nomatch z) h
 | @ins a C dx fs ea cl ha hn htk hm=>
  cases (show u=Value.ref a from rx);obtain⟨mA,O,_⟩:=DS I.cj ea;obtain⟨od,J,_⟩:=O.look;exact abf (PySem.W.kitx_own (cl.get _) cl.hd ha hn htk hm) I.oz J e (λz=>nomatch z) h
end
structure eY (k:Nat) (A:Around):Prop where
 hd:A.handled=none
 dp:A.depth+3*k+5<recursionLimit
 un:A.units+16*k+200<cLine
theorem eY.mono {j k:Nat} {A:Around} (r:eY k A) (h:j<=k):eY j A:=⟨r.hd,by have:=r.dp;omega,by have:=r.un;omega⟩
theorem eY.deeper {k:Nat} {A:Around} (r:eY (k+1) A) (env:Env):eY k (A.deeper env):=
 ⟨r.hd,by have:=r.dp;show A.depth+1+3*k+5<_;omega,by have:=r.un;show A.units+3+16*k+200<_;omega⟩
theorem eY.depth {k:Nat} {A:Around} (r:eY k A):A.depth<recursionLimit:=by have:=r.dp;omega
theorem eY.units {k:Nat} {A:Around} (r:eY k A):A.units+64<cLine:=by have:=r.un;omega
noncomputable def tNil:TA:=λ_ H Q=>Q [] H
noncomputable def tCons (ta:TE) (tr:TA):TA:=λσ H Q=>ta σ H λx H1=>tr σ H1 λxs H2=>Q (x::xs) H2
section
variable {X : Cx} {e : Expr} {es : List Expr} {te : TE} {t : TA} {pos : Pos}
theorem ae:PA X [] tNil:=λ_ _ _ _ H Q I h=>Calls.spliced_nil ⟨[],H,I,.nil,h⟩
theorem aa (ha:PE X e te) (hr:PA X es t) (hs:starEach (e::es) X.env=(false,eval e X.env)::starEach es X.env:=by first | exact se rfl | rfl):PA X (e::es) (tCons te t):=by
 intro pos pins s σ H Q I h;rw[hs];show wpAny _ _ (spliced ((false,eval e X.env)::backTo pos (starEach es X.env))) _ _ s;refine Calls.spliced_cons (cW (ha pins s σ H _ I h) λu s1 eG=>?_);obtain⟨x,H1,I1,r1,q1⟩:=eG;exact cW (hr pos pins s1 σ H1 _ I1 q1) λus s2 ⟨xs,H2,I2,r2,q2⟩=>⟨x::xs,H2,I2,.cons r1 r2,q2⟩
noncomputable def tLst (t:TA):TE:=λσ H Q=>t σ H λxs H1=>xs.length<=sizeLine/\∀p,H1 p=none->Q (.ref p) (upd H1 p (.lst xs))
theorem bx (h:PA X es t):PE X (.List es pos) (tLst t):=by
 intro pins s σ H Q I hq;refine wpAny_List_spliced (cW (h pos pins s σ H _ I hq) λus s1 ⟨xs,H1,I1,r,z,q⟩=>⟨by rw[<-r.length];exact z,?_⟩);have hf:H1 s1.heap.objs.size=none:=I1.cj.fresh (aaC _);refine⟨.ref s1.heap.objs.size,upd H1 s1.heap.objs.size (.lst xs),I1.laid (t':=s1.toks) (λb u e=>Heap.get?_push_of_some _ e) (aaC _) ?_,rfl,q _ hf⟩;exact⟨z,us,0,r,Heap.get?_push_size _ rfl⟩
end
abbrev Sp:=List V->Hp->VK->XK->Prop
abbrev kC:=List Env->Hp->Shared->XK->Value->Shared->Prop
structure A6 (P:Program) (w:World) (K:PySem.W.Frag) (mg:Str->Option Value) (base:Heap) (A:Around) (outer:List Env) (s:Shared) (H:Hp):Prop where
 frames:A.frames=some outer
 mod:Mod K mg base
 bs:∀b o,base.get? b=some o->s.heap.get? b=some o/\H b=none
 Dx:base.objs.size<=s.heap.objs.size
 mw:s.heap.FunFrames base outer
 FE:∀b∈fO outer,H b=none
 cj:gW P w H s.heap
 bare:AllBare s.gens
noncomputable def CE (outer:List Env) (P:Program) (w:World) (H:Hp) (s:Shared) (Q:VK) (u:Value) (s':Shared):Prop:=
 ∃v H',s'.os=s.os/\AllBare s'.gens/\Un (fO outer) [] H H' s.heap s'.heap/\gW P w H' s'.heap/\RelV v u/\Q v H'
noncomputable def CR (CX:kC) (outer:List Env) (P:Program) (w:World) (H:Hp) (s:Shared) (Q:VK) (E:XK) (r:Result) (s':Shared):Prop:=
 match r with
 | .ok (.ret u)=>CE outer P w H s Q u s'
 | .ok _=>False
 | .error e=>CX outer H s E e s'
structure iu (P:Program) (w:World) (K:PySem.W.Frag) (mg:Str->Option Value) (base:Heap) (CX:kC) (k:Nat) (f:Addr) (fd:FuncData) (ps:List Str) (sp:Sp):Prop where
 len:∀vs H Q E,sp vs H Q E->vs.length=ps.length
 run:∀(A:Around) (outer:List Env) (s:Shared) (H:Hp) (args:Args) (us:List Value) (vs:List V) (Q:VK) (E:XK),eY k A->A6 P w K mg base A outer s H->BindsTo s fd args (ps.zip us)->bS vs us->sp vs H Q E->
  codeAny (model P w) A (.call (.ref f) args) (CR CX outer P w H s Q E) s
theorem iu.mono {P:Program} {w:World} {K:PySem.W.Frag} {mg:Str->Option Value} {base:Heap} {CX:kC} {j k:Nat} {f:Addr} {fd:FuncData} {ps:List Str} {sp:Sp} (F:iu P w K mg base CX j f fd ps sp) (h:j<=k):
  iu P w K mg base CX k f fd ps sp:=⟨F.len,λA outer s H args us vs Q E hr=>F.run A outer s H args us vs Q E (hr.mono h)⟩
section
variable {X : Cx} {pins : List (Addr × Obj)} {σ : St} {H : Hp} {s s' : Shared}
theorem Inv.KL (I:Inv X pins σ H s):A6 X.prog X.w X.K X.mg X.base X.A X.stack s H:=
 ⟨I.ok.frames,I.ok.mod,I.bs,aaR I.ok.Dx I.sz,I.stack,I.rY,I.cj,I.bare⟩
theorem Inv.after {Q:VK} {u:Value} (I:Inv X pins σ H s) (h:CE X.stack X.prog X.w H s Q u s'):EP X pins σ Q u s':=by
 obtain⟨v,H',os,bare,un,cj,r,q⟩:=h;obtain⟨hh,g,d,t,OJ⟩:=s';obtain rfl:OJ=s.os:=os;exact⟨v,H',I.call (h':=hh) (g':=g) (d':=d) (t':=t) (ch:=[]) un cj bare (λb z=>absurd z (by simp)),r,q⟩
end
noncomputable def tCall (sp:Sp) (FO:List V) (E:XK) (t:TA):TE:=λσ H Q=>t σ H λvs H1=>sp (vs++FO) H1 Q E
noncomputable def Binds (K:PySem.W.Frag) (fd:FuncData) (ps:List Str) (ds:List Value):Prop:=
 ∀(s:Shared) (us:List Value),K.In s.heap->(us++ds).length=ps.length->BindsTo s fd ⟨us,[]⟩ (ps.zip (us++ds))
theorem Binds.all {K:PySem.W.Frag} {fd:FuncData} {ps:List Str} (h:∀us:List Value,us.length=ps.length->bindArgs fd ⟨us,[]⟩=pure (ps.zip us)):Binds K fd ps []:=λs us _ hl=>by
 rw[abg] at hl ⊢;exact .of_eq (h us hl)
noncomputable def oO (CX:kC) (X:Cx) (E:XK):Prop:=∀(pins:List (Addr×Obj)) (σ:St) (H:Hp) (s:Shared) (e:Value) (s':Shared),Inv X pins σ H s->CX X.stack H s E e s'->X.xe e s'
section
variable {X : Cx} {CX : kC} {k : Nat} {f C : Addr} {fd : FuncData} {ps : List Str} {sp : Sp} {FO : List V} {ds : List Value} {E : XK} {x m : Str} {p pos apos : Pos} {e o : Expr} {es : List Expr} {ta : TE} {t : TA}
theorem HB {pins:List (Addr×Obj)} {σ:St} {H:Hp} {s:Shared} {Q:VK} {us:List Value} {vs:List V} (F:iu X.prog X.w X.K X.mg X.base CX k f fd ps sp) (hr:eY k X.A) (hb:Binds X.K fd ps ds) (hd:bS FO ds) (hx:oO CX X E)
  (I:Inv X pins σ H s) (r:bS vs us) (h:sp (vs++FO) H Q E):wpAny (model X.prog X.w) X.A (call (.ref f) us) (EP X pins σ Q) X.xe s:=by
 have r2:bS (vs++FO) (us++ds):=r.append hd;have hl:(us++ds).length=ps.length:=by rw[<-r2.length];exact F.len _ _ _ _ h
 refine wpAny_call (codeAny_mono (F.run X.A X.stack s H ⟨us,[]⟩ (us++ds) (vs++FO) Q E hr I.KL (hb s us I.oz hl) r2 h) λr s' hq=>?_);cases r with
 | error e=>exact hx pins σ H s e s' I hq
 | ok fl=>
  cases fl with
  | ret u=>exact I.after hq
  | next=>exact False.elim hq
  | brk=>exact False.elim hq
  | cont=>exact False.elim hq
theorem DT (F:iu X.prog X.w X.K X.mg X.base CX k f fd ps sp) (hr:eY k X.A) (hg:Gl X x) (hm:X.mg x=some (.ref f)) (hk:PySem.W.keepIn X.K (.ref f)=true) (hb:Binds X.K fd ps ds) (hd:bS FO ds) (hx:oO CX X E)
  (ha:PA X (e::es) t) (uQ:(x==("__debug__":Str))=false:=by decide) (he:starEach (e::es) X.env=(false,eval e X.env)::starEach es X.env:=by rfl) (hpl:(backTo pos (starEach es X.env)).any (·.1)=false:=by rfl):
  PE X (.Call (.Name x p) (e::es) [] pos) (tCall sp FO E t):=by
 intro pins s σ H Q I h;refine wpAny_Call_Name_kw (kA I hg hm ?_ uQ);refine PySem.W.callWith_K (h₀:=X.base) I.ok.mod.JX hk (cW (ha pos pins s σ H _ I h) λus s1 ⟨vs,H1,I1,r,q⟩=>⟨I1.oz,?_⟩) he hpl;exact HB F hr hb hd hx I1 r q
structure Mk (K:PySem.W.Frag) (C f:Addr):Prop where
 makes:PySem.W.makesIn K C=true
 init:PySem.W.findIn K (.ref C) "__init__"=some (some (.ref f))
 fn:PySem.W.isFn K (.ref f)=true
 kp:PySem.W.keepIn K (.ref C)=true
end
section
variable {X : Cx} {CX : kC} {k : Nat} {f C : Addr} {fd : FuncData} {ps ks : List Str} {sp : Sp} {E : XK} {x m : Str} {p pos apos aan : Pos} {e o : Expr} {es : List Expr} {kws : List Keyword} {te ta : TE} {t tk : TA} {nm : Option Str}
structure OK (K:PySem.W.Frag) (fd:FuncData) (ps ks:List Str) (g:List Value->List Value->List Value) (gV:List V->List V->List V):Prop where
 to:∀(s:Shared) (us ws:List Value),K.In s.heap->(g us ws).length=ps.length->BindsTo s fd ⟨us,ks.zip ws⟩ (ps.zip (g us ws))
 rel:∀{vs:List V} {us:List Value} {zs:List V} {ws:List Value},bS vs us->bS zs ws->bS (gV vs zs) (g us ws)
variable {g : List Value -> List Value -> List Value} {gV : List V -> List V -> List V}
end
structure aS (N P:List Str) (sc:Scope):Prop where
 kind:sc.kind=.function:=by rfl
 co:sc.isCoroutine=false:=by rfl
 gen:sc.isGenerator=false:=by rfl
 nd:N.Nodup:=by first | decide +kernel | rfl
 pre:N.take P.length=P:=by rfl
 par:∀x∈P,sc.names.lookup x=some .local\/sc.names.lookup x=some .cell:=by first | decide +kernel | rfl
 HC:∀y∈sc.names,y.2≠.free:=by first | decide +kernel | rfl
theorem qY {kindOf:Str->Option NameKind} {x:Str}:∀{binds:List (Str×Value)} {m:Str->Option Value},(∀v,(x,v)∉binds)->bindL kindOf binds m x=m x
 | [],_,_=>rfl
 | (n,v)::r,m,h=>by
  unfold bindL;rw[qY λw hw=>h w (aaJ _ hw)]
  split
  ·have:x≠n:=by rintro rfl;exact h v aaK
   simp [this]
  ·rfl
theorem qZ {kindOf:Str->Option NameKind} {x:Str}:∀{binds:List (Str×Value)} {m:Str->Option Value},(∀v,(x,v)∉binds)->bindC kindOf binds m x=m x
 | [],_,_=>rfl
 | (n,v)::r,m,h=>by
  unfold bindC;rw[qZ λw hw=>h w (aaJ _ hw)]
  split
  ·rfl
  ·have:x≠n:=by rintro rfl;exact h v aaK
   simp [this]
theorem rh {kindOf:Str->Option NameKind} {x:Str} {v:Value}:∀{P:List Str} {vs:List Value} {i:Nat} {m:Str->Option Value},P.Nodup->P[i]?=some x->vs[i]?=some v->kindOf x=some .local->
  bindL kindOf (P.zip vs) m x=some v
 | [],_,_,_,_,h,_,_=>by simp at h
 | _::_,[],_,_,_,_,h,_=>by simp at h
 | p::P,w::vs,0,m,nd,h1,h2,hk=>by
  simp at h1 h2;subst h1;subst h2;show bindL kindOf ((p,w)::P.zip vs) m p=_;unfold bindL;rw[qY λv hv=>(List.nodup_cons.mp nd).1 (List.of_mem_zip hv).1,if_pos hk];simp
 | p::P,w::vs,i+1,m,nd,h1,h2,hk=>by
  show bindL kindOf ((p,w)::P.zip vs) m x=_;unfold bindL;exact rh (i:=i) (List.nodup_cons.mp nd).2 (by simpa using h1) (by simpa using h2) hk
theorem ri {kindOf:Str->Option NameKind} {x:Str} {v:Value}:∀{P:List Str} {vs:List Value} {i:Nat} {m:Str->Option Value},P.Nodup->P[i]?=some x->vs[i]?=some v->kindOf x≠some .local->
  bindC kindOf (P.zip vs) m x=some v
 | [],_,_,_,_,h,_,_=>by simp at h
 | _::_,[],_,_,_,_,h,_=>by simp at h
 | p::P,w::vs,0,m,nd,h1,h2,hk=>by
  simp at h1 h2;subst h1;subst h2;show bindC kindOf ((p,w)::P.zip vs) m p=_;unfold bindC;rw[qZ λv hv=>(List.nodup_cons.mp nd).1 (List.of_mem_zip hv).1,if_neg hk];simp
 | p::P,w::vs,i+1,m,nd,h1,h2,hk=>by
  show bindC kindOf ((p,w)::P.zip vs) m x=_;unfold bindC;exact ri (i:=i) (List.nodup_cons.mp nd).2 (by simpa using h1) (by simpa using h2) hk
noncomputable def start (N:List Str) (vs:List V):St:=vs.map some++List.replicate (N.length - vs.length) none
noncomputable def iI (CX:kC) (P:Program) (w:World) (K:PySem.W.Frag) (mg:Str->Option Value) (base:Heap) (N:List Str) (qual:Str) (scope:Scope) (f:Addr) (cd:Value) (A:Around) (outer:List Env) (s:Shared) (H:Hp) (E:XK):Cx where
 prog:=P
 w:=w
 K:=K
 mg:=mg
 base:=base
 A:=A.deeper (envOfC qual scope s.heap.objs.size f cd)
 N:=N
 s₀:=s
 H₀:=H
 env:=envOfC qual scope s.heap.objs.size f cd
 outer:=outer
 stack:=envOfC qual scope s.heap.objs.size f cd::outer
 ex:=[]
 calm:=true
 fn:=λ_=>true
 pn:=[]
 xe:=λe s'=>wpAny (model P w) (A.deeper (envOfC qual scope s.heap.objs.size f cd)) (leaving (envOfC qual scope s.heap.objs.size f cd) e) (λ_ sk=>CX outer H s E e sk) (λe' sk=>CX outer H s E e' sk) s'
theorem uR {sc:Scope} {n:Nat} {x:Str} (h:sc.names.lookup x=some .cell):∃c,(cellsFrom n sc.names []).lookup x=some c:=by
 have q:=PySem.W.cellsFrom_some sc.names n [] (.inl h);exact Option.isSome_iff_exists.mp q
theorem zO {CX:kC} {P:Program} {w:World} {K:PySem.W.Frag} {mg:Str->Option Value} {base:Heap} {N ps:List Str} {qual:Str} {scope:Scope} {f:Addr} {cd:Value} {A:Around} {outer:List Env} {s s1:Shared} {H:Hp} {E:XK} {us:List Value} {vs:List V}
  (S:aS N ps scope) (hd:A.handled=none) (e0:A6 P w K mg base A outer s H) (hl:vs.length=ps.length) (r:bS vs us)
  (x:InCallC s s.heap.objs.size (bindL (envOfC qual scope s.heap.objs.size f cd).kindOf (ps.zip us) λ_=>none) (cellsFrom (s.heap.objs.size+1) scope.names []) (bindC (envOfC qual scope s.heap.objs.size f cd).kindOf (ps.zip us) λ_=>none) s1):
  Inv (iI CX P w K mg base N qual scope f cd A outer s H E) [] (start N vs) H s1:=by
 have hpl:ps.length<=N.length:=by have:=congrArg List.length S.pre;rw[abc] at this;omega
 obtain⟨h1,tk,rfl,hk⟩:=x.done;have KN:∀b:Addr,b∉(iI CX P w K mg base N qual scope f cd A outer s H E).ex:=λb z=>absurd (show b∈([]:List Addr) from z) (by simp);refine⟨⟨e0.mod,S.kind,rfl,rfl,aaC _,λy z c h1 h2=>?_,λy hy=>?_,λy c _ h=>?_,λ_=>hd,Around.frames_deeper e0.frames,.inr ⟨rfl,rfl⟩,λb z=>absurd z (KN b),e0.bs,e0.Dx,λb _ _=>KN b,λb z=>absurd z (KN b),e0.mw,e0.FE⟩,
  rfl,e0.bare,Un.kept hk,⟨_,x.toInCall.ns,λi y v h1 h2 h3=>?_⟩,λy c h=>⟨_,x.cell y c h⟩,e0.cj.fresh (aaC _),λy c h=>?_,λp hp=>absurd (show p∈([]:List (Addr×Obj)) from hp) (by simp),e0.cj.kept hk,?_⟩
 ·exact name_of_addr x.apart (abh h1) (abh h2)
 ·have hy:scope.names.lookup y=some .cell\/scope.names.lookup y=some .free:=hy;rcases hy with hy | hy
  ·exact uR hy
  ·exact absurd rfl (S.HC _ (abh hy))
 ·exact Nat.le_of_lt (x.above y c (abh h))
 ·have hi:i<vs.length:=by
   unfold start at h2
   by_cases hi:i<vs.length
   ·exact hi
   ·rw[abp (by simpa using hi)] at h2;rw[List.getElem?_replicate] at h2
    split at h2 <;>cases h2
  have ha:vs[i]?=some v:=by
   unfold start at h2;rw[abz (by simpa using hi),aaG] at h2;cases e:vs[i]? with
   | none=>rw[e] at h2;cases h2
   | some a=>rw[e] at h2;cases h2;rfl
  obtain⟨u,hu,rv⟩:=r.get ha;have hp:ps[i]?=some y:=by
   rw[<-S.pre,List.getElem?_take_of_lt (by omega)];exact h1
  have ndP:ps.Nodup:=by rw[<-S.pre];exact S.nd.sublist (List.take_sublist _ _)
  refine⟨u,rv,?_⟩;rcases S.par y (aaO hp) with k | k
  ·exact .inl ⟨k,rh ndP hp hu k⟩
  ·obtain⟨c,e⟩:=uR (n:=s.heap.objs.size+1) k;refine .inr ⟨.inl k,c,e,?_⟩;have q:=x.cell y c e;rw[ri ndP hp hu (by show scope.names.lookup y≠_;rw[k];decide)] at q;exact q
 ·exact e0.cj.fresh (Nat.le_of_lt (x.above y c (abh h)))
 ·unfold start;show _=N.length;rw[aaE,aaA,List.length_replicate];omega
theorem FP {CX:kC} {P:Program} {w:World} {K:PySem.W.Frag} {mg:Str->Option Value} {base:Heap} {k:Nat} {f:Addr} {name qual:Str} {params:Arguments} {body:List Stmt} {scope:Scope} {dV kV doc pm cf ct oc:Value} {an od:Option Addr}
  {DU:Array (Option Value)} {N ps:List Str} {sp:Sp} (lk:K.lookup f=some ⟨oc,od,.func (PySem.W.fnOf name qual params body scope dV kV doc pm an cf ct),DU⟩) (zC:PySem.W.codeIn K cf qual=true) (S:aS N ps scope)
  (len:∀vs H Q E,sp vs H Q E->vs.length=ps.length)
  (uS:∀(A:Around) (outer:List Env) (s:Shared) (H:Hp) (vs:List V) (Q:VK) (E:XK),eY k (A.deeper (envOfC qual scope s.heap.objs.size f cf))->sp vs H Q E->
   ∃t,uF (iI CX P w K mg base N qual scope f cf A outer s H E) body t/\t {nx:=λ_ H'=>Q .c6 H',rt:=Q} (start N vs) H):
  iu P w K mg base CX (k+1) f (PySem.W.fnOf name qual params body scope dV kV doc pm an cf ct) ps sp:=by
 refine⟨len,λA outer s H args us vs Q E hr e0 hb r Dy=>?_⟩;have hl:=len _ _ _ _ Dy;have KX:K.In s.heap:=e0.mod.JX.keeps λb o e=>(e0.bs b o e).1;have lim:s.heap.NoLimit:=e0.mod.nolimit.keeps λb o e=>(e0.bs b o e).1;have KO:∀y∈ps.zip us,scope.names.lookup y.1=some .local\/(scope.names.lookup y.1=some .cell/\((cellsFrom (s.heap.objs.size+1) scope.names []).lookup y.1).isSome=true):=fun⟨n,v⟩ hy=>by
  rcases S.par n (List.of_mem_zip hy).1 with q | q
  ·exact .inl q
  ·exact .inr ⟨q,PySem.W.cellsFrom_some _ _ _ (.inl q)⟩
 refine codeAny_call_function hr.depth (KX _ _ lk) rfl S.co S.gen rfl (PySem.W.codeRec_of KX zC) (hb _ _ _ _ ?_);refine wpAny_newFunctionEnv_cells S.kind KO λenv he s1 x=>?_;subst he;refine⟨lim.keeps x.toInCall.keep,codeAny_func ?_⟩;obtain⟨t,ht,hq⟩:=uS A outer s H vs Q E (hr.deeper _) Dy;have I:Inv (iI CX P w K mg base N qual scope f cf A outer s H E) [] (start N vs) H s1:=zO S hr.hd e0 hl r x;refine wpAny_mono (ht [] s1 (start N vs) H _ I hq) (λfl s' hs=>?_) λe s' hs=>hs;have fin:∀{σ':St} {H':Hp} {v:V} {u:Value},Inv (iI CX P w K mg base N qual scope f cf A outer s H E) [] σ' H' s'->RelV v u->Q v H'->CE outer P w H s Q u s':=
  λ{σ' H' v u} J rv q=>⟨v,H',J.os,J.bare,J.base,J.cj,rv,q⟩
 cases fl with
 | ret u=>
  obtain⟨v,σ',H',J,rv,q⟩:=hs;exact fin J rv q
 | next=>
  obtain⟨σ',H',J,q⟩:=hs;exact fin (v:=V.c6) (u:=Value.none) J rfl q
 | brk=>
  obtain⟨_,_,_,q⟩:=hs;exact False.elim q
 | cont=>
  obtain⟨_,_,_,q⟩:=hs;exact False.elim q
section
variable {X : Cx} {x : Str} {p pos : Pos} {e : Expr} {es : List Expr} {t : TA} {id T : String} {r : List V -> Hp -> VK -> Prop}
noncomputable def tCB (r:List V->Hp->VK->Prop) (t:TA):TE:=λσ H Q=>t σ H λvs H1=>r vs H1 Q
theorem aF (hc:cq X (.builtin id) r) (hg:Gl X x) (hm:X.mg x=none) (hv:bootBuiltins x=some (.builtin id)) (ha:PA X (e::es) t) (hn:x≠"__name__":=by decide) (uQ:(x==("__debug__":Str))=false:=by decide)
  (he:starEach (e::es) X.env=(false,eval e X.env)::starEach es X.env:=by first | exact se rfl | rfl) (hpl:(backTo pos (starEach es X.env)).any (·.1)=false:=by first | exact na rfl | rfl):PE X (.Call (.Name x p) (e::es) [] pos) (tCB r t):=by
 intro pins s σ H Q I h;refine wpAny_Call_Name_kw (iE I hg hm hv ?_ hn uQ);exact PyProof.Rows.callWith_builtin1 (cW (ha pos pins s σ H _ I h) λus s1 ⟨vs,H1,I1,r1,q1⟩=>hc pins s1 σ H1 vs us Q I1 r1 q1) he hpl
theorem bM (hc:cq X (.type T) r) (hg:Gl X x) (hm:X.mg x=none) (hv:bootBuiltins x=some (.type T)) (ha:PA X (e::es) t) (hn:x≠"__name__":=by decide) (uQ:(x==("__debug__":Str))=false:=by decide)
  (he:starEach (e::es) X.env=(false,eval e X.env)::starEach es X.env:=by rfl) (hpl:(backTo pos (starEach es X.env)).any (·.1)=false:=by rfl):PE X (.Call (.Name x p) (e::es) [] pos) (tCB r t):=by
 intro pins s σ H Q I h;refine wpAny_Call_Name_kw (iE I hg hm hv ?_ hn uQ);exact PyProof.Rows.callWith_type1 (cW (ha pos pins s σ H _ I h) λus s1 ⟨vs,H1,I1,r1,q1⟩=>hc pins s1 σ H1 vs us Q I1 r1 q1) he hpl
end
end L2
namespace HT
open PySem PyProof.Rows
section
open PySem.SeqAt
open PySem.AutoSeq1 (wpAny_loadPart')
open PySem.MeetsSeq PySem.MeetsSeq2 PySem.MeetsSeq3
end
section
variable {prog : Program} {w : World} {A : Around} {E : Value -> Shared -> Prop} {s : Shared}
theorem DV {t b:Addr} {vs ws:List Value} {Q:Value->Shared->Prop} (ht:IsTup s.heap t vs.toArray) (hb:IsTup s.heap b ws.toArray) (hv:vs≠[])
  (h1:ws=[]->Q (.ref t) s) (h2:ws≠[]->Q (.ref s.heap.objs.size) {s with heap:=s.heap.push {cls:=.type "tuple",data:=.seq (vs++ws).toArray}})
  (hsz:vs.length+ws.length<=sizeLine):wpAny (model prog w) A (binaryOp .Add (.ref t) (.ref b)) Q E s:=by
 obtain⟨⟨cls,dd,data,sl⟩,ho,hc,n,hd⟩:=id ht;obtain⟨⟨aao,dd2,data2,zP⟩,NN,Dz,n2,hd2⟩:=id hb;simp only at hc hd Dz hd2;subst hc hd Dz hd2;have e:vs.toArray++ws.toArray=(vs++ws).toArray:=by simp
 by_cases hw:ws=[]
 ·exact concat_meets ⟨_,ho,rfl⟩ ⟨_,NN,rfl⟩ noFill_tuple_add seq_tuple_add PySem.F.slot_tuple_add PySem.F.entry_tuple_add (PySem.F.args_tuple_add_2 _ _)
   (tuple_addW1 t b vs.toArray ws.toArray n n2 dd dd2 sl zP (by simpa using hv) (by simp [hw])) ⟨ho,NN,h1 hw⟩
 ·refine concat_meets ⟨_,ho,rfl⟩ ⟨_,NN,rfl⟩ noFill_tuple_add seq_tuple_add PySem.F.slot_tuple_add PySem.F.entry_tuple_add (PySem.F.args_tuple_add_2 _ _)
   (tuple_addW2 t b vs.toArray ws.toArray n n2 dd dd2 sl zP (by simpa using hv) (by simpa using hw) (by rw[aaU,aaU];exact hsz)) ⟨ho,NN,?_⟩
  rw[e];exact h2 hw
noncomputable def rj (n d:Nat):Option Int->Nat
 | none=>d
 | some v=>if v<0 then (v+ (n:Int)).toNat else min v.toNat n
theorem oP (n d:Nat):rj n d none=d:=rfl
theorem fP (n d k:Nat):rj n d (some (k:Int))=min k n:=by
 show(if (k:Int)<0 then ((k:Int)+ (n:Int)).toNat else min (k:Int).toNat n)=min k n;rw[if_neg (by omega),abq]
theorem DW (v:Int) (n d:Nat):(if v<0 then max (v+ (n:Int)) 0 else min v (n:Int))=((rj n d (some v):Nat):Int):=by
 show(if v<0 then max (v+ (n:Int)) 0 else min v (n:Int))=(((if v<0 then (v+ (n:Int)).toNat else min v.toNat n):Nat):Int)
 by_cases hv:v<0
 ·simp only[if_pos hv];omega
 ·simp only[if_neg hv];omega
end
end HT
namespace L2
open PySem PySem.Spec PyProof.Rows
abbrev TO:=St->Hp->(Option Int->Hp->Prop)->Prop
noncomputable def PO (X:Cx) (e:Option Expr) (t:TO):Prop:=
 ∀(pins:List (Addr×Obj)) (s:Shared) (σ:St) (H:Hp) (Q:Option Int->Hp->Prop),Inv X pins σ H s->t σ H Q->
  wpAny (model X.prog X.w) X.A (evalPart e X.env) (λu s'=>∃o H',Inv X pins σ H' s'/\IsPart u o/\Q o H') X.xe s
noncomputable def tNoPart:TO:=λ_ H Q=>Q none H
noncomputable def tPart (t:TE):TO:=λσ H Q=>t σ H λx H1=>∃i,x=.int i/\Q (some i) H1
theorem intsAre_of {ns:List Int}:∀{us:List Value},bS (ns.map V.int) us->IntsAre us ns:=by
 induction ns with
 | nil=>intro us r;rw[aa3] at r;cases r;exact .nil
 | cons n ns ih=>
  intro us r;rw[aaI] at r;cases r with
  | cons r1 r2=>
   obtain⟨t,e⟩:=r1;subst e;exact .cons n t (ih r2)
section
variable {X : Cx} {e : Expr} {te : TE} {lo hi : Option Expr} {tl th : TO} {pos p2 : Pos}
theorem dr:PO X none tNoPart:=by
 intro pins s σ H Q I h;rw[evalPart_none];exact wpAny_pure ⟨none,H,I,.none,h⟩
theorem cv (h:PE X e te):PO X (some e) (tPart te):=by
 intro pins s σ H Q I hw;rw[evalPart_some];refine cW (h pins s σ H _ I hw) λu s1 eG=>?_;obtain⟨x,H1,I1,r1,q1⟩:=eG;obtain⟨i,rfl,q⟩:=q1;obtain⟨t,rfl⟩:=r1;exact⟨some i,H1,I1,.int i t,q⟩
noncomputable def KP (X:Cx) (r:V->Option Int->Option Int->Hp->VK->Prop):Prop:=
 ∀(pins:List (Addr×Obj)) (s:Shared) (σ:St) (H:Hp) (x:V) (v vl vu:Value) (lo hi:Option Int) (sl:Addr) (Q:VK),Inv X pins σ H s->RelV x v->s.heap.IsSliceOf sl vl vu .none->IsPart vl lo->IsPart vu hi->r x lo hi H Q->
  ∃T id,typeLookup (.type T) "__getitem__"=pure (some (.builtin id))/\s.TypeIs v T/\wpAny (model X.prog X.w) X.A (getItem v (.ref sl)) (EP X pins σ Q) X.xe s
noncomputable def tSl (r:V->Option Int->Option Int->Hp->VK->Prop) (te:TE) (tl th:TO):TE:=λσ H Q=>te σ H λx H1=>tl σ H1 λl H2=>th σ H2 λu H3=>r x l u H3 Q
theorem cA {r:V->Option Int->Option Int->Hp->VK->Prop} (hr:KP X r) (he:PE X e te) (hl:PO X lo tl) (hu:PO X hi th):PE X (.Subscript e (.Slice lo hi none p2) pos) (tSl r te tl th):=by
 intro pins s σ H Q I h;refine Subscript_ (cW (he pins s σ H _ I h) λv s1 eG=>?_);obtain⟨x,H1,I1,r1,q1⟩:=eG;refine wpAny_Slice (cW (hl pins s1 σ H1 _ I1 q1) λvl s2 ⟨l,H2,I2,pl,q2⟩=>cW (hu pins s2 σ H2 _ I2 q2) λvu s3 eG=>?_);obtain⟨u,H3,I3,pu,q3⟩:=eG;rw[evalPart_none];refine wpAny_pure ?_;have I4:Inv X pins σ H3 {s3 with heap:=s3.heap.push {cls:=.type "slice",data:=.fields #[vl,vu,.none]}}:=I3.kept (t':=s3.toks) λb ob q=>Heap.get?_push_of_some _ q;obtain⟨T,id,hT,ht,hg⟩:=hr pins {s3 with heap:=s3.heap.push {cls:=.type "slice",data:=.fields #[vl,vu,.none]}} σ H3 x v vl vu l u s3.heap.objs.size Q I4 r1 (Heap.IsSliceOf.new ..) pl pu q3;show wpAny (model X.prog X.w) X.A (subscriptTail e (.Slice lo hi none p2) v (.ref s3.heap.objs.size)) (EP X pins σ Q) X.xe {s3 with heap:=s3.heap.push {cls:=.type "slice",data:=.fields #[vl,vu,.none]}};exact tail_any (ops:=[.ref s3.heap.objs.size,v]) ht hT hg (by with_unfolding_all rfl)
noncomputable def fo (xs:List V) (lo hi:Option Int):List V:=(xs.drop (HT.rj xs.length 0 lo)).take (HT.rj xs.length xs.length hi - HT.rj xs.length 0 lo)
theorem iJ (xs:List V) (lo hi:Option Int):(fo xs lo hi).length<=xs.length:=by
 unfold fo;rw[abc,List.length_drop];omega
noncomputable def A7 (K:PySem.W.Frag):R2:=λx y H Q=>∃a b xs ys,x=.ref a/\y=.ref b/\fM K H a xs/\fM K H b ys/\xs≠[]/\xs.length+ys.length<=sizeLine/\
 (ys=[]->Q (.ref a) H)/\(ys≠[]->∀p,H p=none->Q (.ref p) (upd H p (.tup (xs++ys))))
theorem bS.sr {xs:List V} {us:List Value} (r:bS xs us):us=[]↔xs=[]:=by
 cases r with
 | nil=>simp
 | cons _ _=>simp
theorem DX:gH X (binaryOp .Add) (A7 X.K):=by
 intro pins s σ H x y v u Q I rx ry h;obtain⟨a,b,xs,ys,rfl,rfl,ha,hb,hx,hz,q1,q2⟩:=h;cases rx;cases ry;obtain⟨bI,r1,p1,_⟩:=I.tuple ha;obtain⟨uT,r2,p2,_⟩:=I.tuple hb;refine HT.DV p1 p2 (λz=>hx (r1.sr.mp z)) (λz=>⟨.ref a,H,I,rfl,q1 (r2.sr.mp z)⟩) (λz=>?_) (by rw[<-r1.length,<-r2.length];exact hz);refine⟨.ref s.heap.objs.size,_,I.laid (t':=s.toks) (o:=.tup (xs++ys)) (λb ob q=>Heap.get?_push_of_some _ q) (aaC _) ?_,rfl,q2 (λw=>z (r2.sr.mpr w)) _ (I.cj.fresh (aaC _))⟩;exact⟨by rw[aaE];exact hz,_,r1.append r2,IsTup.new _ _⟩
end
noncomputable def zQ (n:Nat) (i:Int):Option Nat:=if 0<=i then (if i<n then some i.toNat else none) else if -(n:Int)<=i then some (i+n).toNat else none
noncomputable def fQ {α:Type} (xs:List α) (i:Int):Option α:=(zQ xs.length i).bind λj=>xs[j]?
theorem DY {n:Nat} {i:Int} {j:Nat} (h:zQ n i=some j):seqIndex? i n=some j/\j<n/\-(n:Int)<=i/\i<n:=by
 unfold zQ at h
 by_cases h0:0<=i
 ·rw[if_pos h0] at h
  by_cases h1:i<n
  ·rw[if_pos h1] at h;have e:i.toNat=j:=aa9 h;exact⟨by rw[seqIndex_of h0 h1,e],by omega,by omega,h1⟩
  ·rw[if_neg h1] at h;cases h
 ·rw[if_neg h0] at h
  by_cases h1:-(n:Int)<=i
  ·rw[if_pos h1] at h;have e:(i+n).toNat=j:=aa9 h;exact⟨by rw[seqIndex_neg (by omega) h1,e],by omega,h1,by omega⟩
  ·rw[if_neg h1] at h;cases h
theorem x8 {α:Type} {xs:List α} {i:Int} {v:α} (h:fQ xs i=some v):∃j,seqIndex? i xs.length=some j/\xs[j]?=some v/\j<xs.length/\-(xs.length:Int)<=i/\i<xs.length:=by
 unfold fQ at h;cases e:zQ xs.length i with
 | none=>rw[e] at h;cases h
 | some j=>
  rw[e] at h;obtain⟨h1,h2,h3,h4⟩:=DY e;exact⟨j,h1,h,h2,h3,h4⟩
theorem bE {α:Type} {xs:List α} {j:Nat} {v:α} (h:xs[j]?=some v):fQ xs (j:Int)=some v:=by
 have hj:j<xs.length:=(List.getElem?_eq_some_iff.mp h).1;have e:zQ xs.length (j:Int)=some j:=by
  unfold zQ;rw[if_pos (by omega),if_pos (by omega)];simp
 unfold fQ;rw[e];exact h
theorem uU {α:Type} (xs:List α) (v:α):fQ (xs++ [v]) (-1)=some v:=by
 have hl:(xs++ [v]).length=xs.length+1:=by simp
 have e:zQ (xs++ [v]).length (-1)=some xs.length:=by
  unfold zQ;rw[hl,if_neg (by decide),if_pos (by omega)];congr 1;omega
 unfold fQ;rw[e];show(xs++ [v])[xs.length]?=some v;simp
noncomputable def DZ (b:Expr):Prop:=∀o i,subscripted b false o i=operate [o,i] (getItem o i)
noncomputable def DA (X:Cx) (r:R2):Prop:=
 ∀(value slice:Expr) (pins:List (Addr×Obj)) (s:Shared) (σ:St) (H:Hp) (x y:V) (v u:Value) (Q:VK),Inv X pins σ H s->RelV x v->RelV y u->r x y H Q->
  subscripted slice false v u=operate [v,u] (getItem v u)->wpAny (model X.prog X.w) X.A (subscriptTail value slice v u) (EP X pins σ Q) X.xe s
noncomputable def DB (X:Cx) (id:String) (r:V->List V->Hp->VK->Prop):Prop:=
 ∀(pins:List (Addr×Obj)) (s:Shared) (σ:St) (H:Hp) (x:V) (xs:List V) (v:Value) (us:List Value) (Q:VK),Inv X pins σ H s->RelV x v->bS xs us->r x xs H Q->
  wpAny (model X.prog X.w) X.A (call (.builtin id) (v::us)) (EP X pins σ Q) X.xe s
section
variable {X : Cx} {a b : Expr} {ta tb : TE} {pos : Pos}
theorem aE {r:R2} (hr:DA X r) (ha:PE X a ta) (hb:PE X b tb) (hs:DZ b:=by exact λ_ _=>rfl):PE X (.Subscript a b pos) (tOp r ta tb):=by
 intro pins s σ H Q I h;exact Subscript_ (Hv ha hb I h λv u s2 x y H2 I2 rx ry q=>hr a b pins s2 σ H2 x y v u Q I2 rx ry q (hs _ _))
noncomputable def OL (K:PySem.W.Frag):R2:=λx y H Q=>∃p xs i v,x=.ref p/\y=.int i/\bG K H p xs/\fQ xs i=some v/\Q v H
noncomputable def D0 (K:PySem.W.Frag):R2:=λx y H Q=>∃p xs i v,x=.ref p/\y=.int i/\fM K H p xs/\fQ xs i=some v/\Q v H
theorem x9:DA X (OL X.K):=by
 intro value slice pins s σ H x y v u Q I rx ry h hs;obtain⟨p,xs,i,z,rfl,rfl,hq,he,q⟩:=h;cases rx;obtain⟨t,rfl⟩:=ry;obtain⟨bI,r,pl,hz⟩:=I.list hq;obtain⟨j,h1,h2,h3,h4,h5⟩:=x8 he;obtain⟨w,ew,A8⟩:=r.get h2;have hl:=r.length;have hn:=si;have fin:EP X pins σ Q w s:=⟨z,H,I,A8,q⟩
 by_cases h0:0<=i
 ·have hj:i.toNat=j:=by
   rw[seqIndex_of h0 h5] at h1;exact aa9 h1
  exact item_listR pl.isList h0 (by omega) (by rw[hj];simpa using ew) fin hs
 ·have hj:(i+ (bI.toArray.size:Int)).toNat=j:=by
   rw[seqIndex_neg (by omega) h4] at h1;rw[aaU,<-hl];exact aa9 h1
  exact subscriptTail_builtinR (x:=w) pl.isList.typeIs slot_list_getitem.lookup
   (wpAny_getItem_list_neg (Q:=λr s'=>r=w/\EP X pins σ Q r s') pl.isList (by omega) (by rw[aaU] <;>omega) (by omega) (by rw[hj];simpa using ew) ⟨rfl,fin⟩) hs
theorem A9:DA X (D0 X.K):=by
 intro value slice pins s σ H x y v u Q I rx ry h hs;obtain⟨p,xs,i,z,rfl,rfl,hq,he,q⟩:=h;cases rx;obtain⟨t,rfl⟩:=ry;obtain⟨bI,r,pl,hz⟩:=I.tuple hq;obtain⟨j,h1,h2,h3,h4,h5⟩:=x8 he;obtain⟨w,ew,A8⟩:=r.get h2;have hl:=r.length;have hn:=si;have fin:EP X pins σ Q w s:=⟨z,H,I,A8,q⟩
 exact subscriptTail_builtinR (x:=w) pl.typeIs slot_tuple_getitem.lookup
  (getItem_tuple (j:=j) (Q:=λr s'=>r=w/\EP X pins σ Q r s') pl (by omega) (by omega) (by rw[aaU,<-hl];exact h1) (by simpa using ew) ⟨rfl,fin⟩) hs
theorem sv (lo hi:Option Int) (n:Nat):(sliceBounds lo hi none n).1=((HT.rj n 0 lo:Nat):Int)/\(sliceBounds lo hi none n).2.1=((HT.rj n n hi:Nat):Int)/\(sliceBounds lo hi none n).2.2=1:=by
 refine⟨?_,?_,rfl⟩
 ·cases lo with
  | none=>simp [sliceBounds,HT.rj]
  | some i=>
   simp only[sliceBounds,HT.rj,Option.getD_none,show(1:Int) >0 by decide,if_true]
   by_cases h:i<0
   ·simp only[h,if_true] <;>omega
   ·simp only[h,if_false] <;>omega
 ·cases hi with
  | none=>simp [sliceBounds,HT.rj]
  | some i=>
   simp only[sliceBounds,HT.rj,Option.getD_none,show(1:Int) >0 by decide,if_true]
   by_cases h:i<0
   ·simp only[h,if_true] <;>omega
   ·simp only[h,if_false] <;>omega
theorem qk (bI:List Value) (lo hi:Option Int):slicePick bI.toArray lo hi none=((bI.drop (HT.rj bI.length 0 lo)).take (HT.rj bI.length bI.length hi - HT.rj bI.length 0 lo)).toArray:=by
 obtain⟨h1,h2,h3⟩:=sv lo hi bI.toArray.size;unfold slicePick;rw[h1,h2,h3];simp only[sliceRange_one,pick_run,aaU] <;>rfl
noncomputable def rSlL (K:PySem.W.Frag):V->Option Int->Option Int->Hp->VK->Prop:=λx lo hi H Q=>∃a xs,x=.ref a/\bG K H a xs/\∀p,H p=none->Q (.ref p) (upd H p (.lst (fo xs lo hi)))
theorem D1:KP X (rSlL X.K):=by
 intro pins s σ H x v vl vu lo hi sl Q I rx hs pl pu h;obtain⟨a,xs,rfl,hx,q⟩:=h;cases rx;obtain⟨bI,r,ht,hz⟩:=I.list hx;have hlen:=r.length;refine⟨"list",_,slot_list_getitem.lookup,ht.isList.typeIs,?_⟩;refine wpAny_getItem_list_slice ht.isList hs pl pu .none (by simp) ?_ (by rw[aaU] <;>omega);rw[qk,<-hlen];refine⟨.ref s.heap.objs.size,_,I.laid (t':=s.toks) (o:=.lst (fo xs lo hi)) (λb ob q=>Heap.get?_push_of_some _ q) (aaC _) ?_,rfl,q _ (I.cj.fresh (aaC _))⟩;exact⟨aaR (iJ xs lo hi) hz,_,0,(r.drop (HT.rj xs.length 0 lo)).take (HT.rj xs.length xs.length hi - HT.rj xs.length 0 lo),Heap.get?_push_size _ rfl⟩
noncomputable def fR:V->Bool
 | .c6=>true
 | .bl _=>true
 | .int _=>true
 | .str _=>true
 | _=>false
noncomputable def DC:V->V->Bool
 | .c6,.c6=>true
 | .bl a,.bl b=>a==b
 | .bl a,.int b=>(if a then 1 else 0)==b
 | .int a,.bl b=>a==(if b then 1 else 0)
 | .int a,.int b=>a==b
 | .str a,.str b=>a==b
 | _,_=>false
theorem HD {A:Around} {s:Shared} {y x:V} {u v:Value} (ry:RelV y u) (rx:RelV x v) (fy:fR y=true) (fx:fR x=true):SeqAt.EqAt A s u v (DC y x):=by
 cases y with
 | c6=>
  cases ry;cases x with
  | c6=>cases rx;exact SeqAt.EqAt.same _
  | bl b=>cases rx;exact SeqAt.EqAt.none_bool b
  | int b=>obtain⟨t,rfl⟩:=rx;exact SeqAt.EqAt.none_int b t
  | str b=>obtain⟨t,rfl⟩:=rx;exact SeqAt.EqAt.none_str b t
  | _=>exact absurd (show false=true from fx) aaS
 | bl a=>
  cases ry;cases x with
  | c6=>cases rx;exact SeqAt.EqAt.bool_none a
  | bl b=>cases rx;exact SeqAt.EqAt.bool_bool a b
  | int b=>obtain⟨t,rfl⟩:=rx;exact SeqAt.EqAt.bool_int a b t
  | str b=>obtain⟨t,rfl⟩:=rx;exact SeqAt.EqAt.bool_str a b t
  | _=>exact absurd (show false=true from fx) aaS
 | int a=>
  obtain⟨t',rfl⟩:=ry;cases x with
  | c6=>cases rx;exact SeqAt.EqAt.int_none a t'
  | bl b=>cases rx;exact SeqAt.EqAt.int_bool a t' b
  | int b=>obtain⟨t,rfl⟩:=rx;exact SeqAt.EqAt.int_int a t' b t
  | str b=>obtain⟨t,rfl⟩:=rx;exact SeqAt.EqAt.int_str a t' b t
  | _=>exact absurd (show false=true from fx) aaS
 | str a=>
  obtain⟨t',rfl⟩:=ry;cases x with
  | c6=>cases rx;exact SeqAt.EqAt.str_none a t'
  | bl b=>cases rx;exact SeqAt.EqAt.str_bool a t' b
  | int b=>obtain⟨t,rfl⟩:=rx;exact SeqAt.EqAt.str_int a t' b t
  | str b=>obtain⟨t,rfl⟩:=rx;exact SeqAt.EqAt.str_str a t' b t
  | _=>exact absurd (show false=true from fx) aaS
 | _=>exact absurd (show false=true from fy) aaS
noncomputable def wN (x:V) (u:Value):Bool:=match u with
 | .none=>DC .c6 x
 | .bool b=>DC (.bl b) x
 | .int i _=>DC (.int i) x
 | .str z _=>DC (.str z) x
 | _=>false
theorem Ba {x y:V} {u:Value} (r:RelV y u) (f:fR y=true):wN x u=DC y x:=by
 cases y with
 | c6=>cases r;rfl
 | bl b=>cases r;rfl
 | int i=>obtain⟨t,rfl⟩:=r;rfl
 | str z=>obtain⟨t,rfl⟩:=r;rfl
 | _=>exact absurd (show false=true from f) aaS
theorem kD {x:V}:∀{xs:List V} {us:List Value},bS xs us->xs.all fR=true->us.any (wN x)=xs.any λy=>DC y x
 | _,_,.nil,_=>rfl
 | y::xs,u::us,.cons r t,f=>by
  rw[List.all_cons,aa6] at f;rw[List.any_cons,List.any_cons,Ba r f.1,kD t f.2]
theorem iK {A:Around} {s:Shared} {x:V} {v:Value} (rx:RelV x v) (fx:fR x=true):∀{xs:List V} {us:List Value},bS xs us->xs.all fR=true->∀u∈us,SeqAt.EqAt A s u v (wN x u)
 | _,_,.nil,_=>λu hu=>by cases hu
 | y::xs,u::us,.cons r t,f=>λu' hu=>by
  rw[List.all_cons,aa6] at f;rcases List.mem_cons.mp hu with rfl | hu
  ·rw[Ba r f.1];exact HD r rx f.1 fx
  ·exact iK rx fx t f.2 u' hu
noncomputable def HE (x:V) (xs:List V):Bool:=xs.any λy=>DC y x
noncomputable def Bb (K:PySem.W.Frag) (neg:Bool):R2:=λx y H Q=>∃p xs,y=.ref p/\(bG K H p xs\/fM K H p xs)/\fR x=true/\xs.all fR=true/\Q (.bl (if neg then !HE x xs else HE x xs)) H
theorem rk:gH X (compareOp .In) (Bb X.K false):=by
 intro pins s σ H x y v u Q I rx ry h;obtain⟨p,xs,rfl,hq,fx,fs,q⟩:=h;cases ry;rcases hq with hq | hq
 ·obtain⟨bI,r,pl,hz⟩:=I.list hq;refine SeqAt.in_listAt (wN x) pl.isList (λw hw=>iK rx fx r fs w (by simpa using hw)) ⟨.bl _,H,I,rfl,?_⟩;rw[show bI.toArray.any (wN x)=bI.any (wN x) by simp,kD r fs];exact q
 ·obtain⟨bI,r,pl,hz⟩:=I.tuple hq;refine SeqAt.in_tupleAt (wN x) pl (λw hw=>iK rx fx r fs w (by simpa using hw)) ⟨.bl _,H,I,rfl,?_⟩;rw[show bI.toArray.any (wN x)=bI.any (wN x) by simp,kD r fs];exact q
theorem g5:gH X (compareOp .NotIn) (Bb X.K true):=by
 intro pins s σ H x y v u Q I rx ry h;obtain⟨p,xs,rfl,hq,fx,fs,q⟩:=h;cases ry;rcases hq with hq | hq
 ·obtain⟨bI,r,pl,hz⟩:=I.list hq;refine SeqAt.notIn_listAt (wN x) pl.isList (λw hw=>iK rx fx r fs w (by simpa using hw)) ⟨.bl _,H,I,rfl,?_⟩;rw[show bI.toArray.any (wN x)=bI.any (wN x) by simp,kD r fs];exact q
 ·obtain⟨bI,r,pl,hz⟩:=I.tuple hq;refine SeqAt.notIn_tupleAt (wN x) pl (λw hw=>iK rx fx r fs w (by simpa using hw)) ⟨.bl _,H,I,rfl,?_⟩;rw[show bI.toArray.any (wN x)=bI.any (wN x) by simp,kD r fs];exact q
theorem g6:cq X (.builtin "len") (λxs H Q=>∃p ys,xs=[.ref p]/\(bG X.K H p ys\/fM X.K H p ys)/\Q (.int ys.length) H):=by
 intro pins s σ H xs us Q I r h;obtain⟨p,ys,rfl,hq,q⟩:=h;obtain⟨u,rfl,rx⟩:=vals1 r;cases rx;have hn:=si;rcases hq with hq | hq
 ·obtain⟨bI,r',pl,hz⟩:=I.list hq;have hlen:=r'.length;exact Calls.call_len_list pl.isList (by simp only[aaU] <;>omega) ⟨.int ys.length,H,I.tok _,⟨s.toks+1,by rw[aaU,hlen]⟩,q⟩
 ·obtain⟨bI,r',pl,hz⟩:=I.tuple hq;have hlen:=r'.length;exact len_tuple pl (by simp only[aaU] <;>omega) ⟨.int ys.length,H,I.tok _,⟨s.toks+1,by rw[aaU,hlen]⟩,q⟩
theorem sx:cq X (.builtin "len") (λxs H Q=>∃z,xs=[.str z]/\z.length<=sizeLine/\Q (.int z.length) H):=by
 intro pins s σ H xs us Q I r h;obtain⟨z,rfl,hz,q⟩:=h;obtain⟨u,rfl,t,rfl⟩:=vals1 r;have hn:=si;exact len_str (by omega) ⟨.int z.length,H,I.tok _,⟨_,rfl⟩,q⟩
noncomputable def J0 (K:PySem.W.Frag) (T:String) (x:V) (H:Hp):Prop:=match x with
 | .str _=>T="str"
 | .int _=>T="int"
 | .ref p=>(T="list"/\∃xs,bG K H p xs)\/(T="tuple"/\∃o,K.lookup p=some o/\o.cls=.type "tuple"/\o.dict=none)\/
   (T="dict"/\((∃kvs,H p=some (.dK kvs))\/∃kvs,H p=some (.dT kvs)))\/(T="set"/\∃S n,H p=some (.set S n))
 | _=>False
theorem wO {pins:List (Addr×Obj)} {σ:St} {H:Hp} {s:Shared} {T:String} {x:V} {v:Value} (I:Inv X pins σ H s) (r:RelV x v) (ty:J0 X.K T x H):
  s.TypeIs v T/\∀a,v=.ref a->∃ob,s.heap.get? a=some ob/\ob.dict=none:=by
 cases x with
 | str z=>
  obtain⟨t,rfl⟩:=r;cases (show T="str" from ty);exact⟨typeIs_str s z t,λ_ e=>nomatch e⟩
 | int i=>
  obtain⟨t,rfl⟩:=r;cases (show T="int" from ty);exact⟨typeIs_int s i t,λ_ e=>nomatch e⟩
 | ref p=>
  cases r;rcases ty with ⟨rfl,xs,hq⟩ | ⟨rfl,o,hk,hc,hd⟩ | ⟨rfl,hk⟩ | ⟨rfl,S,n,hk⟩
  ·obtain⟨bI,_,pl,_⟩:=I.list hq;refine⟨pl.isList.typeIs,λa e=>?_⟩;cases e;obtain⟨o,n,e,c,hd,_⟩:=pl;exact⟨o,e,hd⟩
  ·refine⟨⟨o,I.oz p o hk,hc⟩,λa e=>?_⟩;cases e;exact⟨o,I.oz _ o hk,hd⟩
  ·have z:∃o,s.heap.get? p=some o/\o.ExactDict:=by
    rcases hk with ⟨kvs,hk⟩ | ⟨kvs,hk⟩
    ·obtain⟨_,_,_,_,o,_,_,e,ex,_⟩:=I.cj p _ hk;exact⟨o,e,ex⟩
    ·obtain⟨_,_,_,_,o,_,_,e,ex,_⟩:=I.cj p _ hk;exact⟨o,e,ex⟩
   obtain⟨o,e,ex⟩:=z;refine⟨⟨o,e,ex.1⟩,λa e2=>?_⟩;cases e2;exact⟨o,e,ex.2.1⟩
  ·obtain⟨o,_,_,_,e,ex,_⟩:=I.cj p _ hk;refine⟨⟨o,e,ex.1⟩,λa e2=>?_⟩;cases e2;exact⟨o,e,ex.2.1⟩
 | _=>exact False.elim ty
noncomputable def D2 (K:PySem.W.Frag) (T:String) (r:V->List V->Hp->VK->Prop) (to:TE):TE:=λσ H Q=>to σ H λx H1=>J0 K T x H1/\r x [] H1 Q
noncomputable def tBM (K:PySem.W.Frag) (T:String) (r:V->List V->Hp->VK->Prop) (to:TE) (t:TA):TE:=λσ H Q=>to σ H λx H1=>J0 K T x H1/\t σ H1 λxs H2=>r x xs H2 Q
variable {o e : Expr} {es : List Expr} {to : TE} {t : TA} {name : Str} {apos c9 : Pos} {T id : String} {r : V -> List V -> Hp -> VK -> Prop}
theorem wQ (pa:PlainAttrs T) (slot:Slot T name id) (KQ:typeOf (.builtin id)=pure (.type "method_descriptor")) (hm:DB X id r) (ho:PE X o to)
  (oQ:attributeBase o name X.env (eval o X.env)=eval o X.env:=by rfl) (oR:(apos.endLine==c9.line)=true:=by rfl):PE X (.Call (.Attribute o name apos) [] [] c9) (D2 X.K T r to):=by
 intro pins s σ H Q I h;refine wpAny_Call_method0_late oQ oR (cW (ho pins s σ H _ I h) λv s1 eG=>?_);obtain⟨x,H1,I1,r1,ty,q1⟩:=eG;obtain⟨h1,h2⟩:=wO I1 r1 ty;exact⟨T,id,pa,slot,KQ,h1,h2,Calls.callWith_builtin rfl (PySem.evalArgs_none (hm pins s1 σ H1 x [] v [] Q I1 r1 .nil q1))⟩
theorem cu (pa:PlainAttrs T) (slot:Slot T name id) (KQ:typeOf (.builtin id)=pure (.type "method_descriptor")) (hm:DB X id r) (ho:PE X o to) (ha:PA X (e::es) t)
  (oQ:attributeBase o name X.env (eval o X.env)=eval o X.env:=by rfl)
  (HF:((backTo c9 (starEach (e::es) X.env)).all (λx=>!x.1) && (backToKw c9 (keywordEach [] X.env)).all (λx=>x.1.isSome)
   && decide ((e::es).length+ ([]:List Keyword).length+ (if ([]:List Keyword).isEmpty then 0 else 1)<30))=true:=by rfl)
  (oR:(apos.endLine==c9.line)=true:=by rfl) (hs:starEach (e::es) X.env=(false,eval e X.env)::starEach es X.env:=by rfl) (wU:(backTo c9 (starEach es X.env)).any (·.1)=false:=by rfl):
  PE X (.Call (.Attribute o name apos) (e::es) [] c9) (tBM X.K T r to t):=by
 intro pins s σ H Q I h;refine wpAny_Call_method_late oQ HF oR rfl (cW (ho pins s σ H _ I h) λv s1 eG=>?_);obtain⟨x,H1,I1,r1,ty,q1⟩:=eG;obtain⟨h1,h2⟩:=wO I1 r1 ty;refine⟨T,id,pa,slot,KQ,h1,h2,?_⟩;have hA:=ha c9 pins s1 σ H1 _ I1 q1;rw[hs] at hA ⊢;refine Calls.callWith_builtin (by show(false || (backTo c9 (starEach es X.env)).any (·.1))=false;rw[wU] <;>rfl) (Calls.evalArgs_plain ?_);exact cW hA λus s2 ⟨vs,H2,I2,r2,q2⟩=>hm pins s2 σ H2 x vs v us Q I2 r1 r2 q2
end
noncomputable def HG (X:Cx) (id:String) (r:V->List V->Hp->VK->Prop):Prop:=
 ∀(pins:List (Addr×Obj)) (s:Shared) (σ:St) (H:Hp) (x:V) (xs:List V) (v:Value) (us:List Value) (Q:VK),Inv X pins σ H s->RelV x v->bS xs us->r x xs H Q->
  wpAny (model X.prog X.w) X.A (call (.builtin id) (v::us)) (EP X pins σ Q) X.xe s
theorem bS.one:∀{x:V} {us:List Value},bS [x] us->∃u,us=[u]/\RelV x u
 | _,_,.cons r .nil=>⟨_,rfl,r⟩
theorem bS.zero:∀{us:List Value},bS [] us->us=[]
 | _,.nil=>rfl
theorem bS.reverse {xs:List V} {us:List Value} (h:bS xs us):bS xs.reverse us.reverse:=by
 induction h with
 | nil=>exact .nil
 | cons r t ih=>rw[List.reverse_cons,List.reverse_cons];exact bS.append ih (.cons r .nil)
theorem bS.rep {xs:List V} {us:List Value} (h:bS xs us):∀k:Nat,bS (List.replicate k xs).flatten (List.replicate k us).flatten
 | 0=>.nil
 | k+1=>by
  rw[List.replicate_succ,List.replicate_succ,List.flatten_cons,List.flatten_cons];exact bS.append h (bS.rep h k)
theorem foldl_rep (bI:List Value):∀(k:Nat) (acc:List Value),
  List.foldl (λx1 x2=>x1++x2) acc.toArray (List.replicate k bI.toArray)=(acc++ (List.replicate k bI).flatten).toArray
 | 0,acc=>by simp
 | k+1,acc=>by
  have e:acc.toArray++bI.toArray=(acc++bI).toArray:=by simp
  have e2:(acc++bI)++ (List.replicate k bI).flatten=acc++ (List.replicate (k+1) bI).flatten:=by
   rw[List.replicate_succ,List.flatten_cons,List.append_assoc]
  rw[<-e2,<-foldl_rep bI k (acc++bI),<-e,List.replicate_succ,List.foldl_cons]
section
variable {X : Cx} {pins : List (Addr × Obj)} {σ : St} {H : Hp} {s : Shared} {l b : Addr} {xs ys zs : List V}
theorem Inv.D3 {bI its':List Value} {n:Nat} {f:Array Value->Array Value} {t':Nat} (I:Inv X pins σ H s) (hH:H l=some (.lst xs))
  (e:s.heap.get? l=some {cls:=.type "list",data:=.seq bI.toArray n}) (hf:f bI.toArray=its'.toArray) (hv:bS ys its') (hz:ys.length<=sizeLine):
  Inv X pins σ (upd H l (.lst ys)) {s with heap:=s.heap.update l (Obj.mapSeq f),toks:=t'}:=by
 have q:=PySem.IsL.update e f;rw[hf] at q;refine I.write (x:=l) (e:=l) (by rw[hH];exact trivial) (.inl rfl) (λb' u hb hu=>(Heap.get?_update_other s.heap (Obj.mapSeq f) (Ne.symm hb)).trans hu) ⟨_,q⟩ ?_;exact⟨hz,its',_,hv,q⟩
theorem Inv.KR {bI:List Value} {t':Nat} (I:Inv X pins σ H s) (hv:bS ys bI) (hz:ys.length<=sizeLine):
  Inv X pins σ (upd H s.heap.objs.size (.lst ys)) {s with heap:=s.heap.push {cls:=.type "list",data:=.seq bI.toArray},toks:=t'}:=
 I.laid (λ_ _ q=>Heap.get?_push_of_some _ q) (aaC _) ⟨hz,bI,0,hv,Heap.get?_push_size _ rfl⟩
theorem Inv.fresh (I:Inv X pins σ H s):H s.heap.objs.size=none:=I.cj.fresh (aaC _)
theorem Inv.uV (I:Inv X pins σ H s) (hH:H l=some (.lst xs)):xs.length<=sizeLine/\∃(bI:List Value) (n:Nat),bS xs bI/\xs.length=bI.length/\s.heap.get? l=some {cls:=.type "list",data:=.seq bI.toArray n}:=by
 obtain⟨z,bI,n,r,e⟩:=I.cj l _ hH;exact⟨z,bI,n,r,r.length,e⟩
theorem uW {n:Nat} (h:n<=sizeLine):Builtin.List.listTooLong n=false:=by
 unfold Builtin.List.listTooLong;exact decide_eq_false (by omega)
end
section
variable {X : Cx}
noncomputable def ck:V->List V->Hp->VK->Prop:=λx vs H Q=>∃l xs y,x=.ref l/\vs=[y]/\H l=some (.lst xs)/\xs.length<sizeLine/\Q .c6 (upd H l (.lst (xs++ [y])))
theorem bY:HG X "list.append" ck:=by
 intro pins s σ H x vs v us Q I rx rv h;obtain⟨l,xs,y,rfl,rfl,hH,hz,q⟩:=h;cases rx;obtain⟨u,rfl,ru⟩:=rv.one;obtain⟨z,bI,n,r,hl,e⟩:=I.uV hH;refine call_meets F.slot_list_append ⟨_,e,rfl⟩ F.entry_list_append (F.args_list_append_2 _ _) (PySem.list_append l bI.toArray n u (by rw[aaU];omega)) ⟨e,?_⟩;refine⟨.c6,_,I.D3 (its':=bI++ [u]) hH e (by simp) (r.append (.cons ru .nil)) ?_,rfl,q⟩;rw[aaE,abr];omega
noncomputable def kF:V->List V->Hp->VK->Prop:=λx vs H Q=>∃l b xs zs,x=.ref l/\vs=[.ref b]/\H l=some (.lst xs)/\H b=some (.lst zs)/\xs.length+zs.length<=sizeLine/\Q .c6 (upd H l (.lst (xs++zs)))
theorem jf:HG X "list.extend" kF:=by
 intro pins s σ H x vs v us Q I rx rv h;obtain⟨l,b,xs,zs,rfl,rfl,hH,hB,hz,q⟩:=h;cases rx;obtain⟨u,rfl,ru⟩:=rv.one;cases ru;obtain⟨z,bI,n,r,hl,e⟩:=I.uV hH;obtain⟨z2,uT,n2,r2,nF,e2⟩:=I.uV hB;have hsz:bI.toArray.size+uT.toArray.size<=sizeLine:=by rw[aaU,aaU];omega
 have Bc:¬(!bI.toArray.isEmpty && Builtin.List.listTooLong (bI.toArray.size+uT.toArray.size))=true:=by
  rw[uW hsz,Bool.and_false];exact aaS
 refine call_meets F.slot_list_extend ⟨_,e,rfl⟩ F.entry_list_extend (F.args_list_extend_2 _ _)
  (AutoSeq1.list_extend_list_list_0 l bI.toArray n b uT.toArray n2 Bc (by rw[aaU];omega) (by omega)) ⟨e,e2,?_⟩
 refine⟨.c6,_,I.D3 (its':=bI++uT) hH e (by simp) (r.append r2) ?_,rfl,q⟩;rw[aaE];omega
noncomputable def oS:V->List V->Hp->VK->Prop:=λx vs H Q=>∃l xs,x=.ref l/\vs=[]/\H l=some (.lst xs)/\Q .c6 (upd H l (.lst xs.reverse))
theorem oU:HG X "list.reverse" oS:=by
 intro pins s σ H x vs v us Q I rx rv h;obtain⟨l,xs,rfl,rfl,hH,q⟩:=h;cases rx;have OM:=rv.zero;subst OM;obtain⟨z,bI,n,r,hl,e⟩:=I.uV hH;refine call_meets F.slot_list_reverse ⟨_,e,rfl⟩ F.entry_list_reverse (F.args_list_reverse_1 _) (AutoSeq1.list_reverse_list_0 l bI.toArray n (by rw[aaU];omega)) ⟨e,?_⟩;refine⟨.c6,_,I.D3 (its':=bI.reverse) hH e (by simp) r.reverse ?_,rfl,q⟩;rw[abt];omega
noncomputable def Bd:V->List V->Hp->VK->Prop:=λx vs H Q=>∃l xs,x=.ref l/\vs=[]/\H l=some (.lst xs)/\Q .c6 (upd H l (.lst []))
theorem Be:HG X "list.clear" Bd:=by
 intro pins s σ H x vs v us Q I rx rv h;obtain⟨l,xs,rfl,rfl,hH,q⟩:=h;cases rx;have OM:=rv.zero;subst OM;obtain⟨z,bI,n,r,hl,e⟩:=I.uV hH;refine call_meets F.slot_list_clear ⟨_,e,rfl⟩ F.entry_list_clear (F.args_list_clear_1 _) (AutoSeq1.list_clear_list_0 l bI.toArray n (by rw[aaU];omega)) ⟨e,?_⟩;exact⟨.c6,_,I.D3 (its':=[]) (ys:=[]) hH e rfl .nil (aaP _),rfl,q⟩
noncomputable def oV:R2:=λx y H Q=>∃l b xs zs,x=.ref l/\y=.ref b/\H l=some (.lst xs)/\H b=some (.lst zs)/\xs.length+zs.length<=sizeLine/\∀p,H p=none->Q (.ref p) (upd H p (.lst (xs++zs)))
theorem ft:gH X (binaryOp .Add) oV:=by
 intro pins s σ H x y v u Q I rx ry h;obtain⟨l,b,xs,zs,rfl,rfl,hH,hB,hz,q⟩:=h;cases rx;cases ry;obtain⟨z,bI,n,r,hl,e⟩:=I.uV hH;obtain⟨z2,uT,n2,r2,nF,e2⟩:=I.uV hB;refine PySem.P.add_list e e2 ?_ (by rw[aaU,aaU];omega);have ea:bI.toArray++uT.toArray=(bI++uT).toArray:=by simp
 rw[ea];exact⟨.ref _,_,I.KR (t':=s.toks) (r.append r2) (by rw[aaE];omega),rfl,q _ I.fresh⟩
noncomputable def HH:R2:=λx y H Q=>∃l k xs,x=.ref l/\y=.int k/\H l=some (.lst xs)/\-(2^63)<=k/\k<2^63/\xs.length*k.toNat<=sizeLine/\
 ∀p,H p=none->Q (.ref p) (upd H p (.lst (List.replicate k.toNat xs).flatten))
theorem len_rep {α:Type} (xs:List α) (k:Nat):(List.replicate k xs).flatten.length=k*xs.length:=by
 induction k with
 | zero=>simp
 | succ k ih=>rw[List.replicate_succ,List.flatten_cons,aaE,ih,Nat.succ_mul,Nat.add_comm]
theorem Bf:gH X (binaryOp .Mult) HH:=by
 intro pins s σ H x y v u Q I rx ry h;obtain⟨l,k,xs,rfl,rfl,hH,h1,h2,hz,q⟩:=h;cases rx;obtain⟨t,rfl⟩:=ry;obtain⟨z,bI,n,r,hl,e⟩:=I.uV hH;have hlen:bI.toArray.size*k.toNat<=sizeLine:=by rw[aaU,<-hl];exact hz
 have ON:¬bI.toArray.size*k.toNat >(2^63 - 1) / 8:=by
  have:(sizeLine:Nat)<=(2^63 - 1) / 8:=by decide
  omega
 have OO:¬(!Builtin.List.listFitsIndex k)=true:=by
  rw[fitsIndex_both h1 h2];exact aaS
 have Bc:¬Builtin.List.listTooLong (bI.toArray.size*k.toNat)=true:=by
  rw[uW hlen];exact aaS
 have OP:List.foldl (λx1 x2=>x1++x2) #[] (List.replicate (if bI.toArray.isEmpty=true then 0 else k.toNat) bI.toArray)=(List.replicate k.toNat bI).flatten.toArray:=by
  have f0:∀m:Nat,List.foldl (λx1 x2=>x1++x2) #[] (List.replicate m bI.toArray)=(List.replicate m bI).flatten.toArray:=λm=>by
   have:=foldl_rep bI m [];rw[List.nil_append] at this;exact this
  rw[f0];cases bI with
  | nil=>simp
  | cons a r'=>rw[if_neg (by simp)]
 refine wpAny_binaryOp_repeat_ref (T:="list") (U:="int") (by decide) ⟨_,e,rfl⟩ (λs'=>typeIs_int s' k t) noFill_list_mul F.fills_int_mul F.slot_int_rmul repeat_list F.slot_int_index.lookup
  (call_meets F.slot_int_rmul (typeIs_int s k t) F.entry_int_rmul (F.args_int_rmul_2 _ _) (int___rmul___int_list k t l bI.toArray n)
   ⟨e,rfl,⟨_,e,rfl⟩,call_meets F.slot_list_mul ⟨_,e,rfl⟩ F.entry_list_mul (F.args_list_mul_2 _ _) (AutoListH.list___mul___list_int_3 l bI.toArray n k t OO ON Bc) ⟨e,?_⟩⟩)
 rw[OP];exact⟨.ref _,_,I.KR (t':=s.toks) (r.rep k.toNat) (by rw[len_rep,Nat.mul_comm];exact hz),rfl,q _ I.fresh⟩
end
section
variable {prog : Program} {w : World} {A : Around} {E : Value -> Shared -> Prop} {s : Shared}
end
section
variable {X : Cx}
end
section
variable {κ : Type} [DecidableEq κ]
noncomputable def kG (kvs:List (κ×V)) (k:κ):Option V:=(kvs.find? λkv=>decide (kv.1=k)).map (·.2)
noncomputable def putK (kvs:List (κ×V)) (k:κ) (v:V):List (κ×V):=
 if (kvs.any λkv=>decide (kv.1=k))=true then kvs.map (λkv=>if kv.1=k then (kv.1,v) else kv) else kvs++ [(k,v)]
noncomputable def KS (kvs:List (κ×V)) (k:κ):List (κ×V):=kvs.filter λkv=>decide (kv.1≠k)
theorem oW {p:κ×V} {r:List (κ×V)} {k:κ} (e:p.1=k):kG (p::r) k=some p.2:=by simp [kG,List.find?_cons,e]
theorem oX {p:κ×V} {r:List (κ×V)} {k:κ} (e:¬p.1=k):kG (p::r) k=kG r k:=by simp [kG,List.find?_cons,e]
theorem uX (k:κ):∀kvs:List (κ×V),(kvs.any λkv=>decide (kv.1=k))=(kG kvs k).isSome
 | []=>rfl
 | p::r=>by
  rw[List.any_cons]
  by_cases e:p.1=k
  ·simp only[oW e,decide_eq_true e,Bool.true_or,Option.isSome_some]
  ·rw[oX e,decide_eq_false e,Bool.false_or];exact uX k r
theorem nH (kvs:List (κ×V)) (k:κ) (v:V):(putK kvs k v).length<=kvs.length+1:=by
 unfold putK
 split
 ·rw[aaA];omega
 ·rw[aaE,aaL,aa5];omega
theorem mq.zR {o:Option V} {u:Option Value} (r:mq o u):o.isSome=u.isSome:=by
 cases o with
 | none=>cases u with
  | none=>rfl
  | some _=>exact(show False from r).elim
 | some _=>cases u with
  | none=>exact(show False from r).elim
  | some _=>rfl
theorem mq.getD {o:Option V} {u:Option Value} {d:V} {d':Value} (r:mq o u) (rd:RelV d d'):RelV (o.getD d) (u.getD d'):=by
 cases o with
 | none=>cases u with
  | none=>exact rd
  | some _=>exact(show False from r).elim
 | some _=>cases u with
  | none=>exact(show False from r).elim
  | some _=>exact r
theorem KV.val {kvs:List (κ×V)} {vs:List (κ×Value)} (r:KV kvs vs) (k:κ):mq (kG kvs k) (valueAt vs k):=by
 unfold KV at r
 induction r with
 | nil=>exact True.intro
 | @cons p q ps qs h t ih=>
  obtain⟨h1,h2⟩:=h
  by_cases e:p.1=k
  ·have e':q.1=k:=h1.symm.trans e;have b:valueAt (q::qs) k=some q.2:=by simp [valueAt,List.find?_cons,e']
   rw[oW e,b];exact h2
  ·have e':¬q.1=k:=λz=>e (h1.trans z);have b:valueAt (q::qs) k=valueAt qs k:=by simp [valueAt,List.find?_cons,e']
   rw[oX e,b];exact ih
theorem KV.any {kvs:List (κ×V)} {vs:List (κ×Value)} (r:KV kvs vs) (k:κ):(kvs.any λkv=>decide (kv.1=k))=vs.any λkv=>decide (kv.1=k):=by
 unfold KV at r
 induction r with
 | nil=>rfl
 | cons h t ih=>rw[List.any_cons,List.any_cons,ih,h.1]
theorem KV.HI {kvs:List (κ×V)} {vs:List (κ×Value)} (r:KV kvs vs) (k:κ) {y:V} {u:Value} (ry:RelV y u):
  KV (kvs.map λkv=>if kv.1=k then (kv.1,y) else kv) (vs.map λkv=>if kv.1=k then (kv.1,u) else kv):=by
 unfold KV at r ⊢
 induction r with
 | nil=>exact .nil
 | @cons p q ps qs h t ih=>
  rw[aaI,aaI];refine .cons ?_ ih;obtain⟨h1,h2⟩:=h
  by_cases e:p.1=k
  ·rw[if_pos e,if_pos (h1.symm.trans e)];exact⟨h1,ry⟩
  ·rw[if_neg e,if_neg (λz=>e (h1.trans z))];exact⟨h1,h2⟩
theorem KV.put {kvs:List (κ×V)} {vs:List (κ×Value)} (r:KV kvs vs) (k:κ) {y:V} {u:Value} (ry:RelV y u):KV (putK kvs k y) (stored vs k u):=by
 unfold putK stored;rw[r.any k]
 by_cases e:(vs.any λkv=>decide (kv.1=k))=true
 ·rw[if_pos e,if_pos e];exact r.HI k ry
 ·rw[if_neg e,if_neg e];exact Paired.snoc r ⟨rfl,ry⟩
theorem KV.length {kvs:List (κ×V)} {vs:List (κ×Value)} (r:KV kvs vs):kvs.length=vs.length:=Paired.length r
end
theorem rn {P:Program} {w:World} {k:Key} {u:Value} (r:RelV (kV k) u):(cG P w).is k u=true:=by
 cases k with
 | inl i=>obtain⟨t,e⟩:=(show ∃t,u=Value.int i t from r);subst e;exact uI P w i t
 | inr x=>obtain⟨t,e⟩:=(show ∃t,u=Value.str x t from r);subst e;exact uJ P w x t
theorem ro {P:Program} {w:World}:∀{ks:List Key} {us:List Value},bS (ks.map kV) us->ItemsAre (cG P w) ks us
 | [],_,r=>by rw[aa3] at r;cases r;exact .nil
 | k::ks,_,r=>by
  rw[aaI] at r;cases r with
  | cons h t=>exact .cons (rn h) (ro t)
abbrev KT (H:Hp):List (List Key×V)->List (List Key×Addr×Value)->Prop:=Paired λp q=>p.1=q.1/\H q.2.1=some (.tup (p.1.map kV))/\RelV p.2 q.2.2
theorem KT.val {H:Hp} {kvs:List (List Key×V)} {xs:List (List Key×Addr×Value)} (r:KT H kvs xs) (k:List Key):mq (kG kvs k) ((atKey xs k).map (·.2)):=by
 induction r with
 | nil=>exact True.intro
 | @cons p q ps qs h t ih=>
  obtain⟨h1,_,h2⟩:=h
  by_cases e:p.1=k
  ·have e':q.1=k:=h1.symm.trans e;have b:atKey (q::qs) k=some q.2:=by simp [atKey,List.find?_cons,e']
   rw[oW e,b];exact h2
  ·have e':¬q.1=k:=λz=>e (h1.trans z);have b:atKey (q::qs) k=atKey qs k:=by simp [atKey,List.find?_cons,e']
   rw[oX e,b];exact ih
theorem KT.HI {H:Hp} {kvs:List (List Key×V)} {xs:List (List Key×Addr×Value)} (r:KT H kvs xs) (k:List Key) {y:V} {u:Value} (ry:RelV y u):
  KT H (kvs.map λkv=>if kv.1=k then (kv.1,y) else kv) (xs.map (putAt k u)):=by
 induction r with
 | nil=>exact .nil
 | @cons p q ps qs h t ih=>
  rw[aaI,aaI];refine .cons ?_ ih;obtain⟨h1,h2,h3⟩:=h;unfold putAt
  by_cases e:p.1=k
  ·rw[if_pos e,if_pos (h1.symm.trans e)];exact⟨h1,h2,ry⟩
  ·rw[if_neg e,if_neg (λz=>e (h1.trans z))];exact⟨h1,h2,h3⟩
theorem KT.put {H:Hp} {kvs:List (List Key×V)} {xs:List (List Key×Addr×Value)} (r:KT H kvs xs) (k:List Key) {b:Addr} {y:V} {u:Value} (hb:H b=some (.tup (k.map kV))) (ry:RelV y u):
  KT H (putK kvs k y) (storedH xs k b u):=by
 have e:(kvs.any λkv=>decide (kv.1=k))=(atKey xs k).isSome:=by
  rw[uX,(r.val k).zR,Option.isSome_map]
 unfold putK storedH;rw[e]
 by_cases q:(atKey xs k).isSome=true
 ·rw[if_pos q,if_pos q];exact r.HI k ry
 ·rw[if_neg q,if_neg q];exact Paired.snoc r ⟨rfl,hb,ry⟩
theorem KT.keeps {H H':Hp} {kvs:List (List Key×V)} {xs:List (List Key×Addr×Value)} (r:KT H kvs xs) (ht:∀b ys,H b=some (.tup ys)->H' b=some (.tup ys)):KT H' kvs xs:=
 Paired.Hj r λ_ _ z=>⟨z.1,ht _ _ z.2.1,z.2.2⟩
section
variable {P : Program} {w : World} {H : Hp} {h : Heap} {a : Addr}
theorem FQ {u:HO} (ok:gW P w H h) (e:Rd H a u):cJ P w H h a u:=e.ok ok
theorem oY {kvs:List (Key×V)} (ok:gW P w H h) (e:Rd H a (.dK kvs)):kvs.length<=sizeLine/\(a==sysModules)=false/\∃vs,KV kvs vs/\h.DictOf (cG P w) a vs:=
 show cJ P w H h a (.dK kvs) from FQ ok e
theorem Bg {kvs:List (Key×V)} (ok:gW P w H h) (e:H a=some (.dK kvs)):kvs.length<=sizeLine/\(a==sysModules)=false/\∃vs,KV kvs vs/\h.DictOf (cG P w) a vs:=oY ok (.inl e)
theorem sy {ks:List Key} (ok:gW P w H h) (e:H a=some (.tup (ks.map kV))):(tupleKind (cG P w)).is h ks a:=by
 obtain⟨_,bI,r,o,h1,h2,n,h3⟩:=(show cJ P w H h a (.tup (ks.map kV)) from ok a _ e)
 exact⟨o,bI.toArray,n,h1,h2,h3,by simpa using ro r⟩
theorem uY {kvs:List (List Key×V)} (ok:gW P w H h) (e:Rd H a (.dT kvs)):kvs.length<=sizeLine/\(a==sysModules)=false/\
  ∃xs,KT H kvs xs/\h.DictOfH (tupleKind (cG P w)) a xs:=by
 obtain⟨z,y,xs,r,o,es,ep,h1,h2,h3,h4,h5⟩:=(show cJ P w H h a (.dT kvs) from FQ ok e)
 refine⟨z,y,xs,r,o,es,ep,h1,h2,h3,h4,λx hx=>?_,h5⟩;have all:∀{l:List (List Key×V)} {m:List (List Key×Addr×Value)},KT H l m->∀x∈m,(tupleKind (cG P w)).is h x.1 x.2.1:=by
  intro l m q
  induction q with
  | nil=>intro x hx;exact nomatch hx
  | @cons p q ps qs hq t ih=>
   intro x hx;rcases List.mem_cons.mp hx with e | hx
   ·subst e;exact sy ok (by rw[<-hq.1];exact hq.2.1)
   ·exact ih x hx
 exact all r x hx
theorem KU {kvs:List (List Key×V)} (ok:gW P w H h) (e:H a=some (.dT kvs)):kvs.length<=sizeLine/\(a==sysModules)=false/\
  ∃xs,KT H kvs xs/\h.DictOfH (tupleKind (cG P w)) a xs:=uY ok (.inl e)
end
noncomputable def oZ (H:Hp) (a:Addr) (y:V) (r:Option V):Prop:=
 (∃kvs k,Rd H a (.dK kvs)/\y=kV k/\r=kG kvs k)\/∃kvs k b,Rd H a (.dT kvs)/\y=.ref b/\H b=some (.tup (k.map kV))/\r=kG kvs k
noncomputable def zS (H:Hp) (a:Addr) (y v:V) (H':Hp):Prop:=
 (∃kvs k,H a=some (.dK kvs)/\y=kV k/\kvs.length<sizeLine/\H'=upd H a (.dK (putK kvs k v)))\/
 ∃kvs k b,H a=some (.dT kvs)/\y=.ref b/\H b=some (.tup (k.map kV))/\kvs.length<sizeLine/\H'=upd H a (.dT (putK kvs k v))
theorem zS.k {H:Hp} {a:Addr} {kvs:List (Key×V)} {k:Key} {v:V} (e:H a=some (.dK kvs)) (hl:kvs.length<sizeLine):zS H a (kV k) v (upd H a (.dK (putK kvs k v))):=.inl ⟨kvs,k,e,rfl,hl,rfl⟩
section
variable {X : Cx} {pins : List (Addr × Obj)} {σ : St} {H : Hp} {s : Shared} {a : Addr} {y v : V} {u r : Value} {o : Option V} {A : Around} {E : Value -> Shared -> Prop}
theorem Inv.big (I:Inv X pins σ H s):sysModules<s.heap.objs.size:=by
 have h:mainGlobals<s.heap.objs.size:=(I.mod.glob.keeps I.bk).lt;exact Nat.lt_trans (by decide) h
theorem zT {Q:Value->Shared->Prop} (hu:A.units+1<cLine) (I:Inv X pins σ H s) (g:oZ H a y (some v)) (ry:RelV y u) (h:∀w' s',Inv X pins σ H s'->RelV v w'->Q w' s'):
  wpAny (model X.prog X.w) A (getItem (.ref a) u) Q E s:=by
 rcases g with ⟨kvs,k,e,ey,l⟩ | ⟨kvs,k,b,e,ey,eb,l⟩
 ·subst ey;obtain⟨z,hd,vs,rel,dd⟩:=oY I.cj e;obtain⟨w',hw,A8⟩:=mq.some_of (v:=v) (o:=valueAt vs k) (by rw[l];exact rel.val k);exact wpAny_getItem_of (rn ry) dd.mapOf hw (h w' _ (I.tok _) A8)
 ·subst ey;cases (show u=Value.ref b from ry);obtain⟨z,hd,xs,rel,dd⟩:=uY I.cj e;obtain⟨w',hw,A8⟩:=mq.some_of (v:=v) (o:=(atKey xs k).map (·.2)) (by rw[l];exact rel.val k);obtain⟨p,hp,sC⟩:=Option.map_eq_some_iff.mp hw;refine wpAny_getItem_heap (tupleKind_room_in1 hu) (sy I.cj eb) dd hp ?_;rw[sC];exact h w' _ (I.tok _) A8
theorem yc {h':Heap} {t':Nat} {ob:HO} (I:Inv X pins σ H s) (mu:Kz (H a)) (hs:Heap.SameBut a s.heap h') (he:∃q,h'.get? a=some q) (new:cJ X.prog X.w (upd H a ob) h' a ob):
  Inv X pins σ (upd H a ob) {s with heap:=h',toks:=t'}:=
 I.write (x:=a) (e:=a) mu (.inl rfl) (λb q hb z=>(hs.2 b hb).trans z) he new
theorem HJ {P:Program} {w:World} {H':Hp} {h':Heap} {kvs:List (Key×V)} {vs:List (Key×Value)} (z:kvs.length<=sizeLine) (hd:(a==sysModules)=false) (rel:KV kvs vs) (dd:h'.DictOf (cG P w) a vs):
  cJ P w H' h' a (.dK kvs):=⟨z,hd,vs,rel,dd⟩
theorem zU {H':Hp} {Q:Unit->Shared->Prop} (hu:A.units+1<cLine) (I:Inv X pins σ H s) (g:zS H a y v H') (ry:RelV y u) (rv:RelV v r) (h:∀s',Inv X pins σ H' s'->Q () s'):
  wpAny (model X.prog X.w) A (setItem (.ref a) u r) Q E s:=by
 rcases g with ⟨kvs,k,e,ey,l,eH⟩ | ⟨kvs,k,b,e,ey,eb,l,eH⟩
 ·subst ey eH;obtain⟨z,hd,vs,rel,dd⟩:=Bg I.cj e;have hz:vs.length<=sizeLine:=by rw[<-rel.length];exact z
  have hl:(putK kvs k v).length<=sizeLine:=by have:=nH kvs k v;omega
  refine wpAny_setItem_pairs (hsz:=hz) (rn ry) dd λh' NO hs=>h _ ?_;have he:∃q,h'.get? a=some q:=let ⟨q,_,_,hq,_⟩:=NO;⟨q,hq⟩;exact yc I (by rw[e];exact True.intro) hs he (HJ hl hd (rel.put k rv) NO)
 ·subst ey eH;cases (show u=Value.ref b from ry);obtain⟨z,hd,xs,rel,dd⟩:=KU I.cj e;have hz:xs.length<=sizeLine:=by rw[<-Paired.length rel];exact z
  have hl:(putK kvs k v).length<=sizeLine:=by have:=nH kvs k v;omega
  refine wpAny_setItem_heap (hsz:=hz) (tupleKind_room_in1 hu) (sy I.cj eb) dd λh' NO hs=>h _ ?_;obtain⟨q,es,ep,hq,h2,h3,h4,_,h5⟩:=NO;refine yc I (by rw[e];exact True.intro) hs ⟨q,hq⟩ ⟨hl,hd,_,(rel.put k eb rv).keeps λc ys ec=>?_,q,es,ep,hq,h2,h3,h4,h5⟩;rw[aV (Ky ec e (λz=>nomatch z))];exact ec
end
section
variable {X : Cx} {pins : List (Addr × Obj)} {σ : St} {H : Hp} {s : Shared} {a : Addr} {kvs : List (Key × V)} {k : Key} {u : Value} {A : Around} {E : Value -> Shared -> Prop}
theorem KW {Q:Value->Shared->Prop} (I:Inv X pins σ H s) (e:Rd H a (.dK kvs)) (h:∀t s',Inv X pins σ H s'->Q (.int kvs.length t) s'):wpAny (model X.prog X.w) A (call (.builtin "len") [.ref a]) Q E s:=by
 obtain⟨z,hd,vs,rel,dd⟩:=oY I.cj e;refine call_len_dict hd dd (by rw[<-rel.length];rw[sizeLine_eq] at z;omega) ?_;rw[<-rel.length];exact h _ _ (I.tok _)
end
noncomputable def D4 (i:Expr):Prop:=∀ov iv,subscripted i false ov iv=operate [ov,iv] (getItem ov iv)
theorem sG {prog:Program} {w:World} {A:Around} {E:Value->Shared->Prop} {s:Shared} {env:Env} {value slice:Expr} {pos:Pos} {T id:String} {Q:Value->Shared->Prop}
  (hl:typeLookup (.type T) "__getitem__"=pure (some (.builtin id))) (hs:D4 slice)
  (h:wpAny (model prog w) A (eval value env) (λo s₁=>wpAny (model prog w) A (eval slice env) (λi s₂=>s₂.TypeIs o T/\wpAny (model prog w) A (getItem o i) Q E s₂) E s₁) E s):
  wpAny (model prog w) A (eval (.Subscript value slice pos) env) Q E s:=by
 refine Subscript_ (wpAny_mono h (λo s₁ h₁=>wpAny_mono h₁ (λi s₂ h₂=>?_) λ_ _ x=>x) λ_ _ x=>x);obtain⟨hT,h₂⟩:=h₂;unfold subscriptTail;refine wpAny_bind ?_;rw[getitemInPython_of_ne hT.not_modules];refine wpAny_bind (wpAny_specialOf hT hl ?_);have fin:wpAny (model prog w) A (subscripted slice false o i) (λr s₃=>wpAny (model prog w) A (letTemporaryGo value o r >>=λ_=>pure r) Q E s₃) E s₂:=by
  rw[hs o i];exact wpAny_operating (wpAny_mono h₂ (λr s₃ h₃=>wpAny_bind (wpAny_letTemporaryGo (wpAny_pure h₃))) λ_ _ x=>x)
 first
  | exact wpAny_pure (wpAny_bind fin)
  | exact wpAny_bind (wpAny_pure (wpAny_bind fin))
  | exact wpAny_bind fin
theorem uZ {X:Cx} {pins:List (Addr×Obj)} {σ:St} {H:Hp} {s:Shared} {a:Addr} {y:V} {o:Option V} (I:Inv X pins σ H s) (g:oZ H a y o):s.TypeIs (.ref a) "dict":=by
 rcases g with ⟨kvs,k,e,_,_⟩ | ⟨kvs,k,b,e,_,_,_⟩
 ·obtain⟨_,_,vs,_,dd⟩:=oY I.cj e;exact dd.typeIs
 ·obtain⟨_,_,xs,_,dd⟩:=uY I.cj e;exact dd.typeIs
noncomputable def tDGet (td ty:TE):TE:=λσ H Q=>td σ H λx H1=>ty σ H1 λy H2=>∃a v,x=.ref a/\oZ H2 a y (some v)/\Q v H2
noncomputable def sDPut (td ty tv:TE):TS:=λD σ H=>tv σ H λv H1=>td σ H1 λx H2=>ty σ H2 λy H3=>∃a H4,x=.ref a/\zS H3 a y v H4/\D.nx σ H4
section
variable {X : Cx} {o i e value : Expr} {pos pos' iH : Pos} {td ty tv : TE}
theorem D5 (hu:X.A.units+1<cLine) (ho:PE X o td) (hi:PE X i ty) (hs:D4 i):PE X (.Subscript o i pos) (tDGet td ty):=by
 intro pins s σ H Q I h;refine sG PySem.F.slot_dict_getitem.lookup hs (cW (ho pins s σ H _ I h) λu s1 ⟨x,H1,I1,rx,q1⟩=>cW (hi pins s1 σ H1 _ I1 q1) λiv s2 eG=>?_);obtain⟨y,H2,I2,ry,a,v,ex,g,q2⟩:=eG;subst ex;obtain rfl:u=Value.ref a:=rx;exact⟨uZ I2 g,zT hu I2 g ry λw' s3 I3 A8=>⟨v,H2,I3,A8,q2⟩⟩
theorem D6 (hu:X.A.units+1<cLine) (ho:PE X o td) (hi:PE X i ty) (hv:PE X value tv) (hs:swapsWith value (some (.Subscript o i pos')) pos.line X.env=pure false):
  PS X (.Assign [.Subscript o i pos'] value pos) (sDPut td ty tv):=by
 intro pins s σ H D I h;refine wpAny_Assign_Subscript (cW (hv pins s σ H _ I h) λr s1 ⟨v,H1,I1,rv,q1⟩=>cW (ho pins s1 σ H1 _ I1 q1) λu s2 ⟨x,H2,I2,rx,q2⟩=>cW (hi pins s2 σ H2 _ I2 q2) λiv s3 eG=>?_) hs;obtain⟨y,H3,I3,ry,a,H4,ex,g,q3⟩:=eG;subst ex;obtain rfl:u=Value.ref a:=rx;exact zU hu I3 g ry rv λs4 I4=>⟨σ,H4,I4,q3⟩
end
theorem Bh {P:Program} {w:World} {H:Hp} (h:Heap) (hb:sysModules<h.objs.size):cJ P w H (h.push {cls:=.type "dict",data:=.dict #[]}) h.objs.size (.dK []):=
 ⟨aaP _,beq_eq_false_iff_ne.mpr (Ne.symm (aaN hb)),[],.nil,Heap.DictOf.new h⟩
noncomputable def tDNewK:TE:=λ_ H Q=>∀p,H p=none->Q (.ref p) (upd H p (.dK []))
section
variable {X : Cx} {pos : Pos}
theorem Bi:PE X (.Dict [] [] pos) tDNewK:=λpins s σ H Q I h=>
 wpAny_Dict_empty ⟨.ref s.heap.objs.size,_,I.laid (a:=s.heap.objs.size) (o:=.dK []) (t':=s.toks) (λ_ _ q=>Heap.get?_push_of_some _ q) (aaC _) (Bh s.heap I.big),rfl,h _ (I.cj.fresh (aaC _))⟩
end
abbrev VV:List (V×V)->List (Value×Value)->Prop:=Paired λp q=>RelV p.1 q.1/\RelV p.2 q.2
structure M1 (X:Cx) (o:Expr) (m:Str) (apos:Pos) (e:Expr) (c9:Pos):Prop where
 base:attributeBase o m X.env (eval o X.env)=eval o X.env
 few:((backTo c9 (starEach [e] X.env)).all (λx=>!x.1) && (backToKw c9 (keywordEach [] X.env)).all (λx=>x.1.isSome)
  && decide (([e]:List Expr).length+ ([]:List Keyword).length+ (if ([]:List Keyword).isEmpty then 0 else 1)<30))=true
 line:(apos.endLine==c9.line)=true
 trees:backTo c9 (starEach [e] X.env)=[(false,eval e X.env)]
structure M2 (X:Cx) (o:Expr) (m:Str) (apos:Pos) (e f:Expr) (c9:Pos):Prop where
 base:attributeBase o m X.env (eval o X.env)=eval o X.env
 few:((backTo c9 (starEach [e,f] X.env)).all (λx=>!x.1) && (backToKw c9 (keywordEach [] X.env)).all (λx=>x.1.isSome)
  && decide (([e,f]:List Expr).length+ ([]:List Keyword).length+ (if ([]:List Keyword).isEmpty then 0 else 1)<30))=true
 line:(apos.endLine==c9.line)=true
 trees:backTo c9 (starEach [e,f] X.env)=[(false,eval e X.env),(false,eval f X.env)]
noncomputable def NP (H:Hp) (a:Addr):Prop:=(∃kvs,Rd H a (.dK kvs))\/∃kvs,Rd H a (.dT kvs)
theorem HK {X:Cx} {pins:List (Addr×Obj)} {σ:St} {H:Hp} {s:Shared} {a:Addr} (I:Inv X pins σ H s) (d:NP H a):
  s.TypeIs (.ref a) "dict"/\(∀b,Value.ref a=.ref b->∃ob,s.heap.get? b=some ob/\ob.dict=none)/\(a==sysModules)=false:=by
 rcases d with ⟨kvs,e⟩ | ⟨kvs,e⟩
 ·obtain⟨_,hd,vs,_,dd⟩:=oY I.cj e;refine⟨dd.typeIs,λb q=>?_,hd⟩;cases q;obtain⟨ob,_,_,h1,h2,_⟩:=dd;exact⟨ob,h1,h2.2.1⟩
 ·obtain⟨_,hd,xs,_,dd⟩:=uY I.cj e;refine⟨dd.typeIs,λb q=>?_,hd⟩;cases q;obtain⟨ob,_,_,h1,h2,_⟩:=dd;exact⟨ob,h1,h2.2.1⟩
section
variable {X : Cx} {pins : List (Addr × Obj)} {σ : St} {H : Hp} {s : Shared} {a : Addr} {y d : V} {u r : Value} {o : Option V} {A : Around} {E : Value -> Shared -> Prop}
theorem HL {Q:Value->Shared->Prop} (hu:A.units+1<cLine) (I:Inv X pins σ H s) (g:oZ H a y o) (ry:RelV y u) (rd:RelV d r) (h:∀w' s',Inv X pins σ H s'->RelV (o.getD d) w'->Q w' s'):
  wpAny (model X.prog X.w) A (call (.builtin "dict.get") [.ref a,u,r]) Q E s:=by
 rcases g with ⟨kvs,k,e,ey,l⟩ | ⟨kvs,k,b,e,ey,eb,l⟩
 ·subst ey;obtain⟨z,hd,vs,rel,dd⟩:=oY I.cj e;refine call_meetsIn PySem.F.slot_dict_get dd.typeIs PySem.F.entry_dict_get (PySem.F.args_dict_get_3 _ _ _) (meets_dict_get_default (cG X.prog X.w) a (rn ry) hd r) ⟨_,dd.mapOf,h _ _ (I.tok _) ?_⟩;rw[l];exact(rel.val k).getD rd
 ·subst ey;cases (show u=Value.ref b from ry);obtain⟨z,hd,xs,rel,dd⟩:=uY I.cj e;refine call_meetsIn PySem.F.slot_dict_get dd.typeIs PySem.F.entry_dict_get (PySem.F.args_dict_get_3 _ _ _) (meetsH_dict_get_default (tupleKind (cG X.prog X.w)) a b hd r) ⟨tupleKind_room_in1 hu,k,xs,sy I.cj eb,dd,h _ _ (I.tok _) ?_⟩;rw[l];exact(rel.val k).getD rd
end
noncomputable def tDGet2 (td ty tx:TE):TE:=λσ H Q=>td σ H λx H1=>∃a,x=.ref a/\NP H1 a/\ty σ H1 λy H2=>tx σ H2 λz H3=>∃o,oZ H3 a y o/\Q (o.getD z) H3
section
variable {X : Cx} {o e f : Expr} {apos c9 : Pos} {td ty tx : TE}
theorem Bj (hu:X.A.units+1<cLine) (ho:PE X o td) (he:PE X e ty) (hf:PE X f tx) (m:M2 X o "get" apos e f c9):PE X (.Call (.Attribute o "get" apos) [e,f] [] c9) (tDGet2 td ty tx):=by
 intro pins s σ H Q I h;refine wpAny_Call_method m.base m.few m.line PySem.F.plainAttrs_dict PySem.F.slot_dict_get PySem.F.type_dict_get (cW (ho pins s σ H _ I h) λu s1 eG=>?_);obtain⟨x,H1,I1,rx,a,ex,d,q1⟩:=eG;subst ex;obtain rfl:u=Value.ref a:=rx;obtain⟨t1,t2,_⟩:=HK I1 d;refine⟨t1,t2,?_⟩;rw[m.trees];refine Calls.callWith_builtin rfl (Calls.evalArgs_plain (Calls.spliced_cons (cW (he pins s1 σ H1 _ I1 q1) λiv s2 ⟨y,H2,I2,ry,q2⟩=>
  Calls.spliced_cons (cW (hf pins s2 σ H2 _ I2 q2) λfv s3 ⟨z,H3,I3,rz,ov,g,q3⟩=>Calls.spliced_nil ?_))))
 exact HL hu I3 g ry rz λw' s4 I4 A8=>⟨_,H3,I4,A8,q3⟩
end
section
variable {X : Cx} {pins : List (Addr × Obj)} {σ : St} {H : Hp} {s : Shared} {a : Addr} {kvs : List (Key × V)} {A : Around} {E : Value -> Shared -> Prop}
end
section
variable {X : Cx} {pins : List (Addr × Obj)} {σ : St} {H : Hp} {s : Shared} {a : Addr} {y : V} {u : Value} {A : Around} {E : Value -> Shared -> Prop}
end
end L2
namespace Att
open PySem PySem.W PySem.Calls PyProof.Rows
theorem nV {P:Params} {h:Heap}:∀(ns:List Int) (vs:List Value),WellAll P h vs (ns.map WData.int)->IntsAre vs ns:=by
 intro ns
 induction ns with
 | nil=>
  intro vs w;rw[aa3] at w;cases w;exact .nil
 | cons n ns ih=>
  intro vs w;rw[aaI] at w;cases w with
  | cons a b=>
   cases a;exact .cons _ _ (ih _ b)
theorem zV {l:OpenLaw} {n:Nat} (hn:l.most=some n) {P:Params} {h:Heap} {args:List WData} {vals:List Value}
  (D7:l.row.toRowW.claim.pre args=true) (OQ:WellAll P h vals args):
  ∃a vs ns,vals=[Value.ref a]/\args=[WData.list (ns.map WData.int)]/\h.get? a=some {cls:=.type "list",data:=.seq vs.toArray}/\IntsAre vs ns/\ns.length<=n:=by
 have il:WShape.hasAll [] args [.list .int]=true:=(pre_splitW D7).1;have hc:l.pre.holds [] {args:=args}=true:=(pre_splitW D7).2;obtain⟨d,r,rfl,h1,h2⟩:=hasAllW_cons il;obtain rfl:=hasAllW_nil h2;obtain⟨xs,rfl,h3⟩:=hasW_list h1;obtain⟨ns,rfl⟩:=items_int h3;have hlen:ns.length<=n:=by
  unfold OpenLaw.pre at hc;have h4:(WTm.not (.lt (.lit (.int (n:Int))) (.len (.arg 0)))).holds [] {args:=[.list (ns.map .int)]}=true:=by
   have h4:=(holds_andW hc).1;rw[hn] at h4;exact h4
  have h5:=condW_of h4 (w_not (w_lt w_lit (w_len_list (w_arg rfl))));rw[aaA] at h5;refine Nat.le_of_not_lt λq=>?_;have q':(n:Int)< ((ns.length:Nat):Int):=by omega
  first
   | (rw[decide_eq_true q'] at h5;exact absurd h5 (by decide))
   | (simp at h5;omega)
 cases OQ with
 | cons w1 w2=>
  cases w2;cases w1 with
  | list ho zW=>exact⟨_,_,ns,rfl,rfl,ho,nV ns _ zW,hlen⟩
theorem zX (l:OpenLaw) (args:List WData):l.row.toRowW.claim.post args (.bool true) args=true:=
 postW_of (r:=l.row.toRowW) (X:=(true==true))
  (show WShape.has [] (.bool true) .bool=true by first | rfl | decide | simp [WShape.has,WShape.arms,WShape.armsAll])
  (show(WTm.eq .res (.lit (.bool true))).value [] {args:=args,res:=some (.bool true),after:=args}=some (.bool (true==true)) from w_eq_bool (w_res rfl) w_lit) rfl
theorem u1 {l:OpenLaw} {n:Nat} {q:Program} {loose:List Str} {XP:(Str->Option Value)->Heap->Prop} {YP:World->Heap->Prop} {d:DefRec}
  (hn:l.most=some n) (KY:d.params.defaults=[])
  (call:∀(w:World) (s₀ s₁:Shared) (mg mb:Str->Option Value) (fa:Addr) (o:Obj) (pm cd doc:Value) (a:Addr) (vs:List Value) (ns:List Int),
   Ground q loose [] XP w s₀ mg mb s₁.heap->YP w s₁.heap->
   s₁.heap.get? fa=some o->o.data=.func (docDef d.name d.params d.body d.scope pm cd doc)->s₁.heap.CodeRec cd d.name->mg d.name=some (.ref fa)->
   s₁.heap.get? a=some {cls:=.type "list",data:=.seq vs.toArray}->IntsAre vs ns->ns.length<=n->s₁.gens=#[]->
   codeAny (model l.prog w) callerA (.call (.ref fa) ⟨[.ref a],[]⟩) (λr s'=>r=.ok (.ret (.bool true))/\OldK s₁.heap s'.heap/\s'.os=s₁.os/\AllBare s'.gens) s₁):
  WalkO q loose XP YP l.row.toRowW d [] (λf vs=>PySem.call f vs):=by
 intro w s₀ s₁ mg mb G Y fa o pm cd doc dV kV ho hd zC hD KZ hg args vals as D7 aap hrd OQ hlo;obtain rfl:dV=.none:=Dflts.none hD KY;obtain rfl:kV=.none:=Dflts.noKw hD;obtain⟨a,vs,ns,rfl,rfl,HM,hints,hlen⟩:=zV hn D7 OQ;refine enter_call (codeAny_mono (call w s₀ s₁ mg mb fa o pm cd doc a vs ns G Y ho (fd_plain hd) zC KZ HM hints hlen hg) λr s' hq=>?_);obtain⟨rfl,h2,h3,h4⟩:=hq;exact⟨.inl ⟨.bool true,.bool true,[],rfl,λ_=>rfl,.bool true,zX l _,λ_=>⟨List.Pairwise.nil,λ_ hm=>(nomatch hm)⟩⟩,h2,h3,h4⟩
section
variable {prog : Program} {w : World} {A : Around} {E : Value -> Shared -> Prop} {s : Shared} {K : Frag}
end
end Att
namespace L2
open PySem PySem.Spec PyProof.Rows
theorem rA:∀{vs:List Value} {ns:List Int},IntsAre vs ns->bS (ns.map V.int) vs
 | _,_,.nil=>.nil
 | _,_,.cons n t h=>.cons ⟨t,rfl⟩ (rA h)
noncomputable def HN (H:Hp):Prop:=∀b,H b=none\/∃o xs,H b=some (.uE o (.lst xs))
theorem law_call {P:Program} {w:World} {K:PySem.W.Frag} {mg mb:Str->Option Value} {CX:kC} {k:Nat} {fa a:Addr} {fd:FuncData} {x:Str} {sp:Sp} {s₁:Shared} {vs:List Value} {ns:List Int}
  (KX:K.In s₁.heap) (J1:s₁.heap.Ns mainGlobals mg) (hb:s₁.heap.Ns builtinsNs mb) (hbb:∀x:Str,x≠"__name__"->mb x=bootBuiltins x) (OR:s₁.heap.NoLimit) (hg:s₁.gens=#[])
  (ha:s₁.heap.get? a=some {cls:=.type "list",data:=.seq vs.toArray}) (hi:IntsAre vs ns) (hl:ns.length<=sizeLine) (hr:eY k callerA)
  (F:∀base:Heap,K.In base->base.Ns mainGlobals mg->iu P w K mg base CX k fa fd [x] sp) (K2:∀(s:Shared) (u:Value),BindsTo s fd ⟨[u],[]⟩ [(x,u)])
  (Dy:∀H:Hp,HN H->bG K H a (ns.map V.int)->sp [.ref a] H (λv _=>v=.bl true) λ_ _ _=>False)
  (OS:∀H e s',CX [] H s₁ (λ_ _ _=>False) e s'->False):
  codeAny (model P w) callerA (.call (.ref fa) ⟨[.ref a],[]⟩) (λr s'=>r=.ok (.ret (.bool true))/\OldK s₁.heap s'.heap/\s'.os=s₁.os/\AllBare s'.gens) s₁:=by
 have rv:=rA hi;have OT:=hi.length;have core:∀H:Hp,HN H->bG K H a (ns.map V.int)->gW P w H s₁.heap->(∀b,H b≠none->b=a)->(H a≠none->K.lookup a=none)->
   codeAny (model P w) callerA (.call (.ref fa) ⟨[.ref a],[]⟩) (λr s'=>r=.ok (.ret (.bool true))/\OldK s₁.heap s'.heap/\s'.os=s₁.os/\AllBare s'.gens) s₁:=by
  intro H hO hS cj hA hK;have yd:∀{b:Addr} {o:Obj},s₁.heap.get? b=some o->H b=none->(rW s₁.heap H).get? b=some o:=λe n=>AY e n;have KN:∀{b:Addr} {o:Obj} {es:Array DictEntry} {ep:Nat},s₁.heap.get? b=some o->o.data=.dict es ep->H b=none:=λ{b o es ep} e d=>by
   cases q:H b with
   | none=>rfl
   | some u=>
    have e':b=a:=hA b (by rw[q];simp);subst e';rw[ha] at e;cases e;have d':Data.seq vs.toArray _=Data.dict es ep:=d;cases d'
  have NQ:∀{b:Addr} {m:Str->Option Value},s₁.heap.Ns b m->(rW s₁.heap H).Ns b m:=λ{b m} ⟨o,es,ep,e,d,r⟩=>⟨o,es,ep,yd e (KN e d),d,r⟩
  have hKb:K.In (rW s₁.heap H):=λb o e=>yd (KX b o e) (by
   cases q:H b with
   | none=>rfl
   | some u=>
    have e':b=a:=hA b (by rw[q];simp);subst e';rw[hK (by rw[q];simp)] at e;cases e)
  have hM:Mod K mg (rW s₁.heap H):=⟨hKb,NQ J1,⟨mb,NQ hb,hbb⟩,let ⟨mc,h1,h2⟩:=OR;⟨mc,NQ h1,h2⟩⟩
  have e0:A6 P w K mg (rW s₁.heap H) callerA [] s₁ H:=⟨rfl,hM,λb o e=>DM e,Nat.le_of_eq (zA _ _),trivial,λb hb=>absurd (show b∈([]:List Addr) from hb) (by simp),cj,.of_eq hg⟩
  refine codeAny_mono ((F _ hKb (NQ J1)).run callerA [] s₁ H ⟨[.ref a],[]⟩ [.ref a] [.ref a] _ _ hr e0 (K2 s₁ (.ref a)) (.cons rfl .nil) (Dy H hO hS)) λr s' h=>?_;cases r with
  | error e=>exact(OS H e s' h).elim
  | ok fl=>
   cases fl with
   | next=>exact False.elim h
   | brk=>exact False.elim h
   | cont=>exact False.elim h
   | ret u=>
    obtain⟨v,H',os,bare,un,OU,r',q⟩:=h;have q':v=.bl true:=q;subst q';obtain rfl:u=Value.bool true:=r';refine⟨rfl,OldK.of_keep λb o e=>?_,os,bare⟩;cases q:H b with
    | none=>exact un.keep b o e q (by intro z;exact absurd (show b∈([]:List Addr) from z) (by simp)) (by simp)
    | some u=>
     rcases hO b with z | ⟨ob,xs,z⟩
     ·rw[q] at z;cases z
     ·have z2:=un.ir b ob _ z;obtain⟨e1,_⟩:=cj b _ z;obtain⟨e2,_⟩:=OU b _ z2;rw[e] at e1;cases e1;exact e2
 cases hk:K.lookup a with
 | some o=>
  have e:=KX a o hk;rw[ha] at e;cases e;refine core (λ_=>none) (λ_=>.inl rfl) (.inr ⟨_,vs.toArray,_,hk,rfl,rfl,rfl,by rw[aaU,OT];exact hl,by simpa using rv⟩) (λb u z=>by have z':(none:Option HO)=some u:=z;cases z') (λb z=>absurd rfl z) λz=>absurd rfl z
 | none=>
  refine core (λb=>if b=a then some (.uE {cls:=.type "list",data:=.seq vs.toArray} (.lst (ns.map V.int))) else none) (λb=>?_) (.inl (.inr ⟨{cls:=.type "list",data:=.seq vs.toArray},if_pos rfl⟩)) (λb u z=>?_) (λb z=>?_) λ_=>hk
  ·by_cases hb:b=a
   ·exact .inr ⟨_,_,if_pos hb⟩
   ·exact .inl (if_neg hb)
  ·by_cases hb:b=a
   ·have z':=(if_pos hb).symm.trans z;cases z';subst hb;exact⟨ha,by rw[aaA];exact hl,vs,_,rv,ha⟩
   ·have z':=(if_neg hb).symm.trans z;cases z'
  ·by_cases hb:b=a
   ·exact hb
   ·exact absurd (if_neg hb) z
abbrev KOf {K:PySem.W.Frag} {h:Heap} (_:K.In h):PySem.W.Frag:=K
theorem D8 {l:PySem.W.OpenLaw} {n k:Nat} {q:Program} {loose:List Str} {XP:(Str->Option Value)->Heap->Prop} {YP:World->Heap->Prop} {d:DefRec} {K:Params->PySem.W.Frag} {CX:World->kC} {sp:World->Sp} {x:Str}
  (hn:l.most=some n) (FR:n<=sizeLine) (KY:d.params.defaults=[]) (hr:eY k callerA)
  (hY:∀(w:World) (h:Heap),YP w h->(K w.params).In h)
  (F:∀(w:World) (mg:Str->Option Value) (fa:Addr) (h:Heap),(K w.params).In h->h.Ns mainGlobals mg->mg d.name=some (.ref fa)->
   ∃fd:FuncData,(∀(s:Shared) (u:Value),BindsTo s fd ⟨[u],[]⟩ [(x,u)])/\
    ∀base:Heap,(K w.params).In base->base.Ns mainGlobals mg->iu l.prog w (K w.params) mg base (CX w) k fa fd [x] (sp w))
  (Dy:∀(w:World) (H:Hp) (a:Addr) (ns:List Int),ns.length<=n->HN H->bG (K w.params) H a (ns.map V.int)->sp w [.ref a] H (λv _=>v=.bl true) λ_ _ _=>False)
  (OS:∀(w:World) (H:Hp) (s:Shared) (e:Value) (s':Shared),CX w [] H s (λ_ _ _=>False) e s'->False):
  PySem.W.WalkO q loose XP YP l.row.toRowW d [] (λf vs=>PySem.call f vs):=by
 refine Att.u1 hn KY λw s₀ s₁ mg mb fa o pm cd doc a vs ns G Y ho hd zC KZ HM hints hlen hg=>?_;have KX:=hY w _ Y;obtain⟨fd,hb,hF⟩:=F w mg fa _ KX G.T.g KZ;exact law_call KX G.T.g G.T.b G.T.builtins G.T.nolimit hg HM hints (aaR hlen FR) hr hF hb (λH hO hS=>Dy w H a ns hlen hO hS) λH e s'=>OS w H s₁ e s'
noncomputable def aR (s:Stmt):Arguments:=match s with
 | .FunctionDef _ a _ _ _ _ _ _ _ _=>a
 | _=>{posonlyargs:=[],args:=[],vararg:=none,kwonlyargs:=[],kw_defaults:=[],kwarg:=none,defaults:=[]}
noncomputable def aQ (s:Stmt):List Stmt:=match s with
 | .FunctionDef _ _ b _ _ _ _ _ _ _=>b
 | _=>[]
noncomputable def ai (s:Stmt):Scope:=match s with
 | .FunctionDef _ _ _ _ _ _ sc _ _ _=>sc
 | _=>{kind:=.function,names:=[],isGenerator:=false,isCoroutine:=false}
abbrev CX0:kC:=λ_ _ _ _ _ _=>False
abbrev E0:XK:=λ_ _ _=>False
structure yf (K:PySem.W.Frag) (x qual:Str) (st:Stmt) (f:Addr) (fd:FuncData):Prop where
 ex:∃(oc:Value) (od:Option Addr) (kV doc pm:Value) (an:Option Addr) (cf ct:Value) (DU:Array (Option Value)),
  fd=PySem.W.fnOf x qual (aR st) (aQ st) (ai st) .none kV doc pm an cf ct/\K.lookup f=some ⟨oc,od,.func fd,DU⟩/\PySem.W.codeIn K cf qual=true
 kp:PySem.W.keepIn K (.ref f)=true
section
variable {P : Program} {w : World} {K : PySem.W.Frag} {mg : Str -> Option Value} {base : Heap}
theorem yf.binds {x qual:Str} {st:Stmt} {f:Addr} {fd:FuncData} {ps:List Str} (F:yf K x qual st f fd)
  (h:∀(kV doc pm:Value) (an:Option Addr) (cf ct:Value) (us:List Value),us.length=ps.length->bindArgs (PySem.W.fnOf x qual (aR st) (aQ st) (ai st) .none kV doc pm an cf ct) ⟨us,[]⟩=pure (ps.zip us)):Binds K fd ps []:=by
 obtain⟨oc,od,kV,doc,pm,an,cf,ct,DU,rfl,lk,zC⟩:=F.ex;exact .all (h kV doc pm an cf ct)
theorem bc {x qual:Str} {st:Stmt} {f:Addr} {oc:Value} {od an:Option Addr} {DU:Array (Option Value)} {kV doc pm cf ct:Value} (l:K.lookup f=some ⟨oc,od,.func (PySem.W.fnOf x qual (aR st) (aQ st) (ai st) .none kV doc pm an cf ct),DU⟩)
  (c:PySem.W.codeIn K cf qual=true) (k:PySem.W.keepIn K (.ref f)=true):yf K x qual st f (PySem.W.fnOf x qual (aR st) (aQ st) (ai st) .none kV doc pm an cf ct):=⟨⟨oc,od,kV,doc,pm,an,cf,ct,DU,rfl,l,c⟩,k⟩
end
theorem Bk {A:Around} {k:Nat} (hr:eY k A):A.units+1<cLine:=Nat.lt_of_le_of_lt (Nat.add_le_add_left (by decide:1<=64) _) hr.units
section
variable {X : Cx}
theorem pv (i:Nat) {x:Str} {pos:Pos} (hN:X.N[i]?=some x:=by rfl) (hv:Ox X.env.scope x:=by first | exact Or.inl rfl | exact Or.inr (Or.inl rfl) | exact Or.inr (Or.inr rfl)) (hd:(x==("__debug__":Str))=false:=by decide)
  (zC:(x==("__classdict__":Str))=false:=by decide):PE X (.Name x pos) (tVar i):=Hn hN hv hd zC
end
theorem HP {A B:Prop} (h:A):if true=true then A else B:=by
 rw[if_pos rfl];exact h
theorem dO {c A B:Prop} [Decidable c] (h1:c->A) (h2:¬c->B):if c then A else B:=by
 by_cases h:c
 ·rw[if_pos h];exact h1 h
 ·rw[if_neg h];exact h2 h
noncomputable def aq (H H':Hp):Prop:=∀b o,H b=some o->H' b=some o
theorem aq.refl (H:Hp):aq H H:=λ_ _ h=>h
theorem aq.trans {H H1 H2:Hp} (a:aq H H1) (b:aq H1 H2):aq H H2:=λc o h=>b c o (a c o h)
theorem aq.seq {K:PySem.W.Frag} {H H':Hp} {a:Addr} {xs:List V} (e:aq H H') (h:bG K H a xs):bG K H' a xs:=by
 rcases h with (h | ⟨o,h⟩) | h
 ·exact .inl (.inl (e _ _ h))
 ·exact .inl (.inr ⟨o,e _ _ h⟩)
 ·exact .inr h
section
variable {X : Cx}
theorem zY:cq X (.builtin "len") (λxs H Q=>∃a kvs,xs=[V.ref a]/\H a=some (.dK kvs)/\Q (.int kvs.length) H):=by
 intro pins s σ H xs us Q I r h;obtain⟨a,kvs,rfl,ha,q⟩:=h;obtain⟨u,rfl,ru⟩:=vals1 r;cases ru;exact KW I (.inl ha) λt s' I'=>⟨.int kvs.length,H,I',⟨t,rfl⟩,q⟩
end
section
variable {κ : Type} [DecidableEq κ]
end
noncomputable def Bt (n:Nat) (i:Int):Prop:=i.natAbs<2^n
theorem Bt.mono {m n:Nat} {i:Int} (h:Bt m i) (q:m<=n):Bt n i:=aaQ h (abx (by decide) q)
theorem Bt.neg {n:Nat} {i:Int} (h1:Bt n i):Bt n (-i):=by
 unfold Bt at *;omega
theorem Bt.le {n:Nat} {i j:Int} (h:Bt n j) (q:i.natAbs<=j.natAbs):Bt n i:=Nat.lt_of_le_of_lt q h
theorem Bt.of {n:Nat} {i:Int} (b:Nat) (h1:-(b:Int)<=i) (h2:i<=(b:Int)) (h:b<2^n:=by ac_rfl):Bt n i:=by
 unfold Bt;exact Nat.lt_of_le_of_lt (by omega) h
theorem Bt.log {n:Nat} {i:Int} (h:Bt n i) (q:n<=9000:=by decide):i.natAbs.log2<9000:=by
 by_cases z:i.natAbs=0
 ·rw[z];decide
 ·exact aaQ ((Nat.log2_lt z).mpr h) q
theorem eO {i j:Int} (h1:-(2^64)<i:=by decide) (h2:i<2^64:=by decide):IntMulOk i j:=.of_left (intBits_le_64 h1 h2)
theorem jW {i j:Int} (h1:-(2^64)<j:=by decide) (h2:j<2^64:=by decide):IntMulOk i j:=.of_right (intBits_le_64 h1 h2)
section
variable {X : Cx}
theorem cO:gH X (binaryOp .Mult) (rI IntMulOk λi j=>.int (i*j)):=KH λ_ _ _ _ _ _ _ hc q=>mul_int q hc
noncomputable def cQ (_ j:Int):Prop:=0<j/\j.natAbs.log2<9000
theorem cQ.of {i j:Int} {n:Nat} (h:0<j) (b:Bt n j) (q:n<=9000:=by decide):cQ i j:=⟨h,b.log q⟩
theorem cQ.lit {i j:Int} (h:0<j:=by decide) (q:j.natAbs.log2<9000:=by decide):cQ i j:=⟨h,q⟩
theorem bT:gH X (binaryOp .FloorDiv) (rI cQ λi j=>.int (i / j)):=KH λi j _ _ _ _ _ hc q=>by
 have h1:(0:Int)<j:=hc.1;exact floordiv_int (by omega) (by rw[Int.fdiv_eq_ediv_of_nonneg i (by omega)];exact q) (.inl (PyProof.noPylong_of_log2 hc.2))
noncomputable def o3 (_ j:Int):Prop:=j≠0/\j.natAbs.log2<9000
theorem o3.of {i j:Int} {n:Nat} (h:j≠0) (b:Bt n j) (q:n<=9000:=by decide):o3 i j:=⟨h,b.log q⟩
theorem u2:gH X (binaryOp .FloorDiv) (rI o3 λi j=>.int (i.fdiv j)):=KH λ_ _ _ _ _ _ _ hc q=>floordiv_int hc.1 q (.inl (PyProof.noPylong_of_log2 hc.2))
theorem bu:gH X (binaryOp .Mod) (rI (λ_ j=>0<j) λi j=>.int (i % j)):=Hw
noncomputable def rIxTH:R2:=λx y H Q=>cK x λp=>iD y λi=>∃xs,H p=some (.tup xs)/\∃v,fQ xs i=some v/\Q v H
theorem aN:DA X rIxTH:=λvalue slice pins s σ H x y v u Q I rx ry h hs=>by
 obtain⟨p,e1,h⟩:=rdR_eq.mp h;obtain⟨i,e2,xs,e3,z,e4,q⟩:=rdI_eq.mp h;exact A9 value slice pins s σ H x y v u Q I rx ry ⟨p,xs,i,z,e1,e2,fM.of e3,e4,q⟩ hs
noncomputable def rIxLH:R2:=λx y H Q=>cK x λp=>iD y λi=>∃xs,H p=some (.lst xs)/\∃v,fQ xs i=some v/\Q v H
theorem aI:DA X rIxLH:=λvalue slice pins s σ H x y v u Q I rx ry h hs=>by
 obtain⟨p,e1,h⟩:=rdR_eq.mp h;obtain⟨i,e2,xs,e3,z,e4,q⟩:=rdI_eq.mp h;exact x9 value slice pins s σ H x y v u Q I rx ry ⟨p,xs,i,z,e1,e2,bG.of e3,e4,q⟩ hs
noncomputable def tTupS (t:TA):TE:=λσ H Q=>t σ H λxs H1=>xs.length<=sizeLine/\∀p H2,aq H1 H2->H1 p=none->H2 p=some (.tup xs)->Q (.ref p) H2
theorem ah {H:Hp} {p:Addr} {o:HO} (h:H p=none):aq H (upd H p o):=λb u e=>by
 rw[aV (d9 e h)];exact e
theorem aY {es:List Expr} {t:TA} {x1} {pos:Pos} (h:PA X es t):PE X (.Tuple es x1 pos) (tTupS t):=λpins s σ H Q I hq=>
 cW (h:=wpAny_Tuple_spliced (cW (h pos pins s σ H _ I hq) λus s1 ⟨xs,H1,I1,r,z,q⟩=>⟨by rw[<-r.length];exact z,by
  have hf:H1 s1.heap.objs.size=none:=I1.cj.fresh (aaC _);refine⟨.ref s1.heap.objs.size,upd H1 s1.heap.objs.size (.tup xs),I1.laid (t':=s1.toks) (λb u e=>Heap.get?_push_of_some _ e) (aaC _) ?_,rfl,q _ _ (ah hf) hf aj⟩;exact⟨z,us,r,⟨_,Heap.get?_push_size _ rfl,rfl,_,rfl⟩⟩⟩)) λ_ _ z=>z
theorem gI:cq X (.builtin "len") (λxs H Q=>∃p ys,xs=[.ref p]/\H p=some (.tup ys)/\Q (.int ys.length) H):=λpins s σ H xs us Q I r ⟨p,ys,e,h,q⟩=>
 g6 pins s σ H xs us Q I r ⟨p,ys,e,.inr (fM.of h),q⟩
theorem aW:cq X (.builtin "len") (λxs H Q=>∃p ys,xs=[.ref p]/\H p=some (.lst ys)/\Q (.int ys.length) H):=λpins s σ H xs us Q I r ⟨p,ys,e,h,q⟩=>
 g6 pins s σ H xs us Q I r ⟨p,ys,e,.inl (bG.of h),q⟩
theorem zZ:cq X (.builtin "len") (λxs H Q=>∃p ns,xs=[.ref p]/\bG X.K H p (List.map V.int ns)/\Q (.int (List.length ns:Nat)) H):=λpins s σ H xs us Q I r ⟨p,ns,e,h,q⟩=>
 g6 pins s σ H xs us Q I r ⟨p,_,e,.inl h,by rw[aaA];exact q⟩
noncomputable def D9 (K:PySem.W.Frag):R2:=λx y H Q=>∃p ns i,x=.ref p/\y=.int i/\bG K H p (List.map V.int ns)/\0<=i/\i< (List.length ns:Nat)/\Q (.int (ns.getD i.toNat 0)) H
theorem Bl {ns:List Int} {i:Int} (h0:0<=i) (h1:i< (ns.length:Nat)):fQ (ns.map V.int) i=some (.int (ns.getD i.toNat 0)):=by
 obtain⟨j,rfl⟩:=abi h0;refine bE ?_;have hj:j<ns.length:=by omega
 rw[aaG,aaW hj];simp [List.getD_eq_getElem?_getD,aaW hj]
theorem Bm:DA X (D9 X.K):=λvalue slice pins s σ H x y v u Q I rx ry ⟨p,ns,i,e1,e2,e3,h0,h1,q⟩ hs=>
 x9 value slice pins s σ H x y v u Q I rx ry ⟨p,_,i,_,e1,e2,e3,Bl h0 h1,q⟩ hs
structure da (P:Program) (w:World) (K:PySem.W.Frag) (mg:Str->Option Value) (base:Heap) (CX:kC) (k:Nat) (x:Str) (ps:List Str) (sp:Sp):Prop where
 ex:∃f fd,iu P w K mg base CX k f fd ps sp/\mg x=some (.ref f)/\PySem.W.keepIn K (.ref f)=true/\Binds K fd ps []
theorem ar {CX:kC} {k:Nat} {x:Str} {ps:List Str} {sp:Sp} {E:XK} {e:Expr} {es:List Expr} {t:TA} {p pos:Pos} (C:da X.prog X.w X.K X.mg X.base CX k x ps sp) (ha:PA X (e::es) t) (hr:eY k X.A:=by exact hr.mono (by decide)) (hg:Gl X x:=by rfl) (hx:oO CX X E:=by exact Ea.pass)
  (uQ:(x==("__debug__":Str))=false:=by decide) (he:starEach (e::es) X.env=(false,eval e X.env)::starEach es X.env:=by first | exact se rfl | rfl) (hpl:(backTo pos (starEach es X.env)).any (·.1)=false:=by first | exact na rfl | rfl):
  PE X (.Call (.Name x p) (e::es) [] pos) (tCall sp [] E t):=by
 obtain⟨f,fd,F,hm,hk,hb⟩:=C.ex;exact DT F hr hg hm hk hb .nil hx ha uQ he hpl
end
noncomputable def sH (CX:kC):Prop:=∀outer H s e s',¬CX outer H s (λ_ _ _=>False) e s'
theorem sH.pass {CX:kC} (h:sH CX) {X:Cx}:oO CX X E0:=λ_ _ H s e s' _ z=>(h _ H s e s' z).elim
section
variable {P : Program} {w : World} {K : PySem.W.Frag} {mg : Str -> Option Value} {base : Heap} {CX : kC}
theorem yf.dA {x qual:Str} {st:Stmt} {f:Addr} {fd:FuncData} {N ps:List Str} {k:Nat} {sp:Sp} (F:yf K x qual st f fd) (S:aS N ps (ai st)) (len:∀vs H Q E,sp vs H Q E->vs.length=ps.length)
  (uS:∀(cf:Value) (A:Around) (outer:List Env) (s:Shared) (H:Hp) (vs:List V) (Q:VK) (E:XK),eY k (A.deeper (envOfC qual (ai st) s.heap.objs.size f cf))->sp vs H Q E->
   ∃t,uF (iI CX P w K mg base N qual (ai st) f cf A outer s H E).Hq (aQ st) t/\t {nx:=λ_ H'=>Q .c6 H',rt:=Q} (start N vs) H):iu P w K mg base CX (k+1) f fd ps sp:=by
 obtain⟨oc,od,kV,doc,pm,an,cf,ct,DU,rfl,lk,zC⟩:=F.ex;refine FP lk zC S len λA outer s H vs Q E hr Dy=>?_;obtain⟨t,h,q⟩:=uS cf A outer s H vs Q E hr Dy;exact⟨t,h.Hq,q⟩
structure Dn (K:PySem.W.Frag) (mg:Str->Option Value) (x:Str) (st:Stmt):Prop where
 ex:∃f fd,yf K x x st f fd/\mg x=some (.ref f)
theorem Dn.dj {x:Str} {st:Stmt} {ps:List Str} {k:Nat} {sp:Sp} (D:Dn K mg x st)
  (hb:∀(kV doc pm:Value) (an:Option Addr) (cf ct:Value) (us:List Value),us.length=ps.length->bindArgs (PySem.W.fnOf x x (aR st) (aQ st) (ai st) .none kV doc pm an cf ct) ⟨us,[]⟩=pure (ps.zip us))
  (h:∀f fd,yf K x x st f fd->iu P w K mg base CX k f fd ps sp):da P w K mg base CX k x ps sp:=by
 obtain⟨f,fd,F,hm⟩:=D.ex;exact⟨f,fd,h f fd F,hm,F.kp,F.binds hb⟩
end
section
variable {X : Cx}
noncomputable def eqL (xs ys:List V):Bool:=(List.range (min xs.length ys.length)).all (λj=>DC (xs.getD j .c6) (ys.getD j .c6)) && xs.length==ys.length
noncomputable def rInT:R2:=λx y H Q=>∃p xs,y=.ref p/\H p=some (.tup xs)/\fR x=true/\xs.all fR=true/\Q (.bl (HE x xs)) H
theorem wV:gH X (compareOp .In) rInT:=λpins s σ H x y v u Q I rx ry ⟨p,xs,e1,e2,f1,f2,q⟩=>
 rk pins s σ H x y v u Q I rx ry ⟨p,xs,e1,.inr (fM.of e2),f1,f2,q⟩
theorem Bn:cq X (.builtin "isinstance") (λxs H Q=>∃x c t b,xs=[x,.ty c]/\gZ X.K H x t/\PySem.W.kitOne X.K t (.type c)=some b/\Q (.bl b) H):=by
 intro pins s σ H xs us Q I r h;obtain⟨x,c,t,b,rfl,ty,e,q⟩:=h;obtain⟨u,u',rfl,rx,rc⟩:=vals2 r;cases rc;exact zN I rx ty e λtk=>⟨.bl b,H,I.tok tk,rfl,q⟩
end
theorem at0 {α:Type} {x:α} {l:List α}:fQ (x::l) 0=some x:=bE (j:=0) rfl
theorem at1 {α:Type} {x y:α} {l:List α}:fQ (x::y::l) 1=some y:=bE (j:=1) rfl
theorem at2 {α:Type} {x y z:α} {l:List α}:fQ (x::y::z::l) 2=some z:=bE (j:=2) rfl
noncomputable def Pr (a b:Int):List V:=[.int a,.int b]
theorem Bo {K:PySem.W.Frag}:PySem.W.kitOne K (.type "int") (.type "int")=some true:=by unfold PySem.W.kitOne;rw[if_pos (by ac_rfl)]
theorem HQ {K:PySem.W.Frag}:PySem.W.kitOne K (.type "tuple") (.type "tuple")=some true:=by unfold PySem.W.kitOne;rw[if_pos (by ac_rfl)]
theorem o4 {K:PySem.W.Frag}:PySem.W.kitOne K (.type "str") (.type "str")=some true:=by unfold PySem.W.kitOne;rw[if_pos (by ac_rfl)]
theorem HR {K:PySem.W.Frag}:PySem.W.kitOne K (.type "list") (.type "list")=some true:=by unfold PySem.W.kitOne;rw[if_pos (by ac_rfl)]
theorem eF {K:PySem.W.Frag} {t c:String} {b:Bool} (h1:(Value.type t==Value.type c)=false:=by ac_rfl) (h2:PySem.W.kitMeta c=true:=by ac_rfl) (h3:(PySem.fastBuiltinMro t).map (·.contains (Value.type c))=some b:=by ac_rfl):
  PySem.W.kitOne K (.type t) (.type c)=some b:=by
 unfold PySem.W.kitOne PySem.W.kitCls PySem.W.subIn;rw[if_neg (by rw[h1];decide)];dsimp only;rw[if_pos h2];exact h3
theorem HS {K:PySem.W.Frag}:PySem.W.kitOne K (.type "int") (.type "bool")=some false:=eF
end L2
namespace Nm
noncomputable def g (a b:Int):Int:=(Int.gcd a b:Nat)
theorem K3 (a b:Int):0<=g a b:=Int.natCast_nonneg _
theorem Bp {a b:Int} (h:b≠0):0<g a b:=by
 have:=Int.gcd_pos_of_ne_zero_right a h;unfold g;omega
theorem sI (a b:Int):g a b∣a:=Int.gcd_dvd_left ..
theorem g7 (a b:Int):g a b∣b:=Int.gcd_dvd_right ..
theorem sJ (a b:Int):g a b=g b a:=by unfold g;rw[Int.gcd_comm]
theorem OV {a b:Int} (h:0<b):g a b<=b:=Int.le_of_dvd h (g7 a b)
theorem FT (a b:Int):g (a.natAbs:Int) b=g a b:=by
 unfold g Int.gcd;rw[Int.natAbs_natCast]
theorem yg (a b:Int):g a (b.natAbs:Int)=g a b:=by
 rw[sJ,FT,sJ]
theorem Bq (a b:Int):g (-a) b=g a b:=by
 unfold g Int.gcd;rw[Int.natAbs_neg]
theorem HU {a b:Int} (ha:0<=a) (_hb:0<b):g b (a % b)=g a b:=by
 unfold g Int.gcd;rw[Int.natAbs_emod_of_nonneg ha,Nat.gcd_comm b.natAbs,<-Nat.gcd_rec,Nat.gcd_comm]
theorem HV {a:Int} (ha:0<=a):g a 0=a:=by
 unfold g;rw[Int.gcd_zero_right];omega
theorem Br {a b:Int} (h:b≠0):g a b<=(b.natAbs:Int):=by
 rw[<-yg];exact OV (by omega)
theorem Eb {a b:Int} (h:b≠0):g (a / g a b) (b / g a b)=1:=by
 have p:0<Int.gcd a b:=Int.gcd_pos_of_ne_zero_right a h;unfold g;rw[Int.gcd_ediv_gcd_ediv_gcd p];rfl
theorem Ec {a b:Int} (h:0<b):0<b / g a b:=Int.ediv_pos_of_pos_of_dvd h (K3 a b) (g7 a b)
theorem Aa (a b:Int):(a / g a b)*b=a* (b / g a b):=by
 rw[<-Int.mul_ediv_assoc _ (g7 a b),Int.mul_comm a b,Int.mul_ediv_assoc _ (sI a b),Int.mul_comm]
theorem yh {q a b:Int} (h:q∣a*b) (c:Int.gcd a q=1):q∣b:=by
 have h1:=(Int.dvd_gcd_mul_iff_dvd_mul (k:=q) (n:=a) (m:=b)).mpr h;rw[Int.gcd_comm,c] at h1
 simpa using h1
theorem Ed {p q p' q':Int} (h:0<q) (h':0<q') (e:g p q=1) (e':g p' q'=1) (c:p*q'=p'*q):p=p'/\q=q':=by
 have c1:Int.gcd p q=1:=by unfold g at e;omega
 have c2:Int.gcd p' q'=1:=by unfold g at e';omega
 have d1:q∣q':=by
  have:q∣p*q':=⟨p',by rw[c,Int.mul_comm]⟩
  exact yh this c1
 have d2:q'∣q:=by
  have:q'∣p'*q:=⟨p,by rw[<-c,Int.mul_comm]⟩
  exact yh this c2
 have eq:q=q':=by
  have:=Int.le_of_dvd h' d1;have:=Int.le_of_dvd h d2;omega
 subst eq;exact⟨Int.eq_of_mul_eq_mul_right (by omega) c,rfl⟩
theorem back {a b c d p q x y:Int} (hq:0<q) (hd:0<d) (e:p* (b*d)=(a*d - c*b)*q) (f:x* (q*d)=(p*d+c*q)*y):x*b=a*y:=by
 have h:(x*b)* (q*d)=(a*y)* (q*d):=by grind
 exact Int.eq_of_mul_eq_mul_right (by have:=Int.mul_pos hq hd;omega) h
end Nm
namespace L2
open PySem PySem.Spec PyProof.Rows PySem.W
noncomputable def ql (h:Heap) (e:Addr):Prop:=∃o vs,h.get? e=some o/\o.data=.fields vs/\vs[2]?=some .none
section
variable {M : Model} {A : Around} {E : Value -> Shared -> Prop} {s : Shared} {base : Heap} {env : Env} {outer : List Env} {L e : Addr} {a0 : Value} {Q : Unit -> Shared -> Prop} {p : Prop}
theorem u3 {oe:Obj} {vs:Array Value} {head:Value} {hn:Bool} (Ab:A.frames=some (env::outer)) (hl:s.heap.FunFrames base (env::outer)) (hf:env.frame=some L) (he:s.heap.get? e=some oe)
  (kb:base.StaysIn s.heap) (en:base.get? e=none) (hd:oe.data=.fields vs) (z:1<vs.size) (h0:vs[0]?=some a0) (h2:p->vs[2]?=some .none)
  (h:∀h',Heap.HeldW base (env::outer) e oe.cls a0 L h'->s.heap.UpToSlots h'->(p->ql h' e)->Q () {s with heap:=h'}):
  wpAny M A (do
   let a <-frameOf env;let pl <-entryPlaceOf L hn;let b <-EntryCells.newEntry head a .none (rawInt L) .none pl
   setField (.ref e) 1 b) Q E s:=by
 have ef:e∉(env::outer).filterMap (·.frame):=λm=>by
  obtain⟨_,o,ho,nf⟩:=hl.mem m;rw[he] at ho;cases ho;exact nf vs hd
 refine wpAny_bind (wpAny_frameOf_fun Ab hl hf λh1 HW=>wpAny_bind (wpAny_entryPlaceOf λpl hpl=>?_));unfold EntryCells.newEntry newFields;refine wpAny_bind (wpAny_newObj_type ?_ (hpl.sizeOk5 _ _ _ _ _));have e1:h1.get? e=some oe:=(HW.2.1 e ef).trans he;generalize hT:([head,.ref L,.none,rawInt L,.none]++ (if pl.isEmpty then List.replicate 6 Value.none else pl)).toArray=ts;have t3:ts[3]?=some (rawInt L):=by rw[<-hT];first | (simp;done) | (rcases hpl with rfl | ⟨_,_,_,_,_,_,_,rfl⟩ <;>simp)
 have e2:=Heap.get?_push_of_some (h:=h1) {cls:=.type "traceback",dict:=none,data:=.fields ts} e1;have ne:h1.objs.size≠e:=Nat.ne_of_gt (Heap.lt_size e1);have d3:=Obj.data_mapFields hd (·.setIfInBounds 1 (Value.ref h1.objs.size));have e3:=Heap.get?_update_self (Obj.mapFields (·.setIfInBounds 1 (Value.ref h1.objs.size))) e2 (Obj.isFreed_of_fields d3);have kp:∀b o,b≠e->h1.get? b=some o->((h1.push {cls:=.type "traceback",dict:=none,data:=.fields ts}).update e (Obj.mapFields (·.setIfInBounds 1 (Value.ref h1.objs.size)))).get? b=some o:=λb o be hb=>by
  rw[Heap.get?_update_other _ _ (Ne.symm be)];exact Heap.get?_push_of_some _ hb
 have nr:∀b o,s.heap.get? b=some o->(∀vs,o.data≠.fields vs)->b≠e:=λb o hb nf q=>by
  rw[q,he] at hb;cases hb;exact nf vs hd
 refine wpAny_setField e2 hd z (h _ ?_ ?_ ?_)
 ·have k1:base.StaysIn h1:=λb o hb=>(HW.2.1 b λm=>by rw[(hl.mem m).1] at hb;cases hb).trans (kb b o hb);refine⟨λb o hb=>kp b o (λq=>by rw[q,en] at hb;cases hb) (k1 b o hb),en,hl.of_keeps λb o hb nf=>?_,_,_,h1.objs.size,{cls:=.type "traceback",dict:=none,data:=.fields ts},ts,e3,⟨Obj.cls_mapFields _ _,?_⟩,d3,by simp [z],k1.fresh,ne,?_,rfl,t3⟩
  ·obtain⟨sl,hs⟩:=HW.2.2 b o hb;exact⟨_,kp b _ (nr b o hb nf) hs,rfl⟩
  ·rw[Array.getElem?_setIfInBounds_ne (by decide)];exact h0
  ·rw[Heap.get?_update_other _ _ (Ne.symm ne)];exact Heap.get?_push_size h1 rfl
 ·intro b o hb nf;obtain⟨sl,hs⟩:=HW.2.2 b o hb;exact⟨sl,kp b _ (nr b o hb nf) hs⟩
 ·intro hp;refine⟨_,_,e3,d3,?_⟩;rw[Array.getElem?_setIfInBounds_ne (by decide)];exact h2 hp
theorem wX {oe:Obj} {vs:Array Value} (Ab:A.frames=some (env::outer)) (hl:s.heap.FunFrames base (env::outer)) (hf:env.frame=some L) (he:s.heap.get? e=some oe)
  (kb:base.StaysIn s.heap) (en:base.get? e=none) (hd:oe.data=.fields vs) (h1:vs[1]?=some .none) (h0:vs[0]?=some a0) (h2:p->vs[2]?=some .none)
  (h:∀h',Heap.HeldW base (env::outer) e oe.cls a0 L h'->s.heap.UpToSlots h'->(p->ql h' e)->Q () {s with heap:=h'}):wpAny M A (noteFrame (.ref e) env) Q E s:=by
 unfold noteFrame;simp only[hf];refine wpAny_bind (wpAny_field he hd h1 ?_);rw[if_neg (by decide)];exact u3 Ab hl hf he kb en hd (Array.getElem?_eq_some_iff.mp h1).1 h0 h2 h
theorem Ee {cls:Value} (Ab:A.frames=some (env::outer)) (hf:env.frame=some L) (fl:Heap.FlyingW base (env::outer) e cls a0 s.heap) (nc:p->ql s.heap e)
  (h:∀h',Heap.HeldW base (env::outer) e cls a0 L h'->s.heap.UpToSlots h'->(p->ql h' e)->Q () {s with heap:=h'}):wpAny M A (noteFrame (.ref e) env) Q E s:=by
 obtain⟨kb,en,hl,oe,vs,T,oT,ts,he,⟨rfl,h0⟩,hd,h1,nT,Te,gT,dT,h3⟩:=fl;have h2:p->vs[2]?=some .none:=λhp=>by
  obtain⟨o,ws,q,d,r⟩:=nc hp;rw[he] at q;cases q;rw[hd] at d;cases d;exact r
 unfold noteFrame;simp only[hf];refine wpAny_bind (wpAny_field he hd h1 ?_);rw[if_pos (by simp)];refine wpAny_bind (wpAny_field gT dT h3 ?_);rw[if_neg (by simp [rawInt])];refine wpAny_bind (wpAny_setField gT dT (Array.getElem?_eq_some_iff.mp h3).1 ?_);have ot:∀b,b≠T->(s.heap.update T (Obj.mapFields (·.setIfInBounds 3 Value.none))).get? b=s.heap.get? b:=λb hb=>Heap.get?_update_other _ _ (Ne.symm hb);have nr:∀b o,s.heap.get? b=some o->(∀vs,o.data≠.fields vs)->b≠T:=λb o hb nf q=>by
  rw[q,gT] at hb;cases hb;exact nf ts dT
 exact u3 Ab (hl.of_keeps λb o hb nf=>⟨o,(ot b (nr b o hb nf)).trans hb,rfl⟩) hf ((ot e (Ne.symm Te)).trans he) (λb o hb=>(ot b λq=>by rw[q,nT] at hb;cases hb).trans (kb b o hb)) en hd (Array.getElem?_eq_some_iff.mp h1).1 h0 h2
  λh' x1 x2 x3=>h h' x1 (λb o hb nf=>x2 b o ((ot b (nr b o hb nf)).trans hb) nf) x3
theorem yi {cls fl:Value} {l:List Env} (kb:base.StaysIn s.heap) (en:base.get? e=none) (hl:s.heap.FunFrames base l) (ht:s.heap.TracedAtW base e cls a0 fl) (nc:p->ql s.heap e)
  (h:∀h',Heap.FlyingW base l e cls a0 h'->s.heap.UpToSlots h'->(p->ql h' e)->Q () {s with heap:=h'}):wpAny M A (setFlight (.ref e) none) Q E s:=by
 obtain⟨oe,vs,T,oT,ts,he,hc,hd,h1,nT,Te,gT,dT,h3⟩:=ht;have z3:3<ts.size:=(Array.getElem?_eq_some_iff.mp h3).1;have ot:∀b,b≠T->(s.heap.update T (Obj.mapFields (·.setIfInBounds 3 ((none:Option Addr).elim Value.none λf=>rawInt f)))).get? b=s.heap.get? b:=λb hb=>Heap.get?_update_other _ _ (Ne.symm hb);have nr:∀b o,s.heap.get? b=some o->(∀vs,o.data≠.fields vs)->b≠T:=λb o hb nf q=>by
  rw[q,gT] at hb;cases hb;exact nf ts dT
 unfold setFlight;refine wpAny_bind (wpAny_field he hd h1 ?_);rw[if_pos (by simp)];refine wpAny_setField gT dT z3 (h _ ⟨λb o hb=>(ot b λq=>by rw[q,nT] at hb;cases hb).trans (kb b o hb),en,hl.of_keeps λb o hb nf=>⟨o,(ot b (nr b o hb nf)).trans hb,rfl⟩,
  oe,vs,T,_,_,(ot e (Ne.symm Te)).trans he,hc,hd,h1,nT,Te,Heap.get?_update_self _ gT (Obj.isFreed_of_fields (Obj.data_mapFields dT _)),Obj.data_mapFields dT _,by simp [z3]⟩ (λb o hb nf=>⟨o.slots,(ot b (nr b o hb nf)).trans hb⟩) λhp=>?_)
 obtain⟨o,ws,q,d,r⟩:=nc hp;exact⟨o,ws,(ot e (Ne.symm Te)).trans q,d,r⟩
theorem Bs {cls:Value} (Ab:A.frames=some (env::outer)) (hf:env.frame=some L) (fl:Heap.FlyingW base (env::outer) e cls a0 s.heap) (nc:p->ql s.heap e)
  (h:∀h',Heap.FlyingW base outer e cls a0 h'->s.heap.UpToSlots h'->(p->ql h' e)->Q () {s with heap:=h'}):wpAny M A (leaving env (.ref e)) Q E s:=by
 unfold leaving;refine wpAny_bind (Ee Ab hf fl nc λh' x1 x2 x3=>?_);exact yi x1.1 x1.2.1 x1.2.2.1 x1.2.2.2 x3 λh2 y1 y2 y3=>by
  obtain⟨k1,k2,⟨_,_,k3⟩,k4⟩:=y1;exact h h2 ⟨k1,k2,k3,k4⟩ (x2.trans y2) y3
theorem u4 {h0:Heap} {oe:Obj} {vs:Array Value} (Ab:A.frames=some (env::outer)) (hf:env.frame=some L) (kb:base.StaysIn h0) (hl:h0.FunFrames base (env::outer)) (kp:∀b o,h0.get? b=some o->s.heap.get? b=some o) (nw:h0.get? e=none)
  (he:s.heap.get? e=some oe) (hd:oe.data=.fields vs) (h1:vs[1]?=some .none) (z0:vs[0]?=some a0) (h2:p->vs[2]?=some .none)
  (h:∀h',Heap.FlyingW base outer e oe.cls a0 h'->s.heap.UpToSlots h'->(p->ql h' e)->Q () {s with heap:=h'}):wpAny M A (leaving env (.ref e)) Q E s:=by
 have en:base.get? e=none:=by
  cases q:base.get? e with
  | none=>rfl
  | some o=>
   have:=kb e o q;rw[nw] at this;cases this
 unfold leaving;refine wpAny_bind (wX Ab (hl.of_keeps λb o hb _=>⟨o,kp b o hb,rfl⟩) hf he (λb o hb=>kp b o (kb b o hb)) en hd h1 z0 h2 λh' x1 x2 x3=>?_);exact yi x1.1 x1.2.1 x1.2.2.1 x1.2.2.2 x3 λh2 y1 y2 y3=>by
  obtain⟨k1,k2,⟨_,_,k3⟩,k4⟩:=y1;exact h h2 ⟨k1,k2,k3,k4⟩ (x2.trans y2) y3
end
open PySem PySem.Spec PyProof.Rows PySem.W
theorem cJ.get {P:Program} {w:World} {H:Hp} {h:Heap} {a:Addr}:∀{o:HO},cJ P w H h a o->∃ob,h.get? a=some ob
 | .lst _,x=>let ⟨_,_,_,_,e⟩:=x;⟨_,e⟩
 | .tup _,x=>let ⟨_,_,_,o,e,_⟩:=x;⟨o,e⟩
 | .dK _,x=>let ⟨_,_,_,_,o,_,_,e,_⟩:=x;⟨o,e⟩
 | .dT _,x=>let ⟨_,_,_,_,o,_,_,e,_⟩:=x;⟨o,e⟩
 | .set _ _,x=>by
  obtain⟨o,es,ep,t,e,_⟩:=x;exact⟨o,e⟩
 | .ins _ _ _,x=>let ⟨_,_,_,e,_⟩:=x;⟨_,e⟩
 | .own _,x=>x
 | .xd _,x=>by
  obtain⟨mA,⟨o,es,ep,e,_⟩,_⟩:=x;exact⟨o,e⟩
 | .NH _ _,x=>let ⟨_,_,_,e⟩:=x;⟨_,e⟩
 | .uE _ _,x=>⟨_,x.1⟩
 | .FD _,⟨_,x,_⟩=>⟨_,x⟩
 | .met _ _,x=>⟨_,x⟩
 | .ext _,x=>x.2.1
theorem gW.OW {P:Program} {w:World} {H:Hp} {h h' B:Heap} (ok:gW P w H h) (hB:∀b u o,H b=some u->h.get? b=some o->B.get? b=some o) (st:B.StaysIn h'):gW P w H h':=λa o e=>
 (ok a o e).oJ (λb u hb q=>st b u (by
  rcases hb with rfl | hb
  ·exact hB _ _ _ e q
  ·exact hB _ _ _ hb q)) (λ_ r=>r) λ_ _ r=>r
structure FV (P:Program) (w:World) (l:List Env) (H:Hp) (s:Shared) (H':Hp) (ad:Addr) (cls:Value) (s':Shared):Prop where
 os:s'.os=s.os
 bare:AllBare s'.gens
 un:Un (fO l) [] H H' s.heap s'.heap
 cj:gW P w H' s'.heap
 fl:∃B a0,Heap.FlyingW B l ad cls a0 s'.heap/\(∀b o,s.heap.get? b=some o->H b=none->b∉fO l->B.get? b=some o)/\(∀b o,s.heap.get? b=some o->b∉fO l->∃o',B.get? b=some o')/\
  (∀b u o,H' b=some u->s'.heap.get? b=some o->B.get? b=some o)
noncomputable def cL (P:Program) (w:World):kC:=λl H s E e s'=>∃ad cls c H',e=.ref ad/\(FV P w l H s H' ad cls s'/\(c=none->ql s'.heap ad))/\E cls c H'
theorem yj (P:Program) (w:World):sH (cL P w):=λ_ _ _ _ _ ⟨_,_,_,_,_,_,h⟩=>h
section
variable {P : Program} {w : World} {K : PySem.W.Frag} {mg : Str -> Option Value} {base : Heap} {N : List Str} {qual : Str} {scope : Scope} {f : Addr} {cf : Value} {A : Around} {outer : List Env} {s0 : Shared} {H0 : Hp} {E : XK}
theorem Bu {pins:List (Addr×Obj)} {σ:St} {H:Hp} {s:Shared} {h':Heap} {ad:Addr} {cls:Value} {vs:List Value}
  (I:Inv (iI (cL P w) P w K mg base N qual scope f cf A outer s0 H0 E) pins σ H s) (mx:Heap.MadeExcOf s.heap h' ad cls vs) (e:E cls none H):
  (iI (cL P w) P w K mg base N qual scope f cf A outer s0 H0 E).xe (.ref ad) {s with heap:=h'}:=by
 let env:Env:=envOfC qual scope s0.heap.objs.size f cf;have HX:∀b o,s0.heap.get? b=some o->b∉fO outer->b∉fO (env::outer):=λb o q hb z=>by
  rcases List.mem_cons.mp (show b∈s0.heap.objs.size::fO outer from z) with z | z
  ·rw[z] at q;exact absurd (Heap.lt_size q) (aba _)
  ·exact hb z
 have NR:∀b,b∈fO outer->b∈fO (env::outer):=λb hb=>List.mem_cons.mpr (.inr hb);have ST:s.heap.FunFrames base (env::outer):=I.stack;have SF:∀b∈fO (env::outer),H b=none:=I.rY;have BS:Un (fO outer) [] H0 H s0.heap s.heap:=I.base;show wpAny (model P w) (A.deeper env) (leaving env (.ref ad)) (λ_ sk=>cL P w outer H0 s0 E (.ref ad) sk) (λe' sk=>cL P w outer H0 s0 E e' sk) {s with heap:=h'};obtain⟨tt,he0,_,_⟩:=mx.there;refine u4 (p:=(none:Option Addr)=none) (base:=hideAll s.heap (fO (env::outer))) (h0:=s.heap) (L:=s0.heap.objs.size) I.ok.frames rfl (λb o q=>of_hideAll _ q)
  (funFrames_hide ST λen he a ha=>List.mem_filterMap.mpr ⟨en,he,ha⟩) mx.keeps mx.new he0 rfl rfl rfl (λ_=>rfl) λh2 x1 x4 xc=>?_
 have x4:Heap.UpToSlots h' h2:=x4;have fr:∀b∈fO (env::outer),∀o,s.heap.get? b=some o->∃sl,h2.get? b=some {o with slots:=sl}:=λb hb o q=>by
  obtain⟨_,o1,q1,nf⟩:=ST.mem hb;rw[q] at q1;cases q1;exact x4 b o (mx.keeps b o q) nf
 refine⟨ad,cls,none,H,rfl,⟨⟨I.os,I.bare,⟨λb o q n hb hx=>?_,λb o q n hb hx=>?_,BS.free,λb o q hx=>?_,BS.iB,BS.ir,BS.jj⟩,?_,⟨_,_,x1,λb o q n hb=>?_,λb o q hb=>?_,λb u o e1 q=>?_⟩⟩,xc⟩,e⟩
 ·exact x1.1 b o (hideAll_get _ (BS.keep b o q n hb hx) (HX b o q hb))
 ·obtain⟨sl,q1⟩:=BS.slot b o q n hb hx;obtain⟨zP,q2⟩:=fr b (NR b hb) _ q1;exact⟨zP,q2⟩
 ·obtain⟨o1,q1⟩:=BS.there b o q hx
  by_cases hb:b∈fO (env::outer)
  ·obtain⟨zP,q2⟩:=fr b hb _ q1;exact⟨_,q2⟩
  ·exact⟨o1,x1.1 b o1 (hideAll_get _ q1 hb)⟩
 ·exact gW.OW I.cj (λb u o e1 q=>hideAll_get _ q λz=>by
   have:=SF b z;rw[e1] at this;cases this) x1.1
 ·exact hideAll_get _ (BS.keep b o q n hb (by simp)) (HX b o q hb)
 ·obtain⟨o1,q1⟩:=BS.there b o q (by simp);exact⟨o1,hideAll_get _ q1 (HX b o q hb)⟩
 ·obtain⟨o1,q1⟩:=(I.cj b u e1).get;have q2:=hideAll_get (fO (env::outer)) q1 λz=>by
   have:=SF b z;rw[e1] at this;cases this
  have q3:=x1.1 b o1 q2;rw[q] at q3;cases q3;exact q2
theorem Ef:oO (cL P w) (iI (cL P w) P w K mg base N qual scope f cf A outer s0 H0 E) E:=by
 intro pins σ H s e s' I c;let env:Env:=envOfC qual scope s0.heap.objs.size f cf;obtain⟨ad,cls,cc,H',rfl,⟨F,nc⟩,he⟩:=c;have HX:∀b o,s0.heap.get? b=some o->b∉fO outer->b∉fO (env::outer):=λb o q hb z=>by
  rcases List.mem_cons.mp (show b∈s0.heap.objs.size::fO outer from z) with z | z
  ·rw[z] at q;exact absurd (Heap.lt_size q) (aba _)
  ·exact hb z
 have NR:∀b,b∈fO outer->b∈fO (env::outer):=λb hb=>List.mem_cons.mpr (.inr hb);have ST:s.heap.FunFrames base (env::outer):=I.stack;have BS:Un (fO outer) [] H0 H s0.heap s.heap:=I.base;have FU:Un (fO (env::outer)) [] H H' s.heap s'.heap:=F.un;obtain⟨B,a0,fl,c0,c2,c1⟩:=F.fl;have fl:Heap.FlyingW B (env::outer) ad cls a0 s'.heap:=fl;have c0:∀b o,s.heap.get? b=some o->H b=none->b∉fO (env::outer)->B.get? b=some o:=c0;have c2:∀b o,s.heap.get? b=some o->b∉fO (env::outer)->∃o',B.get? b=some o':=c2;show wpAny (model P w) (A.deeper env) (leaving env (.ref ad)) (λ_ sk=>cL P w outer H0 s0 E (.ref ad) sk) (λe' sk=>cL P w outer H0 s0 E e' sk) s';refine Bs (L:=s0.heap.objs.size) I.ok.frames rfl fl nc λh2 x1 x2 xc=>?_;have fr:∀b∈fO (env::outer),∀o,s'.heap.get? b=some o->∃sl,h2.get? b=some {o with slots:=sl}:=λb hb o q=>by
  obtain⟨_,o1,q1,nf⟩:=fl.2.2.1.mem hb;rw[q] at q1;cases q1;exact x2 b o q nf
 refine⟨ad,cls,cc,H',rfl,⟨⟨F.os.trans I.os,F.bare,⟨λb o q n hb hx=>?_,λb o q n hb hx=>?_,λb o q n hx=>?_,λb o q hx=>?_,λb xs q=>FU.iB b xs (BS.iB b xs q),λb o u q=>FU.ir b o u (BS.ir b o u q),λb ps q=>?_⟩,F.cj.OW c1 x1.1,
  ⟨B,a0,x1,λb o q n hb=>?_,λb o q hb=>?_,λb u o e1 q=>?_⟩⟩,xc⟩,he⟩
 ·exact x1.1 b o (c0 b o (BS.keep b o q n hb hx) (BS.free b o q n hx) (HX b o q hb))
 ·obtain⟨sl,q1⟩:=BS.slot b o q n hb hx;obtain⟨HW,q2⟩:=FU.slot b _ q1 (BS.free b o q n hx) (NR b hb) hx;obtain⟨zP,q3⟩:=fr b (NR b hb) _ q2;exact⟨zP,q3⟩
 ·obtain⟨o1,q1⟩:=BS.there b o q hx;exact FU.free b o1 q1 (BS.free b o q n hx) hx
 ·obtain⟨o1,q1⟩:=BS.there b o q hx
  by_cases hb:b∈fO (env::outer)
  ·obtain⟨o2,q2⟩:=FU.there b o1 q1 hx;obtain⟨zP,q3⟩:=fr b hb _ q2;exact⟨_,q3⟩
  ·obtain⟨o2,q2⟩:=c2 b o1 q1 hb;exact⟨o2,x1.1 b o2 q2⟩
 ·obtain⟨m1,e1⟩:=BS.jj b ps q;obtain⟨m2,e2⟩:=FU.jj b _ e1;exact⟨m1++m2,by rw[e2,Array.append_assoc]⟩
 ·exact c0 b o (BS.keep b o q n hb (by simp)) (BS.free b o q n (by simp)) (HX b o q hb)
 ·obtain⟨o1,q1⟩:=BS.there b o q (by simp);exact c2 b o1 q1 (HX b o q hb)
 ·obtain⟨o1,q1⟩:=(F.cj b u e1).get;have q2:=c1 b u o1 e1 q1;have q3:=x1.1 b o1 q2;rw[q] at q3;cases q3;exact q2
end
open PySem PySem.Spec PyProof.Rows PySem.W
set_option tactic.hygienic true in
theorem Eg {K:Frag} {h:Heap} {C:Addr} {bmB:List Value} {newId:String} (X:K.In h) (q:excIn K C bmB newId=true):
  ∃tl N nm qn bs hdct sn sub ab col dd k0 k1 k2 k3 k5 mN,h.get? C=some (excClassObj nm qn C N bs tl hdct sn sub ab col dd k0 k1 k2 k3 k5 newId)/\h.Ns N mN/\mN "__init__"=none/\OwnTail h bmB tl:=by
 unfold excIn at q
 split at q
 ·rename_i dd cd sl ho
  split at q
  ·rename_i C' bm k0 k1 k2 k3 n k5 hm hs
   simp only[aa6,beq_iff_eq,Bool.not_eq_true'] at q;obtain⟨⟨⟨⟨⟨rfl,rfl⟩,K4⟩,ht⟩,cj⟩,NS⟩:=q;obtain⟨nm,bs,mro,ns,qn,hd,sn,sub,ab,col,del⟩:=cd;dsimp only at hm K4 cj NS;subst hm K4;have hsl:sl=#[k0,k1,k2,k3,some (.builtin n),k5]:=by
    obtain⟨l⟩:=sl;simp only at hs;rw[hs]
   subst hsl;exact⟨bm,ns,nm,qn,bs,hd,sn,sub,ab,col,dd,k0,k1,k2,k3,k5,_,X _ _ ho,.of_isNs (isNs_of_in X cj),nsMap_none_of_in X cj NS,tail_of_in X ht⟩
  ·cases q
 ·cases q
abbrev wY:List Value:=[.type "ValueError",.type "Exception",.type "BaseException",.type "object"]
abbrev o5:String:="ValueError.__new__"
noncomputable def tRaise (C:Addr) (E:XK) (t:TA):TS:=λ_ σ H=>t σ H λvs H1=>vs.length<=sizeLine/\E (.ref C) none H1
section
variable {P : Program} {w : World} {K : PySem.W.Frag} {mg : Str -> Option Value} {base : Heap} {N : List Str} {qual : Str} {scope : Scope} {f : Addr} {cf : Value} {A : Around} {outer : List Env} {s0 : Shared} {H0 : Hp} {E : XK}
theorem fu {x:Str} {C:Addr} {np c9 pos:Pos} {e:Expr} {es:List Expr} {t:TA} (hg:Gl (iI (cL P w) P w K mg base N qual scope f cf A outer s0 H0 E) x) (hm:mg x=some (.ref C)) (q:excIn K C wY o5=true)
  (hh:A.handled=none) (ha:PA (iI (cL P w) P w K mg base N qual scope f cf A outer s0 H0 E) (e::es) t) (uQ:(x==("__debug__":Str))=false:=by decide)
  (he:starEach (e::es) (iI (cL P w) P w K mg base N qual scope f cf A outer s0 H0 E).env=(false,eval e (iI (cL P w) P w K mg base N qual scope f cf A outer s0 H0 E).env)::starEach es (iI (cL P w) P w K mg base N qual scope f cf A outer s0 H0 E).env:=by rfl)
  (hpl:(backTo c9 (starEach es (iI (cL P w) P w K mg base N qual scope f cf A outer s0 H0 E).env)).any (·.1)=false:=by rfl):
  PS (iI (cL P w) P w K mg base N qual scope f cf A outer s0 H0 E) (.Raise (some (.Call (.Name x np) (e::es) [] c9)) none pos) (tRaise C E t):=by
 intro pins s σ H D I h;have FB:=PySem.F.excBase_ValueError;obtain⟨tl,Nn,nm,qn,bs,hdct,sn,sub,ab,col,dd,k0,k1,k2,k3,k5,mN,hC,hN,NS,T⟩:=Eg I.ok.mod.JX q;refine wpAny_Raise_call_subT (C:=C) (nm:=nm) (q:=qn) (N:=Nn) (bs:=bs) (bm:=tl) (hdct:=hdct) (sn:=sn) (sub:=sub) (ab:=ab) (col:=col) (dd:=dd) (k0:=k0) (k1:=k1) (k2:=k2) (k3:=k3) (k5:=k5)
  FB (mN:=mN) (T.hasType FB.hasBase) hh (by rw[he];show(false || (backTo c9 (starEach es _)).any (·.1))=false;rw[hpl];rfl) NS (kA I hg hm ⟨rfl,?_⟩ uQ)
 rw[he];have ha':=ha c9 pins s σ H _ I h;rw[he] at ha';refine Calls.evalArgs_plain (cW ha' λus s1 ⟨vs,H1,I1,r,z,k⟩=>⟨rfl,by rw[<-r.length];exact z,I1.bk _ _ hC,hN.keeps I1.bk,T.keeps I1.bk,λh' ad mx=>?_⟩);exact Bu I1 mx k
end
section
variable {X : Cx} {pins : List (Addr × Obj)} {σ : St} {H H' : Hp} {s s' : Shared}
abbrev Cx.mark (X:Cx) (ad:Addr):Cx:={X with A:=X.A.mark (some (.ref ad)),calm:=false,xe:=λ_ _=>False}
theorem Inv.mark (I:Inv X pins σ H s) (ad:Addr):Inv (X.mark ad) pins σ H s:=
 ⟨⟨I.ok.mod,I.ok.kind,I.ok.glob,I.ok.blt,I.ok.above,I.ok.inj,I.ok.has,I.ok.Hl,λz=>(aaS z).elim,I.ok.frames,I.ok.JY,I.ok.NJ,I.ok.bs,I.ok.Dx,I.ok.wG,I.ok.zB,I.ok.mw,I.ok.FE⟩,
  I.os,I.bare,I.base,I.loc,I.cell,I.free,I.fj,I.pin,I.cj,I.len⟩
theorem Inv.unmark {ad:Addr} (ok:X.Ok) (I:Inv (X.mark ad) pins σ H s):Inv X pins σ H s:=⟨ok,I.os,I.bare,I.base,I.loc,I.cell,I.free,I.fj,I.pin,I.cj,I.len⟩
theorem name_goes {M:Model} {A:Around} {E:Value->Shared->Prop} {i:Nat} {n:Str} {pos:Pos} {Q:Unit->Shared->Prop} (I:Inv X pins σ H s) (hN:X.N.Nodup) (hi:X.N[i]?=some n) (hl:X.env.scope.names.lookup n=some .local)
  (h:∀s',Inv X pins (σ.set i none) H s'->Q () s'):wpAny M A (do bindName X.env n .none;unbindBehindTheSuite X.env n pos) Q E s:=by
 have KC:i<σ.length:=by rw[I.len];exact(List.getElem?_eq_some_iff.mp hi).1
 refine wpAny_bind (wpAny_bindName (iC (v:=.c6) I hN hi (.inl hl) rfl (λs1 I1=>?_) (.inr hl)));obtain⟨m,hn,J2⟩:=id I1.loc;have hmn:∃u,m n=some u:=by
  obtain⟨u,_,z⟩:=J2 i n .c6 hi (by rw[List.getElem?_set_self KC]) (.inl hl);rcases z with ⟨_,z⟩ | ⟨z,_⟩
  ·exact⟨u,z⟩
  ·have hk:X.env.kindOf n=some .local:=hl;rw[hk] at z;rcases z with z | z <;>cases z
 obtain⟨u0,OX⟩:=hmn;unfold unbindBehindTheSuite;refine wpAny_onRaise ?_;unfold unbindName;refine wpAny_bind (wpAny_point (wpAny_bind ?_));unfold deleteName;have hk:X.env.kindOf n=some .local:=hl;have Hm:(X.env.scope.kind==.class || (X.env.scope.kind==.module && X.env.locals !=X.env.globals))=false:=by rw[I.ok.kind];rfl
 simp only[hk,Hm];rw[if_neg (by decide)];refine wpAny_bind (wpAny_nsDel_keeps hn λh₂ v hn₂ hs₂=>?_);rw[OX];simp only[if_true,Option.isSome_some,Bool.not_true,Bool.false_eq_true,if_false];refine wpAny_pure (wpAny_point (h _ ?_));have hs:Heap.SameBut X.env.locals s1.heap h₂:=hs₂;refine⟨I1.ok,I1.os,I1.bare,⟨λb o e nn hb hx=>?_,λb o e nn hb hx=>?_,I1.base.free,λb o e hx=>?_,I1.base.iB,I1.base.ir,I1.base.jj⟩,⟨_,hn₂,λj y v' e1 e2 e3=>?_⟩,λy c e=>?_,I1.free,I1.fj,λp hp=>?_,λb ob e=>?_,?_⟩
 ·exact(hs.2 b (aaN (aaQ (Heap.lt_size e) I1.ok.above))).trans (I1.base.keep b o e nn hb hx)
 ·obtain⟨sl,e1⟩:=I1.base.slot b o e nn hb hx;exact⟨sl,(hs.2 b (aaN (aaQ (Heap.lt_size e) I1.ok.above))).trans e1⟩
 ·obtain⟨o',e1⟩:=I1.base.there b o e hx;exact⟨o',(hs.2 b (aaN (aaQ (Heap.lt_size e) I1.ok.above))).trans e1⟩
 ·by_cases hj:j=i
  ·subst hj;rw[List.getElem?_set_self KC] at e2;cases e2
  ·rw[List.getElem?_set_ne (Ne.symm hj)] at e2;obtain⟨u',r',q⟩:=J2 j y v' e1 (by rw[List.getElem?_set_ne (Ne.symm hj)];exact e2) e3;refine⟨u',r',?_⟩;rcases q with ⟨k,e⟩ | ⟨k,c,e,z⟩
   ·refine .inl ⟨k,?_⟩;have:y≠n:=λe=>hj (oK hN e1 (e▸hi));simp [this,e]
   ·exact .inr ⟨k,c,e,z.sameBut hs (I1.DO y c e)⟩
 ·obtain⟨w',z⟩:=I1.cell y c e;exact⟨w',z.sameBut hs (I1.DO y c e)⟩
 ·obtain⟨e,nn,ne,nf,d⟩:=I1.pin p hp;exact⟨(hs.2 p.1 ne).trans e,nn,ne,nf,d⟩
 ·refine(I1.cj b ob e).oJ (λc w' hc q=>(hs.2 c ?_).trans q) (λ_ q=>q) λ_ _ q=>q;rintro rfl;have fr:=I1.free;rcases hc with rfl | hc
  ·rw[fr] at e;cases e
  ·rw[fr] at hc;cases hc
 ·rw[List.length_set];exact I.len
noncomputable def OY (ad:Addr) (cls:Value):HO:=.ext λh=>∃o vs,h.get? ad=some o/\o.cls=cls/\o.data=.fields vs
theorem FV.new {P:Program} {w:World} {l:List Env} {ad:Addr} {cls:Value} (F:FV P w l H s H' ad cls s'):s.heap.get? ad=none:=by
 obtain⟨B,a0,fl,c0,c2,c1⟩:=F.fl;cases q:s.heap.get? ad with
 | none=>rfl
 | some o=>
  by_cases hb:ad∈fO l
  ·obtain⟨_,o1,q1,nf⟩:=fl.2.2.1.mem hb;obtain⟨oe,vs,he,_,hd,_⟩:=fl.first;rw[q1] at he;cases he;exact absurd hd (nf _)
  ·obtain⟨o',q'⟩:=c2 ad o q hb;rw[fl.2.1] at q';cases q'
theorem FV.tracked {P:Program} {w:World} {l:List Env} {ad:Addr} {cls:Value} (F:FV P w l H s H' ad cls s'):H' ad=none:=by
 obtain⟨B,a0,fl,c0,c2,c1⟩:=F.fl;cases q:H' ad with
 | none=>rfl
 | some u=>
  obtain⟨o,e⟩:=(F.cj ad u q).get;have:=c1 ad u o q e;rw[fl.2.1] at this;cases this
theorem FV.inv {ad:Addr} {cls:Value} (F:FV X.prog X.w X.stack H s H' ad cls s') (I:Inv X pins σ H s) {B h6:Heap} {a0:Value} (fl:Heap.FlyingW B X.stack ad cls a0 s'.heap)
  (c0:∀b o,s.heap.get? b=some o->H b=none->b∉fO X.stack->B.get? b=some o) (c2:∀b o,s.heap.get? b=some o->b∉fO X.stack->∃o',B.get? b=some o')
  (c1:∀b u o,H' b=some u->s'.heap.get? b=some o->B.get? b=some o) (st:B.StaysIn h6) (up:s'.heap.UpToSlots h6):Inv X pins σ H' {s' with heap:=h6}:=by
 have fr:∀b∈fO X.stack,∀o,s'.heap.get? b=some o->∃sl,h6.get? b=some {o with slots:=sl}:=λb hb o q=>by
  obtain⟨_,o1,q1,nf⟩:=fl.2.2.1.mem hb;rw[q] at q1;cases q1;exact up b o q nf
 refine I.FI (s':={s' with heap:=h6}) (ch:=[]) F.os ⟨λb o q n hb _=>st b o (c0 b o q n hb),λb o q n hb hx=>?_,F.un.free,λb o q hx=>?_,F.un.iB,F.un.ir,F.un.jj⟩ (F.cj.OW c1 st) F.bare (λb hb=>absurd hb (by simp))
 ·obtain⟨sl,q1⟩:=F.un.slot b o q n hb hx;obtain⟨zP,q2⟩:=fr b hb _ q1;exact⟨zP,q2⟩
 ·by_cases hb:b∈fO X.stack
  ·obtain⟨o2,q2⟩:=F.un.there b o q hx;obtain⟨zP,q3⟩:=fr b hb _ q2;exact⟨_,q3⟩
  ·obtain⟨o2,q2⟩:=c2 b o q hb;exact⟨o2,st b o2 q2⟩
theorem Inv.adopt {ad:Addr} {φ:Heap->Prop} (I:Inv X pins σ H' s') (I0:Inv X pins σ H s) (new:s.heap.get? ad=none) (hn:H' ad=none) (ho:∃o,s'.heap.get? ad=some o) (p:φ s'.heap)
  (qV:∀h1 h2:Heap,φ h1->(∀o,h1.get? ad=some o->h2.get? ad=some o)->φ h2):Inv X pins σ (upd H' ad (.ext φ)) s':=by
 have ne:∀b o,s.heap.get? b=some o->b≠ad:=λb o e z=>by rw[z,new] at e;cases e
 have tk:∀b u,H' b=some u->b≠ad:=λb u e z=>by rw[z,hn] at e;cases e
 have ne0:∀b o,b∉X.ex->X.s₀.heap.get? b=some o->b≠ad:=λb o hx e=>by
  obtain⟨o',e'⟩:=I0.base.there b o e hx;exact ne b o' e'
 refine⟨I.ok,I.os,I.bare,⟨I.base.keep,I.base.slot,λb o e n hx=>?_,I.base.there,λb xs e=>?_,λb o u e=>?_,λb ps e=>?_⟩,I.loc,I.cell,?_,λy c e=>?_,λq hq=>?_,λb u e=>?_,I.len⟩
 ·rw[aV (ne0 b o hx e)];exact I.base.free b o e n hx
 ·rw[aV (tk _ _ (I.base.iB b xs e))];exact I.base.iB b xs e
 ·rw[aV (tk _ _ (I.base.ir b o u e))];exact I.base.ir b o u e
 ·obtain⟨m,e1⟩:=I.base.jj b ps e;exact⟨m,by rw[aV (tk _ _ e1)];exact e1⟩
 ·obtain⟨m,⟨o,es,ep,hl,_⟩,_⟩:=I0.loc;rw[aV (ne _ _ hl)];exact I.free
 ·obtain⟨v,o,hc,_⟩:=I0.cell y c e;rw[aV (ne _ _ hc)];exact I.fj y c e
 ·obtain⟨e,n,r⟩:=I.pin q hq;refine⟨e,?_,r⟩;rw[aV (ne _ _ (I0.pin q hq).1)];exact n
 ·by_cases hb:b=ad
  ·subst hb;rw[aj] at e;cases e;exact⟨p,ho,qV⟩
  ·rw[aV hb] at e;exact(I.cj b u e).oJ (λ_ _ _ q=>q) (λc r=>by rw[aV (tk _ _ r)];exact r) λc xs r=>by rw[aV (tk _ _ r)];exact r
theorem Bv {ad:Addr} {cls:Value} {cx n:Str} {np o6:Pos} {b₀:Stmt} {ip:List Stmt} {i:Nat} {ts:TS} {C2:Addr} {D:Ends} (I:Inv X pins σ H s) (F:FV X.prog X.w X.stack H s H' ad cls s')
  (qV:X.stack=X.env::X.outer) (hf:X.env.frame=some X.env.locals) (hg:Gl X cx) (hm:X.mg cx=some (.ref C2)) (hx:exmOne X.K cls (.ref C2)=some true) (hN:X.N.Nodup) (hi:X.N[i]?=some n)
  (hl:X.env.scope.names.lookup n=some .local) (hs:uF (X.mark ad) (b₀::ip) ts)
  (h:ts {nx:=λσ' H2=>D.nx (σ'.set i none) H2,rt:=D.rt,bk:=λσ' H2=>D.bk (σ'.set i none) H2,ct:=λσ' H2=>D.ct (σ'.set i none) H2} (σ.set i (some (.ref ad))) (upd H' ad (OY ad cls)))
  (uQ:(cx==("__debug__":Str))=false:=by decide):
  wpAny (model X.prog X.w) X.A (noteFrame (.ref ad) X.env) (λ_ s₂=>wpAny (model X.prog X.w) X.A (setFlight (.ref ad) none)
   (λ_ s₃=>wpAny (model X.prog X.w) X.A (handleBy (.ref ad) X.env [.ExceptHandler (some (.Name cx np)) (some n) (b₀::ip) o6]) (SP X pins D) X.xe s₃) X.xe s₂) X.xe s':=by
 obtain⟨B,a0,fl,c0,c2,c1⟩:=F.fl;have fl':=fl;rw[qV] at fl';refine wpAny_looks_onW (I.ok.frames.trans (by rw[qV])) hf fl' λh4 K5 up4=>?_;refine wpAny_landsW K5 λh5 OZ up5=>?_;have U5:s'.heap.UpToSlots h5:=up4.trans up5;have I5:Inv X pins σ H' {s' with heap:=h5}:=F.inv I fl c0 c2 c1 OZ.1 U5;obtain⟨ob,hob,O0⟩:=OZ.there;refine wpAny_handleBy_cons (codeAny_handlers_test (kA (X:=X.mark ad) (I5.mark ad) hg hm ?_ uQ)) (by intro q;cases q);have LT:Looks (model X.prog X.w) h5 (typeOf (.ref ad)) cls:=by
  subst O0;exact(Looks.ld hob).andThen .now
 refine(exm_one I5.oz LT hx).here ?_;refine codeAny_handlers_suite_as ?_;refine lands_againW OZ λh6 fl6 up6=>?_;have I6:Inv X pins σ H' {s' with heap:=h6}:=F.inv I fl c0 c2 c1 fl6.1 (U5.trans up6);obtain⟨oe,vs,he,hec,hed,_⟩:=fl6.first;have I7:Inv X pins σ (upd H' ad (OY ad cls)) {s' with heap:=h6}:=I6.adopt I F.new F.tracked ⟨oe,he⟩ ⟨oe,vs,he,hec,hed⟩ λh1 h2 ⟨o,ws,e1,e2,e3⟩ k=>⟨o,ws,k o e1,e2,e3⟩
 refine iC (X:=X.mark ad) (I7.mark ad) hN hi (.inl hl) (v:=.ref ad) rfl (λs7 I8=>?_) (.inr hl);refine wpAny_mono (hs pins s7 _ _ _ I8 h) (λfw s8 hq=>?_) λ_ _ z=>z.elim;cases fw with
 | next=>
  obtain⟨σ8,H8,I9,q8⟩:=hq;exact name_goes (I9.unmark I.ok) hN hi hl λs9 Eh=>⟨_,_,Eh,q8⟩
 | brk=>
  obtain⟨σ8,H8,I9,q8⟩:=hq;exact name_goes (I9.unmark I.ok) hN hi hl λs9 Eh=>⟨_,_,Eh,q8⟩
 | cont=>
  obtain⟨σ8,H8,I9,q8⟩:=hq;exact name_goes (I9.unmark I.ok) hN hi hl λs9 Eh=>⟨_,_,Eh,q8⟩
 | ret u=>
  obtain⟨v8,σ8,H8,I9,r8,q8⟩:=hq;exact name_goes (I9.unmark I.ok) hN hi hl λs9 Eh=>⟨v8,_,_,Eh,r8,q8⟩
end
section
variable {X : Cx} {CX : kC} {k : Nat} {x : Str} {ps : List Str} {sp : Sp} {E : XK} {e : Expr} {es : List Expr} {t : TA} {p pos : Pos}
theorem yk {pins:List (Addr×Obj)} {σ:St} {H:Hp} {s:Shared} {Q:VK} {Ex:Value->Shared->Prop} (C:da X.prog X.w X.K X.mg X.base CX k x ps sp) (hr:eY k X.A) (hg:Gl X x) (ha:PA X.Hq (e::es) t) (I:Inv X pins σ H s)
  (h:t σ H λvs H1=>sp vs H1 Q E) (hx:∀H1 s1 e s',Inv X pins σ H1 s1->CX X.stack H1 s1 E e s'->Ex e s')
  (uQ:(x==("__debug__":Str))=false:=by decide) (he:starEach (e::es) X.env=(false,eval e X.env)::starEach es X.env:=by rfl) (hpl:(backTo pos (starEach es X.env)).any (·.1)=false:=by rfl):
  wpAny (model X.prog X.w) X.A (eval (.Call (.Name x p) (e::es) [] pos) X.env) (EP X pins σ Q) Ex s:=by
 obtain⟨f,fd,F,hm,hk,hb⟩:=C.ex;refine wpAny_Call_Name_kw (kA I hg hm ?_ uQ);refine PySem.W.callWith_K (h₀:=X.base) I.ok.mod.JX hk (wpAny_mono (ha pos pins s σ H _ (I.kB _) h) (λus s1 ⟨vs,H1,I1,r,q⟩=>⟨I1.fm.oz,?_⟩) λ_ _ z=>z.elim) he hpl;have I1:=I1.fm;have hl:us.length=ps.length:=by rw[<-r.length];exact F.len _ _ _ _ q
 have hb':=hb s1 us I1.oz (by rw[abg];exact hl);rw[abg] at hb';refine wpAny_call (codeAny_mono (F.run X.A X.stack s1 H1 ⟨us,[]⟩ us vs Q E hr I1.KL hb' r q) λr s' hq=>?_);cases r with
 | error e=>exact hx H1 s1 e s' I1 hq
 | ok fl=>
  cases fl with
  | ret u=>exact I1.after hq
  | next=>exact False.elim hq
  | brk=>exact False.elim hq
  | cont=>exact False.elim hq
noncomputable def K6 (K:PySem.W.Frag) (C2:Addr) (i:Nat) (ts:TS) (D:Ends) (σ:St):XK:=λcls _ H2=>exmOne K cls (.ref C2)=some true/\∀ad,H2 ad=none->
 ts {nx:=λσ' H3=>D.nx (σ'.set i none) H3,rt:=D.rt,bk:=λσ' H3=>D.bk (σ'.set i none) H3,ct:=λσ' H3=>D.ct (σ'.set i none) H3} (σ.set i (some (.ref ad))) (upd H2 ad (OY ad cls))
noncomputable def FW (K:PySem.W.Frag) (sp:Sp) (t:TA) (j:Nat) (C2:Addr) (i:Nat) (ts:TS):TS:=λD σ H=>t σ H λvs H1=>sp vs H1 (λv H2=>D.nx (σ.set j (some v)) H2) (K6 K C2 i ts D σ)
variable {cx n : Str} {np o6 sL iH : Pos} {b₀ : Stmt} {ip : List Stmt} {i : Nat} {ts : TS} {C2 : Addr}
theorem Ei {y:Str} {j:Nat} {K7:Pos} (C:da X.prog X.w X.K X.mg X.base (cL X.prog X.w) k x ps sp) (hr:eY k X.A) (hg:Gl X x) (ha:PA X.Hq (e::es) t) (qV:X.stack=X.env::X.outer) (hf:X.env.frame=some X.env.locals)
  (O1:Gl X cx) (hm:X.mg cx=some (.ref C2)) (hN:X.N.Nodup) (hj:X.N[j]?=some y) (hy:X.env.scope.names.lookup y=some .local) (hi:X.N[i]?=some n) (hl:X.env.scope.names.lookup n=some .local) (hs:∀ad,uF (X.mark ad) (b₀::ip) ts)
  (O2:swapsWith (.Call (.Name x p) (e::es) [] pos) (some (.Name y K7)) sL.line X.env=pure false:=by rfl) (uQ:(x==("__debug__":Str))=false:=by decide) (O3:(cx==("__debug__":Str))=false:=by decide)
  (he:starEach (e::es) X.env=(false,eval e X.env)::starEach es X.env:=by rfl) (hpl:(backTo pos (starEach es X.env)).any (·.1)=false:=by rfl):
  PS X (.Try [.Assign [.Name y K7] (.Call (.Name x p) (e::es) [] pos) sL] [.ExceptHandler (some (.Name cx np)) (some n) (b₀::ip) o6] [] [] iH) (FW X.K sp t j C2 i ts):=by
 intro pins s σ H D I h;refine wpAny_Try_except (wpAny_execs_cons (wpAny_Assign_Name (cW (yk C hr hg ha I h (λH1 s1 e1 s' I1 ⟨ad,cls,_,H',ee,⟨F,_⟩,hx,q⟩=>?_) uQ he hpl) λv s1 ⟨z,H1,I1,r1,q1⟩=>?_) O2))
 ·subst ee;exact Bv I1 F qV hf O1 hm hx hN hi hl (hs ad) (q ad F.tracked) O3
 ·exact iC I1 hN hj (.inl hy) r1 (λs2 I2=>wpAny_execs_nil (wpAny_execs_nil ⟨_,H1,I2,q1⟩)) (.inr hy)
end
end L2
namespace Nm
noncomputable def st (a b:Int):Int:=if b<0 then -(a / g a b) else a / g a b
noncomputable def sb (a b:Int):Int:=if b<0 then -(b / g a b) else b / g a b
theorem Bw {a d:Int} (h:0<d):a.fdiv d=a / d:=Int.fdiv_eq_ediv_of_nonneg a (by omega)
theorem Bx {a d:Int} (h:0<d) (dv:d∣a):a.fdiv (-d)= -(a / d):=by
 obtain⟨k,rfl⟩:=dv;rw[Int.mul_ediv_cancel_left _ (by omega),show d*k=(-d)* (-k) by rw[Int.neg_mul_neg]];exact Int.mul_fdiv_cancel_left _ (by omega)
set_option tactic.hygienic true in
theorem HY {a b:Int} (h:b≠0):0<sb a b:=by
 have g0:=Bp (a:=a) h;unfold sb
 split
 ·rename_i hb
  have h1:0< (-b) / g a b:=Int.ediv_pos_of_pos_of_dvd (by omega) (K3 a b) (Int.dvd_neg.mpr (g7 a b));rw[Int.neg_ediv_of_dvd (g7 a b)] at h1;exact h1
 ·exact Ec (by omega)
theorem Ej (a b:Int):g a (-b)=g a b:=by rw[sJ,Bq,sJ]
theorem HZ {a b:Int} (h:b≠0):g (st a b) (sb a b)=1:=by
 have e:=Eb (a:=a) h;unfold st sb
 split
 ·rw[Bq,Ej];exact e
 ·exact e
theorem By (a b:Int):st a b*b=a*sb a b:=by
 have e:=Aa a b;unfold st sb
 split
 ·rw[Int.neg_mul,e,Int.mul_neg]
 ·exact e
theorem Bz {a b p q:Int} (h:b≠0) (hq:0<q) (e:g p q=1) (c:p*b=a*q):st a b=p/\sb a b=q:=by
 refine Ed (HY h) hq (HZ h) e ?_;have c1:=By a b;have:(st a b*q)*b=(p*sb a b)*b:=by
  calc (st a b*q)*b=(st a b*b)*q:=by rw[Int.mul_right_comm]
   _=(a*sb a b)*q:=by rw[c1]
   _=(a*q)*sb a b:=by rw[Int.mul_right_comm]
   _=(p*b)*sb a b:=by rw[c]
   _=(p*sb a b)*b:=by rw[Int.mul_right_comm]
 exact Int.eq_of_mul_eq_mul_right h this
end Nm
namespace L2
open PySem PySem.Spec PyProof.Rows
section
variable {P : Program} {w : World} {K : PySem.W.Frag} {mg : Str -> Option Value} {base : Heap} {CX : kC}
theorem yf.NT {x qual:Str} {st:Stmt} {f:Addr} {fd:FuncData} {N ps:List Str} {k:Nat} {sp:Sp} (F:yf K x qual st f fd) (S:aS N ps (ai st)) (len:∀vs H Q E,sp vs H Q E->vs.length=ps.length)
  (uS:∀(cf:Value) (A:Around) (outer:List Env) (s:Shared) (H:Hp) (vs:List V) (Q:VK) (E:XK),eY k (A.deeper (envOfC qual (ai st) s.heap.objs.size f cf))->sp vs H Q E->
   ∃t,uF (iI CX P w K mg base N qual (ai st) f cf A outer s H E) (aQ st) t/\t {nx:=λ_ H'=>Q .c6 H',rt:=Q} (start N vs) H):iu P w K mg base CX (k+1) f fd ps sp:=by
 obtain⟨oc,od,kV,doc,pm,an,cf,ct,DU,rfl,lk,zC⟩:=F.ex;exact FP lk zC S len λA outer s H vs Q E hr Dy=>uS cf A outer s H vs Q E hr Dy
end
noncomputable def noStar:Expr->Bool
 | .Starred _ _=>false
 | _=>true
theorem se {e:Expr} {es:List Expr} {env:Env} (h:noStar e=true):starEach (e::es) env=(false,eval e env)::starEach es env:=by
 cases e <;>first | rfl | exact absurd h aaS
theorem na {env:Env} {pos:Pos}:∀{es:List Expr},es.all noStar=true->(backTo pos (starEach es env)).any (·.1)=false
 | [],_=>rfl
 | e::es,h=>by
  rw[List.all_cons,aa6] at h;rw[se h.1];show(false || (backTo pos (starEach es env)).any (·.1))=false;rw[na h.2];rfl
open PySem PySem.Spec PyProof.Rows PySem.W
structure O4 (K:PySem.W.Frag) (C:Addr):Prop where
 cls:(clsIn K C).isSome=true
 ga:findIn K (.ref C) "__getattribute__"=some (some (.builtin "BaseException.__getattribute__"))
 gt:findIn K (.ref C) "__getattr__"=some none
 cl:findIn K (.ref C) "__class__"=some (some (.builtin "object.__class__"))
 be:mroIn K C (.type "BaseException")=some true
 ob:mroIn K C (.type "object")=some true
section
variable {prog : Program} {w : World} {A : Around} {E : Value -> Shared -> Prop} {K : PySem.W.Frag} {h : Heap} {g : Array GenState} {d : Drawn} {t : Nat} {os : OsState} {a C : Addr} {o : Obj}
end
section
variable {X : Cx}
end
theorem jX {env:Env}:∀(names:List (Str×NameKind)) (cs:List (Str×Addr)),(∀n,(n,NameKind.free)∈names->∃c,env.cells.lookup n=some c)->(∀x c,cs.lookup x=some c->env.cells.lookup x=some c)->
  ∃cl,(forIn names cs fun(x:Str×NameKind) (r:List (Str×Addr))=>(if (x.2==NameKind.free)=true then do let c <-cellOf env x.1;pure (ForInStep.yield ((x.1,c)::r)) else pure (ForInStep.yield r):Sem (ForInStep (List (Str×Addr)))))=pure cl/\
   (∀x c,cl.lookup x=some c->env.cells.lookup x=some c)/\(∀n,((n,NameKind.free)∈names\/(cs.lookup n).isSome=true)->∃c,cl.lookup n=some c)/\(∀x c,(x,c)∈cl->(env.cells.lookup x=some c/\(x,NameKind.free)∈names)\/(x,c)∈cs)
 | [],cs,_,h=>⟨cs,rfl,h,(λn hn=>by
   rcases hn with hn | hn
   ·exact absurd hn (by simp)
   ·exact Option.isSome_iff_exists.mp hn),λx c m=>.inr m⟩
 | (n,k)::r,cs,hf,h=>by
  by_cases hk:k=.free
  ·subst hk;obtain⟨c,hc⟩:=hf n aaK;obtain⟨cl,e,h1,h2,h3⟩:=jX r ((n,c)::cs) (λm hm=>hf m (aaJ _ hm)) (λx c' hx=>by
    rw[aa8] at hx;cases q:x==n with
    | true=>
     rw[q] at hx;have e1:x=n:=by simpa using q
     cases hx;rw[e1];exact hc
    | false=>rw[q] at hx;exact h x c' hx)
   refine⟨cl,?_,h1,λm hm=>h2 m ?_,λx c' m=>?_⟩
   rotate_left 2
   ·rcases h3 x c' m with ⟨q1,q2⟩ | m
    ·exact .inl ⟨q1,aaJ _ q2⟩
    ·rcases List.mem_cons.mp m with e | m
     ·cases e;exact .inl ⟨hc,aaK⟩
     ·exact .inr m
   ·rw[List.forIn_cons];have hco:cellOf env n=pure c:=by unfold cellOf;rw[hc]
    simp only[beq_self_eq_true,if_true,hco,pure_bind];exact e
   ·rcases hm with hm | hm
    ·rcases List.mem_cons.mp hm with z | z
     ·cases z
      right
      rw[aa8];simp
     ·exact .inl z
    ·right
     rw[aa8];cases q:m==n with
     | true=>rfl
     | false=>exact hm
  ·obtain⟨cl,e,h1,h2,h3⟩:=jX r cs (λm hm=>hf m (aaJ _ hm)) h;refine⟨cl,?_,h1,λm hm=>h2 m ?_,λx c' m=>(h3 x c' m).imp (λq=>⟨q.1,aaJ _ q.2⟩) id⟩
   ·rw[List.forIn_cons];have:(k==NameKind.free)=false:=by simpa using hk
    simp only[this,Bool.false_eq_true,if_false,pure_bind];exact e
   ·rcases hm with hm | hm
    ·rcases List.mem_cons.mp hm with z | z
     ·cases z;exact absurd rfl hk
     ·exact .inl z
    ·exact .inr hm
theorem jv {env:Env} {scope:Scope} (hf:∀n,(n,NameKind.free)∈scope.names->∃c,env.cells.lookup n=some c):
  ∃cl,closureFor scope env=pure cl/\(∀x c,cl.lookup x=some c->env.cells.lookup x=some c)/\(∀n,(n,NameKind.free)∈scope.names->∃c,cl.lookup n=some c)/\(∀x c,(x,c)∈cl->env.cells.lookup x=some c/\(x,NameKind.free)∈scope.names):=by
 obtain⟨cl,e,h1,h2,h3⟩:=jX (env:=env) scope.names [] hf (λx c h=>by simp at h);refine⟨cl,?_,h1,λn hn=>h2 n (.inl hn),λx c m=>(h3 x c m).elim id λz=>absurd z (by simp)⟩;unfold closureFor;simp only[bind_pure];exact e
structure ff (N:List Str) (so:Scope) (N':List Str) (scope:Scope) (k:Nat) (fr:List Nat):Prop where
 kind:scope.kind=.function
 Ia:∀y∈scope.names,y.2=.cell->scope.names.lookup y.1=some .cell/\(y.1,NameKind.free)∉scope.names
 locs:∀y∈scope.names,y.2=.local->scope.names.lookup y.1=some .local
 outer:∀y∈scope.names,y.2=.free->(so.names.lookup y.1=some .cell\/so.names.lookup y.1=some .free)
 len:N'.length=k+fr.length
 at_:∀t,t<fr.length->(fr[t]?).bind (λj=>N[j]?)=N'[k+t]?
 O5:∀x∈N'.drop k,scope.names.lookup x=some .free
noncomputable def stC (k:Nat) (fr:List Nat) (σ:St):St:=List.replicate k none++fr.map λj=>(σ[j]?).join
noncomputable def nW (X:Cx) (N:List Str) (scope:Scope) (cl:List (Str×Addr)) (C:Addr) (s:Shared) (H:Hp) (ex:List Addr):Cx where
 prog:=X.prog
 w:=X.w
 K:=X.K
 mg:=X.mg
 base:=X.base
 A:=X.A
 N:=N
 s₀:=s
 H₀:=H
 env:=compEnvC scope cl C X.env
 outer:=X.stack
 stack:=X.stack
 ex:=ex
 calm:=X.calm
 fn:=λx=>scope.names.lookup x==some .cell
 pn:=[]
 xe:=λ_ _=>False
theorem eR {env:Env}:∀{names:List (Str×NameKind)} {x:Str},names.lookup x=some .free->
  (names.map fun(n,k)=>if (k==NameKind.free && env.scope.kind==.function && env.kindOf n==some .cell) then (n,NameKind.cell) else (n,k)).lookup x=some .cell\/
  (names.map fun(n,k)=>if (k==NameKind.free && env.scope.kind==.function && env.kindOf n==some .cell) then (n,NameKind.cell) else (n,k)).lookup x=some .free
 | [],_,h=>by simp at h
 | (n,k)::r,x,h=>by
  have ih:=@eR env r x;show List.lookup x ((if (k==NameKind.free && env.scope.kind==.function && env.kindOf n==some .cell)=true then (n,NameKind.cell) else (n,k))::_)=_\/List.lookup x ((if (k==NameKind.free && env.scope.kind==.function && env.kindOf n==some .cell)=true then (n,NameKind.cell) else (n,k))::_)=_;cases hx:x==n with
  | true=>
   simp only[aa8,hx] at h;cases h
   by_cases hc:(NameKind.free==NameKind.free && env.scope.kind==.function && env.kindOf n==some .cell)=true
   ·rw[if_pos hc];left;simp [aa8,hx]
   ·rw[if_neg hc];right;simp [aa8,hx]
  | false=>
   simp only[aa8,hx] at h
   by_cases hc:(k==NameKind.free && env.scope.kind==.function && env.kindOf n==some .cell)=true
   ·rw[if_pos hc];simp only[aa8,hx];exact ih h
   ·rw[if_neg hc];simp only[aa8,hx];exact ih h
theorem kH {env:Env}:∀{names:List (Str×NameKind)} {x:Str},
  ((names.map fun(n,k)=>if (k==NameKind.free && env.scope.kind==.function && env.kindOf n==some .cell) then (n,NameKind.cell) else (n,k)).lookup x=some .cell\/
  (names.map fun(n,k)=>if (k==NameKind.free && env.scope.kind==.function && env.kindOf n==some .cell) then (n,NameKind.cell) else (n,k)).lookup x=some .free)->(x,NameKind.free)∈names\/(x,NameKind.cell)∈names
 | [],_,h=>by simp at h
 | (n,k)::r,x,h=>by
  have ih:=@kH env r x;have up:((x,NameKind.free)∈r\/(x,NameKind.cell)∈r)->((x,NameKind.free)∈(n,k)::r\/(x,NameKind.cell)∈(n,k)::r):=λz=>z.imp (aaJ _) (aaJ _);have h:List.lookup x ((if (k==NameKind.free && env.scope.kind==.function && env.kindOf n==some .cell)=true then (n,NameKind.cell) else (n,k))::_)=_\/List.lookup x ((if (k==NameKind.free && env.scope.kind==.function && env.kindOf n==some .cell)=true then (n,NameKind.cell) else (n,k))::_)=_:=h;cases hx:x==n with
  | true=>
   have e1:x=n:=by simpa using hx
   subst e1
   by_cases hc:(k==NameKind.free && env.scope.kind==.function && env.kindOf x==some .cell)=true
   ·have:k=.free:=by
     simp only[aa6] at hc
     simpa using hc.1.1
    subst this;exact .inl aaK
   ·rw[if_neg hc] at h;simp only[aa8,hx] at h;rcases h with h | h
    ·cases h;exact .inr aaK
    ·cases h;exact .inl aaK
  | false=>
   by_cases hc:(k==NameKind.free && env.scope.kind==.function && env.kindOf n==some .cell)=true
   ·rw[if_pos hc] at h;simp only[aa8,hx] at h;exact up (ih h)
   ·rw[if_neg hc] at h;simp only[aa8,hx] at h;exact up (ih h)
theorem mB:∀(names:List (Str×NameKind)) (h:Heap) (acc:List (Str×Addr)) (x:Str) (c:Addr),(x,c)∈cellsFrom h.objs.size names acc->
  (x,c)∈acc\/(h.objs.size<=c/\(pushCells h names).IsCell c none/\(x,NameKind.cell)∈names)
 | [],h,acc,x,c,m=>.inl m
 | (n,k)::r,h,acc,x,c,m=>by
  unfold cellsFrom at m;unfold pushCells
  by_cases hk:(k==NameKind.cell)=true
  ·rw[if_pos hk] at m ⊢;have ih:=mB r (h.push {cls:=.type "cell",data:=.cell none}) ((n,h.objs.size)::acc) x c;rw[Heap.size_push] at ih;rcases ih m with m | ⟨q1,q2,q3⟩
   ·rcases List.mem_cons.mp m with e | m
    ·cases e;have hk:k=.cell:=by simpa using hk
     subst hk;refine .inr ⟨aaC _,?_,aaK⟩;have q:(h.push {cls:=.type "cell",data:=.cell none}).IsCell h.objs.size none:=⟨_,Heap.get?_push_size _ rfl,rfl⟩
     exact q.keeps λb o e=>pushCells_keeps r _ b o e
    ·exact .inl m
   ·exact .inr ⟨by omega,q2,aaJ _ q3⟩
  ·rw[if_neg hk] at m ⊢;rcases mB r h acc x c m with m | ⟨q1,q2,q3⟩
   ·exact .inl m
   ·exact .inr ⟨q1,q2,aaJ _ q3⟩
theorem mC:∀(names:List (Str×NameKind)) (n lo:Nat) (acc:List (Str×Addr)),(∀x c,(x,c)∈acc->c<n)->(∀x y c,lo<=c->(x,c)∈acc->(y,c)∈acc->x=y)->
  ∀x y c,lo<=c->(x,c)∈cellsFrom n names acc->(y,c)∈cellsFrom n names acc->x=y
 | [],n,lo,acc,h1,h2,x,y,c,hl,m1,m2=>h2 x y c hl m1 m2
 | (z,k)::r,n,lo,acc,h1,h2,x,y,c,hl,m1,m2=>by
  unfold cellsFrom at m1 m2
  by_cases hk:(k==NameKind.cell)=true
  ·rw[if_pos hk] at m1 m2;refine mC r (n+1) lo _ (λx c m=>?_) (λx y c hl m1 m2=>?_) x y c hl m1 m2
   ·rcases List.mem_cons.mp m with e | m
    ·cases e;exact abu _
    ·exact abv (h1 x c m)
   ·rcases List.mem_cons.mp m1 with e1 | m1 <;>rcases List.mem_cons.mp m2 with e2 | m2
    ·cases e1;cases e2;rfl
    ·cases e1;exact absurd (h1 _ _ m2) (aba _)
    ·cases e2;exact absurd (h1 _ _ m1) (aba _)
    ·exact h2 x y c hl m1 m2
  ·rw[if_neg hk] at m1 m2;exact mC r n lo acc h1 h2 x y c hl m1 m2
theorem g8:∀(names:List (Str×NameKind)) (n:Nat) (acc:List (Str×Addr)) (x:Str),(x,NameKind.cell)∉names->(cellsFrom n names acc).lookup x=acc.lookup x
 | [],n,acc,x,_=>rfl
 | (z,k)::r,n,acc,x,h=>by
  have hr:(x,NameKind.cell)∉r:=λm=>h (aaJ _ m);unfold cellsFrom
  by_cases hk:(k==NameKind.cell)=true
  ·rw[if_pos hk,g8 r _ _ x hr,aa8];have hk:k=.cell:=by simpa using hk
   subst hk;have:(x==z)=false:=by
    cases q:x==z with
    | false=>rfl
    | true=>
     have e:x=z:=by simpa using q
     subst e;exact absurd aaK h
   rw[this]
  ·rw[if_neg hk];exact g8 r n acc x hr
theorem mD:∀(names:List (Str×NameKind)) (n:Nat) (acc:List (Str×Addr)) (x:Str),((x,NameKind.cell)∈names\/(acc.lookup x).isSome=true)->((cellsFrom n names acc).lookup x).isSome=true
 | [],n,acc,x,h=>by
  rcases h with h | h
  ·simp at h
  ·exact h
 | (z,k)::r,n,acc,x,h=>by
  unfold cellsFrom
  by_cases hk:(k==NameKind.cell)=true
  ·rw[if_pos hk];refine mD r _ _ x ?_;rcases h with h | h
   ·rcases List.mem_cons.mp h with e | h
    ·cases e
     right
     rw[aa8];simp
    ·exact .inl h
   ·right
    rw[aa8];cases q:x==z with
    | true=>rfl
    | false=>exact h
  ·rw[if_neg hk];refine mD r _ _ x ?_;rcases h with h | h
   ·rcases List.mem_cons.mp h with e | h
    ·cases e;exact absurd rfl hk
    ·exact .inl h
   ·exact .inr h
section
variable {M : Model} {A : Around} {E : Value -> Shared -> Prop} {s : Shared}
theorem kI {scope:Scope} {globals:Addr} {closure:List (Str×Addr)} {qual:Str} {func:Option Addr} {code:Value} {outer:Env} {Q:Env->Shared->Prop}
  (hQ:Q (newEnv scope s.heap.objs.size globals (cellsFrom (s.heap.objs.size+1) scope.names closure) qual func code (some outer) builtinsNs)
   {s with heap:=pushCells (s.heap.push {cls:=.type "dict",data:=.dict #[]}) scope.names}):
  wpAny M A (newFunctionEnv scope globals closure [] qual func code (some outer)) Q E s:=by
 simp only[newFunctionEnv,Option.isSome_some,if_true];refine wpAny_bind (wpAny_alloc ?_);refine wpAny_bind (wpAny_layCells _ (λname kind cells=>by cases hkc:kind==NameKind.cell <;>simp [hkc]) _ _ _ _ ?_);rw[show({s with heap:=s.heap.push {cls:=.type "dict",data:=.dict #[]}}:Shared).heap.objs.size=s.heap.objs.size+1 from Heap.size_push ..];refine wpAny_bind ?_;rw[List.forIn_nil];exact wpAny_pure (wpAny_pure hQ)
end
structure Ib (X:Cx) (scope:Scope) (cl:List (Str×Addr)) (lo:Nat) (C:Addr) (h1:Heap):Prop where
 old:∀x c,cl.lookup x=some c->X.env.cells.lookup x=some c\/(lo<=c/\C<c/\h1.IsCell c none)
 inj:∀x y c,C<c->cl.lookup x=some c->cl.lookup y=some c->x=y
 has:∀n,(n,NameKind.free)∈scope.names\/(n,NameKind.cell)∈scope.names->∃c,cl.lookup n=some c
 O5:∀n,scope.names.lookup n=some .free->∀c,cl.lookup n=some c->X.env.cells.lookup n=some c
 own:∀x c,scope.names.lookup x=some .cell->cl.lookup x=some c->lo<=c
section
variable {X : Cx} {pins : List (Addr × Obj)} {σ : St} {H : Hp} {s : Shared} {N' : List Str} {scope : Scope} {k : Nat} {fr : List Nat} {cl : List (Str × Addr)}
theorem Ic {C:Addr} {fp:List Addr} {h1:Heap} (I:Inv X pins σ H s) (S:ff X.N X.env.scope N' scope k fr) (B:Ib X scope cl s.heap.objs.size C h1)
  (hC:s.heap.objs.size<=C) (f2:∀b∈fp,jV X pins H b) (lt:∀b∈fp,b<s.heap.objs.size):(nW X N' scope cl C s H fp).Ok where
 mod:=I.ok.mod
 kind:=S.kind
 glob:=I.ok.glob
 blt:=I.ok.blt
 above:=hC
 inj:=λx y c h1 h2=>by
  rcases B.old _ _ h1 with o1 | o1 <;>rcases B.old _ _ h2 with o2 | o2
  ·exact I.ok.inj x y c o1 o2
  ·exact B.inj x y c o2.2.1 h1 h2
  ·exact B.inj x y c o1.2.1 h1 h2
  ·exact B.inj x y c o1.2.1 h1 h2
 has:=λx hx=>B.has x (kH hx)
 Hl:=λx c z e=>B.own x c (by
  have z:(scope.names.lookup x==some NameKind.cell)=true:=z
  simpa using z) e
 hd:=I.ok.hd
 frames:=I.ok.frames
 JY:=.inl rfl
 NJ:=λb hb=>⟨aaN (aaQ (lt b hb) hC),λx c e=>(B.old _ _ e).elim (λo=>(f2 b hb).2.2.2.2.1 x c o) λo=>Nat.ne_of_gt (aaQ (lt b hb) o.1)⟩
 bs:=I.bs
 Dx:=aaR I.ok.Dx I.sz
 wG:=λb o e hb=>by
  rcases(f2 b hb).2.2.2.1 with z | z
  ·exact I.ok.wG b o e z
  ·exact absurd (aaQ (Heap.lt_size e) (aaR I.ok.Dx z)) (aba _)
 zB:=λb hb z=>by
  rcases List.mem_cons.mp (I.rX b z) with q | q
  ·exact(f2 b hb).2.1 q
  ·exact(f2 b hb).2.2.1 q
 mw:=I.stack
 FE:=I.rY
theorem Ek {C:Addr} {fp:List Addr} {h1:Heap} {tk:Nat} {m:Str->Option Value} (I:Inv X pins σ H s) (S:ff X.N X.env.scope N' scope k fr) (B:Ib X scope cl s.heap.objs.size C h1)
  (hC:s.heap.objs.size<=C) (f2:∀b∈fp,jV X pins H b) (lt:∀b∈fp,b<s.heap.objs.size) (old:∀b o,s.heap.get? b=some o->h1.get? b=some o) (hn:h1.Ns C m):
  Inv (nW X N' scope cl C s H fp) [] (stC k fr σ) H {s with heap:=h1,toks:=tk}:=by
 refine⟨Ic I S B hC f2 lt,rfl,I.bare,Un.kept old,⟨m,hn,λi x v e1 e2 e3=>?_⟩,λx c e=>?_,I.cj.fresh hC,λx c e=>(B.old _ _ e).elim (λo=>I.fj x c o) λo=>I.cj.fresh o.1,λp hp=>absurd (show p∈([]:List (Addr×Obj)) from hp) (by simp),I.cj.kept old,?_⟩
 ·have e1:N'[i]?=some x:=e1;unfold stC at e2
  by_cases hi:i<k
  ·rw[abz (by simpa using hi),List.getElem?_replicate,if_pos hi] at e2;cases e2
  ·rw[abp (by simpa using hi),List.length_replicate,aaG] at e2;cases q:fr[i - k]? with
   | none=>rw[q] at e2;cases e2
   | some j=>
    rw[q] at e2;have e2:(σ[j]?).join=some v:=aa9 e2;have ej:σ[j]?=some (some v):=by
     cases z:σ[j]? with
     | none=>rw[z] at e2;cases e2
     | some o=>rw[z] at e2;exact congrArg some e2
    have gG:i - k<fr.length:=(List.getElem?_eq_some_iff.mp q).1;have Ac:=S.at_ (i - k) gG;rw[q,show k+ (i - k)=i by omega,e1] at Ac;have Ac:X.N[j]?=some x:=Ac;have hxm:x∈N'.drop k:=List.mem_iff_getElem?.mpr ⟨i - k,by rw[List.getElem?_drop,show k+ (i - k)=i by omega];exact e1⟩;have Ab:=S.O5 x hxm;have K8:(x,NameKind.free)∈scope.names:=abh Ab;have K9:=S.outer _ K8 rfl;obtain⟨m0,hn0,O6⟩:=I.loc;obtain⟨u,r,l⟩:=O6 j x v Ac ej (.inr K9);refine⟨u,r,.inr ⟨eR Ab,?_⟩⟩;rcases l with ⟨kk,_⟩ | ⟨_,c,e,z⟩
    ·have kk:X.env.scope.names.lookup x=some .local:=kk;rcases K9 with q1 | q1
     ·rw[kk] at q1;cases q1
     ·rw[kk] at q1;cases q1
    ·obtain⟨c',e'⟩:=B.has x (.inl K8);have ec:=B.O5 x Ab _ e';rw[e] at ec;cases ec;obtain⟨ob,ho,hd⟩:=z;exact⟨c,e',ob,old _ _ ho,hd⟩
 ·rcases B.old _ _ e with o | o
  ·obtain⟨v,ob,ho,hd⟩:=I.cell x c o;exact⟨v,ob,old _ _ ho,hd⟩
  ·exact⟨none,o.2.2⟩
 ·unfold stC;rw[aaE,List.length_replicate,aaA];exact S.len.symm
end
section
variable {prog : Program} {w : World} {A : Around} {E : Value -> Shared -> Prop} {R : Result -> Shared -> Prop} {s : Shared}
theorem iL {elt target iter:Expr} {ifs:List Expr} {scope:Scope} {pos:Pos} {it acc:Value} {env:Env} (I:Nat->Shared->Prop)
  (turn:∀n s,I n s->wpAny (model prog w) A (pyNext it) (λr s₁=>match r with
   | none=>R (.ok .next) s₁
   | some v=>wpAny (model prog w) A (letOwnedTupleGo target it v) (λ_ s₁'=>wpAny (model prog w) A (assign target env v) (λ_ s₂=>
     wpAny (model prog w) A (forIn ifs true λc r=>if r=true then do let ok <-isTrue c env (eval c env);pure (ForInStep.yield ok) else pure (ForInStep.yield r)) (λok s₃=>
      if ok=true then wpAny (model prog w) A (eval elt env) (λx s₄=>
       wpAny (model prog w) A (call (.builtin "list.append") [acc,x]) (λ_ s₅=>∃m,m<n/\I m s₅) (λ_ _=>False) s₄) (notedBy (model prog w) A env λx s'=>R (.error x) s') s₃
      else ∃m,m<n/\I m s₃) (λ_ _=>False) s₂) (λ_ _=>False) s₁') (λ_ _=>False) s₁) (λ_ _=>False) s)
  (n:Nat) (h:I n s):
  codeAny (model prog w) A (.compLoop (.ListComp elt [⟨target,iter,ifs,0⟩] scope pos) 0 it acc env) R s:=by
 refine codeAny_loop rfl I (λn s hI=>?_) n h;show wpAny _ A ((compTurn (.ListComp elt [⟨target,iter,ifs,0⟩] scope pos) 0 it acc env).onRaise (λx=>do noteFrame x env;theTreesLotGoes x)) _ _ s;refine wpAny_noted ?_;rw[compTurn_list];refine wpAny_bind (wpAny_standAt (wpAny_bind (wpAny_mono (turn n s hI) (λr s₁ h₁=>?_) λ_ _ h'=>h'.elim)));cases r with
 | none=>exact wpAny_pure h₁
 | some v=>
  refine wpAny_bind (wpAny_mono h₁ (λ_ s₁' h₁'=>?_) λ_ _ h'=>h'.elim);refine wpAny_bind (wpAny_mono h₁' (λ_ s₂ h₂=>wpAny_bind (wpAny_mono h₂ (λok s₃ h₃=>?_) λ_ _ h'=>h'.elim)) λ_ _ h'=>h'.elim);cases ok with
  | false=>exact wpAny_pure ⟨rfl,h₃⟩
  | true=>
   exact wpAny_bind (wpAny_bind (wpAny_mono h₃ (λx s₄ h₄=>wpAny_bind (wpAny_mono h₄ (λ_ s₅ h₅=>wpAny_pure (wpAny_pure ⟨rfl,h₅⟩)) λ_ _ h'=>h'.elim)) λ_ _ h'=>h'))
end
noncomputable def Ie (X:Cx) (ifs:List Expr) (t:TT):Prop:=
 ∀(pins:List (Addr×Obj)) (s:Shared) (σ:St) (H:Hp) (Q:Bool->Hp->Prop),Inv X pins σ H s->t σ H Q->
  wpAny (model X.prog X.w) X.A (forIn ifs true λc r=>if r=true then do let ok <-isTrue c X.env (eval c X.env);pure (ForInStep.yield ok) else pure (ForInStep.yield r)) (TP X pins σ Q) X.xe s
noncomputable def jY:TT:=λ_ H Q=>Q true H
theorem b6 {X:Cx}:Ie X [] jY:=λ_ _ _ H _ I h=>wpAny_tests_nil ⟨H,I,h⟩
theorem yl {X:Cx} {c:Expr} {t:TT} (h:PT X c t):Ie X [c] t:=λpins s σ H Q I hq=>wpAny_tests_one (h pins s σ H Q I hq)
section
variable {X : Cx}
noncomputable def gz (J:It) (g:TG) (tc:TT) (te:TE) (σ0:St) (H1:Hp) (fin:List V->Hp->Prop):Prop:=
 ∃W:Nat->Nat->List V->St->Hp->Prop,(∃m,W 0 m [] σ0 H1)/\∀i m ys σ2 H2,W i m ys σ2 H2->
  (J.stop i H2/\fin ys H2)\/
  (J.go i H2/\∀x H3,J.wt i H2 x H3->g x σ2 H3 λσ3 H4=>tc σ3 H4 λb H5=>if b=true then te σ3 H5 λy H6=>ys.length<sizeLine/\∃m',m'<m/\W (i+1) m' (ys++ [y]) σ3 H6 else ∃m',m'<m/\W (i+1) m' ys σ3 H5)
noncomputable def fz (bI:List Value) (n:Nat):Obj:={cls:=.type "list",data:=.seq bI.toArray n}
theorem BA {elt target iter:Expr} {ifs:List Expr} {scope:Scope} {pos:Pos} {g:TG} {tc:TT} {te:TE} {k:Nat} {fr:List Nat} {N':List Str} {cl:List (Str×Addr)} {pins:List (Addr×Obj)} {σ:St} {H2:Hp} {s2:Shared}
  {it:Addr} {fp:List Addr} {tn:Nat->Heap->Prop} {J:It} {fin:List V->Hp->Prop} {R0:Result->Shared->Prop} {XE:List (Str×Addr)->Addr->Shared->Hp->List Addr->Value->Shared->Prop}
  (hc:X.calm=true) (S:ff X.N X.env.scope N' scope k fr) (c1:∀x c,cl.lookup x=some c->X.env.cells.lookup x=some c) (c2:∀n,(n,NameKind.free)∈scope.names->∃c,cl.lookup n=some c) (cin:∀x c,(x,c)∈cl->∃y,X.env.cells.lookup y=some c) (NU:∀x,(x,NameKind.cell)∈scope.names->∀c,(x,c)∉cl)
  (hg:∀cl C s H ex,PG (nW X N' scope cl C s H ex) target g) (ht:∀cl C s H ex,Ie (nW X N' scope cl C s H ex) ifs tc) (he:∀cl C s H ex,PE ((nW X N' scope cl C s H ex).kB (XE cl C s H ex)) elt te)
  (I2:Inv X pins σ H2 s2) (T:Turn X.prog X.w X.K target J fp it tn) (zJ:tn 0 s2.heap) (f2:∀b∈fp,jV X pins H2 b) (hb:gz J g tc te (stC k fr σ) H2 fin)
  (hR:∀(C:Addr),C=(s2.heap.push {cls:=.type "list",dict:=none,data:=.seq ([]:List Value).toArray}).objs.size->∀(s':Shared) (m:Str->Option Value) (ys:List V) (bI:List Value) (n:Nat) (H':Hp),s2.heap.objs.size<C->s'.heap.Ns C m->bS ys bI->ys.length<=sizeLine->s'.heap.get? s2.heap.objs.size=some (fz bI n)->H' s2.heap.objs.size=none->H' C=none->fin ys H'->
   s'.os=s2.os->AllBare s'.gens->Un (fO X.stack) fp H2 H' s2.heap s'.heap->gW X.prog X.w H' s'.heap->R0 (.ok .next) s')
  (hE:∀cl C x s',C=(s2.heap.push {cls:=.type "list",dict:=none,data:=.seq ([]:List Value).toArray}).objs.size->s2.heap.objs.size<C->XE cl C s2 H2 fp x s'->notedBy (model X.prog X.w) X.A (compEnvC scope cl C X.env) (λy sk=>R0 (.error y) sk) x s'):
  codeAny (model X.prog X.w) X.A (.compStart (.ListComp elt [⟨target,iter,ifs,0⟩] scope pos) 0 (.ref it) (.ref s2.heap.objs.size) (compEnvC scope (cellsFrom ((s2.heap.push {cls:=.type "list",dict:=none,data:=.seq ([]:List Value).toArray}).objs.size+1) scope.names cl) (s2.heap.push {cls:=.type "list",dict:=none,data:=.seq ([]:List Value).toArray}).objs.size X.env)) R0 {s2 with heap:=pushCells ((s2.heap.push {cls:=.type "list",dict:=none,data:=.seq ([]:List Value).toArray}).push {cls:=.type "dict",data:=.dict #[]}) scope.names}:=by
 obtain⟨W,⟨m0,w0⟩,turn⟩:=hb;have lt:∀b∈fp,b<s2.heap.objs.size:=λb hb=>by
  obtain⟨o,e,_⟩:=T.obj _ _ zJ b hb;exact Heap.lt_size e
 generalize O7:s2.heap.push {cls:=.type "list",dict:=none,data:=.seq ([]:List Value).toArray}=G2 at hR hE ⊢;have J3:G2.objs.size=s2.heap.objs.size+1:=by rw[<-O7,Heap.size_push]
 have hDC:s2.heap.objs.size≠G2.objs.size:=by rw[J3];exact aaN (abu _)
 have hC:s2.heap.objs.size<=G2.objs.size:=by rw[J3];exact Nat.le_succ _
 have old:∀b o,s2.heap.get? b=some o->(pushCells (G2.push {cls:=.type "dict",data:=.dict #[]}) scope.names).get? b=some o:=λb o e=>by
  refine pushCells_keeps _ _ b o (Heap.get?_push_of_some _ ?_);rw[<-O7];exact Heap.get?_push_of_some _ e
 have El:(pushCells (G2.push {cls:=.type "dict",data:=.dict #[]}) scope.names).get? s2.heap.objs.size=some (fz [] 0):=by
  refine pushCells_keeps _ _ _ _ (Heap.get?_push_of_some _ ?_);rw[<-O7];exact Heap.get?_push_size _ rfl
 have O8:(pushCells (G2.push {cls:=.type "dict",data:=.dict #[]}) scope.names).Ns G2.objs.size λ_=>none:=(Heap.Ns.new G2 (.type "dict")).keeps (pushCells_keeps _ _);have cl0:∀x c,(x,c)∈cl->c<G2.objs.size+1:=λx c m=>by
  obtain⟨y,hy⟩:=cin x c m;obtain⟨v,q⟩:=I2.cell y c hy;rw[J3];exact abv (abv q.lt)
 have B:Ib X scope (cellsFrom (G2.objs.size+1) scope.names cl) s2.heap.objs.size G2.objs.size (pushCells (G2.push {cls:=.type "dict",data:=.dict #[]}) scope.names):=by
  have own:=mB scope.names (G2.push {cls:=.type "dict",data:=.dict #[]}) cl;rw[Heap.size_push] at own;refine⟨λx c e=>?_,λx y c hc h1 h2=>?_,λn hn=>?_,λn hn c e=>?_,λx c hx e=>?_⟩
  ·by_cases hx:(x,NameKind.cell)∈scope.names
   ·rcases own x c (abh e) with m | ⟨q1,q2,_⟩
    ·
     exfalso;exact NU x hx c m
    ·exact .inr ⟨aaR hC (Nat.le_of_succ_le q1),q1,q2⟩
   ·rw[g8 _ _ _ _ hx] at e;exact .inl (c1 x c e)
  ·exact mC scope.names (G2.objs.size+1) (G2.objs.size+1) cl cl0 (λx y c hl m1 _=>absurd (cl0 x c m1) (Nat.not_lt.mpr hl)) x y c hc (abh h1) (abh h2)
  ·refine Option.isSome_iff_exists.mp (mD _ _ _ n ?_);rcases hn with hn | hn
   ·obtain⟨c,e⟩:=c2 n hn;exact .inr (by rw[e];rfl)
   ·exact .inl hn
  ·have hx:(n,NameKind.cell)∉scope.names:=λm=>by
    have:=(S.Ia _ m rfl).1;rw[hn] at this;cases this
   rw[g8 _ _ _ _ hx] at e;exact c1 n c e
  ·have hx:=abh hx;rcases own x c (abh e) with m | ⟨q1,q2,_⟩
   ·exact absurd m (NU x hx c)
   ·exact aaR hC (Nat.le_of_succ_le q1)
 generalize pushCells (G2.push {cls:=.type "dict",data:=.dict #[]}) scope.names=h₁ at *;generalize cellsFrom (G2.objs.size+1) scope.names cl=wZ at *;generalize Ig:s2.heap.objs.size=D at *;generalize hCc:G2.objs.size=C at *;have fD:H2 D=none:=by rw[<-Ig];exact I2.cj.fresh (aaC _)
 have cells:∀x c,wZ.lookup x=some c->c≠D:=λx c e=>by
  rcases B.old _ _ e with o | o
  ·obtain⟨v,q⟩:=I2.cell x c o;rw[<-Ig];exact aaN q.lt
  ·exact Nat.ne_of_gt (Nat.lt_trans (by rw[J3];exact abu _) o.2.1)
 have loop:∀(FN:Addr) (s3:Shared),FN=it->(∃tk,s3={s2 with heap:=h₁,toks:=tk})->
   codeAny (model X.prog X.w) X.A (.compLoop (.ListComp elt [⟨target,iter,ifs,0⟩] scope pos) 0 (.ref FN) (.ref D) (compEnvC scope wZ C X.env)) R0 s3:=by
  rintro FN s3 rfl ⟨tk,rfl⟩;have I3:Inv (nW X N' scope wZ C s2 H2 fp) [] (stC k fr σ) H2 {s2 with heap:=h₁,toks:=tk}:=Ek I2 S (by rw[Ig];exact B) (by rw[Ig];exact hC) f2 (by rw[Ig];exact lt) old O8;have wL:∀{H':Hp} {o:Obj},(∀b∈fp,H' b=none)->∀b∈fp,jV (nW X N' scope wZ C s2 H2 fp) [(D,o)] H' b:=λ{H' o} hn b hb=>
   ⟨hn b hb,aaN (aaQ (lt b hb) hC),λz=>by
    rcases List.mem_cons.mp (I2.rX b z) with q | q
    ·exact(f2 b hb).2.1 q
    ·exact(f2 b hb).2.2.1 q,.inl hb,λx c e=>(B.old _ _ e).elim (λo=>(f2 b hb).2.2.2.2.1 x c o) (λo=>Nat.ne_of_gt (aaQ (lt b hb) o.1)),λp hp=>by
    have e:p=(D,o):=by simpa [nW] using hp
    rw[e];exact Nat.ne_of_gt (lt b hb)⟩
  have O9:∀{σ':St} {H':Hp} {s':Shared} {o:Obj},Inv (nW X N' scope wZ C s2 H2 fp) [] σ' H' s'->s'.heap.get? D=some o->H' D=none->(∀v,o.data≠.cell v)->Inv (nW X N' scope wZ C s2 H2 fp) [(D,o)] σ' H' s':=λ{σ' H' s' o} I' e n hd=>
   I'.ku λp hp=>by
    have q:p=(D,o):=by simpa using hp
    subst q;refine⟨e,n,hDC,λz=>?_,hd⟩;obtain⟨_,ob,ho,_⟩:=I2.stack.mem z;exact absurd (Heap.lt_size ho) (by rw[Ig];exact aba _)
  have ndL:∀{bI:List Value} {n:Nat} (v:Option Value),(fz bI n).data≠.cell v:=λv z=>by
   have z:Data.seq _ _=Data.cell v:=z;cases z
  refine iL (λn s'=>∃i ys σ' H' bI Em,Inv (nW X N' scope wZ C s2 H2 fp) [] σ' H' s'/\tn i s'.heap/\(∀b∈fp,H' b=none)/\s'.heap.get? D=some (fz bI Em)/\H' D=none/\bS ys bI/\ys.length<=sizeLine/\W i n ys σ' H') ?_ m0
   ⟨0,[],_,H2,[],0,I3,T.keep _ _ _ zJ (λb _ o e=>old b o e),λb hb=>(f2 b hb).1,El,fD,.nil,aaP _,w0⟩
  rintro n s4 ⟨i,ys,σ4,H4,bI,Em,I4,st4,NV,hD4,J4,NW,sz4,w4⟩;have I4':=O9 I4 hD4 J4 ndL;rcases turn i n ys σ4 H4 w4 with ⟨stop,qf⟩ | ⟨go,step⟩
  ·refine cW (T.done (nW X N' scope wZ C s2 H2 fp) rfl rfl rfl hc i _ s4 σ4 H4 _ I4' (wL NV) st4 stop) λr s5 ⟨hr,I5⟩=>?_;subst hr;obtain⟨m5,hn5,_⟩:=I5.loc;exact hR C rfl s5 m5 ys bI Em H4 (by rw[J3];exact abu _) hn5 NW sz4 (I5.pin (D,fz bI Em) (aa2 _ aaK)).1 J4 I5.free qf I5.os I5.bare I5.base I5.cj
  ·refine cW (T.item (nW X N' scope wZ C s2 H2 fp) rfl rfl rfl hc i _ s4 σ4 H4 _ I4' (wL NV) st4 go) λr s5 ⟨u,hr,h5⟩=>?_;subst hr;refine cW h5 λ_ s6 eG=>?_;obtain⟨x,H6,I6,r6,y6,Pa,fr6⟩:=eG;have I6':=I6.pinned (wL fr6) (T.obj _ _ Pa);refine cW (hg wZ C s2 H2 fp _ s6 σ4 H6 x u _ I6' r6 (step x H6 y6)) λ_ s7 ⟨σ7,H7,I7,q7⟩=>?_;refine cW (ht wZ C s2 H2 fp _ s7 σ7 H7 _ I7 q7) λok s8 ⟨H8,I8,q8⟩=>?_;have back:∀{σ':St} {H':Hp} {s':Shared},Inv (nW X N' scope wZ C s2 H2 fp) ([(D,fz bI Em)]++oM fp s6.heap) σ' H' s'->tn (i+1) s'.heap/\(∀b∈fp,H' b=none)/\s'.heap.get? D=some (fz bI Em)/\H' D=none:=λ{σ' H' s'} I'=>by
    have pD:=I'.pin (D,fz bI Em) (aa2 _ (List.mem_append_left _ (by simp)));refine⟨T.keep _ _ _ Pa λb hb o e=>(I'.pin (b,o) (aa2 _ (aa2 _ (gY hb e)))).1,λb hb=>?_,pD.1,pD.2.1⟩;obtain⟨o,e,d⟩:=T.obj _ _ Pa b hb;exact(I'.pin (b,o) (aa2 _ (aa2 _ (gY hb e)))).2.1
   cases ok with
   | false=>
    rw[if_neg aaS];rw[if_neg aaS] at q8;obtain⟨m',hm,w8⟩:=q8;obtain⟨b1,b2,b3,b4⟩:=back I8;exact⟨m',hm,i+1,ys,σ7,H8,bI,Em,I8.ku (λp hp=>absurd hp (by simp)),b1,b2,b3,b4,NW,sz4,w8⟩
   | true=>
    rw[if_pos rfl];rw[if_pos rfl] at q8;refine wpAny_mono (he wZ C s2 H2 fp _ s8 σ7 H8 _ (I8.kB _) q8) (λy s9 ⟨z,H9,I9,r9,gG,m',hm,w9⟩=>?_) λx s' hx=>hE wZ C x s' rfl (by rw[J3];exact abu _) hx;have I9:=I9.fm;obtain⟨b1,b2,b3,b4⟩:=back I9;have hl:=NW.length;refine call_meets F.slot_list_append ⟨_,b3,rfl⟩ F.entry_list_append (F.args_list_append_2 _ _) (PySem.list_append D bI.toArray Em y (by rw[aaU];omega)) ⟨b3,?_⟩;obtain⟨c',q⟩:∃c',(s9.heap.update D (Obj.mapSeq λx=>x.push y)).get? D=some (fz (bI++ [y]) c'):=by
     have q:=PySem.IsL.update b3 (λx=>x.push y);rw[show bI.toArray.push y=(bI++ [y]).toArray by simp] at q;exact⟨_,q⟩
    have I9':Inv (nW X N' scope wZ C s2 H2 fp) [] σ7 H9 s9:=I9.ku (λp hp=>absurd hp (by simp));have kp:∀b o,b≠D->s9.heap.get? b=some o->(s9.heap.update D (Obj.mapSeq λx=>x.push y)).get? b=some o:=λb o hb e=>(Heap.get?_update_other s9.heap (Obj.mapSeq λx=>x.push y) (Ne.symm hb)).trans e;have Eh:=I9'.turned (t':=s9.toks) (it:=D) (h':=s9.heap.update D (Obj.mapSeq λx=>x.push y)) kp b4 hDC (.inr (by show s2.heap.objs.size<=D;rw[Ig];exact aaC _)) (λx c e=>cells x c e) (λp hp=>absurd hp (by simp [nW]));refine⟨m',hm,i+1,ys++ [z],σ7,H9,bI++ [y],c',Eh,T.keep _ _ _ b1 (λb hb o e=>kp b o (aaN (lt b hb)) e),b2,q,b4,NW.append (.cons r9 .nil),?_,w9⟩
    ·rw[aaE,abr];omega
 exact codeAny_compStart_list (loop it _ rfl ⟨_,rfl⟩) (T.self _ 0 _ _ _ (T.keep _ _ _ zJ (λb _ o e=>old b o e)) (loop it _ rfl ⟨_,rfl⟩))
theorem rB {elt target iter:Expr} {ifs:List Expr} {scope:Scope} {pos:Pos} {g:TG} {tc:TT} {te:TE} {k:Nat} {fr:List Nat} {N':List Str} {cl:List (Str×Addr)} {pins:List (Addr×Obj)} {σ:St} {H2:Hp} {s2:Shared}
  {it:Addr} {fp:List Addr} {tn:Nat->Heap->Prop} {J:It} {E:Value->Shared->Prop} {fin:List V->Hp->Prop} {RR:Value->Addr->Result->Shared->Prop} {XE:List (Str×Addr)->Addr->Shared->Hp->List Addr->Value->Shared->Prop}
  (hc:X.calm=true) (S:ff X.N X.env.scope N' scope k fr) (c1:∀x c,cl.lookup x=some c->X.env.cells.lookup x=some c) (c2:∀n,(n,NameKind.free)∈scope.names->∃c,cl.lookup n=some c) (cin:∀x c,(x,c)∈cl->∃y,X.env.cells.lookup y=some c) (NU:∀x,(x,NameKind.cell)∈scope.names->∀c,(x,c)∉cl)
  (hg:∀cl C s H ex,PG (nW X N' scope cl C s H ex) target g) (ht:∀cl C s H ex,Ie (nW X N' scope cl C s H ex) ifs tc) (he:∀cl C s H ex,PE ((nW X N' scope cl C s H ex).kB (XE cl C s H ex)) elt te)
  (I2:Inv X pins σ H2 s2) (T:Turn X.prog X.w X.K target J fp it tn) (zJ:tn 0 s2.heap) (f2:∀b∈fp,jV X pins H2 b) (hb:gz J g tc te (stC k fr σ) H2 fin)
  (hR:∀(C:Addr) (s':Shared) (m:Str->Option Value) (ys:List V) (bI:List Value) (n:Nat) (H':Hp),s2.heap.objs.size<C->s'.heap.Ns C m->bS ys bI->ys.length<=sizeLine->s'.heap.get? s2.heap.objs.size=some (fz bI n)->H' s2.heap.objs.size=none->H' C=none->fin ys H'->
   s'.os=s2.os->AllBare s'.gens->Un (fO X.stack) fp H2 H' s2.heap s'.heap->gW X.prog X.w H' s'.heap->RR (.ref s2.heap.objs.size) C (.ok .next) s')
  (hE:∀cl C x s',s2.heap.objs.size<C->XE cl C s2 H2 fp x s'->notedBy (model X.prog X.w) X.A (compEnvC scope cl C X.env) (λy sk=>RR (.ref s2.heap.objs.size) C (.error y) sk) x s'):
  wpAny (model X.prog X.w) X.A (newList []) (λacc s₃=>wpAny (model X.prog X.w) X.A (newFunctionEnv scope X.env.globals cl [] X.env.qual none .none (some X.env)) (λLa s₄=>
   codeAny (model X.prog X.w) X.A (.compStart (.ListComp elt [⟨target,iter,ifs,0⟩] scope pos) 0 (.ref it) acc {La with scope:=relabel scope X.env}) (RR acc La.locals) s₄) E s₃) E s2:=by
 refine wpAny_newObj_type (kI ?_);exact BA (R0:=RR _ _) hc S c1 c2 cin NU hg ht he I2 T zJ f2 hb (λC e=>by subst e;exact hR _) (λcl C x s' e=>by subst e;exact hE cl _ x s')
theorem comp_back {fp:List Addr} {pins:List (Addr×Obj)} {σ:St} {H2 H':Hp} {s2 s':Shared} {C:Addr} {ys:List V} {bI:List Value} {n:Nat} {h':Heap} (I2:Inv X pins σ H2 s2) (f2:∀b∈fp,jV X pins H2 b) (hC:s2.heap.objs.size<C)
  (vl:bS ys bI) (sz:ys.length<=sizeLine) (hD:s'.heap.get? s2.heap.objs.size=some (fz bI n)) (nD:H' s2.heap.objs.size=none) (nC:H' C=none)
  (os:s'.os=s2.os) (bare:AllBare s'.gens) (un:Un (fO X.stack) fp H2 H' s2.heap s'.heap) (cj:gW X.prog X.w H' s'.heap) (hs:Heap.SameBut C s'.heap h'):
  Inv X pins σ (upd H' s2.heap.objs.size (.lst ys)) {s' with heap:=h'}:=by
 have Pb:∀b o,s2.heap.get? b=some o->b≠C:=λb o e=>aaN (Nat.lt_trans (Heap.lt_size e) hC);have ltD:∀b o,s2.heap.get? b=some o->b≠s2.heap.objs.size:=λb o e=>aaN (Heap.lt_size e);have tk:∀b u,H' b=some u->b≠s2.heap.objs.size:=λb u e z=>by rw[z,nD] at e;cases e
 have tC:∀b u,H' b=some u->b≠C:=λb u e z=>by rw[z,nC] at e;cases e
 have fD:H2 s2.heap.objs.size=none:=I2.cj.fresh (aaC _);have t2:∀b u,H2 b=some u->b≠s2.heap.objs.size:=λb u e z=>by rw[z,fD] at e;cases e
 refine I2.FI (s':={s' with heap:=h'}) (ch:=fp) os ⟨λb o e m hb hx=>?_,λb o e m hb hx=>?_,λb o e m hx=>?_,λb o e hx=>?_,λb xs e=>?_,λb o u e=>?_,λb ps e=>?_⟩ (λb u e=>?_) bare λb hb=>?_
 ·exact(hs.2 b (Pb b o e)).trans (un.keep b o e m hb hx)
 ·obtain⟨sl,q⟩:=un.slot b o e m hb hx;exact⟨sl,(hs.2 b (Pb b o e)).trans q⟩
 ·rw[aV (ltD b o e)];exact un.free b o e m hx
 ·obtain⟨o',q⟩:=un.there b o e hx;exact⟨o',(hs.2 b (Pb b o e)).trans q⟩
 ·rw[aV (t2 b _ e)];exact un.iB b xs e
 ·rw[aV (t2 b _ e)];exact un.ir b o u e
 ·obtain⟨mo,q⟩:=un.jj b ps e;exact⟨mo,by rw[aV (t2 b _ e)];exact q⟩
 ·by_cases hb:b=s2.heap.objs.size
  ·subst hb;rw[aj] at e;cases e;exact⟨sz,bI,n,vl,(hs.2 _ (aaN hC)).trans hD⟩
  ·rw[aV hb] at e;exact(cj b u e).oJ (λc v hc q=>(hs.2 c (by
    rcases hc with rfl | hc
    ·exact tC _ _ e
    ·exact tC _ _ hc)).trans q) (λc r=>by rw[aV (tk _ _ r)];exact r) λc xs r=>by rw[aV (tk _ _ r)];exact r
 ·exact⟨(f2 b hb).2.2.2.1,(f2 b hb).2.1,(f2 b hb).2.2.2.2.1,(f2 b hb).2.2.2.2.2⟩
noncomputable def tComp (wi:TI) (g:TG) (tc:TT) (te:TE) (k:Nat) (fr:List Nat):TE:=λσ H Q=>wi σ H λJ H1=>gz J g tc te (stC k fr σ) H1 λys H2=>∀D,H1 D=none->H2 D=none->Q (.ref D) (upd H2 D (.lst ys))
theorem cw {elt target iter:Expr} {ifs:List Expr} {scope so:Scope} {pos:Pos} {wi:TI} {g:TG} {tc:TT} {te:TE} {k:Nat} {fr:List Nat} {N N':List Str} (hc:X.calm=true) (hN:X.N=N) (Pc:X.env.scope=so) (S:ff N so N' scope k fr)
  (hi:PI X target iter wi) (hg:∀cl C s H ex,PG (nW X N' scope cl C s H ex) target g) (ht:∀cl C s H ex,Ie (nW X N' scope cl C s H ex) ifs tc) (he:∀cl C s H ex,PE (nW X N' scope cl C s H ex) elt te)
  (hs:∀x,foldedSetIterable iter X.env x=pure x:=by intro _;rfl):PE X (.ListComp elt [⟨target,iter,ifs,0⟩] scope pos) (tComp wi g tc te k fr):=by
 subst hN Pc;intro pins s σ H Q I h;rw[eval_ListComp];obtain⟨cl,J5,c1,c2,c3⟩:=jv (env:=X.env) (scope:=scope) λn hn=>I.ok.has n (S.outer _ hn rfl);refine wpAny_comprehension_free (use:=none) (cl:=cl) rfl hs J5 S.kind S.locs ?_;refine cW (hi pins s σ H _ I h) λv s1 h1=>cW h1 λFN s2 h2=>?_;obtain⟨it,fp,tn,J,H2,rfl,I2,T,zJ,f2,hb⟩:=h2;refine rB (RR:=λacc C=>compPost (model X.prog X.w) X.A X.xe none (EP X pins σ Q) acc C) hc S c1 c2 (λx c m=>⟨x,(c3 x c m).1⟩) (λx hx c m=>(S.Ia _ hx rfl).2 (c3 x c m).2) (XE:=λ_ _ _ _ _ _ _=>False) hg ht he I2 T zJ f2 hb ?_ (λ_ _ _ _ _ z=>False.elim z);intro C s' m ys bI n H' hC hn vl sz hD nD nC fin os bare un cj;exact⟨m,hn,λh' Lb=>⟨.ref _,_,comp_back I2 f2 hC vl sz hD nD nC os bare un cj Lb,rfl,fin _ (I2.cj.fresh (aaC _)) nD⟩⟩
theorem g9 {elt target iter:Expr} {ifs:List Expr} {scope so:Scope} {pos Lc py:Pos} {wi:TI} {g:TG} {tc:TT} {te:TE} {k:Nat} {fr:List Nat} {N N':List Str} {y:Str} {i:Nat} (hc:X.calm=true) (hN:X.N.Nodup) (hy:X.N[i]?=some y) (hl:X.env.scope.names.lookup y=some .local)
  (hNN:X.N=N) (Pc:X.env.scope=so) (S:ff N so N' scope k fr)
  (hi:PI X target iter wi) (hg:∀cl C s H ex,PG (nW X N' scope cl C s H ex) target g) (ht:∀cl C s H ex,Ie (nW X N' scope cl C s H ex) ifs tc) (he:∀cl C s H ex,PE (nW X N' scope cl C s H ex) elt te)
  (O2:swapsWith (.ListComp elt [⟨target,iter,ifs,0⟩] scope pos) (some (.Name y py)) Lc.line X.env=pure true:=by rfl)
  (hs:∀x,foldedSetIterable iter X.env x=pure x:=by intro _;rfl):PS X (.Assign [.Name y py] (.ListComp elt [⟨target,iter,ifs,0⟩] scope pos) Lc) (tAsg (tComp wi g tc te k fr) (gName i)):=by
 subst hNN Pc;intro pins s σ H D I h;rw[exec_Assign_Name_used _ _ _ _ O2];obtain⟨cl,J5,c1,c2,c3⟩:=jv (env:=X.env) (scope:=scope) λn hn=>I.ok.has n (S.outer _ hn rfl);refine wpAny_bind (wpAny_standAt (wpAny_bind ?_));show wpAny _ X.A (do let _ <-comprehension (.ListComp elt [⟨target,iter,ifs,0⟩] scope pos) scope X.env _ (newList []) false (eval iter X.env) (some (assign (.Name y py) X.env))) _ _ s;refine wpAny_bind (wpAny_mono (wpAny_comprehension_free (use:=some (assign (.Name y py) X.env)) (Q:=λ_ s'=>SP X pins D .next s') (cl:=cl) rfl hs J5 S.kind S.locs ?_) (λ_ s' hq=>wpAny_pure (wpAny_pure hq)) λ_ _ e=>e);refine cW (hi pins s σ H _ I h) λv s1 h1=>cW h1 λFN s2 h2=>?_;obtain⟨it,fp,tn,J,H2,rfl,I2,T,zJ,f2,hb⟩:=h2;refine rB (RR:=λacc C=>compPost (model X.prog X.w) X.A X.xe (some (assign (.Name y py) X.env)) (λ_ s'=>SP X pins D .next s') acc C) hc S c1 c2 (λx c m=>⟨x,(c3 x c m).1⟩) (λx hx c m=>(S.Ia _ hx rfl).2 (c3 x c m).2) (XE:=λ_ _ _ _ _ _ _=>False) hg ht he I2 T zJ f2 hb ?_ (λ_ _ _ _ _ z=>False.elim z);intro C s' m ys bI n H' hC hn vl sz hD nD nC fin os bare un cj;have I3:Inv X pins σ (upd H' s2.heap.objs.size (.lst ys)) s':=comp_back (h':=s'.heap) I2 f2 hC vl sz hD nD nC os bare un cj (.refl ..);refine wpAny_assign_Name (qU (v:=.ref s2.heap.objs.size) I3 hN hy (.inl hl) rfl (λs4 I4 ch=>?_) (.inr hl));have ltL:X.env.locals<s2.heap.objs.size:=I2.lt;obtain⟨a,hsa,ha⟩:=ch;have aC:a≠C:=by
  rcases ha with rfl | ha
  ·exact aaN (Nat.lt_trans ltL hC)
  ·obtain⟨v,q⟩:=I2.cell _ _ ha;exact aaN (Nat.lt_trans q.lt hC)
 refine⟨m,hn.sameBut hsa (Ne.symm aC),λh' Lb=>⟨_,_,?_,fin _ (I2.cj.fresh (aaC _)) nD⟩⟩;have nC4:(upd H' s2.heap.objs.size (.lst ys)) C=none:=by rw[aV (Nat.ne_of_gt hC)];exact nC
 exact I4.turned (t':=s4.toks) (it:=C) (h':=h') (λb o hb e=>(Lb.2 b hb).trans e) nC4 (Nat.ne_of_gt (Nat.lt_trans ltL hC)) (.inr (aaR I2.sz (Nat.le_of_lt hC))) (λx c e z=>by
  obtain⟨v,q⟩:=I2.cell x c e;exact absurd (Nat.lt_trans q.lt hC) (by rw[z];exact aba _)) (λp hp z=>by
  have:=Heap.lt_size (I2.pin p hp).1;rw[z] at this;exact absurd (Nat.lt_trans this hC) (aba _))
end
structure Src (J:It) (Ok:Hp->Prop) (n:Nat) (Item:Nat->V->Hp->Hp->Prop):Prop where
 go:∀i H,i<n->Ok H->J.go i H
 wt:∀i H x H3,i<n->Ok H->J.wt i H x H3->Item i x H H3
 stop:∀H,Ok H->J.stop n H
theorem src_list {K:PySem.W.Frag} {a:Addr} {xs:List V} {Ok:Hp->Prop} (h:∀H,Ok H->bG K H a xs):Src (DP K a) Ok xs.length (λi x H H3=>H3=H/\xs[i]?=some x) where
 go:=λi H hi ok=>⟨xs,xs[i],h H ok,by simp [hi]⟩
 wt:=λi H x H3 hi ok ⟨e,y⟩=>⟨e,y xs (h H ok)⟩
 stop:=λH ok=>⟨xs,h H ok,aaC _⟩
theorem yn {K:PySem.W.Frag} {a:Addr} {xs:List V} {Ok:Hp->Prop} (h:∀H,Ok H->fM K H a xs):Src (OG K a) Ok xs.length (λi x H H3=>H3=H/\xs[i]?=some x) where
 go:=λi H hi ok=>⟨xs,xs[i],h H ok,by simp [hi]⟩
 wt:=λi H x H3 hi ok ⟨e,y⟩=>⟨e,y xs (h H ok)⟩
 stop:=λH ok=>⟨xs,h H ok,aaC _⟩
theorem src_range {lo:Int} {n:Nat} {Ok:Hp->Prop}:Src (KE lo n) Ok n (λi x H H3=>H3=H/\x=.int (lo+i)) where
 go:=λ_ _ hi _=>hi
 wt:=λ_ _ _ _ _ _ y=>y
 stop:=λ_ _=>aaC _
theorem rE {J:It} {g:TG} {tc:TT} {te:TE} {σ0:St} {H1:Hp} {fin:List V->Hp->Prop} {n:Nat} {Item:Nat->V->Hp->Hp->Prop} (S:Src J (aq H1) n Item) (Ih:St->Prop) (h0:Ih σ0) (P:Nat->List V->Hp->Prop) (p0:P 0 [] H1) (hz:n<=sizeLine)
  (hs:∀i x σ H ys H3 (Q:St->V->Hp->Prop) (N:St->Hp->Prop),i<n->aq H1 H->P i ys H->ys.length<=i->Ih σ->Item i x H H3->
   (∀σ3 y H6,Ih σ3->aq H1 H6->P (i+1) (ys++ [y]) H6->Q σ3 y H6)->(∀σ3 H5,Ih σ3->aq H1 H5->P (i+1) ys H5->N σ3 H5)->
   g x σ H3 λσ3 H4=>tc σ3 H4 λb H5=>if b=true then te σ3 H5 λy H6=>Q σ3 y H6 else N σ3 H5)
  (mE:∀ys H,aq H1 H->P n ys H->ys.length<=n->fin ys H):gz J g tc te σ0 H1 fin:=by
 refine⟨λi m ys σ H=>m=n - i/\i<=n/\ys.length<=i/\Ih σ/\aq H1 H/\P i ys H,⟨n,by simp,aaP _,aaC _,h0,aq.refl _,p0⟩,?_⟩;rintro i m ys σ H ⟨rfl,hi,hl,ow,sm,p⟩
 by_cases gG:i<n
 ·refine .inr ⟨S.go i H gG sm,λx H3 y=>hs i x σ H ys H3 (λσ3 y H6=>ys.length<sizeLine/\∃m',m'<n - i/\m'=n - (i+1)/\i+1<=n/\(ys++ [y]).length<=i+1/\Ih σ3/\aq H1 H6/\P (i+1) (ys++ [y]) H6)
   (λσ3 H5=>∃m',m'<n - i/\m'=n - (i+1)/\i+1<=n/\ys.length<=i+1/\Ih σ3/\aq H1 H5/\P (i+1) ys H5) gG sm p hl ow (S.wt i H x H3 gG sm y) (λσ3 y H6 o s6 q=>?_) (λσ3 H5 o s5 q=>?_)⟩
  ·exact⟨by omega,n - (i+1),by omega,rfl,gG,by rw[aaE,abr];omega,o,s6,q⟩
  ·exact⟨n - (i+1),by omega,rfl,gG,by omega,o,s5,q⟩
 ·have e:i=n:=by omega
  subst e;exact .inl ⟨S.stop H sm,mE ys H sm p hl⟩
theorem comp_map {J:It} {te:TE} {tl:St} {H1:Hp} {fin:List V->Hp->Prop} {n:Nat} {Item:Nat->V->Hp->Hp->Prop} (S:Src J (aq H1) n Item) (sub:∀i x H H3,Item i x H H3->aq H H3) (hz:n<=sizeLine)
  (R:Nat->V->Hp->Prop) (mono:∀i y H H',aq H H'->R i y H->R i y H')
  (hs:∀i x w H H3 (Q:VK),i<n->aq H1 H->Item i x H H3->(∀y H6,aq H3 H6->R i y H6->Q y H6)->te ((w::tl).set 0 (some x)) H3 Q)
  (mE:∀ys H,aq H1 H->ys.length=n->(∀i y,ys[i]?=some y->R i y H)->fin ys H):gz J (gName 0) jY te (none::tl) H1 fin:=by
 refine⟨λi m ys σ H=>m=n - i/\i<=n/\ys.length=i/\(∃w,σ=w::tl)/\aq H1 H/\∀j y,ys[j]?=some y->R j y H,⟨n,by simp,aaP _,rfl,⟨_,rfl⟩,aq.refl _,λj y e=>by simp at e⟩,?_⟩;rintro i m ys σ H ⟨rfl,hi,hl,⟨w,rfl⟩,sm,p⟩
 by_cases gG:i<n
 ·refine .inr ⟨S.go i H gG sm,λx H3 y=>?_⟩;have it:=S.wt i H x H3 gG sm y;have s3:=sub i x H H3 it;unfold gName jY;refine HP ?_;refine hs i x w H H3 _ gG sm it λy H6 s6 r=>⟨by omega,n - (i+1),by omega,rfl,gG,by rw[aaE,abr];omega,⟨_,rfl⟩,sm.trans (s3.trans s6),λj z e=>?_⟩
  by_cases hj:j<i
  ·rw[abz (by omega)] at e;exact mono j z _ _ (s3.trans s6) (p j z e)
  ·rw[abp (by omega)] at e;have e2:j - ys.length=0:=by
    by_cases q:j - ys.length=0
    ·exact q
    ·rw[aby (by simp;omega)] at e;cases e
   rw[e2] at e;simp at e;subst e;have:j=i:=by omega
   subst this;exact r
 ·have e:i=n:=by omega
  subst e;exact .inl ⟨S.stop H sm,mE ys H sm hl p⟩
noncomputable def FX (J:It) (g:TG) (tb:TS) (D:Ends) (σ:St) (H:Hp):Prop:=
 ∃W:Nat->Nat->St->Hp->Prop,(∃m,W 0 m σ H)/\∀i m σ H,W i m σ H->
  (J.stop i H/\D.nx σ H)\/(J.go i H/\∃N:St->Hp->Prop,(∀σ' H',N σ' H'->∃m',m'<m/\W (i+1) m' σ' H')/\∀x H',J.wt i H x H'->g x σ H' λσ2 H2=>tb {D with nx:=N,ct:=N,bk:=D.nx} σ2 H2)
theorem tFor_eq {wi:TI} {g:TG} {tb:TS} {D:Ends} {σ:St} {H:Hp}:KG wi g tb D σ H=wi σ H λJ H1=>FX J g tb D σ H1:=rfl
theorem b9 {J:It} {g:TG} {tb:TS} {D:Ends} {σ:St} {H:Hp} {n:Nat} {Item:Nat->V->Hp->Hp->Prop} {Ok:Hp->Prop} (S:Src J Ok n Item) (Pv:Nat->St->Hp->Prop) (h0:Pv 0 σ H) (cj:∀i σ H,i<=n->Pv i σ H->Ok H)
  (hs:∀i x σ H H3,i<n->Pv i σ H->Item i x H H3->g x σ H3 λσ2 H2=>tb {D with nx:=Pv (i+1),ct:=Pv (i+1),bk:=D.nx} σ2 H2) (hd:∀σ H,Pv n σ H->D.nx σ H):FX J g tb D σ H:=by
 refine⟨λi m σ H=>m=n - i/\i<=n/\Pv i σ H,⟨n,by simp,aaP _,h0⟩,?_⟩;rintro i m σ H ⟨rfl,hi,p⟩
 by_cases gG:i<n
 ·exact .inr ⟨S.go i H gG (cj i σ H hi p),Pv (i+1),λσ' H' p'=>⟨n - (i+1),by omega,rfl,gG,p'⟩,λx H' y=>hs i x σ H H' gG p (S.wt i H x H' gG (cj i σ H hi p) y)⟩
 ·have e:i=n:=by omega
  subst e;exact .inl ⟨S.stop H (cj i σ H hi p),hd σ H p⟩
theorem mF {K:PySem.W.Frag} {J:It} {te:TE} {tl:St} {H1:Hp} {fin:List V->Hp->Prop} {n:Nat} {Item:Nat->V->Hp->Hp->Prop} (S:Src J (aq H1) n Item) (Ld:Nat->V->V->Hp->Prop)
  (tp:∀i x H H3,i<n->aq H1 H->Item i x H H3->aq H H3/\∃p a b,x=.ref p/\fM K H3 p [a,b]/\Ld i a b H3) (hz:n<=sizeLine)
  (R:Nat->V->Hp->Prop) (mono:∀i y H H',aq H H'->R i y H->R i y H')
  (hs:∀i a b H3 (Q:VK),i<n->aq H1 H3->Ld i a b H3->(∀y H6,aq H3 H6->R i y H6->Q y H6)->te (some a::some b::tl) H3 Q)
  (mE:∀ys H,aq H1 H->ys.length=n->(∀(i:Nat) y,ys[i]?=some y->R i y H)->fin ys H):gz J (zF K 2 (gCons (gName 0) (gCons (gName 1) gNil))) jY te (none::none::tl) H1 fin:=by
 refine⟨λi m ys σ H=>m=n - i/\i<=n/\ys.length=i/\(∃w w',σ=w::w'::tl)/\aq H1 H/\∀(j:Nat) y,ys[j]?=some y->R j y H,⟨n,by simp,aaP _,rfl,⟨_,_,rfl⟩,aq.refl _,λj y e=>by simp at e⟩,?_⟩;rintro i m ys σ H ⟨rfl,hi,hl,⟨w,w',rfl⟩,sm,p⟩
 by_cases gG:i<n
 ·refine .inr ⟨S.go i H gG sm,λx H3 y=>?_⟩;obtain⟨s3,q,a,b,rfl,sq,it⟩:=tp i x H H3 gG sm (S.wt i H x H3 gG sm y);refine⟨q,_,rfl,sq,rfl,_,_,rfl,_,_,rfl,rfl,?_⟩;unfold jY;refine HP ?_;refine hs i a b H3 _ gG (sm.trans s3) it λy H6 s6 r=>⟨by omega,n - (i+1),by omega,rfl,gG,by rw[aaE,abr];omega,⟨_,_,rfl⟩,sm.trans (s3.trans s6),λj z e=>?_⟩
  by_cases hj:j<i
  ·rw[abz (by omega)] at e;exact mono j z _ _ (s3.trans s6) (p j z e)
  ·rw[abp (by omega)] at e;have e2:j - ys.length=0:=by
    by_cases q:j - ys.length=0
    ·exact q
    ·rw[aby (by simp;omega)] at e;cases e
   rw[e2] at e;simp at e;subst e;have:j=i:=by omega
   subst this;exact r
 ·have e:i=n:=by omega
  subst e;exact .inl ⟨S.stop H sm,mE ys H sm hl p⟩
section
variable {X : Cx} {pins : List (Addr × Obj)} {σ : St} {H : Hp} {s : Shared}
theorem Inv.moved {h':Heap} {t':Nat} {ch:List Addr} (I:Inv X pins σ H s) (f:∀b∈ch,jV X pins H b) (k:∀b o,b∉ch->s.heap.get? b=some o->h'.get? b=some o):Inv X pins σ H {s with heap:=h',toks:=t'}:=by
 have FF:∀b u,H b=some u->b∉ch:=λb u e z=>by rw[(f b z).1] at e;cases e
 refine I.step (g':=s.gens) (d':=s.drawn) (ch:=ch) (λb hb=>⟨(f b hb).2.2.2.1,(f b hb).2.1,(f b hb).2.2.2.2.1,(f b hb).2.2.2.2.2⟩) (λb o _ _ hc e _=>k b o hc e) (λb o _ _ hc e _=>⟨o.slots,k b o hc e⟩) (λ_ _ _ _ n=>n)
  (λb o hc e=>⟨o,k b o hc e⟩) (λ_ _ e=>e) (λ_ _ _ e=>e) (λb ps e=>⟨#[],by rw[e];simp⟩) (λm hm=>?_) (λb u e=>?_) I.bare
 ·obtain⟨o,es,ep,ho,r⟩:=hm;exact⟨o,es,ep,k _ o (λz=>(f _ z).2.1 rfl) ho,r⟩
 ·refine(I.cj b u e).oJ (λc v hc q=>k c v ?_ q) (λ_ q=>q) λ_ _ q=>q;rcases hc with z | z
  ·rw[z];exact FF b u e
  ·exact FF c _ z
theorem Inv.take {ad:Addr} {o:HO} (I:Inv X pins σ H s) (f:jV X pins H ad) (new:X.s₀.heap.objs.size<=ad) (ok:cJ X.prog X.w (upd H ad o) s.heap ad o):Inv X pins σ (upd H ad o) s:=by
 obtain⟨hn,nL,nf,_,nc,np⟩:=f;have tk:∀b u,H b=some u->b≠ad:=λb u e z=>by rw[z,hn] at e;cases e
 refine⟨I.ok,I.os,I.bare,⟨I.base.keep,I.base.slot,λb ob e m hx=>?_,I.base.there,λb xs e=>?_,λb ob u e=>?_,λb ps e=>?_⟩,I.loc,I.cell,?_,λx c e=>?_,λp hp=>?_,λb u e=>?_,I.len⟩
 ·rw[aV (aaN (aaQ (Heap.lt_size e) new))];exact I.base.free b ob e m hx
 ·have q:=I.base.iB b xs e;rw[aV (tk b _ q)];exact q
 ·have q:=I.base.ir b ob u e;rw[aV (tk b _ q)];exact q
 ·obtain⟨mo,q⟩:=I.base.jj b ps e;exact⟨mo,by rw[aV (tk b _ q)];exact q⟩
 ·rw[aV (Ne.symm nL)];exact I.free
 ·rw[aV (nc x c e)];exact I.fj x c e
 ·obtain⟨a,b,c⟩:=I.pin p hp;exact⟨a,by rw[aV (np p hp)];exact b,c⟩
 ·by_cases hb:b=ad
  ·subst hb;rw[aj] at e;cases e;exact ok
  ·rw[aV hb] at e;exact(I.cj b u e).oJ (λ_ _ _ q=>q) (λc r=>by rw[aV (tk _ _ r)];exact r) λc xs r=>by rw[aV (tk _ _ r)];exact r
end
noncomputable def Itz (K:PySem.W.Frag) (a b:Addr):It:=
 ⟨λi H=>∃xs ys x y,bG K H a xs/\bG K H b ys/\xs[i]?=some x/\ys[i]?=some y,
  λi H v H'=>∃p,H p=none/\v=.ref p/\∃x y,(∀xs,bG K H a xs->xs[i]?=some x)/\(∀ys,bG K H b ys->ys[i]?=some y)/\H'=upd H p (.tup [x,y]),
  λi H=>∃xs ys,bG K H a xs/\bG K H b ys/\(i=min xs.length ys.length)⟩
noncomputable def Pd (K:PySem.W.Frag) (a:Addr):It:=
 ⟨λi H=>∃xs x,bG K H a xs/\xs[i]?=some x,
  λi H v H'=>∃p,H p=none/\v=.ref p/\∃x,(∀xs,bG K H a xs->xs[i]?=some x)/\H'=upd H p (.tup [.int i,x]),
  λi H=>∃xs,bG K H a xs/\xs.length=i⟩
theorem Ad {P:Program} {w:World} {K:PySem.W.Frag} {elts:List Expr} {k:Nat} {pos:Pos} (e it a:Addr) (hei:e≠it) (hle:a≠e) (Pf:a≠it):
  Turn P w K (.Tuple elts k pos) (Pd K a) [e,it] e (λi h=>(∃old,IsEnum h e it i old)/\h.IsListIter it a i) where
 mem:=by simp
 obj:=λi h st c hc=>by
  obtain⟨⟨old,he⟩,⟨o1,e1,_,d1⟩⟩:=st;simp only[aaD,aaH,or_false] at hc;rcases hc with rfl | rfl
  ·exact⟨_,he,λv q=>by cases q⟩
  ·exact⟨_,e1,λv q=>by rw[d1] at q;cases q⟩
 keep:=λi h h' st kp=>by
  obtain⟨⟨old,he⟩,h1⟩:=st;exact⟨⟨old,kp e (by simp) _ he⟩,h1.at λo q=>kp it (by simp) o q⟩
 item:=by
  intro X hP hw hK hc i pins s σ H E I hf st hg;subst hP hw hK;obtain⟨xs,x,wu,hx⟩:=hg;obtain⟨xa,r1,p1,z1⟩:=I.list wu;obtain⟨u,eu,ru⟩:=r1.get hx;obtain⟨he,h1⟩:=st;have W:=WalksT.enumerate (prog:=X.prog) (w:=X.w) (I.ok.hd hc) e it a hei hle Pf xa.toArray;have li:i<xa.toArray.size:=by
   have a1:=(List.getElem?_eq_some_iff.mp eu).1;simp only[aaU];omega
  refine W.item i s _ _ li ⟨he,h1,p1.isList⟩ λT vals h' tk NX hT hI hm kk=>?_;have I1:Inv X pins σ H {s with heap:=h',toks:=tk}:=I.moved (ch:=[e,it]) hf kk;have fT:jV X pins H T:=I.zG hT (I.cj.fresh hT);refine⟨_,rfl,W.go elts k pos i T _ _ _ hm λPg zJ kk2=>?_⟩;have I2:Inv X pins σ H {s with heap:=Pg,toks:=tk}:=I1.moved (s:={s with heap:=h',toks:=tk}) (t':=tk) (ch:=[e,it]) hf kk2;obtain⟨t,x',ex,rfl⟩:=NX;have Ow:xa[i]?=some x':=by simpa using ex
  rw[eu] at Ow;cases Ow;have apT:=W.apart _ _ _ hm;obtain⟨oT,eT,cT,nT,dT⟩:=hI;have hI2:IsTup Pg T #[.int i t,u]:=⟨oT,kk2 _ _ apT eT,cT,nT,dT⟩
  have I3:Inv X pins σ (upd H T (.tup [.int i,x])) {s with heap:=Pg,toks:=tk}:=
   I2.take fT (aaR I.sz hT) ⟨by show 2<=sizeLine;decide,[.int i t,u],.cons ⟨t,rfl⟩ (.cons ru .nil),hI2⟩
  obtain⟨b1,b2,_⟩:=zJ;refine⟨.ref T,_,I3,rfl,⟨T,fT.1,rfl,x,λEn q=>?_,rfl⟩,⟨b1,b2⟩,λc hc=>?_⟩
  ·rw[I.uK q wu];exact hx
  ·rw[aV (λq=>?_)]
   ·exact(hf c hc).1
   ·subst q;obtain⟨o,e,_⟩:∃o,s.heap.get? c=some o/\True:=by
     simp only[aaD,aaH,or_false] at hc;obtain⟨old,he⟩:=he;obtain⟨o1,e1,_⟩:=h1;rcases hc with rfl | rfl
     ·exact⟨_,he,trivial⟩
     ·exact⟨_,e1,trivial⟩
    exact absurd (Heap.lt_size e) (Nat.not_lt.mpr hT)
 done:=by
  intro X hP hw hK hc i pins s σ H E I hf st hg;subst hP hw hK;obtain⟨xs,wu,hi⟩:=hg;obtain⟨xa,r1,p1,z1⟩:=I.list wu;obtain⟨he,h1⟩:=st;have W:=WalksT.enumerate (prog:=X.prog) (w:=X.w) (I.ok.hd hc) e it a hei hle Pf xa.toArray;have l1:=r1.length;have e:i=xa.toArray.size:=by simp only[aaU];omega
  subst e;exact W.done s _ _ ⟨he,h1,p1.isList⟩ λh' tk kk=>⟨rfl,I.moved (ch:=[_,it]) hf kk⟩
 self:=λ_ _ _ _ _ st h=>by
  obtain⟨⟨old,he⟩,_⟩:=st;exact wpAny_pyIter_enum he h
section
variable {X : Cx} {elts : List Expr} {kk : Nat} {iH : Pos}
noncomputable def iEnum (K:PySem.W.Frag) (ta:TA):TI:=λσ H R=>ta σ H λvs H1=>∃a,vs=[.ref a]/\(∃xs,bG K H1 a xs)/\R (Pd K a) H1
theorem sM {a:Expr} {ta:TA} {p pos:Pos} (hg:Gl X "enumerate") (hm:X.mg "enumerate"=none) (ha:PA X [a] ta) (hs:starEach [a] X.env=[(false,eval a X.env)]:=by rfl):
  PI X (.Tuple elts kk iH) (.Call (.Name "enumerate" p) [a] [] pos) (iEnum X.K ta):=by
 intro pins s σ H R I h;refine Call_ (iE I hg hm rfl (PyProof.Rows.callWith_type1 (cW (ha pos pins s σ H _ I h) λus s1 eG=>?_) hs rfl));obtain⟨vs,H1,I1,r1,q1⟩:=eG;obtain⟨a,e,⟨xs,q1⟩,q⟩:=q1;subst e;obtain⟨u,rfl,ra⟩:=vals1 r1;cases ra;obtain⟨xa,v1,p1,z1⟩:=I1.list q1;refine call_enumerate_list p1.isList λh' b1 b2 b3 kp=>?_;refine wpAny_pyIter_enum b1 ?_;have I2:Inv X pins σ H1 {s1 with heap:=h'}:=I1.kept (t':=s1.toks) kp;have la:a<s1.heap.objs.size:=by obtain⟨o,e,_⟩:=p1.isList;exact Heap.lt_size e
 refine⟨s1.heap.objs.size+1,[s1.heap.objs.size+1,s1.heap.objs.size],_,_,H1,rfl,I2,
  Ad (s1.heap.objs.size+1) s1.heap.objs.size a (Nat.ne_of_gt (abu _)) (aaN (abv la)) (aaN la),⟨⟨_,b1⟩,b2⟩,λc hc=>?_,q⟩
 have NY:s1.heap.objs.size<=c:=by
  simp only[aaD,aaH,or_false] at hc;rcases hc with rfl | rfl <;>omega
 exact I1.zG NY (I1.cj.fresh NY)
end
theorem BB {K:PySem.W.Frag} {a:Addr} {xs:List V} {Ok:Hp->Prop} (h1:∀H,Ok H->bG K H a xs):
  Src (Pd K a) Ok xs.length (λi v H H3=>∃p x,H p=none/\v=.ref p/\xs[i]?=some x/\H3=upd H p (.tup [.int i,x])) where
 go:=λi H hi ok=>⟨xs,xs[i],h1 H ok,by simp [hi]⟩
 wt:=λi H x H3 hi ok ⟨p,n,e,u,e1,e3⟩=>⟨p,u,n,e,e1 xs (h1 H ok),e3⟩
 stop:=λH ok=>⟨xs,h1 H ok,rfl⟩
inductive Dat where
 | c6 | bl (b:Bool) | int (i:Int) | str (x:Str) | tup (l:List Dat) | lst (l:List Dat)
mutual
noncomputable def Rep (H:Hp):Dat->V->Prop
 | .c6,v=>v=.c6
 | .bl b,v=>v=.bl b
 | .int i,v=>v=.int i
 | .str x,v=>v=.str x
 | .tup ds,v=>∃p vs,v=.ref p/\H p=some (.tup vs)/\bj H ds vs
 | .lst ds,v=>∃p vs,v=.ref p/\H p=some (.lst vs)/\bj H ds vs
noncomputable def bj (H:Hp):List Dat->List V->Prop
 | [],vs=>vs=[]
 | d::ds,vs=>∃v r,vs=v::r/\Rep H d v/\bj H ds r
end
mutual
theorem Rep.mono {H H':Hp} (s:aq H H'):∀{d:Dat} {v:V},Rep H d v->Rep H' d v
 | .c6,_,h=>by rw[Rep] at *;exact h
 | .bl _,_,h=>by rw[Rep] at *;exact h
 | .int _,_,h=>by rw[Rep] at *;exact h
 | .str _,_,h=>by rw[Rep] at *;exact h
 | .tup _,_,h=>by
  rw[Rep] at *;obtain⟨p,vs,e,hp,r⟩:=h;exact⟨p,vs,e,s _ _ hp,bj.mono s r⟩
 | .lst _,_,h=>by
  rw[Rep] at *;obtain⟨p,vs,e,hp,r⟩:=h;exact⟨p,vs,e,s _ _ hp,bj.mono s r⟩
theorem bj.mono {H H':Hp} (s:aq H H'):∀{ds:List Dat} {vs:List V},bj H ds vs->bj H' ds vs
 | [],_,h=>by rw[bj] at *;exact h
 | _::_,_,h=>by
  rw[bj] at *;obtain⟨v,r,e,h1,h2⟩:=h;exact⟨v,r,e,Rep.mono s h1,bj.mono s h2⟩
end
theorem bj.length {H:Hp}:∀{ds:List Dat} {vs:List V},bj H ds vs->ds.length=vs.length
 | [],_,h=>by rw[bj] at h;subst h;rfl
 | _::_,_,h=>by
  rw[bj] at h;obtain⟨v,r,rfl,_,h2⟩:=h;simp [h2.length]
theorem bj.get {H:Hp}:∀{ds:List Dat} {vs:List V} {i:Nat} {v:V},bj H ds vs->vs[i]?=some v->∃d,ds[i]?=some d/\Rep H d v
 | [],_,i,v,h,e=>by rw[bj] at h;subst h;simp at e
 | d::ds,_,i,v,h,e=>by
  rw[bj] at h;obtain⟨v',r,rfl,h1,h2⟩:=h;cases i with
  | zero=>simp at e;subst e;exact⟨d,rfl,h1⟩
  | succ i=>simp at e;obtain⟨d',e',r'⟩:=h2.get e;exact⟨d',by simpa using e',r'⟩
theorem bj.at {H:Hp}:∀{ds:List Dat} {vs:List V} {i:Nat} {d:Dat},bj H ds vs->ds[i]?=some d->∃v,vs[i]?=some v/\Rep H d v
 | [],_,i,v,h,e=>by simp at e
 | d::ds,_,i,d',h,e=>by
  rw[bj] at h;obtain⟨v',r,rfl,h1,h2⟩:=h;cases i with
  | zero=>simp at e;subst e;exact⟨v',rfl,h1⟩
  | succ i=>simp at e;obtain⟨v,e',r'⟩:=h2.at e;exact⟨v,by simpa using e',r'⟩
theorem bj.of {H:Hp}:∀{ds:List Dat} {vs:List V},ds.length=vs.length->(∀(i:Nat) d v,ds[i]?=some d->vs[i]?=some v->Rep H d v)->bj H ds vs
 | [],[],_,_=>by rw[bj]
 | [],_::_,h,_=>by simp at h
 | _::_,[],h,_=>by simp at h
 | d::ds,v::vs,h,k=>by
  rw[bj];exact⟨v,vs,rfl,k 0 d v rfl rfl,bj.of (by simpa using h) λi d' v' e1 e2=>k (i+1) d' v' (by simpa using e1) (by simpa using e2)⟩
theorem bj.append {H:Hp}:∀{as bs:List Dat} {us vs:List V},bj H as us->bj H bs vs->bj H (as++bs) (us++vs)
 | [],_,_,_,h,k=>by rw[bj] at h;subst h;exact k
 | _::_,_,_,_,h,k=>by
  rw[bj] at h;obtain⟨v,r,rfl,h1,h2⟩:=h;show bj H (_::(_++_)) (_::(_++_));rw[bj];exact⟨_,_,rfl,h1,h2.append k⟩
noncomputable def depth:Dat->Nat
 | .tup l=>1+dL l
 | .lst l=>1+dL l
 | _=>0
where dL:List Dat->Nat
 | []=>0
 | d::ds=>max (depth d) (dL ds)
section
variable {X : Cx} {pins : List (Addr × Obj)} {σ : St} {H : Hp} {s : Shared}
end
section
variable {X : Cx}
end
end L2
namespace Nm
noncomputable def ins (x:Int):List Int->List Int
 | []=>[x]
 | y::r=>if x<=y then x::y::r else y::ins x r
noncomputable def o7:List Int->List Int
 | []=>[]
 | x::r=>ins x (o7 r)
theorem o8 (x:Int):∀l,(ins x l).Perm (x::l)
 | []=>.refl _
 | y::r=>by
  unfold ins
  split
  ·exact .refl _
  ·exact((o8 x r).cons y).trans (.swap ..)
theorem kJ:∀l,(o7 l).Perm l
 | []=>.refl _
 | x::r=>(o8 x _).trans ((kJ r).cons x)
set_option tactic.hygienic true in
theorem yp (x:Int):∀l:List Int,l.Pairwise (·<=·)->(ins x l).Pairwise (·<=·)
 | [],_=>by unfold ins;simp
 | y::r,h=>by
  unfold ins;rw[List.pairwise_cons] at h
  split
  ·rename_i c
   rw[List.pairwise_cons,List.pairwise_cons];refine⟨λz hz=>?_,h.1,h.2⟩;rcases List.mem_cons.mp hz with rfl | hz
   ·exact c
   ·have:=h.1 z hz;omega
  ·rename_i c
   rw[List.pairwise_cons];refine⟨λz hz=>?_,yp x r h.2⟩;rcases List.mem_cons.mp ((o8 x r).mem_iff.mp hz) with rfl | hz
   ·omega
   ·exact h.1 z hz
theorem yq:∀l:List Int,(o7 l).Pairwise (·<=·)
 | []=>by unfold o7;simp
 | x::r=>yp x _ (yq r)
theorem hJ (l:List Int):(o7 l).length=l.length:=(kJ l).length_eq
theorem yr:∀{a b:List Int},a.Perm b->a.Pairwise (·<=·)->b.Pairwise (·<=·)->a=b
 | [],b,p,_,_=>by simpa using p.symm.eq_nil
 | x::a,[],p,_,_=>by simpa using p.eq_nil
 | x::a,y::b,p,ha,hb=>by
  rw[List.pairwise_cons] at ha hb;have e:x=y:=by
   have h1:y∈x::a:=p.mem_iff.mpr aaK;have h2:x∈y::b:=p.mem_iff.mp aaK;rcases List.mem_cons.mp h1 with h1 | h1
   ·exact h1.symm
   ·rcases List.mem_cons.mp h2 with h2 | h2
    ·exact h2
    ·have:=ha.1 y h1;have:=hb.1 x h2;omega
  subst e;rw[yr ((List.perm_cons x).mp p) ha.2 hb.2]
theorem sN {a b:List Int} (p:a.Perm b) (o:a.Pairwise (·<=·)):a=o7 b:=yr (p.trans (kJ b).symm) o (yq b)
theorem Eo {a:Int} {l:List Int}:a∈o7 l↔a∈l:=(kJ l).mem_iff
end Nm
namespace L2
open PySem PySem.Spec PyProof.Rows PySem.W
section
variable {X : Cx}
theorem xb {us:List Value} {ns:List Int} (h:IntsAre us ns):∃xs,us.toArray=intItems xs/\preSum (numAt xs) xs.size=ns.sum:=by
 obtain⟨xs,hx⟩:=h.allInts.items;refine⟨xs,hx,?_⟩;have e1:ns=xs.toList.map (·.1):=by
  rw[<-nums_intItems,<-hx];exact h.numsOf.symm
 rw[preSum_eq,aaT (by simp),e1]
theorem xf (hc:X.calm=true):cq X (.builtin "sum") (λxs H Q=>∃p ns,xs=[.ref p]/\bG X.K H p (List.map V.int ns)/\Q (.int ns.sum) H):=by
 intro pins s σ H xs us Q I r h;obtain⟨p,ns,rfl,hq,q⟩:=h;obtain⟨u,rfl,rx⟩:=vals1 r;cases rx;obtain⟨bI,rv,pl,hz⟩:=I.list hq;obtain⟨ys,e1,e2⟩:=xb (intsAre_of rv);have hl:=pl.isList;rw[e1] at hl;refine sum_intListG (I.ok.hd hc) hl λh' tk t' hk=>⟨.int ns.sum,H,I.kept (t':=tk) hk,⟨t',?_⟩,q⟩
 rw[e2]
theorem hU {us:List Value} {ns:List Int} (h:IntsAre us ns):bS (ns.map V.int) us:=by
 induction h with
 | nil=>exact .nil
 | cons n t _ ih=>exact .cons ⟨t,rfl⟩ ih
theorem qm:cq X (.builtin "sorted") (λxs H Q=>∃p ns,xs=[.ref p]/\bG X.K H p (List.map V.int ns)/\ns.length<64/\∀l,H l=none->Q (.ref l) (upd H l (.lst (List.map V.int (Nm.o7 ns))))):=by
 intro pins s σ H xs us Q I r h;obtain⟨p,ns,rfl,hq,hn,q⟩:=h;obtain⟨u,rfl,rx⟩:=vals1 r;cases rx;obtain⟨bI,rv,pl,hz⟩:=I.list hq;have hl:=rv.length;rw[aaA] at hl;refine sorted_ints pl.isList (intsAre_of rv) (by omega) λout Le a1 a2 a3=>?_;obtain rfl:=Nm.sN a2 a3;obtain⟨e,he⟩:=sortedAll_at s.heap bI out;have fr:=I.cj.fresh (a:=s.heap.objs.size+1) (Nat.le_succ _);refine⟨.ref (s.heap.objs.size+1),_,I.laid (t':=s.toks) (λ_ _=>sortedAll_old) (Nat.le_succ _) (o:=.lst (List.map V.int (Nm.o7 ns))) ⟨?_,out.toList,e,hU a1,?_⟩,rfl,q _ fr⟩
 ·rw[aaA,Nm.hJ,sizeLine_eq];omega
 ·exact he
noncomputable def jw (kvs:List (Key×V)):List Int:=kvs.map λp=>match p.1 with | .inl i=>i | .inr _=>0
noncomputable def allI (kvs:List (Key×V)):Prop:=∀p∈kvs,∃i,p.1=Sum.inl i
theorem qo (hc:X.calm=true):cq X (.builtin "sorted") (λxs H Q=>∃d kvs,xs=[.ref d]/\Rd H d (.dK kvs)/\allI kvs/\kvs.length<64/\∀l,H l=none->Q (.ref l) (upd H l (.lst (List.map V.int (Nm.o7 (jw kvs)))))):=by
 intro pins s σ H xs us Q I r h;obtain⟨d,kvs,rfl,hd,zW,hn,q⟩:=h;obtain⟨u,rfl,rx⟩:=vals1 r;cases rx;obtain⟨hz,lo,vs,kv,dd⟩:=oY I.cj hd;have hlen:kvs.length=vs.length:=Paired.length kv;obtain⟨ep,Ac⟩:=dd.dictAt;refine Calls.call_function_entry kind_sorted plain_sorted entry_sorted (args_sorted1 _) ?_;unfold Builtin.«sorted»;refine wpAny_bind (m:=checkCount "sorted" 1 1 _) (wpAny_pure ?_);refine wpAny_bind (kdu_collect (A:=X.A.in1) (kdl_dict (kvs:=vs) (ep:=ep) lo) (I.ok.hd hc) Ac (by rw[<-hlen,sizeLine_eq];omega) λh' tk acc hk El=>?_);have hl:acc.toList.length=vs.length:=by rw[aa1];exact El.1
 have hI:IntsAre acc.toList (jw kvs):=by
  have all:∀(j:Nat) v,acc.toList[j]?=some v->∃i t,v=Value.int i t/\(jw kvs)[j]?=some i:=λj v e=>by
   obtain⟨k,x,hx,hk⟩:=El.2 j v (by rw[<-Array.getElem?_toList];exact e);obtain⟨p,e1,e2⟩:∃p,kvs[j]?=some p/\p.1=k:=by
    have:∀{as:List (Key×V)} {bs:List (Key×Value)} (j:Nat) {b},KV as bs->bs[j]?=some b->∃a,as[j]?=some a/\a.1=b.1:=by
     intro as bs j b r
     induction r generalizing j with
     | nil=>intro e;simp at e
     | cons r1 r2 ih=>
      intro e;cases j with
      | zero=>simp at e;subst e;exact⟨_,rfl,r1.1⟩
      | succ j=>simp at e;obtain⟨a,e1,e2⟩:=ih j e;exact⟨a,by simpa using e1,e2⟩
    obtain⟨a,e1,e2⟩:=this j kv hx;exact⟨a,e1,e2⟩
   obtain⟨i,hi⟩:=zW p (aaO e1);rw[<-e2,hi] at hk;have hk:oH (.inl i) v=true:=hk;rcases cI hk with ⟨i',t,e3,e4⟩ | ⟨x',t,e3,_⟩
   ·cases e3;refine⟨i,t,e4,?_⟩;unfold jw;rw[aaG,e1];simp [hi]
   ·cases e3
  have go:∀(us:List Value) (ns:List Int),us.length=ns.length->(∀(j:Nat) v,us[j]?=some v->∃i t,v=Value.int i t/\ns[j]?=some i)->IntsAre us ns:=by
   intro us
   induction us with
   | nil=>intro ns hl _;cases ns with | nil=>exact .nil | cons _ _=>simp at hl
   | cons u us ih=>
    intro ns hl k;cases ns with
    | nil=>simp at hl
    | cons n ns=>
     obtain⟨i,t,rfl,e⟩:=k 0 u rfl;simp at e;subst e;exact .cons n t (ih ns (by simpa using hl) λj v e=>by
      obtain⟨i,t,e1,e2⟩:=k (j+1) v (by simpa using e);exact⟨i,t,e1,by simpa using e2⟩)
  refine go _ _ ?_ all;unfold jw;rw[aaA,hl,hlen]
 refine wpAny_bind (wpAny_newList ?_ (by rw[hl,<-hlen,sizeLine_eq];omega));have KD:(h'.push (seqObj "list" acc.toList.toArray 0)).get? h'.objs.size=some (seqObj "list" acc.toList.toArray 0):=Heap.get?_push_size _ rfl;have I1:Inv X pins σ H {s with heap:=h',toks:=tk}:=I.kept (t':=tk) hk;refine wpAny_bind (wpAny_holding (wpAny_call_entry slot_list_sort ⟨_,KD,rfl⟩ entry_list_sort (list_sort_tree KD hI (by omega) λout Le a1 a2 a3=>⟨_,rfl,?_⟩) (args_list_sort _)));obtain rfl:=Nm.sN a2 a3;obtain⟨e,he⟩:=sortedHeap_at (out:=out) KD;have fr:=I1.cj.fresh (a:=h'.objs.size) (aaC _);refine wpAny_pure ⟨_,rfl,.ref h'.objs.size,_,I1.laid (t':=tk) (λb o eb=>?_) (aaC _) (o:=.lst (List.map V.int (Nm.o7 (jw kvs)))) ⟨?_,out.toList,e,hU a1,?_⟩,rfl,q _ fr⟩
 ·rw[sortedHeap_old (aaN (Heap.lt_size eb)) (by rw[Heap.size_push];exact abv (Heap.lt_size eb))];exact Heap.get?_push_of_some _ eb
 ·rw[aaA,Nm.hJ,sizeLine_eq];unfold jw;rw[aaA];omega
 ·exact he
end
section
variable {X : Cx} {pins : List (Addr × Obj)} {σ : St} {H : Hp} {s : Shared}
end
noncomputable def Itd (d:Addr) (o:Obj) (kvs:List (Key×V)):It:=
 ⟨λi H=>H d=some (.uE o (.dK kvs))/\i<kvs.length,λi H x H'=>H'=H/\∃p,kvs[i]?=some p/\x=kV p.1,λi H=>H d=some (.uE o (.dK kvs))/\i=kvs.length⟩
section
variable {X : Cx} {x : Str} {aaq : Pos}
end
open PySem PySem.Spec PyProof.Rows PySem.W
section
variable {X : Cx} {K : PySem.W.Frag}
theorem bw {tg l:Expr} {tl:TE} (hl:PE X l tl) (hK:X.K=K:=by rfl):PI X tg l (iList K tl):=by subst hK;exact DQ hl
theorem yt {tg l:Expr} {tl:TE} (hl:PE X l tl) (hK:X.K=K:=by rfl):PI X tg l (iTup K tl):=by subst hK;exact Hu hl
theorem qp {elts:List Expr} {kk:Nat} {iH:Pos} {a:Expr} {ta:TA} {p pos:Pos} (hg:Gl X "enumerate") (hm:X.mg "enumerate"=none) (ha:PA X [a] ta) (n1:noStar a=true:=by rfl) (hK:X.K=K:=by rfl):
  PI X (.Tuple elts kk iH) (.Call (.Name "enumerate" p) [a] [] pos) (iEnum K ta):=by subst hK;exact sM hg hm ha (by rw[se n1];rfl)
theorem dU {es:List Expr} {k:Nat} {t:FL} {n:Nat} {pos:Pos} (hc:X.calm=true) (h:JZ X es t) (hn:(assignEach es X.env).length=n:=by rfl) (qV:(assignEach es X.env).findIdx? (·.1)=none:=by rfl) (hK:X.K=K:=by rfl):PG X (.Tuple es k pos) (zF K n t):=by
 subst hK;exact Ht hc h hn qV
theorem rF (hK:X.K=K:=by rfl):DA X (D9 K):=by subst hK;exact Bm
theorem jZ (hK:X.K=K:=by rfl):cq X (.builtin "len") (λxs H Q=>∃p ns,xs=[.ref p]/\bG K H p (List.map V.int ns)/\Q (.int (List.length ns:Nat)) H):=by subst hK;exact zZ
theorem xh (hK:X.K=K:=by rfl):gH X (compareOp .In) (Bb K false):=by subst hK;exact rk
theorem qq (hK:X.K=K:=by rfl):gH X (compareOp .NotIn) (Bb K true):=by subst hK;exact g5
theorem cR (hK:X.K=K:=by rfl):cq X (.builtin "isinstance") (λxs H Q=>∃x c t b,xs=[x,.ty c]/\gZ K H x t/\PySem.W.kitOne K t (.type c)=some b/\Q (.bl b) H):=by subst hK;exact Bn
theorem iM (hc:X.calm=true:=by rfl) (hK:X.K=K:=by rfl):cq X (.builtin "sum") (λxs H Q=>∃p ns,xs=[.ref p]/\bG K H p (List.map V.int ns)/\Q (.int ns.sum) H):=by subst hK;exact xf hc
theorem o9 (hK:X.K=K:=by rfl):cq X (.builtin "sorted") (λxs H Q=>∃p ns,xs=[.ref p]/\bG K H p (List.map V.int ns)/\ns.length<64/\∀l,H l=none->Q (.ref l) (upd H l (.lst (List.map V.int (Nm.o7 ns))))):=by subst hK;exact qm
theorem pb (hc:X.calm=true:=by rfl):cq X (.builtin "sorted") (λxs H Q=>∃d kvs,xs=[.ref d]/\Rd H d (.dK kvs)/\allI kvs/\kvs.length<64/\∀l,H l=none->Q (.ref l) (upd H l (.lst (List.map V.int (Nm.o7 (jw kvs)))))):=qo hc
theorem cE (hK:X.K=K:=by rfl):KP X (rSlL K):=by subst hK;exact D1
theorem HG.r {id:String} {r:V->List V->Hp->VK->Prop} (h:HG X id r):DB X id r:=h
end
end L2
namespace Nm
abbrev Ws:=List (Int×Int)
noncomputable def keys (ws:Ws):List Int:=ws.map (·.1)
noncomputable def look:Ws->Int->Int
 | [],_=>0
 | p::r,k=>if p.1=k then p.2 else look r k
noncomputable def put:Ws->Int->Int->Ws
 | [],k,v=>[(k,v)]
 | p::r,k,v=>if p.1=k then (k,v)::r else p::put r k v
noncomputable def pe (ws:Ws):Int:=(ws.map (·.2)).sum
noncomputable def jk (ws:Ws) (k x:Int):Ws:=put ws k (look ws k+x)
noncomputable def cX (ws ps:Ws):Ws:=ps.foldl (λacc p=>jk acc p.1 p.2) ws
noncomputable def cnt (ps:Ws) (s:Int):Int:=(ps.map λp=>if p.1=s then p.2 else 0).sum
set_option tactic.hygienic true in
theorem u5:∀(ws:Ws) (k v j:Int),look (put ws k v) j=if k=j then v else look ws j
 | [],k,v,j=>by simp [put,look]
 | p::r,k,v,j=>by
  unfold put
  split
  ·rename_i c
   simp only[look]
   by_cases e:k=j
   ·simp [e]
   ·rw[if_neg e,if_neg e,if_neg (by omega)]
  ·rename_i c
   simp only[look]
   by_cases e:p.1=j
   ·rw[if_pos e,if_neg (by omega),if_pos e]
   ·rw[if_neg e,if_neg e];exact u5 r k v j
set_option tactic.hygienic true in
theorem yu {ws:Ws} {k v j:Int}:j∈keys (put ws k v)↔j=k\/j∈keys ws:=by
 induction ws with
 | nil=>simp [put,keys]
 | cons p r ih=>
  unfold put
  split
  ·rename_i c
   simp only[keys,aaI,aaD];rw[c];constructor
   ·intro h;exact .inr h
   ·rintro(h | h)
    ·exact .inl h
    ·exact h
  ·simp only[keys,aaI,aaD] at ih ⊢;rw[ih];constructor
   ·rintro(h | h | h)
    ·exact .inr (.inl h)
    ·exact .inl h
    ·exact .inr (.inr h)
   ·rintro(h | h | h)
    ·exact .inr (.inl h)
    ·exact .inl h
    ·exact .inr (.inr h)
set_option tactic.hygienic true in
theorem Ae {ws:Ws} (k v:Int) (h:(keys ws).Nodup):(keys (put ws k v)).Nodup:=by
 induction ws with
 | nil=>simp [put,keys]
 | cons p r ih=>
  have h':p.1∉keys r/\(keys r).Nodup:=by simpa [keys] using h
  unfold put
  split
  ·rename_i c
   have:k∉keys r/\(keys r).Nodup:=by rw[<-c];exact h'
   simpa [keys] using this
  ·rename_i c
   have i:=ih h'.2;have n:p.1∉keys (put r k v):=λz=>by
    rcases yu.mp z with z | z
    ·exact c z
    ·exact h'.1 z
   have:p.1∉keys (put r k v)/\(keys (put r k v)).Nodup:=⟨n,i⟩
   simpa [keys] using this
theorem u6:∀(ws:Ws) (k x:Int),pe (jk ws k x)=pe ws+x
 | [],k,x=>by simp [jk,put,look,pe]
 | p::r,k,x=>by
  have ih:=u6 r k x;unfold jk pe at *;unfold put look
  by_cases c:p.1=k
  ·rw[if_pos c,if_pos c];simp only[aaI,abj];omega
  ·rw[if_neg c,if_neg c];simp only[aaI,abj];omega
theorem Ep (ws:Ws) (k v:Int):(put ws k v).length<=ws.length+1:=by
 induction ws with
 | nil=>simp [put]
 | cons p r ih=>
  unfold put
  split
  ·simp
  ·simp only[aaL];omega
theorem nI:∀(ps ws:Ws) (s:Int),look (cX ws ps) s=look ws s+cnt ps s
 | [],ws,s=>by simp [cX,cnt]
 | p::r,ws,s=>by
  have ih:=nI r (jk ws p.1 p.2) s;show look (cX (jk ws p.1 p.2) r) s=_;rw[ih];unfold jk cnt;rw[u5];simp only[aaI,abj]
  by_cases c:p.1=s
  ·rw[if_pos c,if_pos c,c];omega
  ·rw[if_neg c,if_neg c];omega
theorem j2 {s:Int}:∀{ps ws:Ws},s∈keys (cX ws ps)↔s∈keys ws\/s∈keys ps
 | [],ws=>by simp [cX,keys]
 | p::r,ws=>by
  show s∈keys (cX (jk ws p.1 p.2) r)↔_;rw[j2];unfold jk;rw[yu];simp only[keys,aaI,aaD];constructor
  ·rintro((h | h) | h)
   ·exact .inr (.inl h)
   ·exact .inl h
   ·exact .inr (.inr h)
  ·rintro(h | h | h)
   ·exact .inl (.inr h)
   ·exact .inl (.inl h)
   ·exact .inr h
theorem kK:∀{ps ws:Ws},(keys ws).Nodup->(keys (cX ws ps)).Nodup
 | [],_,h=>h
 | p::r,ws,h=>by
  show(keys (cX (jk ws p.1 p.2) r)).Nodup;exact kK (Ae _ _ h)
theorem pj:∀(ps ws:Ws),pe (cX ws ps)=pe ws+pe ps
 | [],ws=>by simp [cX,pe]
 | p::r,ws=>by
  show pe (cX (jk ws p.1 p.2) r)=_;rw[pj,u6];unfold pe;simp only[aaI,abj];omega
theorem pk:∀(ps ws:Ws),(cX ws ps).length<=ws.length+ps.length
 | [],ws=>by simp [cX]
 | p::r,ws=>by
  have h:=pk r (jk ws p.1 p.2);have h2:=Ep ws p.1 (look ws p.1+p.2);show(cX (jk ws p.1 p.2) r).length<=_;unfold jk at *;simp only[aaL];omega
structure Over (as ws:Ws) (B T:Int):Prop where
 nd:(keys ws).Nodup
 perm:(keys as).Perm (keys ws)
 val:∀k∈keys ws,look as k*T=look ws k*B
theorem BC {ws:Ws} {p:Int×Int} (h:(keys ws).Nodup) (hp:p∈ws):look ws p.1=p.2:=by
 induction ws with
 | nil=>cases hp
 | cons q r ih=>
  have h':q.1∉keys r/\(keys r).Nodup:=by simpa [keys] using h
  unfold look;rcases List.mem_cons.mp hp with rfl | hp
  ·rw[if_pos rfl]
  ·rw[if_neg (λz=>h'.1 (by rw[z];exact List.mem_map.mpr ⟨p,hp,rfl⟩))];exact ih h'.2 hp
noncomputable def rowsOf (ws:Ws) (B:Int):List (Int×Int×Int):=(o7 (keys ws)).map λv=>(v,st (look ws v) B,sb (look ws v) B)
theorem qr (ws p q:Ws):cX ws (p++q)=cX (cX ws p) q:=by
 unfold cX;rw[List.foldl_append]
theorem u7 (ws p:Ws) (k x:Int):cX ws (p++ [(k,x)])=jk (cX ws p) k x:=by
 rw[qr];rfl
theorem yv:∀{l:List Int},0<l.length->(∀x∈l,0<x)->0<l.sum
 | [],h,_=>by simp at h
 | x::r,_,h=>by
  have hx:=h x aaK;rw[abj]
  by_cases c:0<r.length
  ·have:=yv c λy hy=>h y (aaJ _ hy);omega
  ·have:r=[]:=List.eq_nil_of_length_eq_zero (by omega);subst this
   simpa using hx
theorem Ii {ws:Ws} (nd:(keys ws).Nodup) {P:Int->Prop} (h:∀k∈keys ws,P (look ws k)):∀x∈ws.map (·.2),P x:=λx hx=>by
 obtain⟨p,hp,rfl⟩:=List.mem_map.mp hx;have:=h p.1 (List.mem_map.mpr ⟨p,hp,rfl⟩)
 rwa [BC nd hp] at this
theorem Er {ws:Ws} (h:0<ws.length) (nd:(keys ws).Nodup) (w:∀k∈keys ws,0<look ws k):0<pe ws:=
 yv (by rw[aaA];exact h) (Ii nd w)
theorem Ij {ps:Ws} (h:∀p∈ps,0<p.2) (s:Int):0<=cnt ps s:=by
 induction ps with
 | nil=>simp [cnt]
 | cons p r ih=>
  have i:=ih λq hq=>h q (aaJ _ hq);have hp:=h p aaK;unfold cnt at *;rw[aaI,abj]
  split <;>omega
theorem oA {ps:Ws} (h:∀p∈ps,0<p.2) {s:Int} (hs:s∈keys ps):0<cnt ps s:=by
 induction ps with
 | nil=>simp [keys] at hs
 | cons p r ih=>
  have h':∀q∈r,0<q.2:=λq hq=>h q (aaJ _ hq);have hp:=h p aaK;have n:=Ij h' s;have e:cnt (p::r) s=(if p.1=s then p.2 else 0)+cnt r s:=by unfold cnt;rw[aaI,abj]
  rw[e]
  by_cases c:p.1=s
  ·rw[if_pos c];omega
  ·rw[if_neg c];have Lb:s∈keys r:=by
    unfold keys at hs ⊢;rw[aaI] at hs;rcases List.mem_cons.mp hs with z | z
    ·exact absurd z.symm c
    ·exact z
   have:=ih h' Lb;omega
end Nm
namespace L2
open PySem PySem.Spec PyProof.Rows
noncomputable def enc (ws:Nm.Ws):List (Key×V):=ws.map λp=>(Sum.inl p.1,V.int p.2)
theorem sO (ws:Nm.Ws):(enc ws).length=ws.length:=by unfold enc;rw[aaA]
theorem Af (ws:Nm.Ws):jw (enc ws)=Nm.keys ws:=by
 unfold jw enc Nm.keys;rw[abb];rfl
theorem BD (ws:Nm.Ws):allI (enc ws):=λp hp=>by
 unfold enc at hp;obtain⟨q,_,rfl⟩:=List.mem_map.mp hp;exact⟨q.1,rfl⟩
theorem yw (ws:Nm.Ws) (k:Int):kG (enc ws) (Sum.inl k)=if k∈Nm.keys ws then some (.int (Nm.look ws k)) else none:=by
 induction ws with
 | nil=>simp [enc,kG,Nm.keys]
 | cons p r ih=>
  unfold kG at *;unfold enc at *;rw[aaI,List.find?_cons];unfold Nm.look
  by_cases c:p.1=k
  ·rw[show decide ((Sum.inl p.1:Key)=Sum.inl k)=true by rw[c];simp];simp [Nm.keys,c]
  ·rw[show decide ((Sum.inl p.1:Key)=Sum.inl k)=false by simpa using c];simp only[ih];have e:(k∈Nm.keys (p::r))=(k∈Nm.keys r):=by
    unfold Nm.keys;rw[aaI,aaD];apply propext;constructor
    ·rintro(h | h)
     ·exact absurd h.symm c
     ·exact h
    ·exact .inr
   simp only[e,if_neg c]
theorem Es {ws:Nm.Ws} (nd:(Nm.keys ws).Nodup) (k v:Int):putK (enc ws) (Sum.inl k) (.int v)=enc (Nm.put ws k v):=by
 have key:∀{ws:Nm.Ws},k∉Nm.keys ws->(enc ws).map (λkv=>if kv.1=(Sum.inl k:Key) then (kv.1,V.int v) else kv)=enc ws:=by
  intro ws h;unfold enc;rw[abb];apply List.map_congr_left;intro p hp;have:p.1≠k:=λz=>h (by rw[<-z];exact List.mem_map.mpr ⟨p,hp,rfl⟩);simp [this]
 have any:∀ws:Nm.Ws,((enc ws).any λkv=>decide (kv.1=(Sum.inl k:Key)))=decide (k∈Nm.keys ws):=by
  intro ws
  induction ws with
  | nil=>simp [enc,Nm.keys]
  | cons p r ih=>
   unfold enc at *;rw[aaI,List.any_cons,ih];unfold Nm.keys;rw[aaI]
   by_cases c:p.1=k
   ·simp [c]
   ·have c2:¬k=p.1:=λz=>c z.symm;simp [c,c2]
 unfold putK;rw[any];clear any
 by_cases c:k∈Nm.keys ws
 ·rw[if_pos (by simpa using c)]
  induction ws with
  | nil=>simp [Nm.keys] at c
  | cons p r ih=>
   have h':p.1∉Nm.keys r/\(Nm.keys r).Nodup:=by simpa [Nm.keys] using nd
   unfold Nm.put
   by_cases e:p.1=k
   ·rw[if_pos e];have:=key (ws:=r) (by rw[<-e];exact h'.1);unfold enc at *;rw[aaI,aaI,this,aaI];simp [e]
   ·rw[if_neg e];have c':k∈Nm.keys r:=by
     unfold Nm.keys at c ⊢;rw[aaI] at c;rcases List.mem_cons.mp c with z | z
     ·exact absurd z.symm e
     ·exact z
    have:=ih h'.2 c';unfold enc at *;rw[aaI,aaI,this,aaI];simp [e]
 ·rw[if_neg (by simpa using c)]
  induction ws with
  | nil=>simp [enc,Nm.put]
  | cons p r ih=>
   have h':p.1∉Nm.keys r/\(Nm.keys r).Nodup:=by simpa [Nm.keys] using nd
   have e:¬p.1=k:=λz=>c (by unfold Nm.keys;rw[aaI,z];exact aaK);have c':k∉Nm.keys r:=λz=>c (by unfold Nm.keys at *;rw[aaI];exact aaJ _ z);unfold Nm.put;rw[if_neg e];have:=ih h'.2 c';unfold enc at *;rw[aaI,abw,this,aaI]
theorem Et {H:Hp} {d:Addr} {ws:Nm.Ws} {v:Int} (h:Rd H d (.dK (enc ws))) (hv:v∈Nm.keys ws):oZ H d (.int v) (some (.int (Nm.look ws v))):=
 .inl ⟨_,Sum.inl v,h,rfl,by rw[yw,if_pos hv]⟩
theorem BE {H:Hp} {d:Addr} {ws:Nm.Ws} {v:Int} (h:H d=some (.dK (enc ws))) (hv:v∈Nm.keys ws):oZ H d (.int v) (some (.int (Nm.look ws v))):=Et (.inl h) hv
theorem BF {ws:Nm.Ws} {v:Int} (h:v∉Nm.keys ws):Nm.look ws v=0:=by
 induction ws with
 | nil=>rfl
 | cons p r ih=>
  unfold Nm.keys at h;rw[aaI] at h;unfold Nm.look;rw[if_neg (λz=>h (by rw[z];exact aaK))];exact ih λz=>h (aaJ _ z)
theorem Ag {H:Hp} {d:Addr} {ws:Nm.Ws} (v:Int) (h:Rd H d (.dK (enc ws))):∃o,oZ H d (.int v) o/\o.getD (.int 0)=.int (Nm.look ws v):=by
 refine⟨_,.inl ⟨_,Sum.inl v,h,rfl,rfl⟩,?_⟩;rw[yw]
 by_cases c:v∈Nm.keys ws
 ·rw[if_pos c];rfl
 ·rw[if_neg c,BF c];rfl
theorem BG {H:Hp} {d:Addr} {ws:Nm.Ws} (v x:Int) (h:H d=some (.dK (enc ws))) (nd:(Nm.keys ws).Nodup) (hl:ws.length<sizeLine):zS H d (.int v) (.int x) (upd H d (.dK (enc (Nm.put ws v x)))):=by
 have:=zS.k (k:=Sum.inl v) (v:=.int x) h (by rw[sO];exact hl);rw[Es nd] at this;exact this
noncomputable def Eu (r:Int×Int×Int):Dat:=.tup [.int r.1,.tup [.int r.2.1,.int r.2.2]]
noncomputable def BH (rows:List (Int×Int×Int)):Dat:=.lst (rows.map Eu)
noncomputable def yx (p:Int×Int):Dat:=.tup [.int p.1,.int p.2]
noncomputable def BI (ws:Nm.Ws):Dat:=.lst (ws.map yx)
theorem yy {H:Hp} {r:Int×Int×Int} {v:V}:Rep H (Eu r) v↔∃p q,v=.ref p/\H p=some (.tup [.int r.1,.ref q])/\H q=some (.tup [.int r.2.1,.int r.2.2]):=by
 unfold Eu;simp only[Rep,bj];constructor
 ·rintro⟨p,vs,rfl,hp,a,b,rfl,rfl,c,d,rfl,⟨q,us,rfl,hq,e,f,rfl,rfl,g,h,rfl,rfl,rfl⟩,rfl⟩;exact⟨p,q,rfl,hp,hq⟩
 ·rintro⟨p,q,rfl,hp,hq⟩;exact⟨p,_,rfl,hp,_,_,rfl,rfl,_,_,rfl,⟨q,_,rfl,hq,_,_,rfl,rfl,_,_,rfl,rfl,rfl⟩,rfl⟩
theorem u9 {H:Hp} {r:Int×Int} {v:V}:Rep H (yx r) v↔∃p,v=.ref p/\H p=some (.tup [.int r.1,.int r.2]):=by
 unfold yx;simp only[Rep,bj];constructor
 ·rintro⟨p,vs,rfl,hp,a,b,rfl,rfl,c,d,rfl,rfl,rfl⟩;exact⟨p,rfl,hp⟩
 ·rintro⟨p,rfl,hp⟩;exact⟨p,_,rfl,hp,_,_,rfl,rfl,_,_,rfl,rfl,rfl⟩
theorem bU {H:Hp} {ds:List Dat} {v:V}:Rep H (.lst ds) v↔∃p vs,v=.ref p/\H p=some (.lst vs)/\bj H ds vs:=by rw[Rep]
noncomputable def Sqs (H H':Hp):Prop:=∀p xs,(H p=some (.tup xs)->H' p=some (.tup xs))/\(H p=some (.lst xs)->H' p=some (.lst xs))
mutual
theorem Rep.Lf {H H':Hp} (s:Sqs H H'):∀{d:Dat} {v:V},Rep H d v->Rep H' d v
 | .c6,_,h=>by rw[Rep] at *;exact h
 | .bl _,_,h=>by rw[Rep] at *;exact h
 | .int _,_,h=>by rw[Rep] at *;exact h
 | .str _,_,h=>by rw[Rep] at *;exact h
 | .tup _,_,h=>by
  rw[Rep] at *;obtain⟨p,vs,e,hp,r⟩:=h;exact⟨p,vs,e,(s _ _).1 hp,bj.Lf s r⟩
 | .lst _,_,h=>by
  rw[Rep] at *;obtain⟨p,vs,e,hp,r⟩:=h;exact⟨p,vs,e,(s _ _).2 hp,bj.Lf s r⟩
theorem bj.Lf {H H':Hp} (s:Sqs H H'):∀{ds:List Dat} {vs:List V},bj H ds vs->bj H' ds vs
 | [],_,h=>by rw[bj] at *;exact h
 | _::_,_,h=>by
  rw[bj] at *;obtain⟨v,r,e,h1,h2⟩:=h;exact⟨v,r,e,Rep.Lf s h1,bj.Lf s h2⟩
end
theorem none_of {H H':Hp} (s:aq H H') {p:Addr} (h:H' p=none):H p=none:=by
 cases e:H p with
 | none=>rfl
 | some o=>rw[s p o e] at h;cases h
end L2
namespace Nm
end Nm
namespace L2
open PySem PySem.Spec PyProof.Rows
theorem Ah {α:Type} {J:It} {tc:TT} {te:TE} {tl:St} {H1:Hp} {fin:List V->Hp->Prop} {Item:Nat->V->Hp->Hp->Prop} (as:List α) (f:α->Option Int) (S:Src J (aq H1) as.length Item) (sub:∀i x H H3,Item i x H H3->H3=H) (hz:as.length<=sizeLine)
  (hs:∀i a x,as[i]?=some a->Item i x H1 H1->∀(Y:VK) (N:Hp->Prop),(∀z,f a=some z->Y (.int z) H1)->(f a=none->N H1)->tc (some x::tl) H1 λb H5=>if b=true then te (some x::tl) H5 Y else N H5)
  (mE:fin (List.map V.int (as.filterMap f)) H1):gz J (gName 0) tc te (none::tl) H1 fin:=by
 refine rE S (λσ=>∃w0,σ=w0::tl) ⟨_,rfl⟩ (λi ys H=>H=H1/\ys=List.map V.int ((as.take i).filterMap f)) ⟨rfl,by simp⟩ hz ?_ ?_
 ·rintro i x σ H ys H3 Q N hi sm ⟨rfl,rfl⟩ hl ⟨w0,rfl⟩ it kq kn;obtain rfl:=sub _ _ _ _ it;have ea:as[i]?=some as[i]:=aaW hi;refine hs i _ x ea it _ _ (λz e=>kq _ _ _ ⟨_,rfl⟩ sm ⟨rfl,?_⟩) (λe=>kn _ _ ⟨_,rfl⟩ sm ⟨rfl,?_⟩)
  ·rw[aa4,ea,List.filterMap_append,aaM];simp [e]
  ·rw[aa4,ea,List.filterMap_append,aaM];simp [e]
 ·rintro ys H sm ⟨rfl,rfl⟩ hl;rw[aaT (aaC _)];exact mE
open PySem PySem.Spec PyProof.Rows PySem.W
section
variable {X : Cx} {K : PySem.W.Frag}
theorem va:∀{us:List Value} {bs:List Bool},bS (bs.map V.bl) us->LSm.BoolsAre us bs
 | _,[],.nil=>.nil
 | _,b::bs,.cons r t=>by
  have e:_=Value.bool b:=r;subst e;exact .cons b (va t)
theorem xi (hc:X.calm=true):cq X (.builtin "all") (λxs H Q=>∃p bs,xs=[.ref p]/\bG X.K H p (List.map V.bl bs)/\Q (.bl (bs.all id)) H):=by
 intro pins s σ H xs us Q I r h;obtain⟨p,bs,rfl,hq,q⟩:=h;obtain⟨u,rfl,rx⟩:=vals1 r;cases rx;obtain⟨bI,rv,pl,hz⟩:=I.list hq;have hb:=va rv;have hl:=pl.isList;have gG:p<s.heap.objs.size:=by obtain⟨_,e,_⟩:=hl;exact Heap.lt_size e
 refine call_all_walk (wpAny_pyIter_list hl ?_);refine⟨s.heap.objs.size,[s.heap.objs.size,p],[s.heap.objs.size],bI.toArray.size,_,_,λi=>(bs[i]?).getD true,rfl,Walks.list (A:=X.A.in1) (I.ok.hd hc) _ p (aaN gG) bI.toArray,
  ⟨⟨_,Heap.get?_push_size _ rfl,rfl,rfl⟩,hl.push _⟩,λi v s' Q' E' hP hQ=>?_,λh' tk hk=>?_⟩
 ·obtain⟨b,e,rfl⟩:=hb.get i v (by simpa using hP);simp only[e,Option.getD_some] at hQ;exact wpAny_truthy_bool hQ
 ·have e:((List.range bI.toArray.size).all λi=>(bs[i]?).getD true)=bs.all id:=by
   rw[aaU,hb.length];exact LSm.range_all bs
  rw[e];exact⟨.bl _,H,I.kept (t':=tk) (LSm.kept_iter hk),rfl,q⟩
theorem fS (hc:X.calm=true:=by rfl) (hK:X.K=K:=by rfl):cq X (.builtin "all") (λxs H Q=>∃p bs,xs=[.ref p]/\bG K H p (List.map V.bl bs)/\Q (.bl (bs.all id)) H):=by subst hK;exact xi hc
theorem Ik {as:List (Key×V)} {bs:List (Key×Value)} (r:KV as bs):∀(j:Nat) {b},bs[j]?=some b->∃a,as[j]?=some a/\RelV a.2 b.2:=by
 induction r with
 | nil=>intro j b e;simp at e
 | cons r1 r2 ih=>
  intro j b e;cases j with
  | zero=>simp at e;subst e;exact⟨_,rfl,r1.2⟩
  | succ j=>simp at e;obtain⟨a,e1,e2⟩:=ih j e;exact⟨a,by simpa using e1,e2⟩
theorem vc (ns:List Int):preSum (λi=>ns.getD i 0) ns.length=ns.sum:=by
 have e:=preSum_eq (ns.map λn=>(n,(0:Nat))).toArray ns.length;have f:(λi=>ns.getD i 0)=numAt (ns.map λn=>(n,(0:Nat))).toArray:=by
  funext i;unfold numAt;simp only[List.getElem?_toArray,aaG,List.getD_eq_getElem?_getD];cases ns[i]? <;>rfl
 rw[f];refine e.trans ?_;rw[aaT (by simp)];congr 1;simp [Function.comp_def]
noncomputable def tSumV (to:TE):TE:=λσ H Q=>to σ H λv H1=>∃d kvs ns,v=.ref d/\H1 d=some (.dK kvs)/\kvs.map (·.2)=List.map V.int ns/\Q (.int ns.sum) H1
theorem xj {o:Expr} {to:TE} {p apos c9 pos:Pos} (hc:X.calm=true) (hg:Gl X "sum") (hm:X.mg "sum"=none) (ho:PE X o to)
  (oQ:attributeBase o "values" X.env (eval o X.env)=eval o X.env:=by rfl) (oR:(apos.endLine==c9.line)=true:=by rfl)
  (he:starEach [Expr.Call (.Attribute o "values" apos) [] [] c9] X.env=[(false,eval (.Call (.Attribute o "values" apos) [] [] c9) X.env)]:=by rfl):
  PE X (.Call (.Name "sum" p) [.Call (.Attribute o "values" apos) [] [] c9] [] pos) (tSumV to):=by
 intro pins s σ H Q I h;refine wpAny_Call_Name_kw (iE I hg hm (u:=.builtin "sum") rfl ?_ (by decide) (by decide));rw[he];refine PySem.callWith_builtin1 ?_;refine wpAny_Call_method0_late oQ oR (cW (ho pins s σ H _ I h) λv s1 eG=>?_);obtain⟨x,H1,I1,r1,q1⟩:=eG;obtain⟨d,kvs,ns,rfl,hd,hv,q⟩:=q1;obtain⟨h1,h2⟩:=wO (T:="dict") I1 r1 (.inr (.inr (.inl ⟨rfl,.inl ⟨_,hd⟩⟩)));cases r1;obtain⟨hz,lo,vs,kv,dd⟩:=Bg I1.cj hd;have hlen:kvs.length=vs.length:=Paired.length kv;refine⟨"dict","dict.values",PySem.F.plainAttrs_dict,PySem.F.slot_dict_values,PySem.F.type_dict_values,h1,h2,Calls.callWith_builtin rfl (PySem.evalArgs_none ?_)⟩;refine call_meetsIn PySem.F.slot_dict_values dd.typeIs PySem.F.entry_dict_values (PySem.F.args_dict_values_1 _) (meets_dict_values _ d lo) ⟨⟨vs,dd⟩,?_⟩;have I2:Inv X pins σ H1 {s1 with heap:=s1.heap.push {cls:=.type "dict_values",data:=.fields #[.ref d]}}:=I1.kept (t':=s1.toks) λb o e=>Heap.get?_push_of_some _ e;obtain⟨hz,lo,vs,kv,dd⟩:=Bg I2.cj hd;have hlen:kvs.length=vs.length:=Paired.length kv;obtain⟨ep,Ac⟩:=dd.dictAt;have hn:ns.length=vs.length:=by
  have:=congrArg List.length hv;rw[aaA,aaA] at this;omega
 have Ks:=kdl_values (prog:=X.prog) (w:=X.w) (r:=s1.heap.objs.size) (d:=d) (knd:=cG X.prog X.w) (kvs:=vs) (ep:=ep);have cj:({s1 with heap:=s1.heap.push {cls:=.type "dict_values",data:=.fields #[.ref d]}}:Shared).heap.IsValuesView s1.heap.objs.size d/\({s1 with heap:=s1.heap.push {cls:=.type "dict_values",data:=.fields #[.ref d]}}:Shared).heap.DictAt (cG X.prog X.w) d vs ep:=⟨⟨_,Heap.get?_push_size _ rfl,rfl,rfl⟩,Ac⟩
 refine call_sum_walkAnyS ?_;obtain⟨oI,St,hit,W,st⟩:=Ks.iter X.A.in1 _ (I.ok.hd hc) cj;refine hit _ _ ⟨_,_,_,_,vs.length,_,_,λi=>ns.getD i 0,rfl,W.toS,st,λb hb=>?_,λi v hP=>?_,λs' t' NZ=>?_⟩
 ·show b< (Heap.push _ oI).objs.size;rw[size_push'];rcases List.mem_cons.mp hb with e | hb
  ·rw[e];exact abu _
  ·rw[List.mem_singleton.mp hb];exact abv (Ks.there _ cj).2
 ·obtain⟨k,e⟩:=hP;obtain⟨a,e1,e2⟩:=Ik kv i e;have e3:(kvs.map (·.2))[i]?=some a.2:=by rw[aaG,e1];rfl
  rw[hv,aaG] at e3;obtain⟨n,en,ea⟩:=Option.map_eq_some_iff.mp e3;rw[<-ea] at e2;obtain⟨t,e2⟩:=e2;refine⟨t,?_⟩;show v=Value.int (ns.getD i 0) t;rw[List.getD_eq_getElem?_getD,en];exact e2
 ·have hk:∀b o,(s1.heap.push {cls:=.type "dict_values",data:=.fields #[.ref d]}).get? b=some o->s'.heap.get? b=some o:=λb o e=>
   NZ.heap b o (λhI=>absurd (Heap.lt_size e) (by rw[List.mem_singleton.mp hI];exact aba _)) (Heap.get?_push_of_some _ e)
  rw[Moved.eq_with NZ,<-hn,vc];exact⟨.int ns.sum,H1,I2.kept (t':=s'.toks) hk,⟨t',rfl⟩,q⟩
theorem dM {α:Type} {J:It} {tc:TT} {te:TE} {tl:St} {H1:Hp} {fin:List V->Hp->Prop} {Item:Nat->V->Hp->Hp->Prop} (as:List α) (f:α->Option V) (S:Src J (aq H1) as.length Item) (sub:∀i x H H3,Item i x H H3->H3=H) (hz:as.length<=sizeLine)
  (hs:∀i a x,as[i]?=some a->Item i x H1 H1->∀(Y:VK) (N:Hp->Prop),(∀z,f a=some z->Y z H1)->(f a=none->N H1)->tc (some x::tl) H1 λb H5=>if b=true then te (some x::tl) H5 Y else N H5)
  (mE:fin (as.filterMap f) H1):gz J (gName 0) tc te (none::tl) H1 fin:=by
 refine rE S (λσ=>∃w0,σ=w0::tl) ⟨_,rfl⟩ (λi ys H=>H=H1/\ys=(as.take i).filterMap f) ⟨rfl,by simp⟩ hz ?_ ?_
 ·rintro i x σ H ys H3 Q N hi sm ⟨rfl,rfl⟩ hl ⟨w0,rfl⟩ it kq kn;obtain rfl:=sub _ _ _ _ it;have ea:as[i]?=some as[i]:=aaW hi;refine hs i _ x ea it _ _ (λz e=>kq _ _ _ ⟨_,rfl⟩ sm ⟨rfl,?_⟩) (λe=>kn _ _ ⟨_,rfl⟩ sm ⟨rfl,?_⟩)
  ·rw[aa4,ea,List.filterMap_append];simp [e]
  ·rw[aa4,ea,List.filterMap_append];simp [e]
 ·rintro ys H sm ⟨rfl,rfl⟩ hl;rw[aaT (aaC _)];exact mE
theorem br {a b:TS} {D:Ends} {σ:St} {H:Hp} (C:St->Hp->Prop) (ha:∀N:St->Hp->Prop,(∀σ' H',C σ' H'->N σ' H')->a {D with nx:=N} σ H) (hb:∀σ' H',C σ' H'->b D σ' H'):tSeq a b D σ H:=ha _ hb
theorem hV {tc:TT} {a b:TS} {D:Ends} {σ:St} {H:Hp} (C1 C2:Hp->Prop) (h1:∀H',C1 H'->a D σ H') (h2:∀H',C2 H'->b D σ H')
  (ht:∀Y N:Hp->Prop,(∀H',C1 H'->Y H')->(∀H',C2 H'->N H')->tc σ H λv H'=>if v=true then Y H' else N H'):tIfS tc a b D σ H:=ht _ _ h1 h2
end
end L2
namespace Nm
noncomputable def pos (ps:Ws):Ws:=ps.filter λp=>decide (0<p.2)
noncomputable def j3 (ps:Ws):Ws:=cX [] (pos ps)
noncomputable def bad (ps:Ws):Prop:=(∃p∈ps,p.2<0)\/pos ps=[]
theorem BJ (ps:Ws) (p:Int×Int):pos (ps++ [p])=if 0<p.2 then pos ps++ [p] else pos ps:=by
 unfold pos;rw[List.filter_append]
 by_cases c:0<p.2
 ·rw[if_pos c];simp [c]
 ·rw[if_neg c];simp [c]
theorem BK (ps:Ws) (p:Int×Int):j3 (ps++ [p])=if 0<p.2 then jk (j3 ps) p.1 p.2 else j3 ps:=by
 unfold j3;rw[BJ]
 split
 ·rw[u7]
 ·rfl
theorem mG (ps:Ws):(keys (j3 ps)).Nodup:=kK (by simp [keys])
theorem yz (ps:Ws):(j3 ps).length<=ps.length:=by
 have:=pk (pos ps) [];have h2:(pos ps).length<=ps.length:=List.length_filter_le _ _;unfold j3;simp only[aa5] at this;omega
theorem yA {ps:Ws}:j3 ps=[]↔pos ps=[]:=by
 constructor
 ·intro h;cases e:pos ps with
  | nil=>rfl
  | cons p r=>
   have m:p.1∈keys (j3 ps):=by
    unfold j3;rw[e];exact j2.mpr (.inr (by simp [keys]))
   rw[h] at m;simp [keys] at m
 ·intro h;unfold j3;rw[h];rfl
theorem Ew (ps:Ws):∀p∈pos ps,0<p.2:=λp hp=>by
 unfold pos at hp
 simpa using (List.mem_filter.mp hp).2
theorem Ey (ps:Ws):∀k∈keys (j3 ps),0<look (j3 ps) k:=λk hk=>by
 unfold j3 at *;rw[nI];have h:k∈keys (pos ps):=by
  rcases j2.mp hk with z | z
  ·simp [keys] at z
  ·exact z
 have:=oA (Ew ps) h;simp only[look];omega
theorem Ez (ps:Ws):pe (j3 ps)=pe (pos ps):=by
 unfold j3;rw[pj];simp [pe]
theorem pq {c:Int} (c0:0<=c):∀{ps:Ws},(∀p∈ps,p.2<=c)->pe (pos ps)<=ps.length*c
 | [],_=>by simp [pos,pe]
 | p::r,h=>by
  have ih:=pq c0 λq hq=>h q (aaJ _ hq);have hp:=h p aaK;rw[aaL,Int.natCast_succ,Int.add_mul];unfold pos at *;rw[List.filter_cons]
  split
  ·rw[show pe (p::List.filter (λp=>decide (0<p.2)) r)=p.2+pe (List.filter (λp=>decide (0<p.2)) r) from by unfold pe;rw[aaI,abj]];omega
  ·omega
end Nm
namespace L2
open PySem PySem.Spec PyProof.Rows PySem.W
section
variable {X : Cx} {K : PySem.W.Frag}
theorem yB:∀{us:List Value} {ts:List Str},bS (ts.map V.str) us->∃l:List (Str×Tok),strValues l=us/\l.map (·.1)=ts
 | _,[],.nil=>⟨[],rfl,rfl⟩
 | _,x::ts,.cons r t=>by
  obtain⟨k,rfl⟩:=(r:∃k,_=Value.str x k)
  obtain⟨l,rfl,rfl⟩:=yB t;exact⟨(x,k)::l,rfl,rfl⟩
noncomputable def rJoin (K:PySem.W.Frag):V->List V->Hp->VK->Prop:=λx xs H Q=>∃sep p ts,x=.str sep/\xs=[.ref p]/\bG K H p (List.map V.str ts)/\JoinOk sep ts=true/\Q (.str (Txt.join sep ts)) H
theorem EA:DB X "str.join" (rJoin X.K):=by
 intro pins s σ H x xs v us Q I rx rv h;obtain⟨sep,p,ts,rfl,rfl,hq,ok,q⟩:=h;obtain⟨t,rfl⟩:=rx;obtain⟨u,rfl,ru⟩:=vals1 rv;cases ru;obtain⟨bI,r,pl,hz⟩:=I.list hq;obtain⟨l,rfl,e2⟩:=yB r;exact SC.join pl.isList e2 ok λt' k=>⟨.str _,H,I.tok _,⟨_,rfl⟩,q⟩
theorem gJ (hK:X.K=K:=by rfl):DB X "str.join" (rJoin K):=by subst hK;exact EA
theorem qu:DB X "str.startswith" (λx xs H Q=>∃z y,x=.str z/\xs=[.str y]/\Q (.bl (Txt.startswith z y)) H):=by
 intro pins s σ H x xs v us Q I rx rv h;obtain⟨z,y,rfl,rfl,q⟩:=h;obtain⟨t,rfl⟩:=rx;obtain⟨u,rfl,ru⟩:=vals1 rv;obtain⟨t2,rfl⟩:=ru;exact SC.startswith ⟨.bl _,H,I,rfl,q⟩
theorem cD:cq X (.type "str") (λxs H Q=>∃i,xs=[.int i]/\i.natAbs.log2<1920/\Q (.str (toString i)) H):=sj
theorem xk:cq X (.type "int") (λxs H Q=>∃k,xs=[.bl k]/\Q (.int (if k then 1 else 0)) H):=by
 intro pins s σ H xs us Q I r h;exact zL pins s σ H xs us Q I r (.inr h)
abbrev TJ:=Str->TE
noncomputable def xm (K:PySem.W.Frag) (P:Params):R2:=λx y H Q=>∃z a es n,x=.str z/\y=.ref a/\K.lookup a=some ⟨.type "dict",none,.dict es n,#[]⟩/\KeysLit P es.toList/\(a==sysModules)=false/\Q (.bl (findBy Value.isStrOf es z).isSome) H
theorem Ai:gH X (compareOp .In) (xm X.K X.w.params):=by
 intro pins s σ H x y v u Q I rx ry h;obtain⟨z,a,es,n,rfl,rfl,hl,hk,lo,q⟩:=h;obtain⟨t,rfl⟩:=rx;cases ry;exact wpAny_in_of (strKind_is X.prog X.w z t) lo (mapOf_K (prog:=X.prog) I.oz hl hk) ⟨.bl _,H,I.tok _,rfl,q⟩
theorem j4 {w:World} (hK:X.K=K:=by rfl) (hw:X.w=w:=by rfl):gH X (compareOp .In) (xm K w.params):=by subst hK hw;exact Ai
noncomputable def Aj (e:DictEntry):Str:=match e.key with | .str x _=>x | _=>Str.empty
noncomputable def dN (K:PySem.W.Frag) (P:Params) (a:Addr) (ks:List Str):Prop:=∃es n,K.lookup a=some ⟨.type "dict",none,.dict es n,#[]⟩/\KeysLit P es.toList/\(a==sysModules)=false/\es.toList.map Aj=ks
theorem rH {P:Params} (z:Str):∀{l:List DictEntry},KeysLit P l->(l.find? λd=>Value.isStrOf z d.key).isSome=(l.map Aj).any λk=>decide (k=z)
 | [],_=>rfl
 | e::r,⟨⟨x,t,e1,_⟩,h⟩=>by
  rw[List.find?_cons,aaI,List.any_cons,<-rH z h];have k:Aj e=x:=by unfold Aj;rw[e1]
  have i:Value.isStrOf z e.key=decide (Aj e=z):=by
   rw[k,e1];show(x==z)=decide (x=z)
   by_cases c:x=z
   ·simp [c]
   ·simp [c]
  rw[i]
  by_cases c:Aj e=z
  ·simp [c]
  ·simp [c]
theorem dN.rd {P:Params} {a:Addr} {ks:List Str} (h:dN K P a ks) {z:Str} {H:Hp} {Q:VK} (q:Q (.bl (ks.any λk=>decide (k=z))) H):xm K P (.str z) (.ref a) H Q:=by
 obtain⟨es,n,hl,hk,lo,e⟩:=h;refine⟨z,a,es,n,rfl,rfl,hl,hk,lo,?_⟩;have f:(findBy Value.isStrOf es z).isSome=ks.any λk=>decide (k=z):=by
  rw[<-e,<-rH z hk];unfold findBy;obtain⟨l⟩:=es;rw[List.find?_toArray];cases l.find? λd=>Value.isStrOf z d.key <;>rfl
 rw[f];exact q
end
open PySem PySem.Spec PyProof.Rows PySem.W
inductive Pl where
 | fin (w:Int×Int) | eC (w:Int×Int) (ws:List (Int×Int)) | jx (who:Int) (to:List Int)
noncomputable def qv (H:Hp) (p:Addr):Hp:=λa=>if a=p then none else H a
theorem j5 {H:Hp} {p a:Addr} (h:a≠p):qv H p a=H a:=if_neg h
theorem yC {H:Hp} {p:Addr} {o:HO}:aq (qv H p) (upd H p o):=λa u e=>by
 unfold qv at e
 by_cases h:a=p
 ·rw[if_pos h] at e;cases e
 ·rw[if_neg h] at e;rw[aV h];exact e
theorem sQ {H:Hp} {p:Addr}:aq (qv H p) H:=λa u e=>by
 unfold qv at e
 by_cases h:a=p
 ·rw[if_pos h] at e;cases e
 ·rw[if_neg h] at e;exact e
theorem BL {H0 H:Hp} {p:Addr} (s:aq H0 H) (n:H0 p=none):aq H0 (qv H p):=λa u e=>by
 rw[j5 (λz=>by rw[z,n] at e;cases e)];exact s _ _ e
theorem cS {H H':Hp} {p:Addr} (s:aq H H'):aq (qv H p) (qv H' p):=λa u e=>by
 unfold qv at *
 by_cases h:a=p
 ·rw[if_pos h] at e;cases e
 ·rw[if_neg h] at e ⊢;exact s _ _ e
theorem bL {H0 H:Hp} {p:Addr} {o:HO} (s:aq H0 H) (n:H0 p=none):aq H0 (upd H p o):=(BL s n).trans yC
theorem iN {xs:List V} {k:Int} (h:0<=k):fo xs none (some k)=xs.take k.toNat:=by
 unfold fo;obtain⟨n,rfl⟩:=abi h;rw[HT.oP,show((n:Nat):Int)=Int.ofNat n from rfl];rw[show HT.rj xs.length xs.length (some (Int.ofNat n))=min n xs.length from HT.fP _ _ n];rw[List.drop_zero,Nat.sub_zero];show xs.take (min n xs.length)=xs.take n
 by_cases h:n<=xs.length
 ·rw[abk h]
 ·rw[Nat.min_eq_right (by omega),aaT (aaC _),aaT (by omega)]
theorem yD {xs:List V} {k:Nat} {x:V} (h:xs[k]?=some x):fo xs (some (k:Int)) (some ((k:Int)+1))=[x]:=by
 have hk:=(List.getElem?_eq_some_iff.mp h).1;unfold fo;rw[HT.fP,show((k:Int)+1)=((k+1:Nat):Int) by omega,HT.fP,abk (by omega),abk (by omega),show k+1 - k=1 by omega];rw[List.drop_eq_getElem_cons hk];have e:xs[k]=x:=by rw[aaW hk] at h;exact aa9 h
 rw[e];rfl
section
variable {X : Cx} {K : PySem.W.Frag}
theorem BM (hK:X.K=K:=by rfl):gH X (binaryOp .Add) (A7 K):=by subst hK;exact DX
end
end L2
namespace PySem
section
variable {prog : Program} {w : World} {A : Around} {E : Value -> Shared -> Prop} {s : Shared}
end
end PySem
namespace L2
open PySem PySem.Spec PyProof.Rows PySem.W
section
variable {X : Cx} {K : PySem.W.Frag}
end
end L2
namespace PySem
section
variable {prog : Program} {w : World} {A : Around} {R : Result -> Shared -> Prop} {I : Addr} {fp wr : List Addr} {n : Nat} {P : Nat -> Value -> Prop} {St : Nat -> Heap -> Prop} {kw : List (Str × Value)}
end
section
variable {prog : Program} {w : World} {A : Around} {E : Value -> Shared -> Prop} {s : Shared}
end
end PySem
namespace L2
open PySem PySem.Spec PyProof.Rows PySem.W
section
variable {X : Cx} {K : PySem.W.Frag}
end
end L2
namespace PySem
open Builtin Builtin.Str
section
variable {prog : Program} {w : World} {A : Around} {E : Value -> Shared -> Prop} {s : Shared} {x y : Str} {t u : Tok} {Q : Value -> Shared -> Prop}
theorem pw (hy:(y.length==0)=false)
  (hq:∀l k,l.map (·.1)=Txt.split x y->Q (.ref s.heap.objs.size) {s with heap:=s.heap.push {cls:=.type "list",data:=.seq (strValues l).toArray},toks:=k})
  (hsz:x.length<=sizeLine) (Ph:(partsBetween x (occurrences x y 0 x.length (x.length+1)) y.length).length<=sizeLine):
  wpAny (model prog w) A (call (.builtin "str.split") [.str x t,.str y u]) Q E s:=by
 cases h1:(decide (x.length<y.length) || decide (Builtin.Str.strKind x<Builtin.Str.strKind y))
 ·cases hf:(occurrences x y 0 x.length (x.length+1)).isEmpty
  ·refine call_meets F.slot_str_split (typeIs_str _ _ _) F.entry_str_split (F.args_str_split_2 _ _) (meets_str_split_sep x y t u h1 hy hf hsz Ph) ?_;show wants Q E _ {s with toks:=_,heap:=s.heap.push {cls:=.type "list",data:=.seq (strsFrom s.toks (partsBetween x (occurrences x y 0 x.length (x.length+1)) y.length)).toArray}};rw[strsFrom_eq];exact hq (numbered s.toks _) _ ((numbered_texts _ _).trans ((if_neg (ne_true_of_eq_false h1)).trans (if_neg (ne_true_of_eq_false hf))).symm)
  ·exact call_meets F.slot_str_split (typeIs_str _ _ _) F.entry_str_split (F.args_str_split_2 _ _) (meets_str_split_not_found x y t u h1 hy hf)
    (hq [(x,t)] s.toks ((if_neg (ne_true_of_eq_false h1)).trans (if_pos hf)).symm)
 ·exact call_meets F.slot_str_split (typeIs_str _ _ _) F.entry_str_split (F.args_str_split_2 _ _) (meets_str_split_cannot_occur x y t u h1)
   (hq [(x,t)] s.toks (if_pos h1).symm)
end
theorem yE {c:Nat}:∀{a b r q:List Nat},c∉a->c∉b->a++c::r=b++c::q->a=b/\r=q
 | [],[],r,q,_,_,h=>by simp at h;exact⟨rfl,h⟩
 | [],y::b,r,q,_,hb,h=>by simp at h;exact absurd (h.1▸aaK) hb
 | x::a,[],r,q,ha,_,h=>by simp at h;exact absurd (h.1▸aaK) ha
 | x::a,y::b,r,q,ha,hb,h=>by
  simp only[abw,List.cons.injEq] at h;obtain⟨e1,e2⟩:=yE (λm=>ha (aaJ _ m)) (λm=>hb (aaJ _ m)) h.2;exact⟨by rw[h.1,e1],e2⟩
theorem sR {a b:Str} (h:a.cps.toList=b.cps.toList):a=b:=by
 cases a;cases b;congr 1;exact Array.toList_inj.mp h
theorem join_cons (c:Nat) (x y:Str) (r:List Str):(Str.join ⟨#[c]⟩ (x::y::r)).cps.toList=x.cps.toList++c::(Str.join ⟨#[c]⟩ (y::r)).cps.toList:=by
 show(x++ ⟨#[c]⟩++Str.join ⟨#[c]⟩ (y::r)).cps.toList=_;simp only[Str.cps_append,Array.toList_append,List.append_assoc];rfl
theorem vd (c:Nat):∀(ps qs:List Str),ps≠[]->qs≠[]->(∀p∈ps,c∉p.cps.toList)->(∀p∈qs,c∉p.cps.toList)->Str.join ⟨#[c]⟩ ps=Str.join ⟨#[c]⟩ qs->ps=qs
 | [],_,h,_,_,_,_=>absurd rfl h
 | _,[],_,h,_,_,_=>absurd rfl h
 | [x],[y],_,_,_,_,e=>by
  have e:x=y:=e;rw[e]
 | [x],y::y2::r,_,_,hp,_,e=>by
  exfalso;have e:=congrArg (λz:Str=>z.cps.toList) e;simp only[join_cons] at e;refine hp x aaK ?_;have e:x.cps.toList=_:=e;rw[e];exact aa2 _ aaK
 | x::x2::r,[y],_,_,_,hq,e=>by
  exfalso;have e:=congrArg (λz:Str=>z.cps.toList) e;simp only[join_cons] at e;refine hq y aaK ?_;have e:_=y.cps.toList:=e;rw[<-e];exact aa2 _ aaK
 | x::x2::r,y::y2::q,_,_,hp,hq,e=>by
  have e:=congrArg (λz:Str=>z.cps.toList) e;simp only[join_cons] at e;obtain⟨e1,e2⟩:=yE (hp x aaK) (hq y aaK) e;rw[sR e1,vd c (x2::r) (y2::q) (by simp) (by simp) (λp m=>hp p (aaJ _ m)) (λp m=>hq p (aaJ _ m)) (sR e2)]
theorem BN (x y:Str):Txt.split x y≠[]:=by
 unfold Txt.split
 split
 ·simp
 ·split
  ·simp
  ·unfold Builtin.Str.partsBetween;cases Builtin.Str.occurrences x y 0 x.length (x.length+1) <;>simp
theorem fA (c:Nat) {ps:List Str} (h:ps≠[]) (hp:∀p∈ps,c∉p.cps.toList):Txt.split (Txt.join ⟨#[c]⟩ ps) ⟨#[c]⟩=ps:=by
 have e:Txt.join ⟨#[c]⟩ ps=Str.join ⟨#[c]⟩ ps:=StrLaws.glued_eq_join _ _;rw[e];exact vd c _ _ (BN _ _) h (StrLaws.split_free _ c) hp (StrLaws.join_split _ _)
end PySem
namespace L2
open PySem PySem.Spec PyProof.Rows PySem.W
section
variable {X : Cx} {K : PySem.W.Frag}
theorem sS:∀(l:List (Str×Tok)),bS (List.map V.str (l.map (·.1))) (strValues l)
 | []=>.nil
 | p::l=>.cons ⟨p.2,rfl⟩ (sS l)
theorem rJ (x y:Str):(Builtin.Str.partsBetween x (Builtin.Str.occurrences x y 0 x.length (x.length+1)) y.length).length<=x.length+2:=by
 have:=StrLaws.occ_length_le x y 0 x.length (x.length+1);unfold Builtin.Str.partsBetween;simp only[aaA,List.length_zip,aaL,aaE,abr];omega
theorem iO:DB X "str.split" (λx xs H Q=>∃z c,x=.str z/\xs=[.str ⟨#[c]⟩]/\z.length<=1000000/\∀l,H l=none->Q (.ref l) (upd H l (.lst (List.map V.str (Txt.split z ⟨#[c]⟩))))):=by
 intro pins s σ H x xs v us Q I rx rv h;obtain⟨z,c,rfl,rfl,hz,q⟩:=h;obtain⟨t,rfl⟩:=rx;obtain⟨u,rfl,ru⟩:=vals1 rv;obtain⟨t2,rfl⟩:=ru;have pl:=rJ z ⟨#[c]⟩;have sl:=sizeLine_eq;have fr:=I.cj.fresh (a:=s.heap.objs.size) (aaC _);refine pw rfl (λl k e=>?_) (by omega) (by omega);have lv:=sS l;rw[e] at lv;have ll:=lv.length;rw[aaA] at ll;refine⟨.ref s.heap.objs.size,_,I.laid (t':=k) (λb o e=>Heap.get?_push_of_some _ e) (aaC _) (o:=.lst (List.map V.str (Txt.split z ⟨#[c]⟩))) ⟨?_,strValues l,0,lv,?_⟩,rfl,q _ fr⟩
 ·rw[aaA];have:(Txt.split z ⟨#[c]⟩).length<=z.length+2:=by
   unfold Txt.split
   split
   ·simp
   ·split
    ·simp
    ·exact pl
  omega
 ·exact Heap.get?_push_size _ rfl
theorem j6:cq X (.type "int") (λxs H Q=>∃z n,xs=[.str z]/\z.length<=640/\PySem.intText? z=some n/\Q (.int n) H):=by
 intro pins s σ H xs us Q I r h;obtain⟨z,n,rfl,hl,hn,q⟩:=h;obtain⟨u,rfl,t,rfl⟩:=vals1 r;exact PySem.W.KIN.call_text hn hl ⟨.int n,H,I.tok _,⟨_,rfl⟩,q⟩
theorem mH (hd:PySem.W.nsIn K cStatics "sys.int_max_str_digits"=some none) (hc:X.calm=true:=by rfl) (hK:X.K=K:=by rfl):cq X (.type "str") (λxs H Q=>∃i,xs=[.int i]/\Bt 12900 i/\Q (.str (toString i)) H):=by
 subst hK;intro pins s σ H xs us Q I r h;obtain⟨i,rfl,hz,q⟩:=h;obtain⟨u,rfl,t,rfl⟩:=vals1 r;have gG:i.natAbs<10^4300:=aaQ hz PyProof.Rows.pow_lo;obtain⟨mc,h1,_⟩:=I.mod.nolimit;have nd:X.base.NoDigits:=⟨mc,h1,PySem.W.ns_none_of I.mod.JX h1 hd⟩
 exact PyProof.Rows.str_of_int_or (I.ok.hd hc) (nd.keeps I.bk) (λ_=>⟨.str _,H,I.tok _,⟨_,rfl⟩,q⟩) λNY=>absurd gG (Nat.not_lt.mpr NY)
theorem mI:cq X (.builtin "len") (λxs H Q=>∃z,xs=[.str z]/\z.length<=sizeLine/\Q (.int z.length) H):=sx
noncomputable def Lg (z:Str):It:=⟨λi _=>i<z.cps.size,λi H x H'=>H'=H/\∃c,z.cps[i]?=some c/\x=.str ⟨#[c]⟩,λi _=>z.cps.size<=i⟩
theorem BO {P:Program} {w:World} {tg:Expr} (z:Str) (t:Tok) (it:Addr):Turn P w K tg (Lg z) [it] it (λi h=>h.IsStrIter it "str_ascii_iterator" z t i) where
 mem:=by simp
 obj:=λi h st b hb=>by
  have e:b=it:=by simpa using hb
  subst e;obtain⟨o,e,c,d⟩:=st;exact⟨o,e,λv z=>by rw[d] at z;cases z⟩
 keep:=λi h h' st k=>let ⟨o,e,r⟩:=st;⟨o,k it (by simp) o e,r⟩
 item:=by
  intro X hP hw hK hc i pins s σ H E I hf st hg;subst hP hw hK;obtain⟨f0,f1,f2,f3,f4,f5⟩:=hf it (by simp);have hg:i<z.cps.size:=hg;refine wpAny_pyNext_ascii_item st (c:=z.cps[i]) (by simp [hg]) λh' A2 sb=>?_;have I1:Inv X pins σ H {s with heap:=h',toks:=s.toks+1}:=I.turned (t':=s.toks+1) (λb o hb e=>(sb.2 b hb).trans e) f0 f1 f3 f4 f5;obtain⟨o,e,c,d⟩:=id A2;exact⟨_,rfl,xX (s:={s with heap:=h',toks:=s.toks+1}) e c d (by decide) ⟨.str ⟨#[z.cps[i]]⟩,H,I1,⟨_,rfl⟩,⟨rfl,_,by simp [hg],rfl⟩,A2,λb hb=>(hf b hb).1⟩⟩
 done:=by
  intro X hP hw hK hc i pins s σ H E I hf st hg;subst hP hw hK;obtain⟨f0,f1,f2,f3,f4,f5⟩:=hf it (by simp);have hg:z.cps.size<=i:=hg;exact wpAny_pyNext_ascii_end (I.ok.hd hc) st (by simp [hg]) λh' eb=>⟨rfl,I.turned (t':=s.toks) (λb o hb e=>eb b o hb e) f0 f1 f3 f4 f5⟩
 self:=λ_ _ _ _ _ st h=>wpAny_pyIter_striter_ascii st h
noncomputable def iStr (tl:TE):TI:=λσ H R=>tl σ H λx H1=>∃z,x=.str z/\z.cps.all (·<128)=true/\R (Lg z) H1
theorem BP {tg l:Expr} {tl:TE} (hl:PE X l tl):PI X tg l (iStr tl):=by
 intro pins s σ H R I h;refine cW (hl pins s σ H _ I h) λv s1 eG=>?_;obtain⟨x,H1,I1,r1,q1⟩:=eG;obtain⟨z,e,ha,q⟩:=q1;subst e;obtain⟨t,rfl⟩:=r1;refine wpAny_pyIter_ascii ha ?_;refine⟨s1.heap.objs.size,[s1.heap.objs.size],_,_,H1,rfl,I1.kept (t':=s1.toks) λb o e=>Heap.get?_push_of_some _ e,BO z t _,⟨_,Heap.get?_push_size _ rfl,rfl,rfl⟩,λb hb=>?_,q⟩;have e:b=s1.heap.objs.size:=by simpa using hb
 subst e;exact I1.zG (aaC _) (I1.cj.fresh (aaC _))
theorem yF {z:Str} {Ok:Hp->Prop}:Src (Lg z) Ok z.cps.size (λi x H H3=>H3=H/\∃c,z.cps[i]?=some c/\x=.str ⟨#[c]⟩) where
 go:=λi H hi _=>hi
 wt:=λi H x H3 hi _ y=>y
 stop:=λH _=>aaC _
theorem Ak {K:PySem.W.Frag} {J:It} {te:TE} {tl:St} {H1:Hp} {fin:List V->Hp->Prop} {n:Nat} {Item:Nat->V->Hp->Hp->Prop} (S:Src J (aq H1) n Item) (Ld:Nat->V->V->V->Hp->Prop)
  (tp:∀i x H H3,i<n->aq H1 H->Item i x H H3->aq H H3/\∃p a b c,x=.ref p/\fM K H3 p [a,b,c]/\Ld i a b c H3) (hz:n<=sizeLine)
  (R:Nat->V->Hp->Prop) (mono:∀i y H H',aq H H'->R i y H->R i y H')
  (hs:∀i a b c H3 (Q:VK),i<n->aq H1 H3->Ld i a b c H3->(∀y H6,aq H3 H6->R i y H6->Q y H6)->te (some a::some b::some c::tl) H3 Q)
  (mE:∀ys H,aq H1 H->ys.length=n->(∀(i:Nat) y,ys[i]?=some y->R i y H)->fin ys H):gz J (zF K 3 (gCons (gName 0) (gCons (gName 1) (gCons (gName 2) gNil)))) jY te (none::none::none::tl) H1 fin:=by
 refine⟨λi m ys σ H=>m=n - i/\i<=n/\ys.length=i/\(∃w w' w'',σ=w::w'::w''::tl)/\aq H1 H/\∀(j:Nat) y,ys[j]?=some y->R j y H,⟨n,by simp,aaP _,rfl,⟨_,_,_,rfl⟩,aq.refl _,λj y e=>by simp at e⟩,?_⟩;rintro i m ys σ H ⟨rfl,hi,hl,⟨w,w',w'',rfl⟩,sm,p⟩
 by_cases gG:i<n
 ·refine .inr ⟨S.go i H gG sm,λx H3 y=>?_⟩;obtain⟨s3,q,a,b,c,rfl,sq,it⟩:=tp i x H H3 gG sm (S.wt i H x H3 gG sm y);refine⟨q,_,rfl,sq,rfl,_,_,rfl,_,_,rfl,_,_,rfl,rfl,?_⟩;unfold jY;refine HP ?_;refine hs i a b c H3 _ gG (sm.trans s3) it λy H6 s6 r=>⟨by omega,n - (i+1),by omega,rfl,gG,by rw[aaE,abr];omega,⟨_,_,_,rfl⟩,sm.trans (s3.trans s6),λj z e=>?_⟩
  by_cases hj:j<i
  ·rw[abz (by omega)] at e;exact mono j z _ _ (s3.trans s6) (p j z e)
  ·rw[abp (by omega)] at e;have e2:j - ys.length=0:=by
    by_cases q:j - ys.length=0
    ·exact q
    ·rw[aby (by simp;omega)] at e;cases e
   rw[e2] at e;simp at e;subst e;have:j=i:=by omega
   subst this;exact r
 ·have e:i=n:=by omega
  subst e;exact .inl ⟨S.stop H sm,mE ys H sm hl p⟩
theorem b7 {x:Str} {i:Int} {pos:Pos} (hg:Gl X x) (h:∃t,X.mg x=some (.int i t)) (hd:(x==("__debug__":Str))=false:=by decide):PE X (.Name x pos) (tC (.int i)):=by
 obtain⟨t,h⟩:=h;exact dG hg h ⟨t,rfl⟩ hd
theorem ve {x:Str} {i:Str} {pos:Pos} (hg:Gl X x) (h:∃t,X.mg x=some (.str i t)) (hd:(x==("__debug__":Str))=false:=by decide):PE X (.Name x pos) (tC (.str i)):=by
 obtain⟨t,h⟩:=h;exact dG hg h ⟨t,rfl⟩ hd
theorem Il {o e:Expr} {es:List Expr} {to:TE} {t:TA} {name:Str} {apos c9:Pos} {T id:String} {r:V->List V->Hp->VK->Prop} (pa:PlainAttrs T) (slot:Slot T name id) (KQ:typeOf (.builtin id)=pure (.type "method_descriptor")) (hm:DB X id r) (ho:PE X o to) (ha:PA X (e::es) t)
  (oQ:attributeBase o name X.env (eval o X.env)=eval o X.env:=by rfl)
  (HF:((backTo c9 (starEach (e::es) X.env)).all (λx=>!x.1) && (backToKw c9 (keywordEach [] X.env)).all (λx=>x.1.isSome)
   && decide ((e::es).length+ ([]:List Keyword).length+ (if ([]:List Keyword).isEmpty then 0 else 1)<30))=true:=by rfl)
  (oR:(apos.endLine==c9.line)=true:=by rfl) (hs:starEach (e::es) X.env=(false,eval e X.env)::starEach es X.env:=by rfl) (wU:(backTo c9 (starEach es X.env)).any (·.1)=false:=by rfl) (hK:X.K=K:=by rfl):
  PE X (.Call (.Attribute o name apos) (e::es) [] c9) (tBM K T r to t):=by subst hK;exact cu pa slot KQ hm ho ha oQ HF oR hs wU
noncomputable def Lh:V->Option Int->Option Int->Hp->VK->Prop:=λx lo hi H Q=>∃z,x=.str z/\z.length<=sizeLine/\Q (.str (Txt.slice z lo hi)) H
theorem part_of {v:Value} {o:Option Int} (h:IsPart v o):∃p:Option (Int×Tok),v=partValue p/\p.map (·.1)=o:=by
 cases h with
 | none=>exact⟨none,rfl,rfl⟩
 | int i t=>exact⟨some (i,t),rfl,rfl⟩
theorem EB:KP X Lh:=by
 intro pins s σ H x v vl vu lo hi sl Q I rx hs pl pu h;obtain⟨z,rfl,hz,q⟩:=h;obtain⟨t,rfl⟩:=rx;obtain⟨l,rfl,rfl⟩:=part_of pl;obtain⟨u,rfl,rfl⟩:=part_of pu;refine⟨"str",_,PySem.F.slot_str_getitem.lookup,typeIs_str _ _ _,?_⟩;refine wpAny_getItem_str_slice (l:=l) (u:=u) (st:=none) hs rfl (post_val_or_str ⟨aaR (Txt.slice_le z _ _) hz,λt' k=>?_⟩);exact⟨.str _,H,I.tok _,⟨_,rfl⟩,q⟩
end
end L2
namespace PySem
theorem BQ (z:Str) (l u:Option Int):Txt.slice z l u=StrLaws.sliceText z l u:=rfl
theorem xn {z:Str} {k:Int} (h:0<=k) (h2:k<=z.length):(Txt.slice z (some k) none).cps.toList=z.cps.toList.drop k.toNat:=by
 rw[BQ,StrLaws.sliceText_from (x:=z) (i:=k) ⟨h,by rw[aa1];exact h2⟩,aaT];rw[List.length_drop];omega
theorem xo (z:Str) (c:Nat):Txt.startswith z ⟨#[c]⟩=decide (z.cps.toList.head?=some c):=by
 unfold Txt.startswith Builtin.Str.subAt;obtain⟨cps⟩:=z;obtain⟨l⟩:=cps;cases l with
 | nil=>simp [Str.length]
 | cons a l=>
  have e:(List.toArray (a::l)).extract 0 (0+1)=#[a]:=by simp
  show(decide (0+1<=(a::l).length) && ((List.toArray (a::l)).extract 0 (0+1)==#[c]))=decide (some a=some c);rw[e]
  by_cases h:a=c
  ·subst h;simp
  ·simp [h]
end PySem
namespace PySem
open Builtin Builtin.Str StrLaws
abbrev dt:Str:=⟨#[32,43,32]⟩
theorem yG {x:Str} {k:Nat} (h:At x dt x.length k):x.cps.toList[k+1]?=some 43:=by
 have h2:=h.2;rw[subAt_eq] at h2;have h3:(x.cps.toList.drop k).take 3=[32,43,32]:=beq_iff_eq.mp h2;have:((x.cps.toList.drop k).take 3)[1]?=some 43:=by rw[h3];rfl
 rw[List.getElem?_take_of_lt (by decide),List.getElem?_drop] at this;exact this
theorem EC {x:Str} {a b:List Nat} (e:x.cps.toList=a++ (32::43::32::b)):At x dt x.length a.length:=by
 refine⟨?_,?_⟩
 ·have:x.length=(a++ (32::43::32::b)).length:=by rw[<-e,aa1];rfl
  rw[this,aaE];show a.length+3<=_;simp
 ·rw[subAt_eq,e,List.drop_left];rfl
theorem pz (x:Str):∀(ps:List Str),ps≠[]->(∀p∈ps,43∉p.cps.toList)->∀(pre:List Nat) (Am:List Nat) (f:Nat),x.cps.toList=pre++ (Str.join dt ps).cps.toList->ChainG x dt x.length pre.length Am f->(∀k,f<=k->¬At x dt x.length k)->partsFrom x 3 pre.length Am=ps
 | [],h,_,_,_,_,_,_,_=>absurd rfl h
 | [p],_,hp,pre,Am,f,e,hg,hn=>by
  have e:x.cps.toList=pre++p.cps.toList:=e;have no:∀k,pre.length<=k->¬At x dt x.length k:=by
   intro k hk a;have a1:=yG a;rw[e,abp (by omega)] at a1;exact hp p aaK (aaO a1)
  cases Am with
  | cons c r=>exact absurd hg.2.1 (no c hg.1)
  | nil=>
   show[strSub x pre.length x.length]=[p];congr 1;have:∀a b:Str,a.cps.toList=b.cps.toList->a=b:=λa b h=>by cases a;cases b;congr 1;exact Array.toList_inj.mp h
   refine this _ _ ?_;rw[strSub_toList,e,List.drop_left,aaT];have:x.length=(pre++p.cps.toList).length:=by rw[<-e,aa1];rfl
   rw[this,aaE];omega
 | p::q::r,_,hp,pre,Am,f,e,hg,hn=>by
  have je:(Str.join dt (p::q::r)).cps.toList=p.cps.toList++ (32::43::32::(Str.join dt (q::r)).cps.toList):=by
   show(p++dt++Str.join dt (q::r)).cps.toList=_;simp only[Str.cps_append,Array.toList_append,List.append_assoc];rfl
  rw[je] at e;have e1:x.cps.toList=(pre++p.cps.toList)++ (32::43::32::(Str.join dt (q::r)).cps.toList):=by rw[e,List.append_assoc]
  have at0:=EC e1;have no:∀k,pre.length<=k->k< (pre++p.cps.toList).length->¬At x dt x.length k:=by
   intro k hk h2 a;have a1:=yG a;rw[aaE] at h2;rw[e,abp (by omega)] at a1
   by_cases q1:k+1 - pre.length<p.cps.toList.length
   ·rw[abz q1] at a1;exact hp p aaK (aaO a1)
   ·rw[abp (by omega),show k+1 - pre.length - p.cps.toList.length=0 by omega] at a1;simp at a1
  cases Am with
  | nil=>
   have ef:f=pre.length:=hg;exact absurd at0 (hn _ (by rw[ef,aaE];omega))
  | cons c cs=>
   obtain⟨g1,g2,g3,g4⟩:=hg;have ec:c=(pre++p.cps.toList).length:=by
    rcases Nat.lt_trichotomy c (pre++p.cps.toList).length with h | h | h
    ·exact absurd g2 (no c g1 h)
    ·exact h
    ·exact absurd at0 (g3 _ (by rw[aaE];omega) h)
   subst ec;have l3:(pre++p.cps.toList++ [32,43,32]).length=(pre++p.cps.toList).length+3:=by simp;omega
   have ih:=pz x (q::r) (by simp) (λy hy=>hp y (aaJ _ hy)) (pre++p.cps.toList++ [32,43,32]) cs f (by rw[e1];simp) (by rw[l3];exact g4) hn;rw[l3] at ih;show strSub x pre.length (pre++p.cps.toList).length::partsFrom x 3 ((pre++p.cps.toList).length+3) cs=_;rw[ih];congr 1;have:∀a b:Str,a.cps.toList=b.cps.toList->a=b:=λa b h=>by cases a;cases b;congr 1;exact Array.toList_inj.mp h
   refine this _ _ ?_;rw[strSub_toList,e,List.drop_left,aaE,Nat.add_sub_cancel_left,List.take_left]
set_option tactic.hygienic true in
theorem xp {ps:List Str} (h:ps≠[]) (hp:∀p∈ps,43∉p.cps.toList):Txt.split (Str.join dt ps) dt=ps:=by
 obtain⟨f,hG,hn⟩:=occ_tight (Str.join dt ps) dt (by decide);have key:=pz (Str.join dt ps) ps h hp [] _ f rfl hG hn;unfold Txt.split
 split
 ·rename_i hc
  rw[Bool.or_eq_true,decide_eq_true_eq,decide_eq_true_eq] at hc;have lt:(Str.join dt ps).length<3:=by
   rcases hc with hc | hc
   ·exact hc
   ·exfalso;have e:Builtin.Str.strKind dt=1:=by ac_rfl
    rw[e] at hc;unfold Builtin.Str.strKind at hc
    split at hc
    ·omega
    ·split at hc <;>omega
  cases ps with
  | nil=>exact absurd rfl h
  | cons p r=>
   cases r with
   | nil=>rfl
   | cons q r=>
    exfalso;have e:(Str.join dt (p::q::r)).length=p.length+3+ (Str.join dt (q::r)).length:=by
     show(p++dt++Str.join dt (q::r)).length=_;rw[Str.length_append,Str.length_append];rfl
    omega
 ·split
  ·rename_i he
   have e0:=List.isEmpty_iff.mp he;rw[e0] at key;have k2:[strSub (Str.join dt ps) 0 (Str.join dt ps).length]=ps:=key;rw[sub_whole] at k2;exact k2
  ·rw[partsBetween_eq];exact key
end PySem
namespace L2
open PySem PySem.Spec PyProof.Rows PySem.W
section
variable {X : Cx} {K : PySem.W.Frag}
theorem An:DB X "str.split" (λx xs H Q=>∃z y,x=.str z/\xs=[.str y]/\(y.length==0)=false/\z.length<=1000000/\∀l,H l=none->Q (.ref l) (upd H l (.lst (List.map V.str (Txt.split z y))))):=by
 intro pins s σ H x xs v us Q I rx rv h;obtain⟨z,c,rfl,rfl,hy,hz,q⟩:=h;obtain⟨t,rfl⟩:=rx;obtain⟨u,rfl,ru⟩:=vals1 rv;obtain⟨t2,rfl⟩:=ru;have pl:=rJ z c;have sl:=sizeLine_eq;have fr:=I.cj.fresh (a:=s.heap.objs.size) (aaC _);refine pw hy (λl k e=>?_) (by omega) (by omega);have lv:=sS l;rw[e] at lv;have ll:=lv.length;rw[aaA] at ll;refine⟨.ref s.heap.objs.size,_,I.laid (t':=k) (λb o e=>Heap.get?_push_of_some _ e) (aaC _) (o:=.lst (List.map V.str (Txt.split z c))) ⟨?_,strValues l,0,lv,?_⟩,rfl,q _ fr⟩
 ·rw[aaA];have:(Txt.split z c).length<=z.length+2:=by
   unfold Txt.split
   split
   ·simp
   ·split
    ·simp
    ·exact pl
  omega
 ·exact Heap.get?_push_size _ rfl
noncomputable def BR (K:PySem.W.Frag) (P:Params) (td ty:TE):TE:=λσ H Q=>td σ H λx H1=>ty σ H1 λy H2=>∃z a p es n,x=.ref a/\y=.str z/\K.lookup a=some ⟨.type "dict",none,.dict es n,#[]⟩/\KeysLit P es.toList/\PySem.W.nsIn K a z=some (some (.ref p))/\Q (.ref p) H2
theorem oB {w:World} {o i:Expr} {pos:Pos} {td ty:TE} (ho:PE X o td) (hi:PE X i ty) (hs:D4 i) (hK:X.K=K:=by rfl) (hw:X.w=w:=by rfl):PE X (.Subscript o i pos) (BR K w.params td ty):=by
 subst hK hw;intro pins s σ H Q I h;refine sG PySem.F.slot_dict_getitem.lookup hs (cW (ho pins s σ H _ I h) λu s1 ⟨x,H1,I1,rx,q1⟩=>cW (hi pins s1 σ H1 _ I1 q1) λiv s2 eG=>?_);obtain⟨y,H2,I2,ry,z,a,p,es,n,ex,ey,hl,hk,e,q2⟩:=eG;subst ex ey;obtain rfl:u=Value.ref a:=rx;obtain⟨t,rfl⟩:=ry;have hm:=mapOf_K (prog:=X.prog) I2.oz hl hk;exact⟨hm.typeIs,wpAny_getItem_of (strKind_is X.prog X.w z t) hm (find_K hl e) ⟨.ref p,H2,I2.tok _,rfl,q2⟩⟩
noncomputable def yH (K:PySem.W.Frag) (P:Params):R2:=λx y H Q=>∃z a es n,x=.str z/\y=.ref a/\K.lookup a=some ⟨.type "dict",none,.dict es n,#[]⟩/\KeysLit P es.toList/\(a==sysModules)=false/\Q (.bl (!(findBy Value.isStrOf es z).isSome)) H
theorem qw {w:World} (hK:X.K=K:=by rfl) (hw:X.w=w:=by rfl):gH X (compareOp .NotIn) (yH K w.params):=by
 subst hK hw;intro pins s σ H x y v u Q I rx ry h;obtain⟨z,a,es,n,rfl,rfl,hl,hk,lo,q⟩:=h;obtain⟨t,rfl⟩:=rx;cases ry;exact wpAny_notIn_of (strKind_is X.prog X.w z t) lo (mapOf_K (prog:=X.prog) I.oz hl hk) ⟨.bl _,H,I.tok _,rfl,q⟩
theorem dN.rdN {P:Params} {a:Addr} {ks:List Str} (h:dN K P a ks) {z:Str} {H:Hp} {Q:VK} (q:Q (.bl (!(ks.any λk=>decide (k=z)))) H):yH K P (.str z) (.ref a) H Q:=by
 obtain⟨z',a',es,n,e1,e2,hl,hk,lo,q'⟩:=dN.rd h (z:=z) (H:=H) (Q:=λv H'=>∀b,v=.bl b->Q (.bl (!b)) H') (λb e=>by cases e;exact q);cases e1;cases e2;exact⟨z,a,es,n,rfl,rfl,hl,hk,lo,q' _ rfl⟩
theorem kL (hK:X.K=K:=by rfl):DA X (D0 K):=by subst hK;exact A9
noncomputable def iP (K:PySem.W.Frag) (a:Addr) (z:Str) (i j:Int):Prop:=∃p,PySem.W.nsIn K a z=some (some (.ref p))/\∃dd n sl t u,K.lookup p=some ⟨.type "tuple",dd,.seq #[.int i t,.int j u] n,sl⟩
theorem iP.rd {P:Params} {a:Addr} {ks:List Str} {z:Str} {i j:Int} (r:iP K a z i j) (h:dN K P a ks):∃p es n,K.lookup a=some ⟨.type "dict",none,.dict es n,#[]⟩/\KeysLit P es.toList/\PySem.W.nsIn K a z=some (some (.ref p))/\∀H,fM K H p [.int i,.int j]:=by
 obtain⟨p,e,dd,n1,sl,t,u,hp⟩:=r;obtain⟨es,n,hl,hk,_,_⟩:=h;exact⟨p,es,n,hl,hk,e,λH=>.inr ⟨_,_,n1,hp,rfl,rfl,(show 2<=sizeLine by decide),.cons ⟨t,rfl⟩ (.cons ⟨u,rfl⟩ .nil)⟩⟩
end
end L2
namespace PySem
section
variable {M : Model} {A : Around} {E : Value -> Shared -> Prop} {s : Shared} {env : Env}
end
end PySem
namespace L2
open PySem PySem.Spec PyProof.Rows PySem.W
section
variable {M : Model} {A : Around} {E : Value -> Shared -> Prop} {s : Shared} {B : Heap} {l : List Env} {ad L : Addr} {cls a0 : Value} {p : Prop}
end
section
variable {P : Program} {w : World} {K : PySem.W.Frag} {mg : Str -> Option Value} {base : Heap} {N : List Str} {qual : Str} {scope : Scope} {f : Addr} {cf : Value} {A : Around} {outer : List Env} {s0 : Shared} {H0 : Hp} {E : XK}
end
open PySem PySem.Spec PyProof.Rows PySem.W
section
variable {X : Cx}
end
open PySem PySem.Spec PyProof.Rows PySem.W
abbrev aaa (h:Heap) (T:Addr) (a b c:Value):Prop:=h.get? T=some {cls:=.type "tuple",data:=.seq #[a,b,c]}
structure Ap3 (z TI TO i1 i2 i3 a b c:Addr):Prop where
 TIz:TI≠z
 TOz:TO≠z
 i1z:i1≠z
 i2z:i2≠z
 i3z:i3≠z
 TITO:TI≠TO
 TI1:TI≠i1
 TI2:TI≠i2
 TI3:TI≠i3
 TO1:TO≠i1
 TO2:TO≠i2
 TO3:TO≠i3
 i12:i1≠i2
 i13:i1≠i3
 i23:i2≠i3
 az:a≠z
 bz:b≠z
 cz:c≠z
 bTO:b≠TO
 cTO:c≠TO
 b1:b≠i1
 c1:c≠i1
 c2:c≠i2
section
variable {prog : Program} {w : World} {A : Around} {E : Value -> Shared -> Prop} {s : Shared}
end
abbrev z3a (h:Heap) (la:Addr):Heap:=h.push {cls:=.type "list_iterator",data:=.fields #[.ref la,.int 0 0]}
abbrev z3b (h:Heap) (la lb:Addr):Heap:=(z3a h la).push {cls:=.type "list_iterator",data:=.fields #[.ref lb,.int 0 0]}
abbrev z3c (h:Heap) (la lb lc:Addr):Heap:=(z3b h la lb).push {cls:=.type "list_iterator",data:=.fields #[.ref lc,.int 0 0]}
abbrev z3d (h:Heap) (la lb lc:Addr):Heap:=(z3c h la lb lc).push {cls:=.type "tuple",data:=.seq #[.ref h.objs.size,.ref (z3a h la).objs.size,.ref (z3b h la lb).objs.size]}
abbrev z3e (h:Heap) (la lb lc:Addr):Heap:=(z3d h la lb lc).push {cls:=.type "tuple",data:=.seq #[.none,.none,.none]}
abbrev z3f (h:Heap) (la lb lc:Addr):Heap:=(z3e h la lb lc).push {cls:=.type "zip",data:=.fields #[.none,.bool false,.bool false,.ref (z3c h la lb lc).objs.size,.ref (z3d h la lb lc).objs.size]}
section
variable {prog : Program} {w : World} {A : Around} {E : Value -> Shared -> Prop} {s : Shared}
end
section
variable {X : Cx} {elts : List Expr} {kk : Nat} {iH : Pos} {K : PySem.W.Frag}
end
open PySem PySem.Spec PyProof.Rows PySem.W
structure Li (P:Program) (w:World) (K:PySem.W.Frag) (mg:Str->Option Value) (base:Heap) (CX:kC) (k:Nat) (f:Addr) (fd:FuncData) (ps:List Str) (sp:Sp):Prop where
 len:∀vs H Q E,sp vs H Q E->vs.length=ps.length
 run:∀(A:Around) (ad:Addr) (outer:List Env) (s:Shared) (H:Hp) (args:Args) (us:List Value) (vs:List V) (Q:VK) (E:XK),eY k A->A6 P w K mg base A outer s H->BindsTo s fd args (ps.zip us)->bS vs us->sp vs H Q E->
  codeAny (model P w) (A.mark (some (.ref ad))) (.call (.ref f) args) (CR CX outer P w H s Q E) s
structure aar (P:Program) (w:World) (K:PySem.W.Frag) (mg:Str->Option Value) (base:Heap) (CX:kC) (k:Nat) (x:Str) (ps:List Str) (sp:Sp):Prop where
 ex:∃f fd,Li P w K mg base CX k f fd ps sp/\mg x=some (.ref f)/\PySem.W.keepIn K (.ref f)=true/\Binds K fd ps []
section
variable {P : Program} {w : World} {K : PySem.W.Frag} {mg : Str -> Option Value} {base : Heap} {CX : kC}
end
section
variable {X : Cx} {K : PySem.W.Frag}
end
end L2
namespace PySem
open Builtin Builtin.Str StrLaws
end PySem
namespace L2
open PySem PySem.Spec PyProof.Rows PySem.W
noncomputable def FY:V->Option Str
 | .str z=>some z
 | .int i=>if i.natAbs.log2<1920 then some (Str.ofString (toString i)) else none
 | _=>none
section
variable {X : Cx} {K : PySem.W.Frag}
theorem j7:cq X (.type "str") (λxs H Q=>∃x z,xs=[x]/\FY x=some z/\Q (.str z) H):=by
 intro pins s σ H xs us Q I r h;obtain⟨x,z,rfl,hz,q⟩:=h;obtain⟨u,rfl,ru⟩:=vals1 r;cases x with
 | str y=>
  obtain⟨t,rfl⟩:=ru;cases hz;exact PySem.P.str_of_str ⟨.str _,H,I,⟨_,rfl⟩,q⟩
 | int i=>
  obtain⟨t,rfl⟩:=ru;have hz:(if i.natAbs.log2<1920 then some (Str.ofString (toString i)) else none)=some z:=hz
  by_cases c:i.natAbs.log2<1920
  ·rw[if_pos c] at hz;cases hz;exact PySem.P.str_of_int c ⟨.str _,H,I.tok _,⟨_,rfl⟩,q⟩
  ·rw[if_neg c] at hz;cases hz
 | _=>cases hz
end
open PySem PySem.Spec PyProof.Rows PySem.W
section
variable {X : Cx} {K : PySem.W.Frag}
noncomputable def tSortR (K:PySem.W.Frag) (te:TE):TE:=λσ H Q=>te σ H λv H1=>∃p ns,v=.ref p/\bG K H1 p (List.map V.int ns)/\ns.length<64/\∀l,H1 l=none->Q (.ref l) (upd H1 l (.lst (List.map V.int (Nm.o7 ns).reverse)))
theorem BU {e d:Expr} {te:TE} {p1 pos kp:Pos} (hg:Gl X "sorted") (hm:X.mg "sorted"=none) (he:PE X e te) (hd:PE X d (tC (.bl true))) (n1:noStar e=true:=by rfl):
  PE X (.Call (.Name "sorted" p1) [e] [⟨some "reverse",d,kp⟩] pos) (tSortR X.K te):=by
 intro pins s σ H Q I h;refine wpAny_Call_Name_kw (iE I hg hm (u:=.builtin "sorted") rfl ?_ (by decide) (by decide));refine PyProof.Rows.callWith_kw (e:=e) (rest:=[]) ?_ (by rw[se n1];rfl) (by rw[se n1];rfl) rfl rfl;rw[se n1];show wpAny _ _ (spliced [(false,eval e X.env)]) _ _ s;refine Calls.spliced_cons (cW (he pins s σ H _ I h) λu s1 ⟨x,H1,I1,r1,q1⟩=>Calls.spliced_nil ?_);refine PyProof.Rows.kws_cons (cW (hd pins s1 σ H1 (λv H2=>v=.bl true/\H2=H1) I1 ⟨rfl,rfl⟩) λdv s2 ⟨y,H2,I2,r2,ey,eh⟩=>PyProof.Rows.kws_nil ?_);subst ey;subst eh;have r2:dv=.bool true:=r2;subst r2;obtain⟨p,ns,rfl,hq,hn,q⟩:=q1;cases r1;obtain⟨bI,rv,pl,hz⟩:=I2.list hq;have hl:=rv.length;rw[aaA] at hl;show wpAny _ _ (call (.builtin "sorted") [.ref p] [(Str.ofString "reverse",.bool true)]) _ _ _;refine sorted_ints_rev pl.isList (intsAre_of rv) (by omega) λout Le a1 a2 a3=>?_;have a3:Le.Pairwise (·≥·):=a3;have e3:Le=(Nm.o7 ns).reverse:=by
  have:=Nm.sN ((List.reverse_perm Le).trans a2) (List.pairwise_reverse.mpr a3);rw[<-this,List.reverse_reverse]
 subst e3;obtain⟨e,he⟩:=sortedAll_at s2.heap bI out;have fr:=I2.cj.fresh (a:=s2.heap.objs.size+1) (Nat.le_succ _);refine⟨.ref (s2.heap.objs.size+1),_,I2.laid (t':=s2.toks) (λ_ _=>sortedAll_old) (Nat.le_succ _) (o:=.lst (List.map V.int (Nm.o7 ns).reverse)) ⟨?_,out.toList,e,hU a1,?_⟩,rfl,q _ fr⟩
 ·rw[aaA,abt,Nm.hJ,sizeLine_eq];omega
 ·exact he
theorem Ao {e d:Expr} {te:TE} {p1 pos kp:Pos} (hg:Gl X "sorted") (hm:X.mg "sorted"=none) (he:PE X e te) (hd:PE X d (tC (.bl true))) (n1:noStar e=true:=by rfl) (hK:X.K=K:=by rfl):
  PE X (.Call (.Name "sorted" p1) [e] [⟨some "reverse",d,kp⟩] pos) (tSortR K te):=by subst hK;exact BU hg hm he hd n1
end
end L2
namespace PySem.SeqAt
open AutoSeq1 (wpAny_loadPart')
open MeetsSeq MeetsSeq2 MeetsSeq3
end PySem.SeqAt
namespace L2
open PySem PySem.Spec PyProof.Rows PySem.W
noncomputable def FZ:List Int->List Int->Bool
 | [],[]=>true
 | [],_::_=>false
 | _::_,[]=>true
 | a::r,b::q=>if a=b then FZ r q else decide (b<=a)
section
variable {X : Cx} {K : PySem.W.Frag}
end
end L2
namespace PySem.UL
section
variable {prog : Program} {w : World} {A : Around} {E : Value -> Shared -> Prop} {s : Shared}
end
end PySem.UL
namespace L2
open PySem PySem.Spec PyProof.Rows PySem.W
section
variable {X : Cx} {K : PySem.W.Frag}
end
section
variable {X : Cx} {k k2 : Nat} {x x2 : Str} {ps Pj : List Str} {sp Pk : Sp} {e e2 : Expr} {es Pm : List Expr} {t t2 : TA} {p pos p2 Im : Pos} {cx n : Str} {np o6 sL BV iH Io : Pos} {b₀ : Stmt} {ip : List Stmt} {i : Nat} {ts : TS} {C2 : Addr} {c : Expr} {tc : TT}
end
structure aab (P:Program) (w:World) (K:PySem.W.Frag) (mg:Str->Option Value) (base:Heap) (CX:kC) (k:Nat) (x:Str) (C:Addr) (ps:List Str) (sp:Sp):Prop where
 ex:∃f fd,Mk K C f/\iu P w K mg base CX k f fd ps sp/\mg x=some (.ref C)/\Binds K fd ps []
section
variable {X : Cx}
end
structure DnI (K:PySem.W.Frag) (mg:Str->Option Value) (x qual:Str) (st:Stmt) (C:Addr):Prop where
 ex:∃f fd,yf K "__init__" qual st f fd/\Mk K C f/\mg x=some (.ref C)
noncomputable instance J6:DecidableEq PyData:=λ_ _=>Classical.propDecidable _
mutual
noncomputable def il:PyData->Bool
 | .int _=>true
 | .str x=>PyData.canLay0 (.str x)
 | .tuple xs=>mJ xs
 | _=>false
noncomputable def mJ:List PyData->Bool
 | []=>true
 | x::xs=>il x && mJ xs
end
mutual
theorem ED:∀(d:PyData),il d=true->d.canLay0=true
 | .none,h=>by simp [il] at h
 | .bool _,h=>by simp [il] at h
 | .int _,_=>by simp [PyData.canLay0]
 | .str x,h=>by rw[il] at h;exact h
 | .list _,h=>by simp [il] at h
 | .tuple xs,h=>by rw[il] at h;rw[PyData.canLay0];exact vf xs h
 | .dict _,h=>by simp [il] at h
theorem vf:∀(xs:List PyData),mJ xs=true->PyData.canLayAll0 xs=true
 | [],_=>by simp [PyData.canLayAll0]
 | x::xs,h=>by
  rw[mJ,aa6] at h;rw[PyData.canLayAll0,aa6];exact⟨ED x h.1,vf xs h.2⟩
end
mutual
theorem Ip:∀(x y:PyData),il x=true->il y=true->PyData.eqv x y=decide (x=y)
 | .int i,y,_,hy=>by
  cases y with
  | int j=>
   rw[PyData.eqv]
   by_cases c:i=j
   ·subst c;simp
   ·rw[decide_eq_false (λe=>c (by injection e))];simp [c]
  | str _=>simp [PyData.eqv]
  | tuple _=>simp [PyData.eqv]
  | _=>simp [il] at hy
 | .str a,y,_,hy=>by
  cases y with
  | str b=>
   rw[PyData.eqv]
   by_cases c:a=b
   ·subst c;simp
   ·rw[decide_eq_false (λe=>c (by injection e))];simp [c]
  | int _=>simp [PyData.eqv]
  | tuple _=>simp [PyData.eqv]
  | _=>simp [il] at hy
 | .tuple xs,y,hx,hy=>by
  cases y with
  | tuple ys=>
   rw[il] at hx hy;rw[PyData.eqv,yI xs ys hx hy]
   by_cases c:xs=ys
   ·subst c;simp
   ·rw[decide_eq_false c,decide_eq_false (λe=>c (by injection e))]
  | int _=>simp [PyData.eqv]
  | str _=>simp [PyData.eqv]
  | _=>simp [il] at hy
 | .none,_,h,_=>by simp [il] at h
 | .bool _,_,h,_=>by simp [il] at h
 | .list _,_,h,_=>by simp [il] at h
 | .dict _,_,h,_=>by simp [il] at h
theorem yI:∀(xs ys:List PyData),mJ xs=true->mJ ys=true->PyData.eqvAll xs ys=decide (xs=ys)
 | [],[],_,_=>by simp [PyData.eqvAll]
 | [],_::_,_,_=>by simp [PyData.eqvAll]
 | _::_,[],_,_=>by simp [PyData.eqvAll]
 | x::xs,y::ys,hx,hy=>by
  rw[mJ,aa6] at hx hy;rw[PyData.eqvAll,Ip x y hx.1 hy.1,yI xs ys hx.2 hy.2]
  by_cases c:x=y
  ·subst c
   by_cases d:xs=ys
   ·subst d;simp
   ·rw[decide_eq_false d,decide_eq_false (λe=>d (List.cons.inj e).2)];simp
  ·rw[decide_eq_false c,decide_eq_false (λe=>c (List.cons.inj e).1)];simp
end
mutual
theorem xq {h h':Heap} {d:Addr} {o:Obj} {es ep} (ho:h.get? d=some o) (hd:o.data=.dict es ep) (hs:Heap.SameBut d h h'):∀(x:PyData) (v:Value) (as:List Addr),il x=true->Reads h v x as->Reads h' v x as
 | .int _,_,_,_,r=>by cases r;exact .int _ _
 | .str _,_,_,_,r=>by cases r;exact .str _ _
 | .tuple xs,_,_,hx,r=>by
  rw[il] at hx;cases r with
  | @tuple a o' vs n _ _ e c q t=>
   have ne:a≠d:=λz=>by
    subst z;rw[ho] at e;cases e;rw[hd] at q;cases q
   exact .tuple ((hs.2 a ne).trans e) c q (nJ ho hd hs xs _ _ hx t)
 | .none,_,_,h,_=>by simp [il] at h
 | .bool _,_,_,h,_=>by simp [il] at h
 | .list _,_,_,h,_=>by simp [il] at h
 | .dict _,_,_,h,_=>by simp [il] at h
theorem nJ {h h':Heap} {d:Addr} {o:Obj} {es ep} (ho:h.get? d=some o) (hd:o.data=.dict es ep) (hs:Heap.SameBut d h h'):∀(xs:List PyData) (vs:List Value) (as:List Addr),mJ xs=true->ReadsAll h vs xs as->ReadsAll h' vs xs as
 | [],_,_,_,r=>by cases r;exact .nil
 | x::xs,_,_,hx,r=>by
  rw[mJ,aa6] at hx;cases r with
  | cons r1 r2=>exact .cons (xq ho hd hs x _ _ hx.1 r1) (nJ ho hd hs xs _ _ hx.2 r2)
end
mutual
noncomputable def yJ (w:World):PyData->Int
 | .int i=>G0 w (.inl i)
 | .str x=>G0 w (.inr x)
 | .tuple xs=>reduceHash (Builtin.Tuple.tupleHashOf (fU w xs))
 | _=>0
noncomputable def fU (w:World):List PyData->List Int
 | []=>[]
 | x::xs=>yJ w x::fU w xs
end
mutual
noncomputable def N0:PyData->Nat
 | .tuple xs=>pA xs+1
 | _=>1
noncomputable def pA:List PyData->Nat
 | []=>0
 | x::xs=>N0 x+pA xs
end
section
variable {prog : Program} {w : World}
noncomputable def PH (prog:Program) (w:World) (m:Nat) (h:Heap) (d:PyData) (v:Value):Prop:=∀(A:Around) (E:Value->Shared->Prop) (s:Shared) (Q:Int->Shared->Prop),s.heap=h->A.units+m<cLine->
 Q (yJ w d) {s with toks:=s.toks+N0 d}->wpAny (model prog w) A (pyHash v) Q E s
inductive F0 (prog:Program) (w:World) (m:Nat) (h:Heap):List PyData->List Value->Prop
 | nil:F0 prog w m h [] []
 | cons {d v ds vs}:PH prog w m h d v->F0 prog w m h ds vs->F0 prog w m h (d::ds) (v::vs)
theorem Ap (xs ys:List PyData):fU w (xs++ys)=fU w xs++fU w ys:=by
 induction xs with
 | nil=>simp [fU]
 | cons x xs ih=>simp [fU,ih]
theorem BW (xs ys:List PyData):pA (xs++ys)=pA xs+pA ys:=by
 induction xs with
 | nil=>simp [pA]
 | cons x xs ih=>simp [pA,ih,Nat.add_assoc]
theorem BX {m:Nat} {h:Heap} {ds:List PyData} {a:Addr} {o:Obj} {items n} (ho:h.get? a=some o) (hc:o.cls=.type "tuple") (hd:o.data=.seq items n) (hi:F0 prog w m h ds items.toList):PH prog w (m+1) h (.tuple ds) (.ref a):=by
 intro A E s Q hh hu hq;subst hh;have hT:s.TypeIs (.ref a) "tuple":=⟨o,ho,hc⟩
 have OX:A.units<cLine:=by omega
 unfold pyHash
 first | unfold pyHashByItsType | skip
 first | refine wpAny_bind (wpAny_cRoomFor_or (.inr OX) ?_) | skip
 refine wpAny_bind (wpAny_specialOf hT F.slot_tuple_hash.lookup ?_);show wpAny _ _ (if (some (Value.builtin "tuple.__hash__")==some Value.none)=true then _ else _) Q E s;rw[if_neg (by rw[beq_builtin_none];exact aaS)];refine wpAny_bind (wpAny_specialOf hT F.slot_tuple_hash.lookup ?_);show wpAny _ _ (callSpecialIfBoundUnlessNone? (.ref a) "__hash__" _ >>=_) Q E s;refine wpAny_bind (wpAny_callSpecialIfBoundUnlessNone?_slot hT F.slot_tuple_hash (wpAny_call_entry F.slot_tuple_hash hT F.entry_tuple_hash ?_ (F.args_tuple_hash_1 _)));show wpAny _ _ (Builtin.Tuple.tupleItemsOf (.ref a) >>=_) _ _ s;refine wpAny_bind (wpAny_tupleItemsOf ho hd ?_);refine wpAny_bind ?_;rw[<-Array.forIn_toList];refine wpAny_forIn_list _
  (λrest (b:Array Int) s'=>∃done left,ds=done++left/\F0 prog w m s.heap left rest/\b.toList=fU w done/\s'={s with toks:=s.toks+pA done})
  _ ?_ ?_ _ _ ⟨[],ds,rfl,hi,rfl,rfl⟩
 ·rintro x rest b s' ⟨done,left,rfl,hl,hb,rfl⟩;cases hl with
  | @cons k _ ks' _ h1 wx=>
   refine wpAny_bind (h1 _ _ _ _ rfl (by show A.units+1+m<cLine;omega) ?_);have e1:(b.push (yJ w k)).toList=fU w (done++ [k]):=by rw[Ap];simp [hb,fU]
   have e2:s.toks+pA done+N0 k=s.toks+pA (done++ [k]):=by rw[BW];simp [pA,Nat.add_assoc]
   first
    | exact wpAny_pure ⟨done++ [k],ks',by simp,wx,e1,by rw[<-e2]⟩
    | exact wpAny_bind (wpAny_pure (wpAny_pure ⟨done++ [k],ks',by simp,wx,e1,by rw[<-e2]⟩))
 ·rintro b s' ⟨done,left,rfl,hl,hb,rfl⟩;cases hl;rw[abg] at hq;show wpAny _ _ (retInt (Builtin.Tuple.tupleHashOf b.toList)) _ _ _;rw[hb];refine wpAny_ret_mkInt ?_;show wpAny _ _ (if (decide (-(2:Int)^63<=Builtin.Tuple.tupleHashOf (fU w done)) && decide (Builtin.Tuple.tupleHashOf (fU w done)<2^63))=true then _ else _) Q E _;rw[yJ,N0] at hq;unfold reduceHash at hq
  by_cases hr:(decide (-(2:Int)^63<=Builtin.Tuple.tupleHashOf (fU w done)) && decide (Builtin.Tuple.tupleHashOf (fU w done)<2^63))=true
  ·rw[if_pos hr];rw[if_pos hr] at hq;exact wpAny_pure (by simpa [Nat.add_assoc] using hq)
  ·rw[if_neg hr];rw[if_neg hr] at hq;exact wpAny_bind (wpAny_rule (wpAny_pure (by simpa [Nat.add_assoc] using hq)))
mutual
theorem Iq {h:Heap}:∀(d:PyData) (v:Value) (as:List Addr),il d=true->Reads h v d as->PH prog w d.depth h d v
 | .int i,_,_,_,r=>by
  cases r with
  | int _ t=>
   intro A E s Q _ _ hq;exact(cG prog w).pyHash (k:=.inl i) (rn (k:=.inl i) ⟨t,rfl⟩) hq
 | .str x,_,_,_,r=>by
  cases r with
  | str _ t=>
   intro A E s Q _ _ hq;exact(cG prog w).pyHash (k:=.inr x) (rn (k:=.inr x) ⟨t,rfl⟩) hq
 | .tuple xs,_,_,hx,r=>by
  rw[il] at hx;cases r with
  | tuple e c q t=>exact BX e c q (yK xs _ _ hx t)
 | .none,_,_,h,_=>by simp [il] at h
 | .bool _,_,_,h,_=>by simp [il] at h
 | .list _,_,_,h,_=>by simp [il] at h
 | .dict _,_,_,h,_=>by simp [il] at h
theorem yK {h:Heap}:∀(ds:List PyData) (vs:List Value) (as:List Addr),mJ ds=true->ReadsAll h vs ds as->F0 prog w (PyData.depthAll ds) h ds vs
 | [],_,_,_,r=>by cases r;exact .nil
 | x::xs,_,_,hx,r=>by
  rw[mJ,aa6] at hx;cases r with
  | cons r1 r2=>
   have p1:=Iq x _ _ hx.1 r1;have p2:=yK xs _ _ hx.2 r2;have up:∀{m m':Nat} {ds:List PyData} {vs:List Value},m<=m'->F0 prog w m h ds vs->F0 prog w m' h ds vs:=λl q=>by
    induction q with
    | nil=>exact .nil
    | cons p _ ih=>exact .cons (λA E s Q e u=>p A E s Q e (by omega)) ih
   refine .cons (λA E s Q e u=>p1 A E s Q e ?_) (up ?_ p2)
   ·rw[PyData.depthAll] at u;omega
   ·rw[PyData.depthAll];omega
end
theorem vg {h:Heap} {k:Nat} {a:Addr} {o:Obj} {items n} (ho:h.get? a=some o) (hc:o.cls=.type "tuple") (hd:o.data=.seq items n) (hi:∀v∈items.toList,∀(A:Around) (E:Value->Shared->Prop) (s:Shared) (Q:Bool->Shared->Prop),s.heap=h->Q true s->wpAny (model prog w) A (eqIsQuiet k v) Q E s)
  (A:Around) (E:Value->Shared->Prop) (s:Shared) (Q:Bool->Shared->Prop) (hh:s.heap=h) (hq:Q true s):wpAny (model prog w) A (eqIsQuiet (k+1) (.ref a)) Q E s:=by
 subst hh;have hT:s.TypeIs (.ref a) "tuple":=⟨o,ho,hc⟩
 unfold eqIsQuiet;refine wpAny_bind (wpAny_specialOf hT F.slot_tuple_eq.lookup ?_);show wpAny _ _ (isInstance (.ref a) (.type "tuple") >>=_) _ _ s;refine wpAny_bind (wpAny_isInstance hT isSubtype_tuple_tuple ?_);simp only[Bool.not_true,Bool.false_eq_true,if_false];refine wpAny_bind (wpAny_seqItems ho hd ?_);refine wpAny_bind ?_;show wpAny _ _ (forIn items _ _) _ _ s;rw[<-Array.forIn_toList];refine wpAny_forIn_list _ (λrest r s'=>r.1=none/\s'=s/\∀v∈rest,v∈items.toList) _ ?_ ?_ _ _ ⟨rfl,rfl,λ_ h=>h⟩
 ·rintro v rest r s' ⟨hr,rfl,zW⟩;refine wpAny_bind (hi v (zW v aaK) _ _ _ _ rfl ?_);simp only[Bool.not_true,Bool.false_eq_true,if_false];exact wpAny_pure ⟨rfl,rfl,λu hu'=>zW u (aaJ _ hu')⟩
 ·rintro⟨r1,r2⟩ s' ⟨hr,rfl,_⟩;simp only at hr;subst hr;exact wpAny_pure hq
mutual
theorem Aq {h:Heap}:∀(d:PyData) (v:Value) (as:List Addr) (k:Nat),il d=true->d.depth<=k->Reads h v d as->∀(A:Around) (E:Value->Shared->Prop) (s:Shared) (Q:Bool->Shared->Prop),s.heap=h->Q true s->wpAny (model prog w) A (eqIsQuiet k v) Q E s
 | .int _,_,_,_,_,_,r=>by
  cases r;intro A E s Q _ hq;rw[eqIsQuiet_byValue _ rfl];exact wpAny_pure hq
 | .str _,_,_,_,_,_,r=>by
  cases r;intro A E s Q _ hq;rw[eqIsQuiet_byValue _ rfl];exact wpAny_pure hq
 | .tuple xs,_,_,k,hx,hk,r=>by
  rw[il] at hx;rw[PyData.depth] at hk;cases k with
  | zero=>omega
  | succ k=>
   cases r with
   | tuple e c q t=>exact vg e c q (pB xs _ _ k hx (by omega) t)
 | .none,_,_,_,h,_,_=>by simp [il] at h
 | .bool _,_,_,_,h,_,_=>by simp [il] at h
 | .list _,_,_,_,h,_,_=>by simp [il] at h
 | .dict _,_,_,_,h,_,_=>by simp [il] at h
theorem pB {h:Heap}:∀(ds:List PyData) (vs:List Value) (as:List Addr) (k:Nat),mJ ds=true->PyData.depthAll ds<=k->ReadsAll h vs ds as->∀v∈vs,∀(A:Around) (E:Value->Shared->Prop) (s:Shared) (Q:Bool->Shared->Prop),s.heap=h->Q true s->wpAny (model prog w) A (eqIsQuiet k v) Q E s
 | [],_,_,_,_,_,r=>by
  cases r;intro v hv;simp at hv
 | x::xs,_,_,k,hx,hk,r=>by
  rw[mJ,aa6] at hx;rw[PyData.depthAll] at hk;cases r with
  | cons r1 r2=>
   intro v hv;rcases List.mem_cons.mp hv with rfl | hv
   ·exact Aq x _ _ k hx.1 (by omega) r1
   ·exact pB xs _ _ k hx.2 (by omega) r2 v hv
end
end
mutual
noncomputable def toP:Dat->PyData
 | .c6=>.none
 | .bl b=>.bool b
 | .int i=>.int i
 | .str x=>.str x
 | .tup l=>.tuple (toPL l)
 | .lst l=>.list (toPL l)
noncomputable def toPL:List Dat->List PyData
 | []=>[]
 | d::ds=>toP d::toPL ds
end
section
variable {P : Program} {w : World} {H : Hp} {h : Heap}
mutual
theorem BY (ok:gW P w H h):∀(d:Dat) (v:V) (u:Value),Rep H d v->RelV v u->∃as,Reads h u (toP d) as
 | .c6,v,u,r,q=>by
  rw[Rep] at r;subst r;cases (show u=Value.none from q);exact⟨_,.none⟩
 | .bl b,v,u,r,q=>by
  rw[Rep] at r;subst r;cases (show u=Value.bool b from q);exact⟨_,.bool b⟩
 | .int i,v,u,r,q=>by
  rw[Rep] at r;subst r;obtain⟨t,rfl⟩:=(show ∃t,u=Value.int i t from q)
  exact⟨_,.int i t⟩
 | .str x,v,u,r,q=>by
  rw[Rep] at r;subst r;obtain⟨t,rfl⟩:=(show ∃t,u=Value.str x t from q)
  exact⟨_,.str x t⟩
 | .tup l,v,u,r,q=>by
  rw[Rep] at r;obtain⟨p,vs,rfl,hp,rl⟩:=r;cases (show u=Value.ref p from q);obtain⟨_,bI,rv,o,h1,h2,n,h3⟩:=(show cJ P w H h p (.tup vs) from ok p _ hp)
  obtain⟨as,ra⟩:=mK ok l vs bI rl rv;exact⟨as,.tuple h1 h2 h3 (by simpa using ra)⟩
 | .lst l,v,u,r,q=>by
  rw[Rep] at r;obtain⟨p,vs,rfl,hp,rl⟩:=r;cases (show u=Value.ref p from q);obtain⟨_,bI,n,rv,h1⟩:=(show cJ P w H h p (.lst vs) from ok p _ hp)
  obtain⟨as,ra⟩:=mK ok l vs bI rl rv;exact⟨p::as,.list h1 rfl rfl (by simpa using ra)⟩
theorem mK (ok:gW P w H h):∀(ds:List Dat) (vs:List V) (us:List Value),bj H ds vs->bS vs us->∃as,ReadsAll h us (toPL ds) as
 | [],vs,us,r,q=>by
  rw[bj] at r;subst r;cases q;exact⟨_,.nil⟩
 | d::ds,vs,us,r,q=>by
  rw[bj] at r;obtain⟨v,rest,rfl,r1,r2⟩:=r;cases q with
  | cons q1 q2=>
   obtain⟨a1,h1⟩:=BY ok d v _ r1 q1;obtain⟨a2,h2⟩:=mK ok ds rest _ r2 q2;exact⟨_,.cons h1 h2⟩
end
end
abbrev Rows:=List (Dat×Addr×Int)
abbrev RwN:Rows->List (PyData×Addr×Value)->Prop:=Paired λp q=>toP p.1=q.1/\p.2.1=q.2.1/\∃t,q.2.2=Value.int p.2.2 t
section
variable {P : Program} {w : World} {H : Hp} {h : Heap} {a : Addr}
end
section
variable {X : Cx} {P : Program} {w : World} {o i e value : Expr} {pos pos' iH : Pos} {td ty tv : TE}
end
open PySem PySem.Spec PyProof.Rows PySem.W
section
variable {X : Cx} {K : PySem.W.Frag}
end
structure aac (P:Program) (w:World) (K:PySem.W.Frag) (mg:Str->Option Value) (base:Heap) (CX:kC) (k:Nat) (C:Addr) (m:Str) (ps:List Str) (sp:Sp):Prop where
 ex:∃f fd,KJ K C m f/\iu P w K mg base CX k f fd ps sp/\Binds K fd ps []
section
variable {X : Cx} {CX : kC} {k : Nat} {C : Addr} {m : Str} {ps : List Str} {sp : Sp} {E : XK} {e o : Expr} {es : List Expr} {ta : TE} {t : TA} {pos apos : Pos} {pl : Sem Bool}
end
structure DnM (K:PySem.W.Frag) (C:Addr) (m qual:Str) (st:Stmt):Prop where
 ex:∃f fd,yf K m qual st f fd/\KJ K C m f
end L2
namespace L2
open PySem PySem.Spec PyProof.Rows PySem.W
mutual
noncomputable def yL:PyData->Bool
 | .none=>true
 | .int _=>true
 | .str x=>PyData.canLay0 (.str x)
 | .tuple xs=>vh xs
 | .list xs=>vh xs
 | _=>false
noncomputable def vh:List PyData->Bool
 | []=>true
 | x::xs=>yL x && vh xs
end
mutual
theorem EE:∀(d:PyData),yL d=true->d.canLay0=true
 | .none,_=>by simp [PyData.canLay0]
 | .bool _,h=>by simp [yL] at h
 | .int _,_=>by simp [PyData.canLay0]
 | .str x,h=>by rw[yL] at h;exact h
 | .list xs,h=>by rw[yL] at h;rw[PyData.canLay0];exact pC xs h
 | .tuple xs,h=>by rw[yL] at h;rw[PyData.canLay0];exact pC xs h
 | .dict _,h=>by simp [yL] at h
theorem pC:∀(xs:List PyData),vh xs=true->PyData.canLayAll0 xs=true
 | [],_=>by simp [PyData.canLayAll0]
 | x::xs,h=>by
  rw[vh,aa6] at h;rw[PyData.canLayAll0,aa6];exact⟨EE x h.1,pC xs h.2⟩
end
mutual
theorem EF:∀(x y:PyData),yL x=true->yL y=true->PyData.eqv x y=decide (x=y)
 | .none,y,_,hy=>by cases y <;>simp [PyData.eqv]
 | .int i,y,_,hy=>by
  cases y with
  | int j=>
   rw[PyData.eqv]
   by_cases c:i=j
   ·subst c;simp
   ·rw[decide_eq_false (λe=>c (by injection e))];simp [c]
  | bool _=>simp [yL] at hy
  | _=>simp [PyData.eqv]
 | .str a,y,_,hy=>by
  cases y with
  | str b=>
   rw[PyData.eqv]
   by_cases c:a=b
   ·subst c;simp
   ·rw[decide_eq_false (λe=>c (by injection e))];simp [c]
  | _=>simp [PyData.eqv]
 | .tuple xs,y,hx,hy=>by
  cases y with
  | tuple ys=>
   rw[yL] at hx hy;rw[PyData.eqv,pE xs ys hx hy]
   by_cases c:xs=ys
   ·subst c;simp
   ·rw[decide_eq_false c,decide_eq_false (λe=>c (by injection e))]
  | _=>simp [PyData.eqv]
 | .list xs,y,hx,hy=>by
  cases y with
  | list ys=>
   rw[yL] at hx hy;rw[PyData.eqv,pE xs ys hx hy]
   by_cases c:xs=ys
   ·subst c;simp
   ·rw[decide_eq_false c,decide_eq_false (λe=>c (by injection e))]
  | _=>simp [PyData.eqv]
 | .bool _,_,h,_=>by simp [yL] at h
 | .dict _,_,h,_=>by simp [yL] at h
theorem pE:∀(xs ys:List PyData),vh xs=true->vh ys=true->PyData.eqvAll xs ys=decide (xs=ys)
 | [],[],_,_=>by simp [PyData.eqvAll]
 | [],_::_,_,_=>by simp [PyData.eqvAll]
 | _::_,[],_,_=>by simp [PyData.eqvAll]
 | x::xs,y::ys,hx,hy=>by
  rw[vh,aa6] at hx hy;rw[PyData.eqvAll,EF x y hx.1 hy.1,pE xs ys hx.2 hy.2]
  by_cases c:x=y
  ·subst c
   by_cases d:xs=ys
   ·subst d;simp
   ·rw[decide_eq_false d,decide_eq_false (λe=>d (List.cons.inj e).2)];simp
  ·rw[decide_eq_false c,decide_eq_false (λe=>c (List.cons.inj e).1)];simp
end
section
variable {X : Cx} {K : PySem.W.Frag}
end
open PySem PySem.Spec PyProof.Rows PySem.W
section
variable {X : Cx} {CX : kC} {k : Nat} {C : Addr} {m : Str} {ps : List Str} {sp : Sp} {E : XK} {e o : Expr} {es : List Expr} {ta : TE} {t : TA} {pos apos : Pos} {pl : Sem Bool}
end
section
variable {X : Cx} {k k2 : Nat} {C C' : Addr} {m m2 : Str} {ps Pj : List Str} {sp Pk : Sp} {e e2 o o2 : Expr} {es Pm : List Expr} {ta ta2 : TE} {t t2 : TA} {pos apos Im F1 : Pos} {pl pl2 : Sem Bool} {cx n : Str} {np o6 sL BV iH Io : Pos} {b₀ : Stmt} {ip : List Stmt} {i : Nat} {ts : TS} {C2 : Addr} {c : Expr} {tc : TT}
end
end L2
namespace PySem.Dfl
open PySem PyProof.Rows
theorem pF:entryFor table "dict.update.loop"=some Builtin.«dict.update.loop»:=entryFor_of_tree (by kernel_rfl)
theorem j8:plainId "dict.update.loop"=true:=by ac_rfl
section
variable {prog : Program} {w : World} {A : Around} {E : Value -> Shared -> Prop} {s : Shared}
end
section
variable {prog : Program} {w : World} {K : Type} [DecidableEq K] {knd : KeyKind prog w K} {A : Around} {R : Result -> Shared -> Prop} {I : Addr} {fp wr : List Addr} {G : Array GenState -> Array GenState -> Prop} {n : Nat} {P : Nat -> Value -> Prop} {St : Nat -> Shared -> Prop}
theorem pair_items {A:Around} {E:Value->Shared->Prop} {s:Shared} {t:Addr} {k v:Value} {Q:List Value->Shared->Prop} (ht:s.heap.IsTuple t #[k,v]) (h:Q [k,v] s):wpAny (model prog w) A (Builtin.Dict.pairItems (.ref t)) Q E s:=by
 obtain⟨o,ho,hc,n,hd⟩:=ht;unfold Builtin.Dict.pairItems;have hT:s.TypeIs (.ref t) "tuple":=⟨o,ho,hc⟩
 refine wpAny_bind (wpAny_typeOf hT ?_);rw[if_pos (by decide)];exact wpAny_bind (wpAny_seqItems ho hd (wpAny_pure h))
theorem vi (W:WalksS prog w A.in1 I fp wr G n P St) (D:Addr) (hDf:D∉fp) (ta:Nat->Addr) (ky vl:Nat->Value) (kk:Nat->K) (Ir:∀i v,P i v->v=.ref (ta i)) (HA:∀i,i<n->knd.is (kk i) (ky i)=true)
  (hta:∀i,i<n->ta i∉D::wr) (hb:n<=sizeLine):
  ∀(k i:Nat) (s:Shared) (j:Int) (tj:Tok),n - i=k->i<=n->St i s->s.heap.DictOf knd D (merged [] ((List.range i).map λj=>(kk j,vl j)))->(∀j,j<n->s.heap.IsTuple (ta j) #[ky j,vl j])->
   (∀s',Moved (D::wr) G s s'->s'.heap.DictOf knd D (merged [] ((List.range n).map λj=>(kk j,vl j)))->R (.ok (.ret .none)) s')->
   codeAny (model prog w) A (.builtin "dict.update.loop" ⟨[.ref D,.ref I,.int j tj,.none],[]⟩) R s:=by
 have hDw:D∉wr:=λh=>hDf (W.sub _ h);intro k
 induction k with
 | zero=>
  intro i s j tj hk hi qV hS htu hR;obtain rfl:i=n:=by omega
  refine codeAny_builtin pF ?_;rw[Around.under_plainId j8 _];show wpAny _ A.in1 (pyNext (.ref I) >>=_) _ _ s;refine wpAny_bind (W.done s _ _ qV λs' hm=>?_);show wpAny _ _ (Builtin.Dict.addKeywords D [] >>=_) _ _ _;refine wpAny_bind (wpAny_pure (wpAny_pure (hR s' (hm.mono λb hb=>aaJ _ hb) ?_)));obtain⟨o,es,ep,ho,rest⟩:=hS;exact⟨o,es,ep,hm.heap D _ hDw ho,rest⟩
 | succ k ih=>
  intro i s j tj hk hi qV hS htu hR;have gG:i<n:=by omega
  refine codeAny_builtin pF ?_;rw[Around.under_plainId j8 _];show wpAny _ A.in1 (pyNext (.ref I) >>=_) _ _ s;refine wpAny_bind (W.item i s _ _ gG qV λv s' hP Iu hm=>?_);obtain rfl:=Ir i v hP;have Lj:∀j,j<n->s'.heap.IsTuple (ta j) #[ky j,vl j]:=λj hj=>by
   obtain⟨o,ho,r⟩:=htu j hj;exact⟨o,hm.heap _ _ (λh=>hta j hj (aaJ _ h)) ho,r⟩
  have Iv:s'.heap.DictOf knd D (merged [] ((List.range i).map λj=>(kk j,vl j))):=by
   obtain⟨o,es,ep,ho,rest⟩:=hS;exact⟨o,es,ep,hm.heap D _ hDw ho,rest⟩
  dsimp only;refine wpAny_bind (wpAny_holding (wpAny_bind (wpAny_tryCatch (pair_items (Lj i gG) ?_))));dsimp only;refine wpAny_holding (wpAny_dictSet_pairs (HA i gG) Iv (λh' Pn J7=>?_) ?_)
  ·have e:merged [] ((List.range (i+1)).map λj=>(kk j,vl j))=stored (merged [] ((List.range i).map λj=>(kk j,vl j))) (kk i) (vl i):=by
    simp [merged,List.range_succ,List.foldl_append]
   refine wpAny_pure ⟨plainId_quiet j8 _,ih (i+1) _ _ _ (by omega) gG (W.frame _ s' _ _ Iu (Nat.le_succ _) λb hb o e=>?_) (by rw[e];exact Pn) (λj hj=>?_) λsk Iw Iy=>?_⟩
   ·rw[J7.2 b (λh:b=D=>hDf (by rw[<-h];exact hb))];exact e
   ·obtain⟨o,ho,r⟩:=Lj j hj;exact⟨o,(J7.2 _ λh=>hta j hj (by rw[h];exact aaK)).trans ho,r⟩
   ·refine hR sk (Moved.trans W.gtrans ((hm.mono λb hb=>aaJ _ hb).then_heap (Nat.le_succ _) λb o hb e=>?_) Iw) Iy;rw[J7.2 b (λh:b=D=>hb (by rw[h];exact aaK))];exact e
  ·have:=merged_length_le ([]:List (K×Value)) ((List.range i).map λj=>(kk j,vl j));rw[aaA,List.length_range] at this;simp only[aa5,Nat.zero_add] at this;omega
end
end PySem.Dfl
namespace PySem.Dfl
open PySem PyProof.Rows
section
variable {prog : Program} {w : World} {K : Type} [DecidableEq K] {knd : KeyKind prog w K} {A : Around} {E : Value -> Shared -> Prop} {s : Shared}
end
end PySem.Dfl
namespace L2
open PySem PyProof.Rows
section
variable {X : Cx} {P : Program} {w : World} {K : PySem.W.Frag}
end
open PySem PyProof.Rows
section
variable {X : Cx}
end
open PySem PyProof.Rows
structure N1 (K:PySem.W.Frag) (mg:Str->Option Value) (g x:Str) (st:Stmt):Prop where
 ex:∃f fd,yf K x x st f fd/\mg g=some (.ref f)
theorem N1.dj {P:Program} {w:World} {K:PySem.W.Frag} {mg:Str->Option Value} {base:Heap} {CX:kC} {g x:Str} {st:Stmt} {ps:List Str} {k:Nat} {sp:Sp} (D:N1 K mg g x st)
  (hb:∀(kV doc pm:Value) (an:Option Addr) (cf ct:Value) (us:List Value),us.length=ps.length->bindArgs (PySem.W.fnOf x x (aR st) (aQ st) (ai st) .none kV doc pm an cf ct) ⟨us,[]⟩=pure (ps.zip us))
  (h:∀f fd,yf K x x st f fd->iu P w K mg base CX k f fd ps sp):da P w K mg base CX k g ps sp:=by
 obtain⟨f,fd,F,hm⟩:=D.ex;exact⟨f,fd,h f fd F,hm,F.kp,F.binds hb⟩
open PySem PyProof.Rows
theorem exV {b:V} {Q:V->Prop}:(∃v,(some (some b):Option (Option V))=some (some v)/\Q v)=Q b:=propext ⟨fun⟨_,e,h⟩=>by cases e;exact h,λh=>⟨b,rfl,h⟩⟩
theorem exI {a:Int} {Q:Int->Prop}:(∃i,V.int a=V.int i/\Q i)=Q a:=propext ⟨fun⟨_,e,h⟩=>by cases e;exact h,λh=>⟨a,rfl,h⟩⟩
theorem exB {a:Bool} {Q:Bool->Prop}:(∃i,V.bl a=V.bl i/\Q i)=Q a:=propext ⟨fun⟨_,e,h⟩=>by cases e;exact h,λh=>⟨a,rfl,h⟩⟩
theorem exR {a:Addr} {Q:Addr->Prop}:(∃i,V.ref a=V.ref i/\Q i)=Q a:=propext ⟨fun⟨_,e,h⟩=>by cases e;exact h,λh=>⟨a,rfl,h⟩⟩
theorem exS {a:Str} {Q:Str->Prop}:(∃i,V.str a=V.str i/\Q i)=Q a:=propext ⟨fun⟨_,e,h⟩=>by cases e;exact h,λh=>⟨a,rfl,h⟩⟩
theorem exII {a b:Int} {Q:Int->Int->Prop}:(∃i j,V.int a=V.int i/\V.int b=V.int j/\Q i j)=Q a b:=propext ⟨fun⟨_,_,e,f,h⟩=>by cases e;cases f;exact h,λh=>⟨a,b,rfl,rfl,h⟩⟩
theorem exRI {a:Addr} {k:Int} {Q:Addr->List V->Int->V->Prop}:(∃p xs i v,V.ref a=V.ref p/\V.int k=V.int i/\Q p xs i v)=∃xs v,Q a xs k v:=propext ⟨fun⟨_,xs,_,v,e,f,h⟩=>by cases e;cases f;exact⟨xs,v,h⟩,fun⟨xs,v,h⟩=>⟨a,xs,k,v,rfl,rfl,h⟩⟩
theorem exRa {α:Type} {a:Addr} {Q:Addr->α->Prop}:(∃p v,V.ref a=V.ref p/\Q p v)=∃v,Q a v:=propext ⟨fun⟨_,v,e,h⟩=>by cases e;exact⟨v,h⟩,fun⟨v,h⟩=>⟨a,v,rfl,h⟩⟩
theorem exRb {α β:Type} {a:Addr} {Q:Addr->α->β->Prop}:(∃p v u,V.ref a=V.ref p/\Q p v u)=∃v u,Q a v u:=propext ⟨fun⟨_,v,u,e,h⟩=>by cases e;exact⟨v,u,h⟩,fun⟨v,u,h⟩=>⟨a,v,u,rfl,h⟩⟩
theorem scal_ss {a b:Str}:wM (.str a) (.str b)=true:=rfl
theorem scal_ii {a b:Int}:wM (.int a) (.int b)=true:=rfl
theorem scal_bb {a b:Bool}:wM (.bl a) (.bl b)=true:=rfl
theorem scal_si {a:Str} {b:Int}:wM (.str a) (.int b)=true:=rfl
theorem scal_is {a:Int} {b:Str}:wM (.int a) (.str b)=true:=rfl
open PySem PySem.Spec PyProof.Rows PySem.W
section
variable {X : Cx}
end
open PySem PySem.Spec PyProof.Rows PySem.W
section
variable {X : Cx} {k : Nat} {x : Str} {ps : List Str} {sp : Sp} {e : Expr} {es : List Expr} {t : TA} {p pos : Pos}
variable {cx n : Str} {np o6 sL iH : Pos} {b₀ : Stmt} {ip : List Stmt} {i : Nat} {ts : TS} {C2 : Addr}
noncomputable def BZ (K:PySem.W.Frag) (sp:Sp) (t:TA) (C2:Addr) (i:Nat) (ts:TS):TS:=λD σ H=>t σ H λvs H1=>sp vs H1 (λv H2=>D.rt v H2) (K6 K C2 i ts D σ)
theorem yM (C:da X.prog X.w X.K X.mg X.base (cL X.prog X.w) k x ps sp) (hr:eY k X.A) (hg:Gl X x) (ha:PA X.Hq (e::es) t) (qV:X.stack=X.env::X.outer) (hf:X.env.frame=some X.env.locals)
  (O1:Gl X cx) (hm:X.mg cx=some (.ref C2)) (hN:X.N.Nodup) (hi:X.N[i]?=some n) (hl:X.env.scope.names.lookup n=some .local) (hs:∀ad,uF (X.mark ad) (b₀::ip) ts)
  (uQ:(x==("__debug__":Str))=false:=by decide) (O3:(cx==("__debug__":Str))=false:=by decide)
  (he:starEach (e::es) X.env=(false,eval e X.env)::starEach es X.env:=by rfl) (hpl:(backTo pos (starEach es X.env)).any (·.1)=false:=by rfl):
  PS X (.Try [.Return (some (.Call (.Name x p) (e::es) [] pos)) sL] [.ExceptHandler (some (.Name cx np)) (some n) (b₀::ip) o6] [] [] iH) (BZ X.K sp t C2 i ts):=by
 intro pins s σ H D I h;refine wpAny_Try_except (wpAny_execs_cons (wpAny_Return_some (cW (yk C hr hg ha I h (λH1 s1 e1 s' I1 ⟨ad,cls,_,H',ee,⟨F,_⟩,hx,q⟩=>?_) uQ he hpl) λv s1 ⟨y,H1,I1,r1,q1⟩=>?_)))
 ·subst ee;exact Bv I1 F qV hf O1 hm hx hN hi hl (hs ad) (q ad F.tracked) O3
 ·exact⟨y,σ,H1,I1,r1,q1⟩
end
open PySem PySem.Spec PyProof.Rows PySem.W
section
variable {X : Cx} {pins : List (Addr × Obj)} {σ : St} {H H' : Hp} {s s' : Shared}
end
section
variable {X : Cx} {k : Nat} {x : Str} {ps : List Str} {sp : Sp} {e : Expr} {es : List Expr} {t : TA} {p pos : Pos}
variable {cx cy : Str} {np o6 np2 aad sL iH : Pos} {b₀ b₁ : Stmt} {ip Po : List Stmt} {ts ts2 : TS} {C1 C2 : Addr}
end
section
variable {X : Cx}
end
section
variable {X : Cx}
end
open PySem PySem.Spec PyProof.Rows PySem.W
section
variable {X : Cx} {CX : kC} {k : Nat} {C : Addr} {m : Str} {ps : List Str} {sp : Sp} {E : XK} {o : Expr} {ta : TE} {pos apos : Pos} {pl : Sem Bool}
end
section
variable {X : Cx} {k0 k k2 : Nat} {C0 C C' : Addr} {m0 m m2 : Str} {ps0 ps Pj : List Str} {sp0 sp Pk : Sp} {o0 e e2 o o2 : Expr} {es Pm : List Expr} {ta0 ta ta2 : TE} {t t2 : TA} {aas aae pos apos Im F1 : Pos} {pl0 pl pl2 : Sem Bool} {cx n : Str} {np o6 aaf sL BV iH Io aag : Pos} {b₀ : Stmt} {ip : List Stmt} {i : Nat} {ts : TS} {C2 : Addr} {c0 c : Expr} {tc0 tc : TT}
end
open PySem PySem.Spec PyProof.Rows PySem.W
section
variable {P : Program} {w : World} {A : Around} {E : Value -> Shared -> Prop} {s : Shared} {e h : Addr} {oe oh : Obj} {vs ws : Array Value}
end
section
variable {M : Model} {A : Around} {E : Value -> Shared -> Prop}
variable {nm q : Str} {C N : Addr} {bs bm : List Value} {hdct : Bool} {sn : List Str} {sub : List Value} {ab : Bool} {col : Option Bool} {dd : Option Addr} {k0 k1 k2 k3 k5 : Option Value} {newId : String}
end
section
variable {P : Program} {w : World} {A : Around} {E : Value -> Shared -> Prop} {env : Env}
section
variable {M : Model} {s : Shared} {e : Addr} {ws : Array Value}
end
end
section
variable {X : Cx} {pins : List (Addr × Obj)} {σ : St} {H : Hp} {s : Shared}
end
section
variable {M : Model} {A : Around} {E : Value -> Shared -> Prop} {s : Shared} {B : Heap} {l : List Env} {ad L : Addr} {cls a0 : Value}
end
section
variable {P : Program} {w : World} {K : PySem.W.Frag} {mg : Str -> Option Value} {base : Heap} {N : List Str} {qual : Str} {scope : Scope} {f : Addr} {cf : Value} {A : Around} {outer : List Env} {s0 : Shared} {H0 : Hp} {E : XK}
end
section
variable {X : Cx} {pins : List (Addr × Obj)} {σ : St} {H H' : Hp} {s s' : Shared} {E : XK} {ad Cc C3 : Addr} {cls C1 C2 : Value} {cx cy n x : Str} {p1 p2 iH np nrp c9 Pp o6 : Pos} {kk i : Nat} {e : Expr} {es : List Expr} {ta : TA}
end
section
variable {X : Cx} {E : XK} {k k2 : Nat} {C C' C3 : Addr} {m m2 : Str} {ps Pj : List Str} {sp Pk : Sp} {e e2 e3 o o2 : Expr} {es Pm es3 : List Expr} {ta ta2 : TE} {t t2 t3 : TA} {pos apos Im F1 : Pos} {pl pl2 : Sem Bool} {cx cy n x : Str} {p1 p2 aah np nrp c9 Pp o6 sL BV iH Io : Pos} {i kk : Nat} {C1 C2 : Value} {c : Expr} {tc : TT}
end
open PySem PySem.Spec PyProof.Rows PySem.W
open PySem PyProof.Rows
theorem J8 {vs:List V} {k:Int->Prop} (h:dc vs λa=>iD a λa=>k a):∃a,vs=[.int a]/\k a:=by
 obtain⟨_,rfl,h0⟩:=rdL1_eq.mp h;obtain⟨_,rfl,h1⟩:=rdI_eq.mp h0;exact⟨_,rfl,h1⟩
theorem EG {vs:List V} {k:Int->Int->Prop} (h:eA vs λa b=>iD a λa=>iD b λb=>k a b):∃a b,vs=[.int a,.int b]/\k a b:=by
 obtain⟨_,_,rfl,h0⟩:=rdL2_eq.mp h;obtain⟨_,rfl,h1⟩:=rdI_eq.mp h0;obtain⟨_,rfl,h2⟩:=rdI_eq.mp h1;exact⟨_,_,rfl,h2⟩
theorem jy {vs:List V} {k:Addr->Prop} (h:dc vs λa=>cK a λa=>k a):∃a,vs=[.ref a]/\k a:=by
 obtain⟨_,rfl,h0⟩:=rdL1_eq.mp h;obtain⟨_,rfl,h1⟩:=rdR_eq.mp h0;exact⟨_,rfl,h1⟩
theorem Ar {vs:List V} {k:Addr->Int->Prop} (h:eA vs λa b=>cK a λa=>iD b λb=>k a b):∃a b,vs=[.ref a,.int b]/\k a b:=by
 obtain⟨_,_,rfl,h0⟩:=rdL2_eq.mp h;obtain⟨_,rfl,h1⟩:=rdR_eq.mp h0;obtain⟨_,rfl,h2⟩:=rdI_eq.mp h1;exact⟨_,_,rfl,h2⟩
theorem jn {vs:List V} {k:Addr->Addr->Prop} (h:eA vs λa b=>cK a λa=>cK b λb=>k a b):∃a b,vs=[.ref a,.ref b]/\k a b:=by
 obtain⟨_,_,rfl,h0⟩:=rdL2_eq.mp h;obtain⟨_,rfl,h1⟩:=rdR_eq.mp h0;obtain⟨_,rfl,h2⟩:=rdR_eq.mp h1;exact⟨_,_,rfl,h2⟩
theorem Lk {vs:List V} {k:Addr->Str->Prop} (h:eA vs λa b=>cK a λa=>nE b λb=>k a b):∃a b,vs=[.ref a,.str b]/\k a b:=by
 obtain⟨_,_,rfl,h0⟩:=rdL2_eq.mp h;obtain⟨_,rfl,h1⟩:=rdR_eq.mp h0;obtain⟨_,rfl,h2⟩:=rdS_eq.mp h1;exact⟨_,_,rfl,h2⟩
theorem rK {vs:List V} {k:Str->Prop} (h:dc vs λa=>nE a λa=>k a):∃a,vs=[.str a]/\k a:=by
 obtain⟨_,rfl,h0⟩:=rdL1_eq.mp h;obtain⟨_,rfl,h1⟩:=rdS_eq.mp h0;exact⟨_,rfl,h1⟩
theorem F2 {vs:List V} {k:V->Prop} (h:dc vs λa=>k a):∃a,vs=[a]/\k a:=by
 obtain⟨_,rfl,h0⟩:=rdL1_eq.mp h;exact⟨_,rfl,h0⟩
theorem EH {vs:List V} {k:V->V->Prop} (h:eA vs λa b=>k a b):∃a b,vs=[a,b]/\k a b:=by
 obtain⟨_,_,rfl,h0⟩:=rdL2_eq.mp h;exact⟨_,_,rfl,h0⟩
open PySem PySem.Spec PySem.W PyProof.Rows
section
variable {X : Cx} {pins : List (Addr × Obj)} {σ : St} {H : Hp} {s : Shared} {A : Around} {E : Value -> Shared -> Prop} {Q : Value -> Shared -> Prop} {b : Bool}
end
section
variable {X : Cx} {K : PySem.W.Frag}
noncomputable def J9 (H:Hp) (p:Addr) (xs:List V):Prop:=H p=some (.lst xs)\/H p=some (.tup xs)
noncomputable def Pu:R2:=λx y H Q=>cK x λp=>iD y λi=>∃xs,J9 H p xs/\∃v,fQ xs i=some v/\Q v H
theorem yN:DA X Pu:=λvalue slice pins s σ H x y v u Q I rx ry h hs=>by
 obtain⟨p,rfl,h⟩:=rdR_eq.mp h;obtain⟨i,rfl,xs,hp,w,e,q⟩:=rdI_eq.mp h;rcases hp with hp | hp
 ·exact aI value slice pins s σ H _ _ v u Q I rx ry ⟨xs,hp,w,e,q⟩ hs
 ·exact aN value slice pins s σ H _ _ v u Q I rx ry ⟨xs,hp,w,e,q⟩ hs
theorem mL:cq X (.builtin "len") (λxs H Q=>∃p,xs=[.ref p]/\∃ys,J9 H p ys/\Q (.int ys.length) H):=λpins s σ H xs us Q I r ⟨p,e,ys,h,q⟩=>by
 rcases h with h | h
 ·exact aW pins s σ H xs us Q I r ⟨p,ys,e,h,q⟩
 ·exact gI pins s σ H xs us Q I r ⟨p,ys,e,h,q⟩
end
end L2
namespace PySem.Stt
open PySem PyProof.Rows
noncomputable def sT (l:List Str) (v:Str):List Str:=if v∈l then l else l++ [v]
noncomputable def met (ts:List Str):List Str:=ts.foldl sT []
theorem vj (ts:List Str) (v:Str):met (ts++ [v])=sT (met ts) v:=by unfold met;rw[List.foldl_append];rfl
theorem EI (l:List Str) (v k:Str):(decide (k∈sT l v))=(decide (k∈l) || decide (k=v)):=by
 unfold sT
 by_cases h:v∈l
 ·rw[if_pos h]
  by_cases e:k=v
  ·subst e;simp [h]
  ·simp [e]
 ·rw[if_neg h];simp
theorem oC (l:List Str) (v:Str):(sT l v).length=if (decide (v∈l))=true then l.length else l.length+1:=by
 unfold sT;by_cases h:v∈l <;>simp [h]
theorem Iz (ts:List Str):(met ts).length<=ts.length:=by
 have:∀(us l:List Str),(us.foldl sT l).length<=l.length+us.length:=by
  intro us
  induction us with
  | nil=>intro l;simp
  | cons u us ih=>
   intro l;have h1:=ih (sT l u);have h2:=oC l u;simp only[List.foldl_cons,aaL]
   split at h2 <;>omega
 have h:=this ts [];unfold met
 simpa using h
theorem As:∀{ts:List Str},ts.Nodup->met ts=ts:=by
 have:∀(us l:List Str),(l++us).Nodup->us.foldl sT l=l++us:=by
  intro us
  induction us with
  | nil=>intro l _;simp
  | cons u us ih=>
   intro l h;have hn:u∉l:=λm=>by
    have:=(List.nodup_append.mp h).2.2 u m u aaK;exact this rfl
   have e:sT l u=l++ [u]:=if_neg hn;rw[List.foldl_cons,e,ih _ (by rw[List.append_assoc];exact h),List.append_assoc];rfl
 intro ts h;exact(this ts [] h)
section
variable {prog : Program} {w : World} {A : Around} {R : Result -> Shared -> Prop} {I : Addr} {fp wr : List Addr} {G : Array GenState -> Array GenState -> Prop} {n : Nat} {P : Nat -> Value -> Prop} {St : Nat -> Shared -> Prop}
theorem vi (W:WalksS prog w A.in1 I fp wr G n P St) (S:Addr) (N2:S∉fp) (ts:List Str) (hn:ts.length=n) (Ir:∀(i:Nat) (v:Value),P i v->∃(z:Str) (t:Tok),ts[i]?=some z/\v=Value.str z t) (hb:n+1<scanBound):
  ∀(k i:Nat) (s:Shared),n - i=k->i<=n->St i s->s.heap.SetOf (strKind prog w) S (λk'=>decide (k'∈met (ts.take i))) (met (ts.take i)).length->
   (∀s',Moved (S::wr) G s s'->s'.heap.SetOf (strKind prog w) S (λk'=>decide (k'∈met ts)) (met ts).length->R (.ok (.ret .none)) s')->
   codeAny (model prog w) A (.builtin "set.update.loop" ⟨[.ref S,.ref I],[]⟩) R s:=by
 have hSw:S∉wr:=λh=>N2 (W.sub _ h);intro k
 induction k with
 | zero=>
  intro i s hk hi qV hS hR;obtain rfl:i=n:=by omega
  refine codeAny_builtin PyProof.Rows.F.entry_set_update_loop ?_;rw[Around.under_plainId PyProof.Rows.F.plain_set_update_loop _];show wpAny _ A.in1 (pyNext (.ref I) >>=_) _ _ s;refine wpAny_bind (W.done s _ _ qV λs' hm=>wpAny_pure (hR s' (hm.mono λb hb=>aaJ _ hb) ?_));obtain⟨o,es,ep,t,ho,rest⟩:=hS;rw[aaT (by omega)] at rest;exact⟨o,es,ep,t,hm.heap S _ hSw ho,rest⟩
 | succ k ih=>
  intro i s hk hi qV hS hR;have gG:i<n:=by omega
  refine codeAny_builtin PyProof.Rows.F.entry_set_update_loop ?_;rw[Around.under_plainId PyProof.Rows.F.plain_set_update_loop _];show wpAny _ A.in1 (pyNext (.ref I) >>=_) _ _ s;refine wpAny_bind (W.item i s _ _ gG qV λv s' hP Iu hm=>?_);obtain⟨z,t,ez,rfl⟩:=Ir i v hP;have Iv:s'.heap.SetOf (strKind prog w) S (λk'=>decide (k'∈met (ts.take i))) (met (ts.take i)).length:=by
   obtain⟨o,es,ep,tb,ho,rest⟩:=hS;exact⟨o,es,ep,tb,hm.heap S _ hSw ho,rest⟩
  show wpAny _ A.in1 (holding [Value.str z t] (setAdd S (.str z t)) >>=_) _ _ s';refine wpAny_bind (wpAny_holding ?_);unfold setAdd;refine wpAny_holding (wpAny_bind ((strKind prog w).pyHash (k:=z) (strKind_is _ _ _ _) ?_));have et:ts.take (i+1)=ts.take i++ [z]:=by rw[aa4,ez];rfl
  have Ll:(met (ts.take i)).length+1<scanBound:=by have:=Iz (ts.take i);have:=List.length_take_le i ts;omega
  refine wpAny_setAddHashed_of (knd:=strKind prog w) (s:={s' with toks:=s'.toks+1}) (strKind_is _ _ _ _) rfl Iv Ll λh' J7 Pn=>?_;have hSi:h'.SetOf (strKind prog w) S (λk'=>decide (k'∈met (ts.take (i+1)))) (met (ts.take (i+1))).length:=
   SetOf_congr Pn (λk'=>by rw[et,vj,EI]) (by rw[et,vj,oC])
  refine wpAny_pure ⟨plainId_quiet PyProof.Rows.F.plain_set_update_loop _,ih (i+1) _ (by omega) gG (W.frame _ s' _ _ Iu (Nat.le_succ _) λb hb o e=>?_) hSi λsk Iw Iy=>?_⟩
  ·rw[J7.2 b (λh:b=S=>N2 (by rw[<-h];exact hb))];exact e
  ·refine hR sk (Moved.trans W.gtrans ((hm.mono λb hb=>aaJ _ hb).then_heap (Nat.le_succ _) λb o hb e=>?_) Iw) Iy;rw[J7.2 b (λh:b=S=>hb (by rw[h];exact aaK))];exact e
end
section
variable {prog : Program} {w : World} {A : Around} {E : Value -> Shared -> Prop} {s : Shared}
set_option maxHeartbeats 3200000 in
theorem B1 {l:Addr} {items:Array Value} {ts:List Str} {Q:Value->Shared->Prop} (hh:A.handled=none) (hl:s.heap.IsList l items) (hn:ts.length=items.size) (hi:∀(i:Nat) (v:Value),items[i]?=some v->∃(z:Str) (t:Tok),ts[i]?=some z/\v=Value.str z t) (hb:items.size+1<scanBound)
  (h:∀(h':Heap) (tk:Nat),h'.SetOf (strKind prog w) s.heap.objs.size (λk'=>decide (k'∈met ts)) (met ts).length->
   (∀b o,b<s.heap.objs.size->s.heap.get? b=some o->h'.get? b=some o)->Q (.ref s.heap.objs.size) {s with heap:=h',toks:=tk}):
  wpAny (model prog w) A (call (.type "set") [.ref l]) Q E s:=by
 obtain⟨c,tl,aat⟩:=PySem.F.called_set.mro;have aai:=PySem.F.called_set.made;have aau:=PySem.F.called_set.sub;refine wpAny_call (codeAny_of_tree ?_);show wpAny _ _ (callAny (.type "set") _) _ _ _;refine wpAny_pure ⟨Code.quiet_builtin _ (by ac_rfl),codeAny_builtin PySem.F.entry_type_call ?_⟩;rw[Around.under_plain (weight_type_call_type "set" [.ref l] []) rfl];have h1:=PySem.F.called_set.notType;have h2:=PySem.F.called_set.canCreate;have hct:=PySem.F.typeCall_set_1 (.ref l)
 repeat (any_goals (first | assumption | wp_step))
 refine codeAny_mono (code_set_new_1 (.ref l) (E:=E) (Q₁:=λobj s₁=>∃led:Bool,obj=.ref s.heap.objs.size/\s₁={s with heap:=s.heap.push {cls:=.type "set",dict:=none,data:=.set #[] 0 (.fresh 0 0 led)}}) λled=>⟨led,rfl,rfl⟩) λr s₁ hr=>?_;cases r with
 | error e=>exact hr
 | ok fl=>
  cases fl with
  | ret obj=>
   obtain⟨led,rfl,rfl⟩:=hr;have hS:(s.heap.push {cls:=.type "set",dict:=none,data:=.set #[] 0 (.fresh 0 0 led)}).get? s.heap.objs.size=some {cls:=.type "set",dict:=none,data:=.set #[] 0 (.fresh 0 0 led)}:=Heap.get?_push_size _ rfl;have hT:Shared.TypeIs {s with heap:=s.heap.push {cls:=.type "set",dict:=none,data:=.set #[] 0 (.fresh 0 0 led)}} (.ref s.heap.objs.size) "set":=⟨_,hS,rfl⟩
   have Pf:=PySem.F.called_set.init.lookup;have hbi:=PySem.F.called_set.init.bind (.ref s.heap.objs.size)
   repeat (any_goals (first | assumption | wp_step))
   refine codeAny_mono (codeAny_call_builtin (R:=wants (λr s₂=>r=.none/\∃h' tk,s₂={s with heap:=h',toks:=tk}/\
     h'.SetOf (strKind prog w) s.heap.objs.size (λk'=>decide (k'∈met ts)) (met ts).length/\
     (∀b o,b<s.heap.objs.size->s.heap.get? b=some o->h'.get? b=some o)) E) PySem.F.called_set.init.plain PySem.F.entry_set_init (check_set_init_1 hT ?_)) λr₂ s₂ Pw=>?_
   ·obtain⟨ol,hol,J5,nl,hdl⟩:=hl;obtain⟨aav,Lm,aaj,IA⟩:=ol;simp only at J5 hdl;subst J5;subst hdl;have Px:(s.heap.push {cls:=.type "set",dict:=none,data:=.set #[] 0 (.fresh 0 0 led)}).get? l=some {cls:=.type "list",dict:=Lm,data:=.seq items nl,slots:=IA}:=Heap.get?_push_of_some _ hol;have aaw:=PySem.F.sub_list_set;have aax:=PySem.F.sub_list_frozenset;have hne:(Value.type "list"==Value.type "dict")=false:=by decide
    have jo:(s.heap.push {cls:=.type "set",dict:=none,data:=.set #[] 0 (.fresh 0 0 led)}).IsList l items:=⟨_,Px,rfl,nl,rfl⟩
    unfold Builtin.«set.__init__» noKeywords Builtin.Frozenset.updateFrom;generalize hPI:pyIter=PI
    wp_walk
    subst hPI;refine wpAny_pyIter_list jo (wpAny_bind (wpAny_runValue ?_));have hlS:l<s.heap.objs.size:=Heap.lt_size hol;have hh3:A.in1.in1.in1.handled=none:=by simp [hh]
    have Py:l≠(s.heap.push {cls:=.type "set",dict:=none,data:=.set #[] 0 (.fresh 0 0 led)}).objs.size:=by
     rw[Heap.size_push];exact aaN (abv hlS)
    have N2:s.heap.objs.size∉[(s.heap.push {cls:=.type "set",dict:=none,data:=.set #[] 0 (.fresh 0 0 led)}).objs.size,l]:=by
     rw[Heap.size_push];simp only[aaD,List.mem_singleton,aaH,or_false,not_or];exact⟨aaN (abu _),Nat.ne_of_gt hlS⟩
    have Pz:((s.heap.push {cls:=.type "set",dict:=none,data:=.set #[] 0 (.fresh 0 0 led)}).push {cls:=.type "list_iterator",data:=.fields #[.ref l,.int 0 0]}).get? s.heap.objs.size
      =some {cls:=.type "set",dict:=none,data:=.set #[] 0 (.fresh 0 0 led)}:=Heap.get?_push_of_some _ hS
    refine vi ((Walks.list hh3 _ l Py items).toS) s.heap.objs.size N2 ts hn (λi v hv=>hi i v hv) hb (items.size - 0) 0 _ (by omega) (aaP _)
     ⟨⟨_,Heap.get?_push_size _ rfl,rfl,rfl⟩,(jo.push _)⟩ (SetOf_congr ((setObjOf_fresh (knd:=strKind prog w) led).setOf Pz (by unfold scanBound;omega)) (λ_=>by simp [met]) rfl) λs' hm Iv=>?_
    obtain⟨h',g',d',tk',OJ⟩:=s';have eg:g'=s.gens:=hm.gens;have ed:d'=s.drawn:=hm.drawn;have eo:OJ=s.os:=hm.os;subst eg;subst ed;subst eo;show wpAny _ _ _ _ _ _;refine wpAny_pure ?_;show wpAny _ _ (ret Value.none) _ _ _;refine wpAny_pure ⟨rfl,h',tk',rfl,Iv,λb o hb e=>?_⟩;have EJ:b≠(s.heap.push {cls:=.type "set",dict:=none,data:=.set #[] 0 (.fresh 0 0 led)}).objs.size:=by
     rw[Heap.size_push];exact aaN (abv hb)
    exact hm.heap b o (by simp only[aaD,List.mem_singleton,aaH,or_false,not_or];exact⟨aaN hb,EJ⟩) (Heap.get?_push_of_some _ (Heap.get?_push_of_some _ e))
   ·cases r₂ with
    | error e=>exact Pw
    | ok fl₂=>
     cases fl₂ with
     | ret r=>
      obtain⟨rfl,h',tk,rfl,Iv,hk'⟩:=Pw
      repeat (any_goals (first | assumption | wp_step))
      exact h _ _ Iv hk'
     | _=>exact Pw.elim
  | _=>exact hr.elim
end
end PySem.Stt
namespace L2
open PySem PySem.Spec PyProof.Rows PySem.Stt
noncomputable def IB (P:Program) (w:World) (a:Addr) (ts:List Str):HO:=.ext λh=>h.SetOf (strKind P w) a (λk=>decide (k∈met ts)) (met ts).length
section
variable {X : Cx} {P : Program} {w : World} {K : PySem.W.Frag}
theorem IC {H:Hp} {h:Heap} {a:Addr} {ts:List Str} (hS:h.SetOf (strKind P w) a (λk=>decide (k∈met ts)) (met ts).length):cJ P w H h a (IB P w a ts):=by
 refine⟨hS,?_,λh1 h2 q k=>?_⟩
 ·obtain⟨o,_,_,_,e,_⟩:=hS;exact⟨o,e⟩
 ·obtain⟨o,es,ep,t,e,r⟩:=q;exact⟨o,es,ep,t,k _ e,r⟩
theorem EK {ts:List Str}:∀{us:List Value},bS (ts.map V.str) us->∀(i:Nat) (v:Value),us[i]?=some v->∃(z:Str) (t:Tok),ts[i]?=some z/\v=Value.str z t:=by
 induction ts with
 | nil=>intro us r;rw[aa3] at r;cases r;intro i v h;simp at h
 | cons z ts ih=>
  intro us r i v h;rw[aaI] at r;cases r with
  | cons r1 r2=>
   obtain⟨t,rfl⟩:=r1;cases i with
   | zero=>simp at h;exact⟨z,t,rfl,h.symm⟩
   | succ i=>simp only[List.getElem?_cons_succ] at h ⊢;exact ih r2 i v h
theorem vk (hc:X.calm=true):cq X (.type "set") (λxs H Q=>∃p ts,xs=[.ref p]/\bG X.K H p (List.map V.str ts)/\ts.length<=4000/\∀l,H l=none->Q (.ref l) (upd H l (IB X.prog X.w l ts))):=by
 intro pins s σ H xs us Q I r h;obtain⟨p,ts,rfl,hq,hn,q⟩:=h;obtain⟨u,rfl,rx⟩:=vals1 r;cases rx;obtain⟨bI,rv,pl,hz⟩:=I.list hq;have hl:=rv.length;rw[aaA] at hl;have fr:=I.cj.fresh (a:=s.heap.objs.size) (aaC _);refine B1 (ts:=ts) (I.ok.hd hc) pl.isList (by simp [hl]) (λi v e=>EK rv i v (by simpa using e)) (by simp only[aaU];unfold scanBound;omega) λh' tk hS hk=>?_;exact⟨.ref s.heap.objs.size,_,I.laid (t':=tk) (λb o eb=>hk b o (Heap.lt_size eb) eb) (aaC _) (o:=IB X.prog X.w s.heap.objs.size ts) (IC hS),rfl,q _ fr⟩
theorem pG:cq X (.builtin "len") (λxs H Q=>∃a ts,xs=[.ref a]/\H a=some (IB X.prog X.w a ts)/\Q (.int (met ts).length) H):=by
 intro pins s σ H xs us Q I r h;obtain⟨a,ts,rfl,ha,q⟩:=h;obtain⟨u,rfl,rx⟩:=vals1 r;cases rx;obtain⟨o,es,ep,t,ho,hex,hd,_,_,hb,hf,hn⟩:=(show cJ X.prog X.w H s.heap a (IB X.prog X.w a ts) from I.cj a _ ha).1;refine call_len_set ho hex hd hf (by unfold scanBound at hb;omega) ?_;rw[hn];exact⟨.int (met ts).length,H,I.tok _,⟨_,rfl⟩,q⟩
theorem Au (hc:X.calm=true:=by rfl) (hK:X.K=K:=by rfl) (hP:X.prog=P:=by rfl) (hw:X.w=w:=by rfl):cq X (.type "set") (λxs H Q=>∃p ts,xs=[.ref p]/\bG K H p (List.map V.str ts)/\ts.length<=4000/\∀l,H l=none->Q (.ref l) (upd H l (IB P w l ts))):=by subst hK hP hw;exact vk hc
theorem sU (hP:X.prog=P:=by rfl) (hw:X.w=w:=by rfl):cq X (.builtin "len") (λxs H Q=>∃a ts,xs=[.ref a]/\H a=some (IB P w a ts)/\Q (.int (met ts).length) H):=by subst hP hw;exact pG
end
open PySem PySem.Spec PyProof.Rows PySem.W
section
variable {X : Cx} {K : PySem.W.Frag}
noncomputable def xr (K:PySem.W.Frag) (P:Params) (td ty:TE):TE:=λσ H Q=>td σ H λx H1=>ty σ H1 λy H2=>∃z a es n k t,x=.ref a/\y=.str z/\K.lookup a=some ⟨.type "dict",none,.dict es n,#[]⟩/\KeysLit P es.toList/\PySem.W.nsIn K a z=some (some (.int k t))/\Q (.int k) H2
theorem vm {w:World} {o i:Expr} {pos:Pos} {td ty:TE} (ho:PE X o td) (hi:PE X i ty) (hs:D4 i) (hK:X.K=K:=by rfl) (hw:X.w=w:=by rfl):PE X (.Subscript o i pos) (xr K w.params td ty):=by
 subst hK hw;intro pins s σ H Q I h;refine sG PySem.F.slot_dict_getitem.lookup hs (cW (ho pins s σ H _ I h) λu s1 ⟨x,H1,I1,rx,q1⟩=>cW (hi pins s1 σ H1 _ I1 q1) λiv s2 eG=>?_);obtain⟨y,H2,I2,ry,z,a,es,n,k,t',ex,ey,hl,hk,e,q2⟩:=eG;subst ex ey;obtain rfl:u=Value.ref a:=rx;obtain⟨t,rfl⟩:=ry;have hm:=mapOf_K (prog:=X.prog) I2.oz hl hk;exact⟨hm.typeIs,wpAny_getItem_of (strKind_is X.prog X.w z t) hm (find_K hl e) ⟨.int k,H2,I2.tok _,⟨t',rfl⟩,q2⟩⟩
noncomputable def jq (K:PySem.W.Frag) (a:Addr) (z:Str) (k:Int):Prop:=∃t,PySem.W.nsIn K a z=some (some (.int k t))
theorem jq.rd {P:Params} {a:Addr} {ks:List Str} {z:Str} {k:Int} (r:jq K a z k) (h:dN K P a ks):∃es n t,K.lookup a=some ⟨.type "dict",none,.dict es n,#[]⟩/\KeysLit P es.toList/\PySem.W.nsIn K a z=some (some (.int k t)):=by
 obtain⟨t,e⟩:=r;obtain⟨es,n,hl,hk,_,_⟩:=h;exact⟨es,n,t,hl,hk,e⟩
end
end L2
namespace K51
open PySem PySem.Spec PyProof.Rows L2
set_option maxHeartbeats 4000000
local macro_rules | `(tactic| simp! only [$ls,*]) => `(tactic| simp only [↓exV, ↓exI, ↓exB, ↓exR, ↓exS, ↓exII, ↓exRI, ↓exRa, ↓exRb, ↓rdV_c, ↓rdR_c, ↓rdI_c, ↓rdB_c, ↓rdS_c, L2.start, rdV_c, rdR_c, rdI_c, rdB_c, rdS_c, rdL1_c, rdL2_c, rdL3_c, rdL4_c, rdV_eq, rdR_eq, rdI_eq, rdB_eq, rdS_eq, rdL1_eq, rdL2_eq, rdL3_eq, rdL4_eq, Pr, tSortR, tSl, tNoPart, tPart, rSlL, tLst, tDNewK, tComp, L2.stC, tFor_eq, iList, iTup, iRng1, iRng2, iEnum, iStr, tChain, tSumV, tBM, rJoin, tRaise, tDGet, tDGet2, sDPut, Option.join_some, List.getElem?_nil, tSeq, tRet, tIfS, tTest, tB, tOp, tUn, tVar, tC, tCB, tCons, tNil, tCall, tTupS, tAsg, gName, gNil, gCons, tNext, tDrop, tAnd, tOr, tNot, tAndV, tNotV, tIf, rI, rI0, rU, rIxTH, rIxLH, rInT, rEq, rNe, scal_ss, scal_ii, scal_bb, scal_si, scal_is, CPow, at0, at1, at2, List.map_cons, List.map_nil, List.length_cons, List.length_nil, Nat.reduceSub, Nat.reduceAdd, Nat.zero_add, List.replicate_zero, List.reduceReplicate, List.append_nil, List.nil_append, List.cons_append, List.getElem?_cons_zero, List.getElem?_cons_succ, List.set_cons_zero, List.set_cons_succ, Option.some.injEq, exists_eq_left', exists_eq_left, V.ref.injEq, V.int.injEq, V.bl.injEq, V.str.injEq, V.ty.injEq, HO.tup.injEq, HO.lst.injEq, List.cons.injEq, and_true, true_and, and_assoc, exists_and_left, decide_eq_true_eq, Bool.not_eq_true', decide_eq_false_iff_not, ite_true, ite_false, if_true, if_false, Int.reduceToNat, eq_self_iff_true, $ls,*])
local macro_rules | `(tactic| simp_all only [$ls,*]) => `(tactic| (first | ((dsimp (config := { zetaDelta := true }) only [L2.start, rdV_c, rdR_c, rdI_c, rdB_c, rdS_c, rdL1_c, rdL2_c, rdL3_c, rdL4_c, Pr, tSortR, tSl, tNoPart, tPart, rSlL, tLst, tDNewK, tComp, L2.stC, tFor_eq, iList, iTup, iRng1, iRng2, iEnum, iStr, tChain, tSumV, tBM, rJoin, tRaise, tDGet, tDGet2, sDPut, tSeq, tRet, tIfS, tTest, tB, tOp, tUn, tVar, tC, tCB, tCons, tNil, tCall, tTupS, tAsg, gName, gNil, gCons, tNext, tDrop, tAnd, tOr, tNot, tAndV, tNotV, tIf, rI, rI0, rU, rIxTH, rIxLH, rInT, rEq, rNe, scal_ss, scal_ii, scal_bb, scal_si, scal_is, CPow, List.map_cons, List.map_nil, List.length_cons, List.length_nil, Nat.reduceSub, Nat.reduceAdd, List.replicate_zero, List.reduceReplicate, List.nil_append, List.cons_append, List.getElem?_cons_zero, List.getElem?_cons_succ, List.set_cons_zero, List.set_cons_succ, $ls,*]); try simp! only [$ls,*]) | simp! only [$ls,*]))
seal L2.PE L2.PT L2.PW L2.PA L2.PS L2.uF L2.PG L2.JZ L2.PI L2.Ie L2.PO L2.gH L2.NM L2.cq L2.DA L2.KP L2.DB L2.HG
theorem Ea {P:Program} {w:World}:sH (cL P w):=yj P w
set_option genInjectivity false in
set_option genSizeOf false in
structure Txt (K:PySem.W.Frag) (mg:Str->Option Value) (pr:Params) (ax aA aJ aB au aD av aL:Addr):Prop where
 z_abs:mg "abs"=none
 z_all:mg "all"=none
 z_bool:mg "bool"=none
 z_enumerate:mg "enumerate"=none
 z_int:mg "int"=none
 z_isinstance:mg "isinstance"=none
 z_len:mg "len"=none
 z_list:mg "list"=none
 z_max:mg "max"=none
 z_min:mg "min"=none
 z_range:mg "range"=none
 z_set:mg "set"=none
 z_sorted:mg "sorted"=none
 z_str:mg "str"=none
 z_sum:mg "sum"=none
 z_tuple:mg "tuple"=none
 mM:Dn K mg "common_divisor" (top 10)
 EL:Dn K mg "share" (top 11)
 sV:Dn K mg "show_share" (top 12)
 sW:Dn K mg "is_figures" (top 13)
 xt:Dn K mg "whole_in" (top 14)
 sY:Dn K mg "read_share" (top 15)
 j9:Dn K mg "table_by_weights" (top 17)
 xu:Dn K mg "table_of" (top 18)
 EM:Dn K mg "power" (top 22)
 sZ:Dn K mg "most_faces" (top 23)
 qx:Dn K mg "part_bottom" (top 24)
 tq:Dn K mg "part_count" (top 25)
 tu:Dn K mg "check_size" (top 26)
 tw:Dn K mg "dice_faces" (top 27)
 qy:Dn K mg "again_faces" (top 28)
 qz:Dn K mg "burst_faces" (top 29)
 tD:Dn K mg "part_faces" (top 30)
 xv:Dn K mg "value_of" (top 31)
 nX:Dn K mg "sides_product" (top 32)
 qA:Dn K mg "part_throws" (top 33)
 kc:Dn K mg "throws_by_bottom" (top 34)
 tE:Dn K mg "pool_table" (top 35)
 gK:N1 K mg "read_number_pooltexts" "read_number" (top 43)
 vn:Dn K mg "read_dice" (top 45)
 qB:Dn K mg "read_worded" (top 46)
 vo:Dn K mg "read_part" (top 47)
 vq:Dn K mg "read_pool" (top 48)
 Av:Dn K mg "is_name" (top 62)
 Aw:Dn K mg "when_of" (top 63)
 B2:Dn K mg "demand" (top 64)
 jr:N1 K mg "read_number_games" "read_number" (top 65)
 vt:Dn K mg "read_name" (top 67)
 tF:Dn K mg "read_known" (top 68)
 nY:Dn K mg "demand_unlike" (top 69)
 tG:Dn K mg "read_worth" (top 70)
 mO:Dn K mg "read_game_pool" (top 71)
 nZ:Dn K mg "table_in_game" (top 72)
 tH:Dn K mg "read_count" (top 73)
 qC:Dn K mg "read_counts" (top 74)
 vv:Dn K mg "read_deed" (top 75)
 tI:Dn K mg "read_deeds" (top 76)
 vx:Dn K mg "read_goal" (top 77)
 mP:Dn K mg "read_throw_row" (top 78)
 vy:Dn K mg "read_when" (top 79)
 oi:Dn K mg "read_pick_row" (top 80)
 gA:Dn K mg "demand_each_in_one_row" (top 81)
 tJ:Dn K mg "read_throw" (top 82)
 vz:Dn K mg "read_pick" (top 83)
 xw:Dn K mg "read_ask" (top 84)
 tK:Dn K mg "read_plain" (top 85)
 vA:Dn K mg "read_what" (top 86)
 Ax:Dn K mg "grouped" (top 87)
 qD:Dn K mg "read_places" (top 88)
 vB:Dn K mg "read_game" (top 89)
 Ay:Dn K mg "_law_at" (top 91)
 tL:Dn K mg "_law_names" (top 92)
 tM:Dn K mg "_law_share" (top 93)
 tN:Dn K mg "_law_deeds" (top 94)
 vC:Dn K mg "_law_pool" (top 95)
 kM:Dn K mg "_law_throw_rows" (top 96)
 mQ:Dn K mg "_law_pick_rows" (top 97)
 vD:Dn K mg "_law_what" (top 98)
 vE:Dn K mg "_law_game" (top 99)
 kN:Dn K mg "_law_share_text" (top 100)
 mR:Dn K mg "_law_pool_text" (top 101)
 tO:Dn K mg "_law_words" (top 102)
 mS:Dn K mg "_law_rows_text" (top 103)
 vF:Dn K mg "_law_text" (top 104)
 kO:Dn K mg "_law_alike" (top 105)
 c_FIGURES:∃t,mg "FIGURES"=some (.str "0123456789" t)
 c_MOST_FIGURES:∃t,mg "MOST_FIGURES"=some (.int 12 t)
 c_MOST_THROWS:∃t,mg "MOST_THROWS"=some (.int 1296 t)
 c_MOST_BOTTOM_pools:∃t,mg "MOST_BOTTOM_pools"=some (.int 1000000 t)
 c_MOST_PARTS:∃t,mg "MOST_PARTS"=some (.int 4 t)
 c_MOST_NUMBER_pooltexts:∃t,mg "MOST_NUMBER_pooltexts"=some (.int 99 t)
 c_MOST_DICE:∃t,mg "MOST_DICE"=some (.int 6 t)
 c_MOST_SIDES:∃t,mg "MOST_SIDES"=some (.int 20 t)
 c_LETTERS:∃t,mg "LETTERS"=some (.str "abcdefghijklmnopqrstuvwxyz" t)
 c_MOST_LETTERS:∃t,mg "MOST_LETTERS"=some (.int 8 t)
 c_MOST_COUNTS:∃t,mg "MOST_COUNTS"=some (.int 4 t)
 c_MOST_OF_COUNT:∃t,mg "MOST_OF_COUNT"=some (.int 60 t)
 c_MOST_PLACES:∃t,mg "MOST_PLACES"=some (.int 30 t)
 c_MOST_THROW_ROWS:∃t,mg "MOST_THROW_ROWS"=some (.int 60 t)
 c_MOST_PICK_ROWS:∃t,mg "MOST_PICK_ROWS"=some (.int 4 t)
 c_MOST_DEEDS:∃t,mg "MOST_DEEDS"=some (.int 6 t)
 c_MOST_NUMBER_games:∃t,mg "MOST_NUMBER_games"=some (.int 999 t)
 c_MOST_BOTTOM_games:∃t,mg "MOST_BOTTOM_games"=some (.int 1000000 t)
 k_NoShare:mg "NoShare"=some (.ref ax)
 k_NoTable:mg "NoTable"=some (.ref aA)
 k_NoPool:mg "NoPool"=some (.ref aJ)
 k_TooMany:mg "TooMany"=some (.ref aB)
 x_NoShare:PySem.W.excIn K ax wY o5=true
 x_NoTable:PySem.W.excIn K aA wY o5=true
 x_TooMany:PySem.W.excIn K aB wY o5=true
 nodig:PySem.W.nsIn K cStatics "sys.int_max_str_digits"=some none
 g_OF_MANY:mg "OF_MANY"=some (.ref au)
 g_OF_ONE:mg "OF_ONE"=some (.ref aD)
 g_PERSONS:mg "PERSONS"=some (.ref av)
 g_DEEDS:mg "DEEDS"=some (.ref aL)
 r_OF_MANY_best:iP K au "best" 1 6
 r_OF_MANY_hits:iP K au "hits" 1 20
 r_OF_MANY_worst:iP K au "worst" 1 6
 r_OF_ONE_again:iP K aD "again" 0 20
 r_OF_ONE_burst:iP K aD "burst" 0 6
 v_PERSONS_1:jq K av "1" 1
 v_PERSONS_2:jq K av "2" 2
 v_DEEDS_set:jq K aL "set" 3
 v_DEEDS_plus:jq K aL "plus" 3
 v_DEEDS_face:jq K aL "face" 2
 v_DEEDS_move:jq K aL "move" 3
 m_OF_MANY:dN K pr au ["best","worst","hits"]
 m_OF_ONE:dN K pr aD ["again","burst"]
 m_PERSONS:dN K pr av ["1","2"]
 m_DEEDS:dN K pr aL ["set","plus","face","move"]
theorem PB {C:List Value->Prop} (k:C []):∀us:List Value,us.length=0->C us:=λus h=>by
 cases us with
 | nil=>exact k
 | cons a us=>cases h
theorem B3 {C:List Value->Prop} {n:Nat} (k:∀a (us:List Value),us.length=n->C (a::us)):∀us:List Value,us.length=n+1->C us:=λus h=>by
 cases us with
 | nil=>cases h
 | cons a us=>exact k a us (Nat.succ.inj h)
theorem du {C:List Value->Prop} (k:∀a,C [a]):∀us:List Value,us.length=1->C us:=B3 λa=>PB (C:=λus=>C (a::us)) (k a)
theorem fB {C:List Value->Prop} (k:∀a b,C [a,b]):∀us:List Value,us.length=2->C us:=B3 λa=>du (C:=λus=>C (a::us)) (k a)
theorem vG {C:List Value->Prop} (k:∀a b c,C [a,b,c]):∀us:List Value,us.length=3->C us:=B3 λa=>fB (C:=λus=>C (a::us)) (k a)
theorem vH {C:List Value->Prop} (k:∀a b c d,C [a,b,c,d]):∀us:List Value,us.length=4->C us:=B3 λa=>vG (C:=λus=>C (a::us)) (k a)
theorem PC {C:List Value->Prop} (k:∀a b c d e,C [a,b,c,d,e]):∀us:List Value,us.length=5->C us:=B3 λa=>vH (C:=λus=>C (a::us)) (k a)
theorem aP {a b:TS} {D:Ends} {σ:L2.St} {H:Hp} (C:(L2.St->Hp->Prop)->Prop) (ha:∀N:L2.St->Hp->Prop,C N->a {D with nx:=N} σ H) (hb:C (b D)):tSeq a b D σ H:=ha _ hb
theorem kP {H:Hp} {ds:List Dat} {v:V}:Rep H (.tup ds) v↔∃p vs,v=.ref p/\H p=some (.tup vs)/\bj H ds vs:=by rw[Rep]
theorem bN {H:Hp} {d:Dat} {ds:List Dat} {vs:List V}:bj H (d::ds) vs↔∃v r,vs=v::r/\Rep H d v/\bj H ds r:=by rw[bj]
theorem cM {H:Hp} {vs:List V}:bj H [] vs↔vs=[]:=by rw[bj]
theorem fV {H:Hp} {x:Str} {v:V}:Rep H (.str x) v↔v=.str x:=by rw[Rep]
theorem kR {H:Hp} {x:Int} {v:V}:Rep H (.int x) v↔v=.int x:=by rw[Rep]
theorem B4 {H:Hp} {a b:Dat} {v:V}:Rep H (.tup [a,b]) v↔∃p x y,v=.ref p/\H p=some (.tup [x,y])/\Rep H a x/\Rep H b y:=by
 rw[kP];constructor
 ·rintro⟨p,vs,e,h,r⟩;obtain⟨x,r1,rfl,hx,r⟩:=bN.mp r;obtain⟨y,r2,rfl,hy,r⟩:=bN.mp r;rw[cM.mp r] at h;exact⟨p,x,y,e,h,hx,hy⟩
 ·rintro⟨p,x,y,e,h,hx,hy⟩;exact⟨p,_,e,h,bN.mpr ⟨x,_,rfl,hx,bN.mpr ⟨y,_,rfl,hy,cM.mpr rfl⟩⟩⟩
theorem B6 {H:Hp} {a b c d:Dat} {v:V}:Rep H (.tup [a,b,c,d]) v↔∃p x y z u,v=.ref p/\H p=some (.tup [x,y,z,u])/\Rep H a x/\Rep H b y/\Rep H c z/\Rep H d u:=by
 rw[kP];constructor
 ·rintro⟨p,vs,e,h,r⟩;obtain⟨x,r1,rfl,hx,r⟩:=bN.mp r;obtain⟨y,r2,rfl,hy,r⟩:=bN.mp r;obtain⟨z,r3,rfl,hz,r⟩:=bN.mp r;obtain⟨u,r4,rfl,hu,r⟩:=bN.mp r;rw[cM.mp r] at h;exact⟨p,x,y,z,u,e,h,hx,hy,hz,hu⟩
 ·rintro⟨p,x,y,z,u,e,h,hx,hy,hz,hu⟩;exact⟨p,_,e,h,bN.mpr ⟨x,_,rfl,hx,bN.mpr ⟨y,_,rfl,hy,bN.mpr ⟨z,_,rfl,hz,bN.mpr ⟨u,_,rfl,hu,cM.mpr rfl⟩⟩⟩⟩⟩
noncomputable def eZ (G H:Hp):Hp:=λa=>match G a with
 | some (.lst _)=>none
 | _=>H a
noncomputable def cb (G H:Hp):Prop:=∀a ys,G a=some (.lst ys)->∃zs,H a=some (.lst zs)
theorem cb.of {G H:Hp} (s:aq G H):cb G H:=λa ys e=>⟨ys,s _ _ e⟩
theorem cb.trans {G H K:Hp} (s:cb G H) (t:aq H K):cb G K:=λa ys e=>by
 obtain⟨zs,h⟩:=s a ys e;exact⟨zs,t _ _ h⟩
set_option tactic.hygienic true in
theorem dX {G H:Hp} {a:Addr} (h:∀ys,G a≠some (.lst ys)):eZ G H a=H a:=by
 unfold eZ
 split
 ·rename_i e;exact absurd e (h _)
 ·rfl
theorem tP {G H:Hp} {a:Addr} {ys:List V} (h:G a=some (.lst ys)):eZ G H a=none:=by
 unfold eZ;rw[h]
theorem gL {G H:Hp} {a:Addr} {o:HO} (h:eZ G H a=some o):(∀ys,G a≠some (.lst ys))/\H a=some o:=by
 by_cases c:∃ys,G a=some (.lst ys)
 ·obtain⟨ys,e⟩:=c;rw[tP e] at h;cases h
 ·have c:∀ys,G a≠some (.lst ys):=λys e=>c ⟨ys,e⟩;rw[dX c] at h;exact⟨c,h⟩
theorem rL {G H H':Hp} (s:aq H H'):aq (eZ G H) (eZ G H'):=λa o e=>by
 obtain⟨c,h⟩:=gL e;rw[dX c];exact s _ _ h
theorem eJ {G H:Hp}:aq (eZ G H) H:=λa o e=>(gL e).2
theorem vI {G G' H:Hp} (s:cb G G'):aq (eZ G' H) (eZ G H):=λa o e=>by
 obtain⟨c,h⟩:=gL e;rw[dX (λys k=>by obtain⟨zs,z⟩:=s a ys k;exact c zs z)];exact h
theorem fC {G H:Hp} {l:Addr} {ys:List V} {o:HO} (e:G l=some (.lst ys)):eZ G (upd H l o)=eZ G H:=by
 funext a
 by_cases c:∃ys,G a=some (.lst ys)
 ·obtain⟨zs,z⟩:=c;rw[tP z,tP z]
 ·have c:∀ys,G a≠some (.lst ys):=λys e=>c ⟨ys,e⟩;rw[dX c,dX c,aV (λz=>by rw[z] at c;exact c ys e)]
noncomputable def b5 (G H:Hp) (d:Dat) (v:V):Prop:=Rep (eZ G H) d v
noncomputable def cg (G H:Hp) (ds:List Dat) (vs:List V):Prop:=bj (eZ G H) ds vs
theorem b5.mono {G H H':Hp} {d:Dat} {v:V} (s:aq H H') (h:b5 G H d v):b5 G H' d v:=Rep.mono (rL s) h
theorem cg.mono {G H H':Hp} {ds:List Dat} {vs:List V} (s:aq H H') (h:cg G H ds vs):cg G H' ds vs:=bj.mono (rL s) h
theorem b5.low {G G' H:Hp} {d:Dat} {v:V} (s:cb G G') (h:b5 G' H d v):b5 G H d v:=Rep.mono (vI s) h
theorem cg.low {G G' H:Hp} {ds:List Dat} {vs:List V} (s:cb G G') (h:cg G' H ds vs):cg G H ds vs:=bj.mono (vI s) h
theorem b5.rep {G H:Hp} {d:Dat} {v:V} (h:b5 G H d v):Rep H d v:=Rep.mono eJ h
theorem bK {G H:Hp} {x:Str}:b5 G H (.str x) (.str x):=fV.mpr rfl
theorem bH {G H:Hp} {k:Int}:b5 G H (.int k) (.int k):=kR.mpr rfl
theorem B7 {G H:Hp}:b5 G H .c6 .c6:=by unfold b5;rw[Rep]
theorem cN {G H:Hp}:cg G H [] []:=cM.mpr rfl
theorem bA {G H:Hp} {d:Dat} {ds:List Dat} {v:V} {vs:List V} (h:b5 G H d v) (k:cg G H ds vs):cg G H (d::ds) (v::vs):=bN.mpr ⟨_,_,rfl,h,k⟩
theorem cY {G H:Hp} {p:Addr} {ds:List Dat} {vs:List V} (n:G p=none) (h:H p=some (.lst vs)) (r:cg G H ds vs):b5 G H (.lst ds) (.ref p):=bU.mpr ⟨p,vs,rfl,by rw[dX (λys e=>by rw[n] at e;cases e)];exact h,r⟩
theorem pH {G H:Hp} (s:cb G H) {p:Addr} {ds:List Dat} {vs:List V} (h:H p=some (.tup vs)) (r:cg G H ds vs):b5 G H (.tup ds) (.ref p):=kP.mpr ⟨p,vs,rfl,by rw[dX (λys e=>by obtain⟨zs,z⟩:=s _ _ e;rw[h] at z;cases z)];exact h,r⟩
theorem js {G H:Hp} (s:cb G H) {p:Addr} {a b:Dat} {x y:V} (h:H p=some (.tup [x,y])) (ha:b5 G H a x) (hb:b5 G H b y):b5 G H (.tup [a,b]) (.ref p):=pH s h (bA ha (bA hb cN))
theorem tQ {G H:Hp} (s:cb G H) {p:Addr} {a b c:Dat} {x y z:V} (h:H p=some (.tup [x,y,z])) (ha:b5 G H a x) (hb:b5 G H b y) (hc:b5 G H c z):b5 G H (.tup [a,b,c]) (.ref p):=pH s h (bA ha (bA hb (bA hc cN)))
theorem qE {G H:Hp} (s:cb G H) {p:Addr} {a b c d:Dat} {x y z u:V} (h:H p=some (.tup [x,y,z,u])) (ha:b5 G H a x) (hb:b5 G H b y) (hc:b5 G H c z) (hd:b5 G H d u):b5 G H (.tup [a,b,c,d]) (.ref p):=pH s h (bA ha (bA hb (bA hc (bA hd cN))))
theorem jg {G H:Hp} {d:Dat} {v:V} (h:b5 G H d v) {ds:List Dat} {vs:List V} (k:cg G H ds vs):cg G H (ds++ [d]) (vs++ [v]):=bj.append k (bN.mpr ⟨_,_,rfl,h,cM.mpr rfl⟩)
theorem cg.ix {G H:Hp} {ds:List Dat} {vs:List V} (h:cg G H ds vs) {i:Int} {d:Dat} (i0:0<=i) (ed:ds[i.toNat]?=some d):∃v,fQ vs i=some v/\b5 G H d v:=by
 obtain⟨v,ev,r⟩:=bj.at h ed;exact⟨v,by rw[show i=((i.toNat:Nat):Int) by omega];exact bE ev,r⟩
noncomputable def Al {α:Type} (R:α->V->Prop):List α->List V->Prop
 | [],[]=>True
 | a::as,v::vs=>R a v/\Al R as vs
 | _,_=>False
theorem Al.length {α:Type} {R:α->V->Prop}:∀{as:List α} {vs:List V},Al R as vs->vs.length=as.length
 | [],[],_=>rfl
 | a::as,v::vs,h=>by simp [Al.length h.2]
theorem Al.imp {α:Type} {R S:α->V->Prop} (f:∀a v,R a v->S a v):∀{as:List α} {vs:List V},Al R as vs->Al S as vs
 | [],[],_=>trivial
 | a::as,v::vs,h=>⟨f _ _ h.1,Al.imp f h.2⟩
theorem Al.append {α:Type} {R:α->V->Prop}:∀{as bs:List α} {us vs:List V},Al R as us->Al R bs vs->Al R (as++bs) (us++vs)
 | [],_,[],_,_,k=>k
 | a::as,_,v::vs,_,h,k=>⟨h.1,Al.append h.2 k⟩
theorem Al.one {α:Type} {R:α->V->Prop} {a:α} {v:V} (h:R a v):Al R [a] [v]:=⟨h,trivial⟩
theorem vJ {α:Type} {H:Hp} {f:α->Dat} {as:List α} {vs:List V} {i:Nat} {v:V} (h:bj H (as.map f) vs) (e:vs[i]?=some v):∃a,as[i]?=some a/\Rep H (f a) v:=by
 obtain⟨d,ed,rd⟩:=h.get e;rw[aaG] at ed;obtain⟨a,ea,rfl⟩:=Option.map_eq_some_iff.mp ed;exact⟨a,ea,rd⟩
theorem Al.get {α:Type} {R:α->V->Prop}:∀{as:List α} {vs:List V} {i:Nat} {v:V},Al R as vs->vs[i]?=some v->∃a,as[i]?=some a/\R a v:=by
 intro as
 induction as with
 | nil=>
  intro vs i v h e;cases vs with
  | nil=>simp at e
  | cons u vs=>exact h.elim
 | cons a as ih=>
  intro vs i v h e;cases vs with
  | nil=>exact h.elim
  | cons u vs=>
   cases i with
   | zero=>cases e;exact⟨a,rfl,h.1⟩
   | succ i=>exact ih (vs:=vs) (i:=i) h.2 e
theorem Al.of {α:Type} {R:α->V->Prop}:∀{as:List α} {vs:List V},vs.length=as.length->(∀(i:Nat) v a,vs[i]?=some v->as[i]?=some a->R a v)->Al R as vs
 | [],[],_,_=>trivial
 | [],_::_,l,_=>by simp at l
 | _::_,[],l,_=>by simp at l
 | a::as,u::vs,l,h=>⟨h 0 u a rfl rfl,Al.of (by simpa using l) λi v b e1 e2=>h (i+1) v b (by simpa using e1) (by simpa using e2)⟩
noncomputable def Ln:Sp:=λvs H Q _=>eA vs λa b=>iD a λa=>iD b λb=>Q (.int (Nm.g a b)) H
noncomputable def ID (qn:Addr):Sp:=λvs H Q E=>eA vs λa b=>iD a λa=>iD b λb=>Bt 5000 b/\(b=0->E (.ref qn) none H)/\(b≠0->∀p H',aq H H'->H p=none->H' p=some (.tup (Pr (Nm.st a b) (Nm.sb a b)))->Q (.ref p) H')
noncomputable def IE:Sp:=λvs H Q _=>eA vs λd B=>cK d λd=>iD B λB=>∃ws,H d=some (.dK (enc ws))/\(Nm.keys ws).Nodup/\ws.length<64/\B≠0/\Bt 5000 B/\∀p H',aq H H'->H p=none->Rep H' (BH (Nm.rowsOf ws B)) (.ref p)->Q (.ref p) H'
noncomputable def Lp (qt:Addr):Sp:=λvs H Q E=>dc vs λv=>∃ps,Rep H (BI ps) v/\ps.length<=1296/\(∀p∈ps,p.2<=10^12)/\(Nm.j3 ps).length<64/\(Nm.bad ps->∀H',aq H H'->E (.ref qt) none H')/\(¬Nm.bad ps->∀p H',aq H H'->H p=none->Rep H' (BH (Nm.rowsOf (Nm.j3 ps) (Nm.pe (Nm.j3 ps)))) (.ref p)->Q (.ref p) H')
noncomputable def AN (s:Nat):Nat->List (List Int)
 | 0=>[[]]
 | d+1=>(AN s d).flatMap λf=>(List.range s).map λi:Nat=>f++ [((i:Nat):Int)+1]
theorem hZ (s:Nat):∀d,(AN s d).length=s^d
 | 0=>rfl
 | d+1=>by
  have h:∀l:List (List Int),(l.flatMap λf=>(List.range s).map λi:Nat=>f++ [((i:Nat):Int)+1]).length=l.length*s:=by
   intro l
   induction l with
   | nil=>simp
   | cons a r ih=>rw[abd,aaE,ih,aaA,List.length_range,aaL,Nat.succ_mul,Nat.add_comm]
  rw[AN,h,hZ s d,Nat.pow_succ]
theorem jh (s:Nat):∀d,∀f∈AN s d,f.length=d/\∀x∈f,1<=x/\x<=(s:Int)
 | 0,f,h=>by
  rw[List.mem_singleton.mp h];exact⟨rfl,by simp⟩
 | d+1,f,h=>by
  obtain⟨g,hg,hf⟩:=List.mem_flatMap.mp h;obtain⟨i,hi,rfl⟩:=List.mem_map.mp hf;obtain⟨l,k⟩:=jh s d g hg;have:=List.mem_range.mp hi;refine⟨by rw[aaE,l];rfl,λx hx=>?_⟩;rcases List.mem_append.mp hx with h | h
  ·exact k x h
  ·rw[List.mem_singleton.mp h];omega
noncomputable def Lt (f g:List Int):Prop:=FZ f g=false
noncomputable def Ka (low s:Nat):List (List Int):=(List.range s).flatMap λi:Nat=>if i<low then (List.range s).map λj:Nat=>[((i:Nat):Int)+1,((j:Nat):Int)+1] else [[((i:Nat):Int)+1]]
noncomputable def Kb (s a:Nat):List (List Int):=(List.range (s - 1)).map λi:Nat=>List.replicate a (s:Int)++ [((i:Nat):Int)+1]
noncomputable def Kc (s:Nat) (most:Nat):List (List Int):=((List.range most).flatMap λa=>Kb s a)++ [List.replicate most (s:Int)]
theorem yO {low s:Nat}:∀f∈Ka low s,(∀x∈f,1<=x/\x<=(s:Int))/\((∃a b:Int,f=[a,b]/\a<=(low:Int))\/∃a:Int,f=[a]/\(low:Int)<a):=by
 intro f hf;obtain⟨i,hi,hf⟩:=List.mem_flatMap.mp hf;have hi:=List.mem_range.mp hi
 by_cases c:i<low
 ·rw[if_pos c] at hf;obtain⟨j,hj,rfl⟩:=List.mem_map.mp hf;have hj:=List.mem_range.mp hj;refine⟨λx hx=>?_,.inl ⟨_,_,rfl,by omega⟩⟩;simp only[aaD,aaH,or_false] at hx;rcases hx with rfl | rfl <;>omega
 ·rw[if_neg c] at hf;rw[List.mem_singleton.mp hf];refine⟨λx hx=>?_,.inr ⟨_,rfl,by omega⟩⟩;rw[List.mem_singleton.mp hx];omega
theorem EN {s most:Nat} (h:0<s):∀f∈Kc s most,(∀x∈f,1<=x/\x<=(s:Int))/\((∃(a:Nat) (x:Int),a<most/\x<s/\f=List.replicate a (s:Int)++ [x])\/f=List.replicate most (s:Int)):=by
 intro f hf;unfold Kc at hf;rcases List.mem_append.mp hf with hf | hf
 ·obtain⟨a,ha,hf⟩:=List.mem_flatMap.mp hf;have ha:=List.mem_range.mp ha;obtain⟨i,hi,rfl⟩:=List.mem_map.mp hf;have hi:=List.mem_range.mp hi;refine⟨λx hx=>?_,.inl ⟨a,_,ha,by omega,rfl⟩⟩;rcases List.mem_append.mp hx with hx | hx
  ·rw[List.eq_of_mem_replicate hx];omega
  ·rw[List.mem_singleton.mp hx];omega
 ·rw[List.mem_singleton.mp hf];refine⟨λx hx=>?_,.inr rfl⟩;rw[List.eq_of_mem_replicate hx];omega
theorem EO (low s:Nat):(Ka low s).length=((List.range s).map λi=>if i<low then s else 1).sum:=by
 unfold Ka;have:∀l:List Nat,(l.flatMap λi:Nat=>if i<low then (List.range s).map λj:Nat=>[((i:Nat):Int)+1,((j:Nat):Int)+1] else [[((i:Nat):Int)+1]]).length=(l.map λi=>if i<low then s else 1).sum:=by
  intro l
  induction l with
  | nil=>rfl
  | cons a r ih=>
   rw[abd,aaE,ih,aaI,abj];congr 1
   split <;>simp
 exact this _
inductive Pt
 | num (n:Nat)
 | cB (m s:Nat)
 | best (n m s:Nat)
 | eU (n m s:Nat)
 | hits (n m s:Nat)
 | again (n s:Nat)
 | dY (n s:Nat)
noncomputable def gX:Pt->List V
 | .num n=>[.str (Str.ofString "number"),.int (n:Int)]
 | .cB m s=>[.str (Str.ofString "dice"),.int (m:Int),.int (s:Int)]
 | .best n m s=>[.str (Str.ofString "best"),.int (n:Int),.int (m:Int),.int (s:Int)]
 | .eU n m s=>[.str (Str.ofString "worst"),.int (n:Int),.int (m:Int),.int (s:Int)]
 | .hits n m s=>[.str (Str.ofString "hits"),.int (n:Int),.int (m:Int),.int (s:Int)]
 | .again n s=>[.str (Str.ofString "again"),.int (n:Int),.int (s:Int)]
 | .dY n s=>[.str (Str.ofString "burst"),.int (n:Int),.int (s:Int)]
noncomputable def lst:Pt->Nat
 | .num n=>n
 | .cB _ s=>s
 | .best _ _ s=>s
 | .eU _ _ s=>s
 | .hits _ _ s=>s
 | .again _ s=>s
 | .dY _ s=>s
noncomputable def sd:Pt->Nat
 | .num _=>1
 | p=>lst p
noncomputable def DD:Pt->Nat
 | .num _=>0
 | .cB m _=>m
 | .best _ m _=>m
 | .eU _ m _=>m
 | .hits _ m _=>m
 | .again n _=>if 0<n then 2 else 1
 | .dY n _=>n+1
noncomputable def bot (p:Pt):Nat:=sd p^DD p
noncomputable def cnt:Pt->Nat
 | .num _=>1
 | .again n s=>min n s*s+ (s - min n s)
 | .dY n s=>(n+1)* (s - 1)+1
 | p=>bot p
noncomputable def ER:Pt->List (List Int)
 | .num _=>[[]]
 | .cB m s=>AN s m
 | .best _ m s=>AN s m
 | .eU _ m s=>AN s m
 | .hits _ m s=>AN s m
 | .again n s=>Ka n s
 | .dY n s=>Kc s (n+1)
noncomputable def PD:Pt->List Int->Int
 | .num n,_=>n
 | .best n _ _,f=>((Nm.o7 f).reverse.take n).sum
 | .eU n _ _,f=>((Nm.o7 f).take n).sum
 | .hits n _ _,f=>((f.filter λx=>decide ((n:Int)<=x)).length:Nat)
 | .again _ _,f=>f.getLastD 0
 | .cB _ _,f=>f.sum
 | .dY _ _,f=>f.sum
noncomputable def dw:Pt->Prop
 | .num n=>n<=99
 | .cB m s=>1<=s/\s<=20/\m<=6
 | .best n m s=>1<=s/\s<=20/\m<=6/\n<=m
 | .eU n m s=>1<=s/\s<=20/\m<=6/\n<=m
 | .hits n m s=>1<=s/\s<=20/\m<=6/\n<=20
 | .again n s=>1<=s/\s<=20/\n<=20
 | .dY n s=>1<=s/\s<=20/\n<=6
theorem tR {p:Pt} (g:dw p):1<=sd p/\sd p<=20:=by
 cases p <;>simp only[sd,lst,dw] at *<;>omega
theorem IF {p:Pt} (g:dw p):lst p<=99:=by
 cases p <;>simp only[lst,dw] at *<;>omega
theorem pI {p:Pt} (g:dw p):DD p<=7:=by
 cases p <;>simp only[DD,dw] at *<;>(try split) <;>omega
theorem Az {s e:Nat} (hs:s<=20) (he:e<=10):s^e<=10240000000000:=
 aaR (Nat.pow_le_pow_left hs e) (aaR (abx (by decide) he) (by decide))
theorem yP (low c:Nat):∀k,((List.range k).map λi=>if i<low then c else 1).sum=min low k*c+ (k - min low k)
 | 0=>by simp
 | k+1=>by
  rw[List.range_succ,aaM,List.sum_append_nat,yP low c k,aaI,aa3,abj,List.sum_nil]
  by_cases h:k<low
  ·rw[if_pos h,Nat.min_eq_right (by omega),Nat.min_eq_right (by omega),Nat.succ_mul];omega
  ·rw[if_neg h,abk (by omega),abk (by omega)];omega
theorem ES (s:Nat) (most:Nat):(Kc s most).length=most* (s - 1)+1:=by
 unfold Kc;rw[aaE];have:∀l:List Nat,(l.flatMap λa=>Kb s a).length=l.length* (s - 1):=by
  intro l
  induction l with
  | nil=>simp
  | cons a r ih=>rw[abd,aaE,ih,aaL,Nat.succ_mul];unfold Kb;rw[aaA,List.length_range];omega
 rw[this,List.length_range];rfl
theorem kS (p:Pt):(ER p).length=cnt p:=by
 cases p with
 | num n=>rfl
 | cB m s=>exact hZ s m
 | best n m s=>exact hZ s m
 | eU n m s=>exact hZ s m
 | hits n m s=>exact hZ s m
 | again n s=>show(Ka n s).length=min n s*s+ (s - min n s);rw[EO,yP]
 | dY n s=>exact ES s _
theorem kT {p:Pt} (g:dw p):∀f∈ER p,(∀x∈f,1<=x/\x<=(lst p:Int))/\f.length<=DD p:=by
 intro f hf;cases p with
 | num n=>rw[List.mem_singleton.mp hf];simp
 | cB m s=>obtain⟨a,b⟩:=jh s m f hf;exact⟨b,Nat.le_of_eq a⟩
 | best n m s=>obtain⟨a,b⟩:=jh s m f hf;exact⟨b,Nat.le_of_eq a⟩
 | eU n m s=>obtain⟨a,b⟩:=jh s m f hf;exact⟨b,Nat.le_of_eq a⟩
 | hits n m s=>obtain⟨a,b⟩:=jh s m f hf;exact⟨b,Nat.le_of_eq a⟩
 | again n s=>
  obtain⟨a,b⟩:=yO f hf;refine⟨a,?_⟩;show f.length<=if 0<n then 2 else 1
  rcases b with ⟨x,y,rfl,h⟩ | ⟨x,rfl,h⟩
  ·have:=(a x (by simp)).1;rw[if_pos (by omega)];simp
  ·simp
   split <;>omega
 | dY n s=>
  obtain⟨a,b⟩:=EN g.1 f hf;refine⟨a,?_⟩;show f.length<=n+1;rcases b with ⟨k,x,hk,h,rfl⟩ | rfl
  ·simp;omega
  ·simp
theorem ET {p:Pt} (g:dw p) {f:List Int} (hf:f∈ER p):1<=sd p^f.length/\sd p^f.length<=bot p:=
 ⟨Nat.pow_pos (tR g).1,abx (tR g).1 (kT g f hf).2⟩
abbrev Row:=List Int×Int×Nat
noncomputable def DE (p:Pt):List Row:=(ER p).map λf=>(f,PD p f,sd p^f.length)
noncomputable def sT (rs:List Row) (p:Pt):List Row:=rs.flatMap λr=>(DE p).map λq=>(r.1++q.1,r.2.1+q.2.1,r.2.2*q.2.2)
noncomputable def eC (ps:List Pt):List Row:=ps.foldl sT [([],0,1)]
theorem pJ (ps:List Pt) (p:Pt):eC (ps++ [p])=sT (eC ps) p:=by unfold eC;rw[List.foldl_append];rfl
noncomputable def jz:List Nat->Nat
 | []=>1
 | a::r=>a*jz r
theorem gM (l:List Nat) (a:Nat):jz (l++ [a])=jz l*a:=by
 induction l with
 | nil=>simp [jz]
 | cons b r ih=>simp only[abw,jz,ih,Nat.mul_assoc]
theorem yQ {l:List Nat} (h:∀a∈l,1<=a):1<=jz l:=by
 induction l with
 | nil=>simp [jz]
 | cons b r ih=>
  have h1:=h b (by simp);have h2:=ih λa ha=>h a (aaJ _ ha);exact abn h1 h2
theorem vK {l:List Nat} (h:∀a∈l,1<=a):∀i,jz (l.take i)<=jz l:=by
 induction l with
 | nil=>intro i;simp
 | cons b r ih=>
  intro i;have h1:=h b (by simp);have h0:∀a∈r,1<=a:=λa ha=>h a (aaJ _ ha);cases i with
  | zero=>exact abn h1 (yQ h0)
  | succ i=>exact abn (aaC _) (ih h0 i)
theorem oC (rs:List Row) (p:Pt):(sT rs p).length=rs.length*cnt p:=by
 unfold sT
 induction rs with
 | nil=>simp
 | cons r t ih=>
  rw[abd,aaE,ih,aaA,aaL,Nat.succ_mul];unfold DE;rw[aaA,kS];omega
theorem take_snoc {α:Type} {l:List α} {i:Nat} (h:i<l.length):l.take (i+1)=l.take i++ [l[i]]:=by
 rw[aa4,aaW h];rfl
theorem oD (ps:List Pt):(eC ps).length=jz (ps.map cnt):=by
 have:∀i,i<=ps.length->(eC (ps.take i)).length=jz ((ps.take i).map cnt):=by
  intro i
  induction i with
  | zero=>intro _;rfl
  | succ i ih=>
   intro h;rw[take_snoc (by omega),pJ,oC,ih (by omega),aaM,aaI,aa3,gM]
 have:=this ps.length (aaC _)
 rwa [aaT (aaC _)] at this
theorem oA {p:Pt} (g:dw p):1<=cnt p:=by
 cases p with
 | num n=>simp [cnt]
 | cB m s=>exact Nat.pow_pos g.1
 | best n m s=>exact Nat.pow_pos g.1
 | eU n m s=>exact Nat.pow_pos g.1
 | hits n m s=>exact Nat.pow_pos g.1
 | again n s=>
  simp only[cnt,dw] at *
  by_cases h:s - min n s=0
  ·have:min n s=s:=by omega
   rw[this];have:1*1<=s*s:=abn g.1 g.1;omega
  ·omega
 | dY n s=>simp [cnt]
theorem yR {p:Pt} (g:dw p):1<=bot p:=Nat.pow_pos (tR g).1
noncomputable def rM (ps:List Pt):Prop:=(∀p∈ps,dw p)/\jz (ps.map cnt)<=1296/\jz (ps.map bot)<=1000000
theorem mT {ps:List Pt} (g:rM ps) (i:Nat):jz ((ps.take i).map cnt)<=1296:=by
 rw[List.map_take];exact aaR (vK (λa ha=>by obtain⟨p,hp,rfl⟩:=List.mem_map.mp ha;exact oA (g.1 p hp)) i) g.2.1
theorem mU {ps:List Pt} (g:rM ps) (i:Nat):jz ((ps.take i).map bot)<=1000000:=by
 rw[List.map_take];exact aaR (vK (λa ha=>by obtain⟨p,hp,rfl⟩:=List.mem_map.mp ha;exact yR (g.1 p hp)) i) g.2.2
theorem yS {l:List Nat} (h:∀a∈l,1<=a):∀a∈l,a<=jz l:=by
 induction l with
 | nil=>intro a ha;cases ha
 | cons b r ih=>
  intro a ha;have h1:=h b (by simp);have h0:∀a∈r,1<=a:=λa ha=>h a (aaJ _ ha);rw[jz];rcases List.mem_cons.mp ha with rfl | ha
  ·have:=abn (aaC a) (yQ h0);omega
  ·have:=abn h1 (ih h0 a ha);omega
theorem mV {ps:List Pt} (g:rM ps) {p:Pt} (hp:p∈ps):dw p/\cnt p<=1296/\bot p<=1000000:=
 ⟨g.1 p hp,aaR (yS (λa ha=>by obtain⟨p,hp,rfl⟩:=List.mem_map.mp ha;exact oA (g.1 p hp)) _ (List.mem_map_of_mem hp)) g.2.1,
  aaR (yS (λa ha=>by obtain⟨p,hp,rfl⟩:=List.mem_map.mp ha;exact yR (g.1 p hp)) _ (List.mem_map_of_mem hp)) g.2.2⟩
theorem yT {ps:List Pt} (g:∀p∈ps,dw p):∀i,i<=ps.length->∀r∈eC (ps.take i),r.1.length<=7*i/\1<=r.2.2/\r.2.2<=jz ((ps.take i).map bot):=by
 intro i
 induction i with
 | zero=>intro _ r hr;rw[List.mem_singleton.mp hr];simp [jz]
 | succ i ih=>
  intro h r hr;rw[take_snoc (by omega),pJ] at hr;obtain⟨r0,h0,hr⟩:=List.mem_flatMap.mp hr;obtain⟨q,hq,rfl⟩:=List.mem_map.mp hr;obtain⟨f,hf,rfl⟩:=List.mem_map.mp hq;obtain⟨a,b,c⟩:=ih (by omega) r0 h0;have gp:=g _ (List.getElem_mem (show i<ps.length by omega));obtain⟨d,e⟩:=ET gp hf;have l:=(kT gp f hf).2;have m:=pI gp;rw[take_snoc (by omega),aaM,aaI,aa3,gM];refine⟨by rw[aaE];show r0.1.length+f.length<=_;omega,abn b d,abn c e⟩
noncomputable def xx:List (List Pt):=[[.num 0],[.cB 1 8],[.cB 3 3],[.again 1 6,.num 2],[.dY 2 2],[.best 2 3 4],[.eU 1 2 6],[.hits 1 1 6],[.cB 1 2,.cB 1 2]]
noncomputable def EU (C:Nat) (rs:List Row):Nm.Ws:=rs.map λr=>(r.2.1,((C / r.2.2:Nat):Int))
noncomputable def DF (ps:List Pt):Nm.Ws:=EU (jz (ps.map bot)) (eC ps)
noncomputable def IG (ps:List Pt):List (Int×Int×Int):=Nm.rowsOf (Nm.j3 (DF ps)) (Nm.pe (Nm.j3 (DF ps)))
noncomputable def yU (ps:List Pt):Prop:=ps∈xx
abbrev plA (ps:List Pt):Prop:=(∀x∈DF ps,0<x.2/\x.2<=10^12)/\(DF ps).length<=1296/\(Nm.j3 (DF ps)).length<64/\Nm.pos (DF ps)≠[]/\jz (ps.map cnt)<=1296/\jz (ps.map bot)<=1000000
theorem tS:∀ps∈xx,plA ps:=by ac_rfl
theorem EV:∀ps∈xx,(IG ps).length<=1296/\∀r∈IG ps,0<=r.1/\r.1<=998:=by ac_rfl
theorem B8 {ps:List Pt} (g:ps∈xx):rM ps:=by
 have h:=(tS ps g).2.2.2.2;refine⟨λp hp=>?_,h.1,h.2⟩;simp only[xx,aaD,aaH,or_false] at g;rcases g with rfl | rfl | rfl | rfl | rfl | rfl | rfl | rfl | rfl <;>simp only[aaD,aaH,or_false] at hp <;>
  (first | (subst hp;simp [dw]) | (rcases hp with rfl | rfl <;>simp [dw]))
theorem IH {ps:List Pt} (g:yU ps):¬Nm.bad (DF ps):=λb=>by
 obtain⟨h1,_,_,h4,_⟩:=tS ps g;rcases b with ⟨x,hx,c⟩ | c
 ·have:=h1 x hx;omega
 ·exact h4 c
noncomputable def Fa (H:Hp) (f:List Int) (v:V):Prop:=∃q,v=.ref q/\H q=some (.lst (List.map V.int f))
theorem Fa.mono {H H':Hp} {f:List Int} {v:V} (s:aq H H'):Fa H f v->Fa H' f v:=fun⟨q,e,h⟩=>⟨q,e,s _ _ h⟩
noncomputable def TR (G H:Hp) (r:Row) (v:V):Prop:=∃a q,v=.ref a/\H a=some (.tup [.ref q,.int r.2.1,.int (r.2.2:Int)])/\H q=some (.lst (List.map V.int r.1))/\G q=none
theorem TR.mono {G H H':Hp} {r:Row} {v:V} (s:aq H H'):TR G H r v->TR G H' r v:=fun⟨a,q,e,h,k,n⟩=>⟨a,q,e,s _ _ h,s _ _ k,n⟩
noncomputable def Lq (H:Hp) (l:Addr) (ps:List Pt):Prop:=∃xs,H l=some (.lst xs)/\Al (λp v=>∃q,v=.ref q/\H q=some (.tup (gX p))) ps xs
theorem kU {H:Hp} {p:Addr} {o:HO}:qv (upd H p o) p=qv H p:=by
 funext a;unfold qv
 by_cases c:a=p
 ·rw[if_pos c,if_pos c]
 ·rw[if_neg c,if_neg c,aV c]
theorem B9 (p:Pt):fQ (gX p) (-1)=some (.int (lst p:Int)):=by cases p <;>rfl
theorem Lr (b:Int):Nm.g 1 b=1:=by unfold Nm.g;simp
theorem Bz {b:Int} (h:0<b):Nm.st 1 b=1:=by unfold Nm.st;rw[Lr,if_neg (by omega)];simp
noncomputable def Ls:Sp:=λvs H Q _=>∃(b e:Nat),vs=[.int (b:Int),.int (e:Int)]/\(1<=b\/e=0)/\e<=10/\b^e<=1000000/\Q (.int ((b^e:Nat):Int)) H
noncomputable def EW:Sp:=λvs H Q _=>dc vs λq=>cK q λq=>∃p,H q=some (.tup (gX p))/\Q (.int (DD p:Int)) H
noncomputable def vL:Sp:=λvs H Q _=>dc vs λq=>cK q λq=>∃p,H q=some (.tup (gX p))/\dw p/\bot p<=1000000/\Q (.int (bot p:Int)) H
noncomputable def Lu:Sp:=λvs H Q _=>dc vs λq=>cK q λq=>∃p,H q=some (.tup (gX p))/\dw p/\bot p<=1000000/\Q (.int (cnt p:Int)) H
noncomputable def Lv:Sp:=λvs H Q _=>dc vs λl=>cK l λl=>∃ps,Lq H l ps/\rM ps/\Q .c6 H
noncomputable def Ca:Sp:=λvs H Q _=>∃(d s:Nat),vs=[.int (d:Int),.int (s:Int)]/\1<=s/\s<=20/\d<=6/\s^d<=1296/\∀l H' xs,aq H H'->H' l=some (.lst xs)->Al (Fa H') (AN s d) xs->Q (.ref l) H'
noncomputable def Lw:Sp:=λvs H Q _=>∃(n s:Nat),vs=[.int (n:Int),.int (s:Int)]/\s<=20/\∀l H' xs,aq H H'->H' l=some (.lst xs)->Al (Fa H') (Ka n s) xs->Q (.ref l) H'
noncomputable def Lx:Sp:=λvs H Q _=>∃(n s:Nat),vs=[.int (n:Int),.int (s:Int)]/\1<=s/\s<=20/\n<=7/\∀l H' xs,aq H H'->H' l=some (.lst xs)->Al (Fa H') (Kc s n) xs->Q (.ref l) H'
noncomputable def Ly:Sp:=λvs H Q _=>dc vs λq=>cK q λq=>∃p,H q=some (.tup (gX p))/\dw p/\cnt p<=1296/\∀l H' xs,aq H H'->H' l=some (.lst xs)->Al (Fa H') (ER p) xs->Q (.ref l) H'
noncomputable def Lz:Sp:=λvs H Q _=>eA vs λq l=>cK q λq=>cK l λl=>∃p,H q=some (.tup (gX p))/\∃f,H l=some (.lst (List.map V.int f))/\dw p/\f∈ER p/\∀H',aq H H'->Q (.int (PD p f)) H'
noncomputable def LA:Sp:=λvs H Q _=>eA vs λq l=>cK q λq=>cK l λl=>∃p,H q=some (.tup (gX p))/\∃f,H l=some (.lst (List.map V.int f))/\dw p/\f∈ER p/\Q (.int ((sd p^f.length:Nat):Int)) H
noncomputable def LB:Sp:=λvs H Q _=>dc vs λq=>cK q λq=>∃p,H q=some (.tup (gX p))/\dw p/\cnt p<=1296/\∀l H' xs,aq H H'->H' l=some (.lst xs)->Al (TR (λ_=>none) H') (DE p) xs->Q (.ref l) H'
noncomputable def LC:Sp:=λvs H Q _=>dc vs λa=>cK a λa=>∃ps,Lq H a ps/\rM ps/\ps.length<=4/\∀l H' xs,aq H H'->H' l=some (.lst xs)->Al (TR H H') (eC ps) xs->Q (.ref l) H'
abbrev EX:Str:=Str.ofString "0123456789"
theorem yV (c:Nat):c∈EX.cps.toList↔48<=c/\c<=57:=by
 have e:EX.cps.toList=[48,49,50,51,52,53,54,55,56,57]:=by ac_rfl
 rw[e];simp;omega
noncomputable def bg (k:Int):Str:=Str.ofString (toString k)
noncomputable def dig (l:List Nat):Prop:=1<=l.length/\l.length<=12/\∀c∈l,c∈EX.cps.toList
instance (l:List Nat):Decidable (dig l):=by unfold dig;infer_instance
theorem dig.all {l:List Nat} (h:dig l):NumText.AllDigits l:=λc hc=>(yV c).mp (h.2.2 c hc)
noncomputable def lead (l:List Nat):Prop:=1<l.length/\l.head?=some 48
instance (l:List Nat):Decidable (lead l):=by unfold lead;infer_instance
noncomputable def canon (l:List Nat):Prop:=dig l/\¬lead l
instance (l:List Nat):Decidable (canon l):=by unfold canon;infer_instance
abbrev val (l:List Nat):Nat:=NumText.digitsVal l
theorem dB (m:Nat):(bg (m:Int)).cps.toList=(Nat.toDigits 10 m).map Char.toNat:=PySem.W.KIN.signs_num m
theorem xy:∀c:Nat,c<58->(Char.ofNat c).toNat=c:=by ac_rfl
theorem vM:∀l:List Nat,NumText.AllDigits l->(l.map Char.ofNat).map Char.toNat=l
 | [],_=>rfl
 | c::l,h=>by
  show(Char.ofNat c).toNat::(l.map Char.ofNat).map Char.toNat=c::l;rw[xy c (by have:=h.head;omega),vM l h.tail]
theorem AA {l:List Nat} (h:dig l):(bg (val l:Nat)).cps.toList=l↔¬lead l:=by
 rw[dB];constructor
 ·rintro e ⟨h1,h2⟩;have hl:=congrArg List.length e;rw[NumText.toDigits_all l h.all] at hl;cases l with
  | nil=>simp at h1
  | cons c r=>
   simp at h2;subst h2;have d:(48::r).dropWhile (·==48)=r.dropWhile (·==48):=rfl;rw[d] at hl;have dl:=List.IsSuffix.length_le (List.dropWhile_suffix (l:=r) (·==48));rw[aaL] at h1;cases hd:r.dropWhile (·==48) with
   | nil=>rw[hd] at hl;simp at hl;rw[hl] at h1;simp at h1
   | cons a b=>rw[hd] at hl dl;simp at hl dl;omega
 ·intro nl;cases l with
  | nil=>exact absurd h.1 (by simp)
  | cons c r=>
   rw[NumText.toDigits_digitsVal r.length (c::r) rfl h.all,vM _ h.all]
   by_cases z:r.length=0
   ·exact .inl z
   ·refine .inr ⟨c,r,rfl,?_⟩;have:=h.all.head
    by_cases q:c=48
    ·exact absurd ⟨by simp;omega,by rw[q];rfl⟩ nl
    ·omega
theorem oE (m:Nat):val (bg (m:Nat)).cps.toList=m:=by rw[dB];exact PySem.W.KIN.val_back m
theorem fE (m:Nat):NumText.AllDigits (bg (m:Nat)).cps.toList:=by
 rw[dB];intro c hc;obtain⟨ch,AM,rfl⟩:=List.mem_map.mp hc;have r:=Nat.isDigit_of_mem_toDigits (b:=10) (by decide) (by decide) AM;simp only[Char.isDigit,aa6,decide_eq_true_eq] at r;have h1:48<=ch.val.toNat:=by have:=UInt32.le_iff_toNat_le.mp r.1;simpa using this
 have h2:ch.val.toNat<=57:=by have:=UInt32.le_iff_toNat_le.mp r.2;simpa using this
 exact⟨h1,h2⟩
theorem kW {m:Nat} (h:0<m):(bg (-(m:Int))).cps.toList=45::(bg (m:Int)).cps.toList:=by
 obtain⟨n,rfl⟩:∃n,m=n+1:=⟨m - 1,by omega⟩
 rw[dB];unfold bg;rw[signs_ofString];show("-"++Nat.repr (n+1)).toList.map Char.toNat=_;rw[String.toList_append,Nat.toList_repr];rfl
noncomputable def sg (neg:Bool) (m:Nat):Int:=if neg then -(m:Int) else m
noncomputable def sgn (neg:Bool):List Nat:=if neg then [45] else []
theorem Cb {neg:Bool} {m:Nat} (h:¬(neg=true/\m=0)):(bg (sg neg m)).cps.toList=sgn neg++ (bg (m:Nat)).cps.toList:=by
 unfold sg sgn;cases neg with
 | false=>rfl
 | true=>
  rw[if_pos rfl,if_pos rfl,kW (by have:m≠0:=λz=>h ⟨rfl,z⟩;omega)];rfl
theorem Cd (neg:Bool) (m:Nat):(sg neg m).natAbs=m:=by unfold sg;split <;>omega
noncomputable def iA (a b:Int):Str:=if b=1 then bg a else bg a++Str.ofString "/"++bg b
theorem app_list (a b:Str):(a++b).cps.toList=a.cps.toList++b.cps.toList:=by rw[Str.cps_append,Array.toList_append]
theorem LD:(Str.ofString "/").cps.toList=[47]:=by ac_rfl
theorem II:∀l:List Nat,NumText.AllDigits l->val l<10^l.length:=by
 have key:∀(l:List Nat) (a k:Nat),NumText.AllDigits l->a<10^k->l.foldl (λacc c=>acc*10+ (c - 48)) a<10^ (k+l.length):=by
  intro l
  induction l with
  | nil=>intro a k _ h;exact h
  | cons c r ih=>
   intro a k h ha;have hc:=h.head;have:=ih (a*10+ (c - 48)) (k+1) h.tail (by rw[Nat.pow_succ];omega);rw[aaL,show k+ (r.length+1)=k+1+r.length by omega];exact this
 intro l h;have:=key l 0 0 h (by decide);rw[Nat.zero_add] at this;exact this
theorem dig.lt {l:List Nat} (h:dig l):val l<10^12:=aaQ (II l h.all) (abx (by decide) h.2.1)
noncomputable def h7 (z:Str):Bool:=decide (z.cps.toList.head?=some 45)
noncomputable def dZ (z:Str):Str:=if h7 z=true then Txt.slice z (some 1) none else z
noncomputable def IJ (neg:Bool):List Str->Option (Int×Int)
 | [p]=>if canon p.cps.toList/\¬(neg=true/\val p.cps.toList=0) then some (sg neg (val p.cps.toList),1) else none
 | [p,q]=>if canon p.cps.toList/\canon q.cps.toList/\¬(neg=true/\val p.cps.toList=0)/\2<=val q.cps.toList/\Nm.g (val p.cps.toList:Nat) (val q.cps.toList:Nat)=1 then some (sg neg (val p.cps.toList),((val q.cps.toList:Nat):Int)) else none
 | _=>none
theorem vN (neg:Bool) (p:Str):IJ neg [p]=if canon p.cps.toList/\¬(neg=true/\val p.cps.toList=0) then some (sg neg (val p.cps.toList),1) else none:=rfl
theorem vO (neg:Bool) (p q:Str):IJ neg [p,q]=if canon p.cps.toList/\canon q.cps.toList/\¬(neg=true/\val p.cps.toList=0)/\2<=val q.cps.toList/\Nm.g (val p.cps.toList:Nat) (val q.cps.toList:Nat)=1 then some (sg neg (val p.cps.toList),((val q.cps.toList:Nat):Int)) else none:=rfl
noncomputable def Kd (z:Str):Option (Int×Int):=IJ (h7 z) (Txt.split (dZ z) ⟨#[47]⟩)
theorem mW (z:Str):z.cps.toList=sgn (h7 z)++ (dZ z).cps.toList:=by
 unfold dZ sgn
 by_cases h:h7 z=true
 ·rw[if_pos h,if_pos h];have h':=h;unfold h7 at h';rw[decide_eq_true_eq] at h';cases e:z.cps.toList with
  | nil=>rw[e] at h';simp at h'
  | cons c r=>
   rw[e] at h';simp at h';have l:z.length=r.length+1:=by rw[<-aaL,<-e,aa1];rfl
   rw[xn (by decide) (by rw[l];omega),e,h'];rfl
 ·rw[if_neg h,if_neg h];rfl
theorem yD {b p:Str} (h:Txt.split b ⟨#[47]⟩=[p]):p=b/\47∉b.cps.toList:=by
 have j:=StrLaws.join_split b ⟨#[47]⟩;rw[h] at j;have j:p=b:=j;exact⟨j,by rw[<-j];exact StrLaws.split_free b 47 p (by rw[h];exact aaK)⟩
theorem Ce {b p q:Str} {r:List Str} (h:Txt.split b ⟨#[47]⟩=p::q::r):b.cps.toList=p.cps.toList++47::(Str.join ⟨#[47]⟩ (q::r)).cps.toList/\47∉p.cps.toList/\(r≠[]->47∈(Str.join ⟨#[47]⟩ (q::r)).cps.toList):=by
 have j:=StrLaws.join_split b ⟨#[47]⟩;rw[h] at j;refine⟨by rw[<-join_cons,j],StrLaws.split_free b 47 p (by rw[h];exact aaK),λn=>?_⟩;cases r with
 | nil=>exact absurd rfl n
 | cons x r=>rw[join_cons];exact aa2 _ aaK
theorem vP {a:Int} (h:Bt 12900 a):(bg a).length<=4301:=by
 have key:∀m:Nat,m<10^4300->(bg (m:Nat)).cps.toList.length<=4300:=λm hm=>by
  rw[dB,aaA];exact(Nat.length_toDigits_le_iff (by decide) (by decide)).mpr hm
 have hl:a.natAbs<10^4300:=aaQ h PyProof.Rows.pow_lo;have e:(bg a).length=(bg a).cps.toList.length:=by rw[aa1];rfl
 rw[e]
 by_cases q:0<=a
 ·obtain⟨m,rfl⟩:=abi q;have:=key m (by rw[Int.natAbs_natCast] at hl;exact hl);omega
 ·have q2:a= -((a.natAbs:Nat):Int):=by omega
  have k2:=key a.natAbs hl;generalize a.natAbs=m at *;rw[q2,kW (by omega),aaL];omega
theorem LF:∀d:Nat,d<10->(Nat.digitChar d).toNat=48+d:=by decide
theorem EY {n:Nat} (h:n<10):(bg (n:Nat)).cps.toList=[48+n]:=by
 rw[dB,Nat.toDigits_of_lt_base h];show[(Nat.digitChar n).toNat]=_;rw[LF n h]
theorem Cf {n:Nat} (h:10<=n):(bg (n:Nat)).cps.toList=(bg ((n / 10:Nat):Int)).cps.toList++ [48+n % 10]:=by
 have t:=Nat.toDigits_append_toDigits (b:=10) (n:=n / 10) (d:=n % 10) (by decide) (by omega) (by omega);rw[Nat.div_add_mod] at t;rw[dB,dB,<-t,aaM,Nat.toDigits_of_lt_base (show n % 10<10 by omega)];show _++ [(Nat.digitChar (n % 10)).toNat]=_;rw[LF _ (by omega)]
theorem tT {m:Nat} (h:m<10^12):dig (bg (m:Nat)).cps.toList:=by
 refine⟨?_,?_,λc hc=>(yV c).mpr (fE m c hc)⟩
 ·by_cases q:m<10
  ·rw[EY q];simp
  ·rw[Cf (by omega)];simp
 ·rw[dB,aaA];exact(Nat.length_toDigits_le_iff (by decide) (by decide)).mpr h
theorem tU {m:Nat} (h:m<10^12):canon (bg (m:Nat)).cps.toList:=by
 refine⟨tT h,(AA (tT h)).mp ?_⟩;rw[oE]
theorem Cg {m:Nat}:(bg (m:Nat)).cps.toList.head?≠some 45:=by
 intro e;cases l:(bg (m:Nat)).cps.toList with
 | nil=>rw[l] at e;simp at e
 | cons c r=>
  rw[l] at e;simp at e;have:=fE m c (by rw[l];exact aaK);omega
set_option tactic.hygienic true in
theorem IK {neg:Bool} {m n:Nat} (hm:m<10^12) (hn:n<10^12) (n0:0<n) (z0:¬(neg=true/\m=0)) (g1:Nm.g (m:Int) (n:Int)=1):Kd (iA (sg neg m) n)=some (sg neg m,(n:Int)):=by
 have tl:∃r,(iA (sg neg m) n).cps.toList=sgn neg++ ((bg (m:Nat)).cps.toList++r)/\(n=1->r=[])/\(n≠1->r=47::(bg (n:Nat)).cps.toList):=by
  unfold iA
  by_cases h1:(n:Int)=1
  ·rw[if_pos h1,Cb z0];exact⟨[],by simp,λ_=>rfl,λh=>absurd (by omega) h⟩
  ·rw[if_neg h1,app_list,app_list,LD,Cb z0];exact⟨47::(bg (n:Nat)).cps.toList,by simp,λh=>absurd (by omega) h1,λ_=>rfl⟩
 obtain⟨r,tl,r1,r2⟩:=tl;have nh:(bg (m:Nat)).cps.toList≠[]:=by have:=(tT hm).1;intro z;rw[z] at this;simp at this
 have ng:h7 (iA (sg neg m) n)=neg:=by
  unfold h7;rw[tl];cases neg with
  | true=>simp [sgn]
  | false=>
   have e:(sgn false++ ((bg (m:Nat)).cps.toList++r)).head?=(bg (m:Nat)).cps.toList.head?:=by
    cases l:(bg (m:Nat)).cps.toList with
    | nil=>exact absurd l nh
    | cons c q=>rfl
   rw[e];exact decide_eq_false Cg
 have bl:=mW (iA (sg neg m) n);rw[ng,tl,List.append_cancel_left_eq] at bl;have fr:∀k:Nat,47∉(bg (k:Nat)).cps.toList:=λk hc=>by have:=fE k 47 hc;omega
 have one:dZ (iA (sg neg m) n)=Txt.join ⟨#[47]⟩ (if n=1 then [bg (m:Nat)] else [bg (m:Nat),bg (n:Nat)]):=by
  refine sR ?_;rw[<-bl];have je:∀ps,Txt.join ⟨#[47]⟩ ps=Str.join ⟨#[47]⟩ ps:=λps=>StrLaws.glued_eq_join _ _;rw[je]
  split
  ·rename_i h;rw[r1 h,abg];rfl
  ·rename_i h;rw[r2 h,join_cons];rfl
 unfold Kd;rw[ng,one,fA 47]
 ·split
  ·rename_i h
   subst h;rw[vN,oE,if_pos ⟨tU hm,z0⟩];rfl
  ·rename_i h
   rw[vO,oE,oE,if_pos ⟨tU hm,tU hn,z0,by omega,g1⟩]
 ·split <;>simp
 ·intro p hp
  split at hp
  ·rw[List.mem_singleton.mp hp];exact fr m
  ·rcases List.mem_cons.mp hp with rfl | hp
   ·exact fr m
   ·rw[List.mem_singleton.mp hp];exact fr n
theorem IL {α β:Type} (f:α->β) (l:List α):l.filterMap (λa=>some (f a))=l.map f:=by
 induction l with
 | nil=>rfl
 | cons a l ih=>simp
noncomputable def F3 (z:Str):Prop:=z.cps.all (·<128)=true
theorem EZ {z:Str} (h:F3 z):∀c∈z.cps.toList,c<128:=by
 unfold F3 at h;rw[<-Array.all_toList,List.all_eq_true] at h;exact λc hc=>by simpa using h c hc
theorem oF {z:Str} (h:∀c∈z.cps.toList,c<128):F3 z:=by
 unfold F3;rw[<-Array.all_toList,List.all_eq_true];exact λc hc=>by simpa using h c hc
noncomputable def Ci:Sp:=λvs H Q _=>dc vs λp=>cK p λp=>∃a b,H p=some (.tup (Pr a b))/\Bt 12900 a/\Bt 12900 b/\Q (.str (iA a b)) H
noncomputable def yW:Sp:=λvs H Q _=>dc vs λz=>nE z λz=>F3 z/\z.length<=1000/\∀H',aq H H'->Q (.bl (decide (dig z.cps.toList))) H'
noncomputable def LG (K:PySem.W.Frag) (qn:Addr):Sp:=λvs H Q _=>dc vs λv=>nE v λz=>∃a b,z=iA a b/\F3 z/\z.length<=100/\Kd z=some (a,b)/\1<=b/\Nm.g a b=1/\∀p H',aq H H'->H' p=some (.tup (Pr a b))->Q (.ref p) H'
theorem E1:∀c∈EX.cps.toList,48<=c/\c<=57:=by ac_rfl
noncomputable def LH (n:Nat):Bool:=decide ((bg (n:Int)).length<=3) && decide (1<=(bg (n:Int)).length) && (bg (n:Int)).cps.toList.all λc=>decide (c∈EX.cps.toList)
theorem E2:∀n:Nat,n<1000->LH n=true:=by ac_rfl
theorem dI {k:Int} (h0:0<=k) (h1:k<1000):1<=(bg k).length/\(bg k).length<=3/\∀c∈(bg k).cps.toList,c∈EX.cps.toList:=by
 obtain⟨n,rfl⟩:=abi h0;have:=E2 n (by omega);unfold LH at this;simp only[aa6,decide_eq_true_eq,List.all_eq_true] at this;exact⟨this.1.2,this.1.1,this.2⟩
theorem kX {k:Int} (h0:0<=k) (h1:k<1000):∀c∈(bg k).cps.toList,48<=c/\c<=57:=λc hc=>E1 c ((dI h0 h1).2.2 c hc)
inductive Pq
 | num (n:Int)
 | cB (m s:Int)
 | many (k:Str) (n m s:Int)
 | one (k:Str) (n s:Int)
noncomputable def tV:Pq->Prop
 | .num n=>0<=n/\n<100
 | .cB m s=>1<=m/\m<=6/\1<=s/\s<=20
 | .many k n m s=>((k=Str.ofString "worst"/\n<=m)\/(k=Str.ofString "best"/\n<=m)\/(k=Str.ofString "hits"/\n<=20))/\1<=n/\1<=m/\m<=6/\1<=s/\s<=20
 | .one k n s=>((k=Str.ofString "again"/\n<=20)\/(k=Str.ofString "burst"/\n<=6))/\0<=n/\1<=s/\s<=20
noncomputable def IM:Pq->List V
 | .num n=>[.str (Str.ofString "number"),.int n]
 | .cB m s=>[.str (Str.ofString "dice"),.int m,.int s]
 | .many k n m s=>[.str k,.int n,.int m,.int s]
 | .one k n s=>[.str k,.int n,.int s]
noncomputable def IP (m s:Int):List Str:=[if m=1 then Str.ofString "" else bg m,bg s]
noncomputable def gN (m s:Int):Str:=(if m=1 then Str.ofString "" else bg m)++Str.ofString "d"++bg s
noncomputable def mX:Pq->List Str
 | .num n=>[bg n]
 | .cB m s=>[gN m s]
 | .many k n m s=>[k,bg n,Str.ofString "of",gN m s]
 | .one k n s=>[k,bg n,Str.ofString "of",gN 1 s]
noncomputable def qF:Pq->Str
 | .num n=>bg n
 | .cB m s=>gN m s
 | .many k n m s=>k++Str.ofString " "++bg n++Str.ofString " of "++gN m s
 | .one k n s=>k++Str.ofString " "++bg n++Str.ofString " of "++gN 1 s
theorem vQ (p:Pq):qF p=Txt.join ⟨#[32]⟩ (mX p):=by
 have e1:(⟨#[32]⟩:Str)=Str.ofString " ":=by ac_rfl
 have e2:Str.ofString " of "=Str.ofString " "++Str.ofString "of"++Str.ofString " ":=by ac_rfl
 have g:∀ps,Txt.join ⟨#[32]⟩ ps=Str.join ⟨#[32]⟩ ps:=λps=>StrLaws.glued_eq_join _ _;rw[g,e1];cases p with
 | num n=>rfl
 | cB m s=>rfl
 | many k n m s=>
  show k++Str.ofString " "++bg n++Str.ofString " of "++gN m s=k++Str.ofString " "++ (bg n++Str.ofString " "++ (Str.ofString "of"++Str.ofString " "++gN m s));rw[e2];simp only[Str.append_assoc]
 | one k n s=>
  show k++Str.ofString " "++bg n++Str.ofString " of "++gN 1 s=k++Str.ofString " "++ (bg n++Str.ofString " "++ (Str.ofString "of"++Str.ofString " "++gN 1 s));rw[e2];simp only[Str.append_assoc]
noncomputable def Lo (z:Str):Prop:=∀c∈z.cps.toList,48<=c/\c<128
theorem Lo.app {a b:Str} (ha:Lo a) (hb:Lo b):Lo (a++b):=λc hc=>by
 rw[app_list] at hc;rcases List.mem_append.mp hc with h | h
 ·exact ha c h
 ·exact hb c h
theorem pK {k:Int} (h0:0<=k) (h1:k<1000):Lo (bg k):=λc hc=>by have:=kX h0 h1 c hc;omega
theorem Cj {m s:Int} (hm:1<=m/\m<=6) (hs:1<=s/\s<=20):Lo (gN m s):=by
 unfold gN;refine((?_:Lo _).app (by unfold Lo;ac_rfl)).app (pK (by omega) (by omega))
 split
 ·unfold Lo;ac_rfl
 ·exact pK (by omega) (by omega)
theorem yX {p:Pq} (g:tV p):∀y∈mX p,Lo y:=by
 intro y hy;cases p with
 | num n=>rw[List.mem_singleton.mp hy];exact pK g.1 (by have:=g.2;omega)
 | cB m s=>rw[List.mem_singleton.mp hy];exact Cj ⟨g.1,g.2.1⟩ ⟨g.2.2.1,g.2.2.2⟩
 | many k n m s=>
  obtain⟨gk,n1,m1,m6,s1,tW⟩:=g;simp only[mX,aaD,aaH,or_false] at hy;have Ck:n<=20:=by rcases gk with h | h | h <;>omega
  rcases hy with rfl | rfl | rfl | rfl
  ·rcases gk with h | h | h <;>rw[h.1] <;>(unfold Lo;ac_rfl)
  ·exact pK (by omega) (by omega)
  ·unfold Lo;ac_rfl
  ·exact Cj ⟨m1,m6⟩ ⟨s1,tW⟩
 | one k n s=>
  obtain⟨gk,n0,s1,tW⟩:=g;simp only[mX,aaD,aaH,or_false] at hy;have Ck:n<=20:=by rcases gk with h | h <;>omega
  rcases hy with rfl | rfl | rfl | rfl
  ·rcases gk with h | h <;>rw[h.1] <;>(unfold Lo;ac_rfl)
  ·exact pK (by omega) (by omega)
  ·unfold Lo;ac_rfl
  ·exact Cj ⟨by decide,by decide⟩ ⟨s1,tW⟩
theorem IQ {p:Pq} (g:tV p):Txt.split (qF p) ⟨#[32]⟩=mX p:=by
 rw[vQ];exact fA 32 (by cases p <;>simp [mX]) λy hy hc=>by have:=yX g y hy 32 hc;omega
theorem IS {m s:Int} (hm:1<=m/\m<=6) (hs:1<=s/\s<=20):Txt.split (gN m s) ⟨#[100]⟩=IP m s:=by
 have e:gN m s=Txt.join ⟨#[100]⟩ (IP m s):=by
  have g:∀ps,Txt.join ⟨#[100]⟩ ps=Str.join ⟨#[100]⟩ ps:=λps=>StrLaws.glued_eq_join _ _;have e1:(⟨#[100]⟩:Str)=Str.ofString "d":=by ac_rfl
  rw[g,e1];rfl
 rw[e];refine fA 100 (by simp [IP]) λy hy hc=>?_;simp only[IP,aaD,aaH,or_false] at hy;rcases hy with rfl | rfl
 ·split at hc
  ·exact absurd hc (by ac_rfl)
  ·have:=kX (show 0<=m by omega) (by omega) 100 hc;omega
 ·have:=kX (show 0<=s by omega) (by omega) 100 hc;omega
theorem IT {p:Pq} (g:tV p):∀c∈(qF p).cps.toList,c≠43/\c<128:=by
 have lo:=yX g;have of1:∀c∈(Str.ofString " of ").cps.toList,c≠43/\c<128:=by ac_rfl
 have xA:∀c∈(Str.ofString " ").cps.toList,c≠43/\c<128:=by ac_rfl
 have use:∀{y:Str},y∈mX p->∀c∈y.cps.toList,c≠43/\c<128:=λhy c hc=>by have:=lo _ hy c hc;omega
 intro c hc;cases p with
 | num n=>exact use aaK c hc
 | cB m s=>exact use aaK c hc
 | many k n m s=>
  simp only[qF,app_list,List.mem_append] at hc;rcases hc with (((hc | hc) | hc) | hc) | hc
  ·exact use (by simp [mX]) c hc
  ·exact xA c hc
  ·exact use (y:=bg n) (by simp [mX]) c hc
  ·exact of1 c hc
  ·exact use (y:=gN m s) (by simp [mX]) c hc
 | one k n s=>
  simp only[qF,app_list,List.mem_append] at hc;rcases hc with (((hc | hc) | hc) | hc) | hc
  ·exact use (by simp [mX]) c hc
  ·exact xA c hc
  ·exact use (y:=bg n) (by simp [mX]) c hc
  ·exact of1 c hc
  ·exact use (y:=gN 1 s) (by simp [mX]) c hc
theorem kd {m s:Int} (hm:1<=m/\m<=6) (hs:1<=s/\s<=20):1<=(gN m s).length/\(gN m s).length<=10:=by
 have l1:=(dI (show 0<=s by omega) (by omega)).2.1;have l2:=(dI (show 0<=m by omega) (by omega)).2.1;have d1:(Str.ofString "d").length=1:=by ac_rfl
 have e0:(Str.ofString "").length=0:=by ac_rfl
 unfold gN;rw[Str.length_append,Str.length_append,d1]
 split <;>omega
theorem Cm {p:Pq} (g:tV p):1<=(qF p).length/\(qF p).length<=40:=by
 have of4:(Str.ofString " of ").length=4:=by ac_rfl
 have xA:(Str.ofString " ").length=1:=by ac_rfl
 cases p with
 | num n=>have:=dI g.1 (by have:=g.2;omega);exact⟨this.1,by have:=this.2.1;show(bg n).length<=40;omega⟩
 | cB m s=>have:=kd ⟨g.1,g.2.1⟩ ⟨g.2.2.1,g.2.2.2⟩;exact⟨this.1,by have:=this.2;show(gN m s).length<=40;omega⟩
 | many k n m s=>
  obtain⟨gk,n1,m1,m6,s1,tW⟩:=g;have Ck:n<=20:=by rcases gk with h | h | h <;>omega
  have kl:k.length<=5:=by rcases gk with h | h | h <;>rw[h.1] <;>ac_rfl
  have l1:=dI (show 0<=n by omega) (by omega);have l2:=kd ⟨m1,m6⟩ ⟨s1,tW⟩;simp only[qF,Str.length_append,of4,xA];omega
 | one k n s=>
  obtain⟨gk,n0,s1,tW⟩:=g;have Ck:n<=20:=by rcases gk with h | h <;>omega
  have kl:k.length<=5:=by rcases gk with h | h <;>rw[h.1] <;>ac_rfl
  have l1:=dI (show 0<=n by omega) (by omega);have l2:=kd (m:=1) ⟨by decide,by decide⟩ ⟨s1,tW⟩;simp only[qF,Str.length_append,of4,xA];omega
noncomputable def AB (ps:List Pq):Str:=Str.join dt (ps.map qF)
theorem IU {ps:List Pq} (h:ps≠[]) (g:∀p∈ps,tV p):Txt.split (AB ps) dt=ps.map qF:=by
 refine xp (by simpa using h) λy hy hc=>?_;obtain⟨p,hp,rfl⟩:=List.mem_map.mp hy;exact(IT (g p hp) 43 hc).1 rfl
theorem yY:Str.ofString " + "=dt:=by ac_rfl
theorem Cn:∀{ps:List Pq},(∀p∈ps,tV p)->(AB ps).length<=43*ps.length:=by
 intro ps
 induction ps with
 | nil=>intro _;exact aaP _
 | cons p r ih=>
  intro g;have l1:=(Cm (g p aaK)).2;have l2:=ih λq hq=>g q (aaJ _ hq);cases r with
  | nil=>show(qF p).length<=_;simp;omega
  | cons q r=>
   have e:(AB (p::q::r)).length=(qF p).length+3+ (AB (q::r)).length:=by
    show(qF p++dt++Str.join dt ((q::r).map qF)).length=_;rw[Str.length_append,Str.length_append];rfl
   rw[e];simp only[aaL] at *;omega
noncomputable def pM (H:Hp) (l:Addr) (ps:List Pq):Prop:=∃xs,H l=some (.lst xs)/\xs.length=ps.length/\∀(i:Nat) p,ps[i]?=some p->∃q,xs[i]?=some (.ref q)/\H q=some (.tup (IM p))
theorem pM.mono {H H':Hp} {l:Addr} {ps:List Pq} (h:pM H l ps) (s:aq H H'):pM H' l ps:=by
 obtain⟨xs,h1,h2,h3⟩:=h;exact⟨xs,s _ _ h1,h2,λi p e=>let ⟨q,a,b⟩:=h3 i p e;⟨q,a,s _ _ b⟩⟩
noncomputable def oj (d s:Int):Str:=if d=1 then Str.ofString "d"++toString s else toString d++Str.ofString "d"++toString s
abbrev Pe:=Str×List Int
noncomputable def E3 (p:Pe):Dat:=.tup (.str p.1::p.2.map .int)
noncomputable def LI (ps:List Pe):Dat:=.lst (ps.map E3)
noncomputable def Sm (i:Int):Prop:=0<=i/\i<=100
inductive tX:Pe->Prop
 | num (a:Int):Sm a->tX (Str.ofString "number",[a])
 | cB (a b:Int):Sm a->1<=a->Sm b->tX (Str.ofString "dice",[a,b])
 | one (x:Str) (a b:Int):x=Str.ofString "again"\/x=Str.ofString "burst"->Sm a->Sm b->tX (x,[a,b])
 | three (x:Str) (a b c:Int):x=Str.ofString "best"\/x=Str.ofString "worst"\/x=Str.ofString "hits"->Sm a->Sm b->1<=b->Sm c->tX (x,[a,b,c])
noncomputable def wr (x:Str) (a:Int) (d:Str):Str:=x++Str.ofString " "++toString a++Str.ofString " of "++d
noncomputable def tY:Pe->Str
 | (x,[a])=>toString a
 | (x,[a,b])=>if x=Str.ofString "dice" then oj a b else wr x a (oj 1 b)
 | (x,[a,b,c])=>wr x a (oj b c)
 | _=>Str.empty
theorem eP {i:Int} (h:Sm i):(toString i:Str).length<=3:=by
 have k:∀j:Fin 101,(toString ((j.val:Nat):Int):Str).length<=3:=by ac_rfl
 have:=k ⟨i.toNat,by have:=h.1;have:=h.2;omega⟩
 rwa [show((i.toNat:Nat):Int)=i from Int.toNat_of_nonneg h.1] at this
theorem h8 {i:Int} (h:Sm i):i.natAbs.log2<1920:=(Bt.of (n:=7) (i:=i) 100 (by have:=h.1;omega) (by have:=h.2;omega)).log |>λ_=>by
 have:i.natAbs.log2<7:=by
  by_cases z:i.natAbs=0
  ·rw[z];decide
  ·exact(Nat.log2_lt z).mpr (by have:=h.1;have:=h.2;omega)
 omega
theorem kY {a b:Int} (h1:Sm a) (h2:Sm b):(oj a b).length<=7:=by
 have:=eP h1;have:=eP h2;have e:(Str.ofString "d").length=1:=by ac_rfl
 unfold oj
 split <;>simp only[strLen_append] <;>omega
theorem PF (x:Str) (a:Int):tY (x,[a])=toString a:=rfl
theorem IV {x:Str} (a b:Int) (h:x≠Str.ofString "dice"):tY (x,[a,b])=wr x a (oj 1 b):=by
 show(if x=Str.ofString "dice" then oj a b else wr x a (oj 1 b))=_;rw[if_neg h]
theorem IW (a b:Int):tY (Str.ofString "dice",[a,b])=oj a b:=by
 show(if Str.ofString "dice"=Str.ofString "dice" then oj a b else wr (Str.ofString "dice") a (oj 1 b))=_;rw[if_pos rfl]
theorem LJ (x:Str) (a b c:Int):tY (x,[a,b,c])=wr x a (oj b c):=rfl
theorem joinOk_of {sep:Str} {ts:List Str} {B:Nat} (hB:∀y∈ts,y.length<=B) (h:ts.length*B+ts.length*sep.length<=16777216):JoinOk sep ts=true:=by
 unfold JoinOk;rw[Bool.not_eq_true'];exact StrLaws.joinFits hB h
theorem Co {x d:Str} {a:Int} (h1:x.length<=5) (h2:Sm a) (h3:d.length<=7):(wr x a d).length<=30:=by
 have:=eP h2;have e1:(Str.ofString " ").length=1:=by ac_rfl
 have e2:(Str.ofString " of ").length=4:=by ac_rfl
 unfold wr;simp only[strLen_append];omega
theorem E4 {p:Pe} (g:tX p):(tY p).length<=30:=by
 have s1:Sm 1:=⟨by decide,by decide⟩
 cases g with
 | num a sa=>have:=eP sa;rw[PF];omega
 | cB a b sa a1 sb=>
  have:=kY sa sb;rw[IW];omega
 | one x a b hx sa sb=>
  have n2:x≠Str.ofString "dice":=by rcases hx with rfl | rfl <;>ac_rfl
  have lx:x.length<=5:=by rcases hx with rfl | rfl <;>ac_rfl
  rw[IV _ _ n2];exact Co lx sa (kY s1 sb)
 | three x a b c hx sa sb b1 sc=>
  have lx:x.length<=5:=by rcases hx with rfl | rfl | rfl <;>ac_rfl
  rw[LJ];exact Co lx sa (kY sb sc)
theorem IX {ps:List Pe} (h:ps.length<=4) (g:∀p∈ps,tX p):JoinOk (Str.ofString " + ") (ps.map tY)=true:=by
 refine joinOk_of (B:=30) (λy hy=>?_) ?_
 ·obtain⟨p,hp,rfl⟩:=List.mem_map.mp hy;exact E4 (g p hp)
 ·have e:(Str.ofString " + ").length=3:=by ac_rfl
  rw[e,aaA];omega
theorem Ke:(Str.ofString "d").length=1:=by ac_rfl
theorem LK:(Str.ofString " ").length=1:=by ac_rfl
theorem LL:(Str.ofString " of ").length=4:=by ac_rfl
theorem Cp {H:Hp} {x:Str} {a:Int} {v:V}:Rep H (E3 (x,[a])) v↔∃p,v=.ref p/\H p=some (.tup [.str x,.int a]):=by
 unfold E3;simp only[aaI,aa3,Rep,bj];constructor
 ·rintro⟨p,vs,rfl,hp,_,_,rfl,rfl,_,_,rfl,rfl,rfl⟩;exact⟨p,rfl,hp⟩
 ·rintro⟨p,rfl,hp⟩;exact⟨p,_,rfl,hp,_,_,rfl,rfl,_,_,rfl,rfl,rfl⟩
theorem tZ {H:Hp} {x:Str} {a b:Int} {v:V}:Rep H (E3 (x,[a,b])) v↔∃p,v=.ref p/\H p=some (.tup [.str x,.int a,.int b]):=by
 unfold E3;simp only[aaI,aa3,Rep,bj];constructor
 ·rintro⟨p,vs,rfl,hp,_,_,rfl,rfl,_,_,rfl,rfl,_,_,rfl,rfl,rfl⟩;exact⟨p,rfl,hp⟩
 ·rintro⟨p,rfl,hp⟩;exact⟨p,_,rfl,hp,_,_,rfl,rfl,_,_,rfl,rfl,_,_,rfl,rfl,rfl⟩
theorem Cq {H:Hp} {x:Str} {a b c:Int} {v:V}:Rep H (E3 (x,[a,b,c])) v↔∃p,v=.ref p/\H p=some (.tup [.str x,.int a,.int b,.int c]):=by
 unfold E3;simp only[aaI,aa3,Rep,bj];constructor
 ·rintro⟨p,vs,rfl,hp,_,_,rfl,rfl,_,_,rfl,rfl,_,_,rfl,rfl,_,_,rfl,rfl,rfl⟩;exact⟨p,rfl,hp⟩
 ·rintro⟨p,rfl,hp⟩;exact⟨p,_,rfl,hp,_,_,rfl,rfl,_,_,rfl,rfl,_,_,rfl,rfl,_,_,rfl,rfl,rfl⟩
noncomputable def Nb (i:Int):Prop:= -10000000000000<i/\i<10000000000000
theorem c7 {i:Int} (h:Nb i):i.natAbs.log2<1920:=by
 have:i.natAbs.log2<60:=by
  by_cases y:i.natAbs=0
  ·rw[y];decide
  ·exact(Nat.log2_lt y).mpr (by have:=h.1;have:=h.2;omega)
 omega
theorem Cr {m:Nat} (h:m<10000000000000):(bg (m:Int)).length<=13:=by
 have e:(bg (m:Int)).length=(Nat.toDigits 10 m).length:=by
  have:=dB m;rw[show(bg (m:Int)).length=(bg (m:Int)).cps.toList.length from Array.length_toList.symm,this,aaA]
 rw[e];exact(Nat.length_toDigits_le_iff (b:=10) (n:=m) (k:=13) (by decide) (by decide)).mpr (by omega)
theorem dJ {i:Int} (h:Nb i):(bg i).length<=14:=by
 have h1:=h.1;have h2:=h.2
 by_cases c:0<=i
 ·have:=Cr (m:=i.toNat) (by omega);rw[Int.toNat_of_nonneg c] at this;omega
 ·have:=Cr (m:=(-i).toNat) (by omega);have e:=kW (m:=(-i).toNat) (by omega);have i1:((-i).toNat:Int)= -i:=Int.toNat_of_nonneg (by omega);rw[i1,Int.neg_neg] at e;have l:=congrArg List.length e;rw[aaL,aa1,aa1] at l;rw[i1] at this;have l:(bg i).length=(bg (-i)).length+1:=l;omega
noncomputable def Wd (z:Str):Prop:=z.length<=8
abbrev SP:Str:=Str.ofString " "
theorem xA:SP.length=1:=by ac_rfl
theorem cF (sep a b:Str) (r:List Str):Txt.join sep (a::b::r)=a++sep++Txt.join sep (b::r):=by
 unfold Txt.join;rw[StrLaws.glued_eq_join,StrLaws.glued_eq_join];rfl
theorem join_one (sep a:Str):Txt.join sep [a]=a:=by
 unfold Txt.join;rw[StrLaws.glued_eq_join];rfl
theorem eK {sep:Str} {B:Nat}:∀{ts:List Str},(∀t∈ts,t.length<=B)->(Txt.join sep ts).length<=ts.length* (B+sep.length)
 | [],_=>by
  have:(Txt.join sep []).length=0:=rfl;omega
 | [a],h=>by
  rw[join_one];have:=h a (by simp);simp;omega
 | a::b::r,h=>by
  rw[cF,strLen_append,strLen_append];have h1:=h a (by simp);have h2:=eK (sep:=sep) (ts:=b::r) λt ht=>h t (aaJ _ ht);rw[aaL,Nat.succ_mul];omega
noncomputable def iw:List Str->Str
 | []=>Str.empty
 | a::r=>a++SP++iw r
theorem pre_app:∀as bs:List Str,iw (as++bs)=iw as++iw bs
 | [],bs=>by show iw bs=Str.empty++iw bs;rw[Str.empty_append]
 | a::as,bs=>by
  show a++SP++iw (as++bs)=a++SP++iw as++iw bs;rw[pre_app as bs];simp only[Str.append_assoc]
theorem vR (x:Str):∀ws:List Str,Txt.join SP (ws++ [x])=iw ws++x
 | []=>by show Txt.join SP [x]=Str.empty++x;rw[join_one,Str.empty_append]
 | [a]=>by
  show Txt.join SP [a,x]=a++SP++Str.empty++x;rw[cF,join_one,Str.append_empty]
 | a::b::r=>by
  show Txt.join SP (a::b::(r++ [x]))=a++SP++iw (b::r)++x;have:=vR x (b::r);rw[cF,show b::(r++ [x])=b::r++ [x] from rfl,this];simp only[Str.append_assoc]
theorem E5 (a:Str):iw [a]=a++SP:=by show a++SP++Str.empty=_;rw[Str.append_empty]
inductive c8
 | mv (a b:Str)
 | fc (a:Str)
 | st (k a:Str) (n:Int)
noncomputable def dV:c8->List V
 | .mv a b=>[.str (Str.ofString "move"),.str a,.str b]
 | .fc a=>[.str (Str.ofString "face"),.str a]
 | .st k a n=>[.str k,.str a,.int n]
noncomputable def dW:c8->List Str
 | .mv a b=>[Str.ofString "move",a,b]
 | .fc a=>[Str.ofString "face",a]
 | .st k a n=>[k,a,bg n]
noncomputable def dD:c8->Dat
 | .mv a b=>.tup [.str (Str.ofString "move"),.str a,.str b]
 | .fc a=>.tup [.str (Str.ofString "face"),.str a]
 | .st k a n=>.tup [.str k,.str a,.int n]
noncomputable def GD:c8->Prop
 | .mv a b=>Wd a/\Wd b
 | .fc a=>Wd a
 | .st k a n=>Wd k/\Wd a/\Nb n
theorem yZ {H:Hp} {d:c8} {v:V}:Rep H (dD d) v↔∃p,v=.ref p/\H p=some (.tup (dV d)):=by
 cases d with
 | mv a b=>
  simp only[dD,dV,Rep,bj];exact⟨fun⟨p,_,e,hp,_,_,rfl,rfl,_,_,rfl,rfl,_,_,rfl,rfl,rfl⟩=>⟨p,e,hp⟩,fun⟨p,e,hp⟩=>⟨p,_,e,hp,_,_,rfl,rfl,_,_,rfl,rfl,_,_,rfl,rfl,rfl⟩⟩
 | fc a=>
  simp only[dD,dV,Rep,bj];exact⟨fun⟨p,_,e,hp,_,_,rfl,rfl,_,_,rfl,rfl,rfl⟩=>⟨p,e,hp⟩,fun⟨p,e,hp⟩=>⟨p,_,e,hp,_,_,rfl,rfl,_,_,rfl,rfl,rfl⟩⟩
 | st k a n=>
  simp only[dD,dV,Rep,bj];exact⟨fun⟨p,_,e,hp,_,_,rfl,rfl,_,_,rfl,rfl,_,_,rfl,rfl,rfl⟩=>⟨p,e,hp⟩,fun⟨p,e,hp⟩=>⟨p,_,e,hp,_,_,rfl,rfl,_,_,rfl,rfl,_,_,rfl,rfl,rfl⟩⟩
theorem F4 {d:c8} (g:GD d):(dV d).filterMap (λx=>(FY x).map V.str)=List.map V.str (dW d):=by
 cases d with
 | mv a b=>rfl
 | fc a=>rfl
 | st k a n=>
  have e:FY (.int n)=some (bg n):=if_pos (c7 g.2.2);show([V.str k,V.str a,V.int n]:List V).filterMap (λx=>(FY x).map V.str)=[V.str k,V.str a,V.str (bg n)];simp [FY,List.filterMap_cons,c7 g.2.2,bg]
theorem y4 {d:c8} (g:GD d):∀x∈dV d,∃z,FY x=some z:=by
 cases d with
 | mv a b=>
  intro x hx;simp only[dV,aaD,aaH,or_false] at hx;rcases hx with rfl | rfl | rfl <;>exact⟨_,rfl⟩
 | fc a=>
  intro x hx;simp only[dV,aaD,aaH,or_false] at hx;rcases hx with rfl | rfl <;>exact⟨_,rfl⟩
 | st k a n=>
  intro x hx;simp only[dV,aaD,aaH,or_false] at hx;rcases hx with rfl | rfl | rfl
  ·exact⟨_,rfl⟩
  ·exact⟨_,rfl⟩
  ·exact⟨_,if_pos (c7 g.2.2)⟩
theorem Cs (d:c8):(dV d).length<=3:=by cases d <;>simp [dV]
theorem ua (d:c8):2<=(dW d).length/\(dW d).length<=3:=by cases d <;>simp [dW]
theorem LM (d:c8):dW d≠[]:=by cases d <;>simp [dW]
theorem ub {d:c8} (g:GD d):∀y∈dW d,y.length<=14:=by
 cases d with
 | mv a b=>
  have l:(Str.ofString "move").length=4:=by ac_rfl
  have g1:a.length<=8:=g.1;have g2:b.length<=8:=g.2;intro y hy;simp only[dW,aaD,aaH,or_false] at hy;rcases hy with rfl | rfl | rfl <;>omega
 | fc a=>
  have l:(Str.ofString "face").length=4:=by ac_rfl
  have g1:a.length<=8:=g;intro y hy;simp only[dW,aaD,aaH,or_false] at hy;rcases hy with rfl | rfl <;>omega
 | st k a n=>
  have g1:k.length<=8:=g.1;have g2:a.length<=8:=g.2.1;have g3:=dJ g.2.2;intro y hy;simp only[dW,aaD,aaH,or_false] at hy;rcases hy with rfl | rfl | rfl <;>omega
noncomputable def fL (ds:List c8):List Str:=ds.flatMap dW
theorem vS (ds:List c8) (d:c8):fL (ds++ [d])=fL ds++dW d:=by simp [fL]
theorem ji:∀ds:List c8,(fL ds).length<=3*ds.length
 | []=>by simp [fL]
 | d::ds=>by
  have:=ji ds;have:=(ua d).2;simp only[fL,abd,aaE,aaL] at *;omega
theorem kZ {ds:List c8} (g:∀d∈ds,GD d):∀y∈fL ds,y.length<=14:=λy hy=>by
 obtain⟨d,hd,hy⟩:=List.mem_flatMap.mp hy;exact ub (g d hd) y hy
noncomputable def Kf (ds:List c8):Prop:=ds.length<=6/\∀d∈ds,GD d
theorem y7 {B:Nat}:∀{ws:List Str},(∀w∈ws,w.length<=B)->(iw ws).length<=ws.length* (B+1)
 | [],_=>by show 0<=_;omega
 | a::r,h=>by
  show(a++SP++iw r).length<=_;rw[strLen_append,strLen_append,xA,aaL,Nat.succ_mul];have:=h a (by simp);have:=y7 (ws:=r) λt ht=>h t (aaJ _ ht);omega
theorem IY {ds:List c8} (g:Kf ds):(iw (fL ds)).length<=270:=by
 have a:=y7 (kZ g.2);have b:=ji ds;have c:=g.1;have:(fL ds).length<=18:=by omega
 have:=abo 15 this;omega
abbrev jt:=Str×Str×Int
noncomputable def lj:Option jt->Dat
 | none=>.c6
 | some c=>.tup [.str c.1,.str c.2.1,.int c.2.2]
noncomputable def gO:Option jt->List Str
 | none=>[]
 | some c=>[Str.ofString "if",c.1,c.2.1,bg c.2.2]
noncomputable def GC (o:Option jt):Prop:=∀c,o=some c->Wd c.1/\Wd c.2.1/\Nb c.2.2
theorem LN {H:Hp} {c:jt} {v:V}:Rep H (lj (some c)) v↔∃p,v=.ref p/\H p=some (.tup [.str c.1,.str c.2.1,.int c.2.2]):=by
 simp only[lj,Rep,bj];constructor
 ·rintro⟨p,_,e,hp,_,_,rfl,rfl,_,_,rfl,rfl,_,_,rfl,rfl,rfl⟩;exact⟨p,e,hp⟩
 ·rintro⟨p,e,hp⟩;exact⟨p,_,e,hp,_,_,rfl,rfl,_,_,rfl,rfl,_,_,rfl,rfl,rfl⟩
theorem AD (o:Option jt):(gO o).length<=4:=by cases o <;>simp [gO]
theorem xB {o:Option jt} (g:GC o):∀y∈gO o,y.length<=14:=by
 cases o with
 | none=>intro y hy;simp [gO] at hy
 | some c=>
  obtain⟨g1,g2,g3⟩:=g c rfl;have g1:c.1.length<=8:=g1;have g2:c.2.1.length<=8:=g2;have g3:=dJ g3;have l:(Str.ofString "if").length=2:=by ac_rfl
  intro y hy;simp only[gO,aaD,aaH,or_false] at hy;rcases hy with rfl | rfl | rfl | rfl <;>omega
structure eD where
 lo:Int
 hi:Int
 ds:List c8
 go:Str
structure ia where
 wd:Str
 wh:Option jt
 ds:List c8
 go:Str
noncomputable def wz (r:eD):Dat:=.tup [.int r.lo,.int r.hi,.lst (r.ds.map dD),.str r.go]
noncomputable def Ct (r:ia):Dat:=.tup [.str r.wd,lj r.wh,.lst (r.ds.map dD),.str r.go]
noncomputable def uG (r:eD):List Str:=[Str.ofString "from",bg r.lo,Str.ofString "to",bg r.hi]++fL r.ds++ [Str.ofString "go",r.go]
noncomputable def pN (r:ia):List Str:=[Str.ofString "way",r.wd]++gO r.wh++fL r.ds++ [Str.ofString "go",r.go]
noncomputable def F5 (r:eD):Str:=Txt.join SP (uG r)
noncomputable def DG (r:ia):Str:=Txt.join SP (pN r)
noncomputable def GT (r:eD):Prop:=Nb r.lo/\Nb r.hi/\Kf r.ds/\Wd r.go
noncomputable def GP (r:ia):Prop:=Wd r.wd/\GC r.wh/\Kf r.ds/\Wd r.go
theorem PJ {H:Hp} {r:eD} {v:V}:Rep H (wz r) v↔∃p q us,v=.ref p/\H p=some (.tup [.int r.lo,.int r.hi,.ref q,.str r.go])/\H q=some (.lst us)/\bj H (r.ds.map dD) us:=by
 simp only[wz,Rep,bj];constructor
 ·rintro⟨p,_,e,hp,_,_,rfl,rfl,_,_,rfl,rfl,_,_,rfl,⟨q,us,rfl,hq,rl⟩,_,_,rfl,rfl,rfl⟩;exact⟨p,q,us,e,hp,hq,rl⟩
 ·rintro⟨p,q,us,e,hp,hq,rl⟩;exact⟨p,_,e,hp,_,_,rfl,rfl,_,_,rfl,rfl,_,_,rfl,⟨q,us,rfl,hq,rl⟩,_,_,rfl,rfl,rfl⟩
theorem LO {H:Hp} {r:ia} {v:V}:Rep H (Ct r) v↔∃p u q us,v=.ref p/\H p=some (.tup [.str r.wd,u,.ref q,.str r.go])/\Rep H (lj r.wh) u/\H q=some (.lst us)/\bj H (r.ds.map dD) us:=by
 simp only[Ct,Rep,bj];constructor
 ·rintro⟨p,_,e,hp,_,_,rfl,rfl,u,_,rfl,ru,_,_,rfl,⟨q,us,rfl,hq,rl⟩,_,_,rfl,rfl,rfl⟩;exact⟨p,u,q,us,e,hp,ru,hq,rl⟩
 ·rintro⟨p,u,q,us,e,hp,ru,hq,rl⟩;exact⟨p,_,e,hp,_,_,rfl,rfl,u,_,rfl,ru,_,_,rfl,⟨q,us,rfl,hq,rl⟩,_,_,rfl,rfl,rfl⟩
theorem F6:(Str.ofString "from").length=4:=by ac_rfl
theorem lto:(Str.ofString "to").length=2:=by ac_rfl
theorem N3:(Str.ofString "go").length=2:=by ac_rfl
theorem PK:(Str.ofString "way").length=3:=by ac_rfl
theorem Cu {r:eD} (g:GT r):∀y∈uG r,y.length<=14:=λy hy=>by
 have g1:=dJ g.1;have g2:=dJ g.2.1;have g4:r.go.length<=8:=g.2.2.2;have:=F6;have:=lto;have:=N3;unfold uG at hy;rcases List.mem_append.mp hy with hy | hy
 ·rcases List.mem_append.mp hy with hy | hy
  ·simp only[aaD,aaH,or_false] at hy;rcases hy with rfl | rfl | rfl | rfl <;>omega
  ·exact kZ g.2.2.1.2 y hy
 ·simp only[aaD,aaH,or_false] at hy;rcases hy with rfl | rfl <;>omega
theorem E6 {r:eD} (g:GT r):(uG r).length<=24:=by
 have:=ji r.ds;have:=g.2.2.1.1;simp only[uG,aaE,aaL,aa5];omega
theorem Cv {r:ia} (g:GP r):∀y∈pN r,y.length<=14:=λy hy=>by
 have g1:r.wd.length<=8:=g.1;have g4:r.go.length<=8:=g.2.2.2;have:=PK;have:=N3;unfold pN at hy;rcases List.mem_append.mp hy with hy | hy
 ·rcases List.mem_append.mp hy with hy | hy
  ·rcases List.mem_append.mp hy with hy | hy
   ·simp only[aaD,aaH,or_false] at hy;rcases hy with rfl | rfl <;>omega
   ·exact xB g.2.1 y hy
  ·exact kZ g.2.2.1.2 y hy
 ·simp only[aaD,aaH,or_false] at hy;rcases hy with rfl | rfl <;>omega
theorem E7 {r:ia} (g:GP r):(pN r).length<=26:=by
 have:=ji r.ds;have:=AD r.wh;have:=g.2.2.1.1;simp only[pN,aaE,aaL,aa5];omega
theorem iQ {ws:List Str} {B:Nat} (h:∀y∈ws,y.length<=B) (l:ws.length<=200) (b:B<=2000) {sep:Str} (s:sep.length<=3):JoinOk sep ws=true:=by
 refine joinOk_of h ?_;have h1:=abn l b;have h2:=abn l s;omega
theorem E8 {r:eD} (g:GT r):(F5 r).length<=400:=by
 have a:=eK (sep:=SP) (Cu g);have b:=E6 g;rw[xA] at a;have:=abo (14+1) b;unfold F5;omega
theorem E9 {r:ia} (g:GP r):(DG r).length<=400:=by
 have a:=eK (sep:=SP) (Cv g);have b:=E7 g;rw[xA] at a;have:=abo (14+1) b;unfold DG;omega
noncomputable def AE (ds:List c8) (g:Str):Str:=iw (fL ds)++Str.ofString "go "++g
theorem y8 {ds:List c8} {g:Str} (h:Kf ds) (w:Wd g):(AE ds g).length<=290:=by
 have:=IY h;have l:(Str.ofString "go ").length=3:=by ac_rfl
 have w:g.length<=8:=w;unfold AE;rw[strLen_append,strLen_append];omega
theorem row_end (ws:List Str) (ds:List c8) (g:Str):Txt.join SP (ws++fL ds++ [Str.ofString "go",g])=iw ws++AE ds g:=by
 have e:ws++fL ds++ [Str.ofString "go",g]=(ws++fL ds++ [Str.ofString "go"])++ [g]:=by simp
 have e2:Str.ofString "go "=Str.ofString "go"++SP:=by ac_rfl
 rw[e,vR,pre_app,pre_app,E5];unfold AE;rw[e2];simp only[Str.append_assoc]
theorem IZ (r:eD):F5 r=Str.ofString "from "++bg r.lo++Str.ofString " to "++bg r.hi++Str.ofString " "++AE r.ds r.go:=by
 have e1:Str.ofString "from "=Str.ofString "from"++SP:=by ac_rfl
 have e2:Str.ofString " to "=SP++Str.ofString "to"++SP:=by ac_rfl
 unfold F5 uG;rw[row_end,e1,e2];show Str.ofString "from"++SP++ (bg r.lo++SP++ (Str.ofString "to"++SP++ (bg r.hi++SP++Str.empty)))++AE r.ds r.go=_;rw[Str.append_empty];simp only[Str.append_assoc]
theorem Fb {r:ia} (h:r.wh=none):DG r=Str.ofString "way "++r.wd++Str.ofString " "++AE r.ds r.go:=by
 have e1:Str.ofString "way "=Str.ofString "way"++SP:=by ac_rfl
 unfold DG pN;rw[h,e1,row_end];show Str.ofString "way"++SP++ (r.wd++SP++Str.empty)++AE r.ds r.go=_;rw[Str.append_empty];simp only[Str.append_assoc]
theorem Fc {r:ia} {c:jt} (h:r.wh=some c):DG r=Str.ofString "way "++r.wd++Str.ofString " if "++Txt.join (Str.ofString " ") [c.1,c.2.1,bg c.2.2]++Str.ofString " "++AE r.ds r.go:=by
 have e1:Str.ofString "way "=Str.ofString "way"++SP:=by ac_rfl
 have e2:Str.ofString " if "=SP++Str.ofString "if"++SP:=by ac_rfl
 unfold DG pN;rw[h,e1,e2,row_end,cF,cF,join_one];show Str.ofString "way"++SP++ (r.wd++SP++ (Str.ofString "if"++SP++ (c.1++SP++ (c.2.1++SP++ (bg c.2.2++SP++Str.empty)))))++AE r.ds r.go=_;rw[Str.append_empty];simp only[Str.append_assoc]
noncomputable def F7:Pq->Pe
 | .num n=>(Str.ofString "number",[n])
 | .cB m s=>(Str.ofString "dice",[m,s])
 | .many k n m s=>(k,[n,m,s])
 | .one k n s=>(k,[n,s])
noncomputable def mY (ps:List Pq):Dat:=LI (ps.map F7)
theorem F8 {p:Pq} (g:tV p):tX (F7 p):=by
 cases p with
 | num n=>exact .num n ⟨g.1,by have:=g.2;omega⟩
 | cB m s=>obtain⟨a,b,c,d⟩:=g;exact .cB m s ⟨by omega,by omega⟩ a ⟨by omega,by omega⟩
 | many k n m s=>
  obtain⟨gk,n1,m1,m6,s1,tW⟩:=g;have Ck:n<=20:=by rcases gk with h | h | h <;>omega
  exact .three k n m s (by rcases gk with h | h | h <;>simp [h.1]) ⟨by omega,by omega⟩ ⟨by omega,by omega⟩ m1 ⟨by omega,by omega⟩
 | one k n s=>
  obtain⟨gk,n0,s1,tW⟩:=g;have Ck:n<=20:=by rcases gk with h | h <;>omega
  exact .one k n s (by rcases gk with h | h <;>simp [h.1]) ⟨n0,by omega⟩ ⟨by omega,by omega⟩
theorem LP {p:Pq} (g:tV p):tY (F7 p)=qF p:=by
 have ed:∀m s:Int,oj m s=gN m s:=λm s=>by
  unfold oj gN
  split
  ·rw[show(Str.ofString ""++Str.ofString "d":Str)=Str.ofString "d" from by ac_rfl];rfl
  ·rfl
 cases p with
 | num n=>rfl
 | cB m s=>rw[show tY (F7 (.cB m s))=oj m s from IW m s,ed];rfl
 | many k n m s=>show wr k n (oj m s)=_;rw[ed];rfl
 | one k n s=>
  obtain⟨gk,_⟩:=g;rw[show tY (F7 (.one k n s))=wr k n (oj 1 s) from IV n s (by rcases gk with h | h <;>rw[h.1] <;>ac_rfl),ed];rfl
noncomputable def pO:List Pq->List Str
 | []=>[]
 | [p]=>mX p
 | p::q::r=>mX p++Str.ofString "+"::pO (q::r)
theorem Cw (p:Pq):mX p≠[]:=by cases p <;>simp [mX]
theorem y9 (p:Pq):(mX p).length<=4:=by cases p <;>simp [mX]
theorem xC:∀{ps:List Pq},ps≠[]->pO ps≠[]
 | [],h=>absurd rfl h
 | [p],_=>Cw p
 | p::q::r,_=>by simp [pO]
theorem uc:∀ps:List Pq,(pO ps).length<=5*ps.length
 | []=>aaP _
 | [p]=>by have:=y9 p;simp only[pO,abr];omega
 | p::q::r=>by
  have:=y9 p;have:=uc (q::r);simp only[pO,aaE,aaL] at *;omega
theorem vT {a b:List Str} (ha:a≠[]) (hb:b≠[]):Txt.join SP (a++b)=Txt.join SP a++SP++Txt.join SP b:=by
 induction a with
 | nil=>exact absurd rfl ha
 | cons x r ih=>
  cases r with
  | nil=>
   obtain⟨y,s,rfl⟩:=List.exists_cons_of_ne_nil hb;rw[join_one];exact cF SP x y s
  | cons y r=>
   rw[abw,abw,cF,<-abw,ih (by simp),cF];simp only[Str.append_assoc]
theorem za (p:Pq):Txt.join SP (mX p)=qF p:=by
 rw[vQ,show(⟨#[32]⟩:Str)=SP by ac_rfl]
theorem ud:∀ps:List Pq,Txt.join SP (pO ps)=AB ps
 | []=>rfl
 | [p]=>za p
 | p::q::r=>by
  have ih:=ud (q::r);have e:dt=SP++Str.ofString "+"++SP:=by ac_rfl
  show Txt.join SP (mX p++Str.ofString "+"::pO (q::r))=qF p++dt++AB (q::r);rw[vT (Cw p) (by simp),za];obtain⟨y,s,es⟩:=List.exists_cons_of_ne_nil (xC (ps:=q::r) (by simp));rw[es] at ih ⊢;rw[cF,ih,e];simp only[Str.append_assoc]
theorem vU {p:Pq} (g:tV p):∀y∈mX p,y.length<=10:=by
 intro y hy;have of2:(Str.ofString "of").length=2:=by ac_rfl
 cases p with
 | num n=>rw[List.mem_singleton.mp hy];have:=(dI g.1 (by have:=g.2;omega)).2.1;omega
 | cB m s=>rw[List.mem_singleton.mp hy];exact(kd ⟨g.1,g.2.1⟩ ⟨g.2.2.1,g.2.2.2⟩).2
 | many k n m s=>
  obtain⟨gk,n1,m1,m6,s1,tW⟩:=g;have Ck:n<=20:=by rcases gk with h | h | h <;>omega
  have kl:k.length<=5:=by rcases gk with h | h | h <;>rw[h.1] <;>ac_rfl
  have l1:=dI (show 0<=n by omega) (by omega);have l2:=kd ⟨m1,m6⟩ ⟨s1,tW⟩;simp only[mX,aaD,aaH,or_false] at hy;rcases hy with rfl | rfl | rfl | rfl <;>omega
 | one k n s=>
  obtain⟨gk,n0,s1,tW⟩:=g;have Ck:n<=20:=by rcases gk with h | h <;>omega
  have kl:k.length<=5:=by rcases gk with h | h <;>rw[h.1] <;>ac_rfl
  have l1:=dI (show 0<=n by omega) (by omega);have l2:=kd (m:=1) ⟨by decide,by decide⟩ ⟨s1,tW⟩;simp only[mX,aaD,aaH,or_false] at hy;rcases hy with rfl | rfl | rfl | rfl <;>omega
theorem pP:∀{ps:List Pq},(∀p∈ps,tV p)->∀y∈pO ps,y.length<=10
 | [],_=>λy hy=>by cases hy
 | [p],g=>vU (g p (by simp))
 | p::q::r,g=>λy hy=>by
  rcases List.mem_append.mp (show y∈mX p++Str.ofString "+"::pO (q::r) from hy) with h | h
  ·exact vU (g p (by simp)) y h
  ·rcases List.mem_cons.mp h with rfl | h
   ·ac_rfl
   ·exact pP (λx hx=>g x (aaJ _ hx)) y h
noncomputable def LQ (ps:List Pq):Prop:=ps≠[]/\ps.length<=4/\∀p∈ps,tV p
theorem Fd {ps:List Pq} (g:LQ ps):Txt.join (Str.ofString " + ") ((ps.map F7).map tY)=AB ps:=by
 rw[abb,yY];refine(StrLaws.glued_eq_join _ _).trans ?_;show Str.join dt _=Str.join dt _;congr 1;exact List.map_congr_left λp hp=>LP (g.2.2 p hp)
theorem Fe {ps:List Pq} (g:LQ ps):(AB ps).length<=172:=by
 have:=Cn g.2.2;have:=g.2.1;omega
inductive cU
 | fin (a b:Int)
 | qG (c:Str)
 | ask (c:Str) (n:Int) (g e:Str)
 | eC (ps:List Pq) (a b:Int) (rs:List eD)
 | jx (k:Int) (rs:List ia)
noncomputable def LR (a b:Int):Dat:=.tup [.int a,.int b]
noncomputable def wD:cU->Dat
 | .fin a b=>.tup [.str (Str.ofString "end"),LR a b]
 | .qG c=>.tup [.str (Str.ofString "score"),.str c]
 | .ask c n g e=>.tup [.str (Str.ofString "ask"),.str c,.int n,.str g,.str e]
 | .eC ps a b rs=>.tup [.str (Str.ofString "throw"),mY ps,LR a b,.lst (rs.map wz)]
 | .jx k rs=>.tup [.str (Str.ofString "pick"),.int k,.lst (rs.map Ct)]
noncomputable def wK:cU->Str
 | .fin _ _=>Str.ofString "end"
 | .qG _=>Str.ofString "score"
 | .ask _ _ _ _=>Str.ofString "ask"
 | .eC _ _ _ _=>Str.ofString "throw"
 | .jx _ _=>Str.ofString "pick"
noncomputable def wW:cU->List Str
 | .fin a b=>[iA a b]
 | .qG c=>[c]
 | .ask c n g e=>[c,Str.ofString "from",bg n,Str.ofString "go",g,Str.ofString "else",e]
 | .eC ps a b _=>pO ps++ [Str.ofString "pay",iA a b]
 | .jx k _=>[bg k]
noncomputable def wR:cU->List Str
 | .eC _ _ _ rs=>rs.map F5
 | .jx _ rs=>rs.map DG
 | _=>[]
noncomputable def GW:cU->Prop
 | .fin a b=>Nb a/\Nb b
 | .qG c=>Wd c
 | .ask c n g e=>Wd c/\Nb n/\Wd g/\Wd e
 | .eC ps a b rs=>LQ ps/\Nb a/\Nb b/\rs.length<=5/\∀r∈rs,GT r
 | .jx k rs=>Nb k/\rs.length<=5/\∀r∈rs,GP r
theorem lA {a b:Int} (ha:Nb a) (hb:Nb b):(iA a b).length<=29:=by
 have:=dJ ha;have:=dJ hb;have l:(Str.ofString "/").length=1:=by ac_rfl
 unfold iA
 split
 ·omega
 ·rw[strLen_append,strLen_append];omega
theorem ue {w:cU} (g:GW w):∀y∈wW w,y.length<=30:=by
 cases w with
 | fin a b=>
  have:=lA g.1 g.2;intro y hy;rw[show y=iA a b by simpa [wW] using hy];omega
 | qG c=>
  have g:c.length<=8:=g;intro y hy;rw[show y=c by simpa [wW] using hy];omega
 | ask c n g' e=>
  have h1:c.length<=8:=g.1;have h2:=dJ g.2.1;have h3:g'.length<=8:=g.2.2.1;have h4:e.length<=8:=g.2.2.2;have:=F6;have:=N3;have:(Str.ofString "else").length=4:=by ac_rfl
  intro y hy;simp only[wW,aaD,aaH,or_false] at hy;rcases hy with rfl | rfl | rfl | rfl | rfl | rfl | rfl <;>omega
 | eC ps a b rs=>
  have:=lA g.2.1 g.2.2.1;have:(Str.ofString "pay").length=3:=by ac_rfl
  intro y hy;rcases List.mem_append.mp (show y∈pO ps++ [Str.ofString "pay",iA a b] from hy) with h | h
  ·have:=pP g.1.2.2 y h;omega
  ·simp only[aaD,aaH,or_false] at h;rcases h with rfl | rfl <;>omega
 | jx k rs=>
  have:=dJ g.1;intro y hy;rw[show y=bg k by simpa [wW] using hy];omega
theorem Cy (w:cU):1<=(wW w).length:=by cases w <;>simp [wW]
theorem Cz {w:cU} (g:GW w):(wW w).length<=25:=by
 cases w with
 | eC ps a b rs=>
  have:=uc ps;have:=g.1.2.1;show(pO ps++ [Str.ofString "pay",iA a b]).length<=25;rw[aaE];simp only[aaL,aa5];omega
 | _=>simp [wW]
theorem CA (w:cU):(wK w).length<=8:=by
 cases w with
 | fin a b=>show(Str.ofString "end").length<=8;ac_rfl
 | qG c=>show(Str.ofString "score").length<=8;ac_rfl
 | ask c n g e=>show(Str.ofString "ask").length<=8;ac_rfl
 | eC ps a b rs=>show(Str.ofString "throw").length<=8;ac_rfl
 | jx k rs=>show(Str.ofString "pick").length<=8;ac_rfl
noncomputable def iy (n:Str) (w:cU):List Str:=[Str.ofString "place",n,wK w]++wW w
noncomputable def pQ (p:Str×cU):List Str:=Txt.join SP (iy p.1 p.2)::wR p.2
noncomputable def N4 (p:Str×cU):Prop:=Wd p.1/\GW p.2
noncomputable def qH (p:Str×cU):Dat:=.tup [.str p.1,wD p.2]
theorem AF {p:Str×cU} (g:N4 p):∀y∈iy p.1 p.2,y.length<=30:=λy hy=>by
 have h1:p.1.length<=8:=g.1;have h2:=CA p.2;have:(Str.ofString "place").length=5:=by ac_rfl
 unfold iy at hy;rcases List.mem_append.mp hy with hy | hy
 ·simp only[aaD,aaH,or_false] at hy;rcases hy with rfl | rfl | rfl <;>omega
 ·exact ue g.2 y hy
theorem CB (n:Str) {w:cU} (g:GW w):(iy n w).length<=30:=by
 have:=Cz g;simp only[iy,aaE,aaL,aa5];omega
theorem zb {w:cU} (g:GW w):(wR w).length<=5/\∀y∈wR w,y.length<=1330:=by
 cases w with
 | eC ps a b rs=>
  refine⟨by simpa [wR] using g.2.2.2.1,λy hy=>?_⟩;obtain⟨r,hr,rfl⟩:=List.mem_map.mp hy;have:=E8 (g.2.2.2.2 r hr);omega
 | jx k rs=>
  refine⟨by simpa [wR] using g.2.1,λy hy=>?_⟩;obtain⟨r,hr,rfl⟩:=List.mem_map.mp hy;have:=E9 (g.2.2 r hr);omega
 | _=>exact⟨by simp [wR],λy hy=>by simp [wR] at hy⟩
theorem mZ {p:Str×cU} (g:N4 p):(pQ p).length<=6/\∀y∈pQ p,y.length<=1330:=by
 obtain⟨l,h⟩:=zb g.2;refine⟨by simp only[pQ,aaL];omega,λy hy=>?_⟩;unfold pQ at hy;rcases List.mem_cons.mp hy with rfl | hy
 ·have a:=eK (sep:=SP) (AF g);have b:=CB p.1 g.2;rw[xA] at a;have:=abo (30+1) b;omega
 ·exact h y hy
abbrev eE:=List (Str×Int)×List (Str×cU)
noncomputable def qI (c:Str×Int):Str:=Str.ofString "count "++c.1++Str.ofString " "++bg c.2
noncomputable def ju (c:Str×Int):Dat:=.tup [.str c.1,.int c.2]
noncomputable def GCt (c:Str×Int):Prop:=Wd c.1/\Nb c.2
noncomputable def eV (g:eE):Dat:=.tup [.lst (g.1.map ju),.lst (g.2.map qH)]
noncomputable def iR (g:eE):List Str:=g.1.map qI++g.2.flatMap pQ
noncomputable def iS (g:eE):Str:=Txt.join (Str.ofString "\n") (iR g)
noncomputable def GG (g:eE):Prop:=g.1.length<=4/\(∀c∈g.1,GCt c)/\g.2.length<=30/\∀p∈g.2,N4 p
theorem CC {c:Str×Int} (g:GCt c):(qI c).length<=40:=by
 have h1:c.1.length<=8:=g.1;have h2:=dJ g.2;have l1:(Str.ofString "count ").length=6:=by ac_rfl
 have l2:(Str.ofString " ").length=1:=xA;unfold qI;rw[strLen_append,strLen_append,strLen_append];omega
theorem pR:∀{ps:List (Str×cU)},(∀p∈ps,N4 p)->(ps.flatMap pQ).length<=6*ps.length
 | [],_=>by simp
 | p::r,h=>by
  have:=(mZ (h p (by simp))).1;have:=pR (ps:=r) λq hq=>h q (aaJ _ hq);simp only[abd,aaE,aaL];omega
theorem ib {g:eE} (h:GG g):(iR g).length<=200/\∀y∈iR g,y.length<=1330:=by
 have l1:=pR h.2.2.2;have l2:=h.1;have l3:=h.2.2.1;refine⟨by simp only[iR,aaE,aaA];omega,λy hy=>?_⟩;unfold iR at hy;rcases List.mem_append.mp hy with hy | hy
 ·obtain⟨c,hc,rfl⟩:=List.mem_map.mp hy;have:=CC (h.2.1 c hc);omega
 ·obtain⟨p,hp,hy⟩:=List.mem_flatMap.mp hy;exact(mZ (h.2.2.2 p hp)).2 y hy
theorem Ff {g:eE} (h:GG g):JoinOk (Str.ofString "\n") (iR g)=true:=iQ (ib h).2 (ib h).1 (by decide) (by ac_rfl)
theorem F9 {H:Hp} {a b:Int} {v:V}:Rep H (LR a b) v↔∃p,v=.ref p/\H p=some (.tup [.int a,.int b]):=by
 simp only[LR,Rep,bj];constructor
 ·rintro⟨p,_,e,hp,_,_,rfl,rfl,_,_,rfl,rfl,rfl⟩;exact⟨p,e,hp⟩
 ·rintro⟨p,e,hp⟩;exact⟨p,_,e,hp,_,_,rfl,rfl,_,_,rfl,rfl,rfl⟩
theorem CD {H:Hp} {c:Str×Int} {v:V}:Rep H (ju c) v↔∃p,v=.ref p/\H p=some (.tup [.str c.1,.int c.2]):=by
 simp only[ju,Rep,bj];constructor
 ·rintro⟨p,_,e,hp,_,_,rfl,rfl,_,_,rfl,rfl,rfl⟩;exact⟨p,e,hp⟩
 ·rintro⟨p,e,hp⟩;exact⟨p,_,e,hp,_,_,rfl,rfl,_,_,rfl,rfl,rfl⟩
theorem Ga {H:Hp} {p:Str×cU} {v:V}:Rep H (qH p) v↔∃q u,v=.ref q/\H q=some (.tup [.str p.1,u])/\Rep H (wD p.2) u:=by
 simp only[qH,Rep,bj];constructor
 ·rintro⟨p,_,e,hp,_,_,rfl,rfl,u,_,rfl,ru,rfl⟩;exact⟨p,u,e,hp,ru⟩
 ·rintro⟨p,u,e,hp,ru⟩;exact⟨p,_,e,hp,_,_,rfl,rfl,u,_,rfl,ru,rfl⟩
theorem CF {H:Hp} {g:eE} {v:V}:Rep H (eV g) v↔∃p l m us vs,v=.ref p/\H p=some (.tup [.ref l,.ref m])/\H l=some (.lst us)/\bj H (g.1.map ju) us/\H m=some (.lst vs)/\bj H (g.2.map qH) vs:=by
 simp only[eV,Rep,bj];constructor
 ·rintro⟨p,_,e,hp,_,_,rfl,⟨l,us,rfl,hl,rl⟩,_,_,rfl,⟨m,vs,rfl,hm,rm⟩,rfl⟩;exact⟨p,l,m,us,vs,e,hp,hl,rl,hm,rm⟩
 ·rintro⟨p,l,m,us,vs,e,hp,hl,rl,hm,rm⟩;exact⟨p,_,e,hp,_,_,rfl,⟨l,us,rfl,hl,rl⟩,_,_,rfl,⟨m,vs,rfl,hm,rm⟩,rfl⟩
theorem xD {H:Hp} {a b:Int} {v:V}:Rep H (wD (.fin a b)) v↔∃p q,v=.ref p/\H p=some (.tup [.str (Str.ofString "end"),.ref q])/\H q=some (.tup [.int a,.int b]):=by
 simp only[wD,Rep,bj,F9];constructor
 ·rintro⟨p,_,e,hp,_,_,rfl,rfl,_,_,rfl,⟨q,rfl,hq⟩,rfl⟩;exact⟨p,q,e,hp,hq⟩
 ·rintro⟨p,q,e,hp,hq⟩;exact⟨p,_,e,hp,_,_,rfl,rfl,_,_,rfl,⟨q,rfl,hq⟩,rfl⟩
theorem CG {H:Hp} {c:Str} {v:V}:Rep H (wD (.qG c)) v↔∃p,v=.ref p/\H p=some (.tup [.str (Str.ofString "score"),.str c]):=by
 simp only[wD,Rep,bj];constructor
 ·rintro⟨p,_,e,hp,_,_,rfl,rfl,_,_,rfl,rfl,rfl⟩;exact⟨p,e,hp⟩
 ·rintro⟨p,e,hp⟩;exact⟨p,_,e,hp,_,_,rfl,rfl,_,_,rfl,rfl,rfl⟩
theorem CH {H:Hp} {c g z:Str} {n:Int} {v:V}:Rep H (wD (.ask c n g z)) v↔∃p,v=.ref p/\H p=some (.tup [.str (Str.ofString "ask"),.str c,.int n,.str g,.str z]):=by
 simp only[wD,Rep,bj];constructor
 ·rintro⟨p,_,e,hp,_,_,rfl,rfl,_,_,rfl,rfl,_,_,rfl,rfl,_,_,rfl,rfl,_,_,rfl,rfl,rfl⟩;exact⟨p,e,hp⟩
 ·rintro⟨p,e,hp⟩;exact⟨p,_,e,hp,_,_,rfl,rfl,_,_,rfl,rfl,_,_,rfl,rfl,_,_,rfl,rfl,_,_,rfl,rfl,rfl⟩
theorem xE {H:Hp} {ps:List Pq} {a b:Int} {rs:List eD} {v:V}:Rep H (wD (.eC ps a b rs)) v↔∃p u q l xs,v=.ref p/\H p=some (.tup [.str (Str.ofString "throw"),u,.ref q,.ref l])/\Rep H (mY ps) u/\H q=some (.tup [.int a,.int b])/\H l=some (.lst xs)/\bj H (rs.map wz) xs:=by
 simp only[wD,Rep,bj,F9];constructor
 ·rintro⟨p,_,e,hp,_,_,rfl,rfl,u,_,rfl,ru,_,_,rfl,⟨q,rfl,hq⟩,_,_,rfl,⟨l,xs,rfl,hl,rl⟩,rfl⟩;exact⟨p,u,q,l,xs,e,hp,ru,hq,hl,rl⟩
 ·rintro⟨p,u,q,l,xs,e,hp,ru,hq,hl,rl⟩;exact⟨p,_,e,hp,_,_,rfl,rfl,u,_,rfl,ru,_,_,rfl,⟨q,rfl,hq⟩,_,_,rfl,⟨l,xs,rfl,hl,rl⟩,rfl⟩
theorem xF {H:Hp} {k:Int} {rs:List ia} {v:V}:Rep H (wD (.jx k rs)) v↔∃p l xs,v=.ref p/\H p=some (.tup [.str (Str.ofString "pick"),.int k,.ref l])/\H l=some (.lst xs)/\bj H (rs.map Ct) xs:=by
 simp only[wD,Rep,bj];constructor
 ·rintro⟨p,_,e,hp,_,_,rfl,rfl,_,_,rfl,rfl,_,_,rfl,⟨l,xs,rfl,hl,rl⟩,rfl⟩;exact⟨p,l,xs,e,hp,hl,rl⟩
 ·rintro⟨p,l,xs,e,hp,hl,rl⟩;exact⟨p,_,e,hp,_,_,rfl,rfl,_,_,rfl,rfl,_,_,rfl,⟨l,xs,rfl,hl,rl⟩,rfl⟩
theorem Fg (n:Str) (w:cU):Txt.join SP (iy n w)=Str.ofString "place "++n++Str.ofString " "++wK w++Str.ofString " "++Txt.join SP (wW w):=by
 have e1:Str.ofString "place "=Str.ofString "place"++SP:=by ac_rfl
 unfold iy;rw[e1];cases h:wW w with
 | nil=>have:=Cy w;rw[h] at this;simp at this
 | cons a r=>
  show Txt.join SP (Str.ofString "place"::n::wK w::a::r)=_;rw[cF,cF,cF];simp only[Str.append_assoc]
theorem Fh {ps:List Pq} (h:ps≠[]) (a b:Int) (rs:List eD):Txt.join SP (wW (.eC ps a b rs))=AB ps++Str.ofString " pay "++iA a b:=by
 have e1:Str.ofString " pay "=SP++Str.ofString "pay"++SP:=by ac_rfl
 show Txt.join SP (pO ps++ [Str.ofString "pay",iA a b])=_;rw[vT (xC h) (by simp),ud,cF,join_one,e1];simp only[Str.append_assoc]
theorem list_eq {α:Type} {f:α->V} {as:List α} {ys:List V} (hl:ys.length=as.length) (h:∀(i:Nat) y,ys[i]?=some y->∀a,as[i]?=some a->y=f a):ys=as.map f:=by
 apply List.ext_getElem?;intro i;rw[aaG]
 by_cases hi:i<as.length
 ·rw[aaW (show i<ys.length by omega),aaW hi,h i _ (aaW (by omega)) _ (aaW hi)];rfl
 ·rw[aby (show ys.length<=i by omega),aby (show as.length<=i by omega)];rfl
theorem zc {H:Hp} {x:cU} {v:V} (h:Rep H (wD x) v):∃p r,v=.ref p/\H p=some (.tup (.str (wK x)::r)):=by
 cases x with
 | fin a b=>obtain⟨p,q,e,hp,_⟩:=xD.mp h;exact⟨p,_,e,hp⟩
 | qG c=>obtain⟨p,e,hp⟩:=CG.mp h;exact⟨p,_,e,hp⟩
 | ask c n g z=>obtain⟨p,e,hp⟩:=CH.mp h;exact⟨p,_,e,hp⟩
 | eC ps a b rs=>obtain⟨p,u,q,l,xs,e,hp,_⟩:=xE.mp h;exact⟨p,_,e,hp⟩
 | jx k rs=>obtain⟨p,l,xs,e,hp,_⟩:=xF.mp h;exact⟨p,_,e,hp⟩
noncomputable def PL:cU->List Str
 | .eC _ _ _ rs=>rs.map F5
 | _=>[]
theorem Ja {x:cU} (h:wK x=Str.ofString "throw"):∃ps a b rs,x=.eC ps a b rs:=by
 cases x with
 | eC ps a b rs=>exact⟨_,_,_,_,rfl⟩
 | fin a b=>exact absurd h (show Str.ofString "end"≠Str.ofString "throw" by ac_rfl)
 | qG c=>exact absurd h (show Str.ofString "score"≠Str.ofString "throw" by ac_rfl)
 | ask c n g e=>exact absurd h (show Str.ofString "ask"≠Str.ofString "throw" by ac_rfl)
 | jx k rs=>exact absurd h (show Str.ofString "pick"≠Str.ofString "throw" by ac_rfl)
theorem Jb {x:cU} (h:wK x=Str.ofString "pick"):∃k rs,x=.jx k rs:=by
 cases x with
 | jx k rs=>exact⟨_,_,rfl⟩
 | fin a b=>exact absurd h (show Str.ofString "end"≠Str.ofString "pick" by ac_rfl)
 | qG c=>exact absurd h (show Str.ofString "score"≠Str.ofString "pick" by ac_rfl)
 | ask c n g e=>exact absurd h (show Str.ofString "ask"≠Str.ofString "pick" by ac_rfl)
 | eC ps a b rs=>exact absurd h (show Str.ofString "throw"≠Str.ofString "pick" by ac_rfl)
theorem Jc {x:cU} (h:wK x≠Str.ofString "throw"):PL x=[]:=by
 cases x with
 | eC ps a b rs=>exact absurd rfl h
 | _=>rfl
theorem LS {x:cU} (h:wK x≠Str.ofString "pick"):wR x=PL x:=by
 cases x with
 | jx k rs=>exact absurd rfl h
 | _=>rfl
theorem gP {xs:List V} {k:Int} (h:0<=k):fo xs (some k) none=xs.drop k.toNat:=by
 unfold fo;obtain⟨n,rfl⟩:=abi h;rw[HT.oP,HT.fP,abq]
 by_cases c:n<=xs.length
 ·rw[abk c,aaT (by rw[List.length_drop];omega)]
 ·rw[Nat.min_eq_right (by omega),List.drop_of_length_le (aaC _),List.drop_of_length_le (by omega),List.take_nil]
theorem CI {ns:List Int} {P:Int->Prop} (h:∀n∈ns,P n) {k:Int} (k0:0<=k) (k1:k<ns.length):∃b,fQ (List.map V.int ns) k=some (.int b)/\P b:=by
 obtain⟨k,rfl⟩:=abi k0;have lk:k<ns.length:=by omega
 exact⟨ns[k],bE (by rw[aaG,aaW lk];rfl),h _ (List.getElem_mem lk)⟩
noncomputable def fW (z:Str):Prop:=1<=z.length/\z.length<=8/\∀c∈z.cps.toList,97<=c/\c<=122
noncomputable def N9 (n:Int):Prop:=0<=n/\n<=999
noncomputable def Jd (a b:Int):Prop:=1<=b/\b<=1000000/\-1000000000000<a/\a<1000000000000/\Nm.g a b=1
noncomputable def Gb (cs:List Str):c8->Prop
 | .mv a b=>a∈cs/\b∈cs/\b≠a
 | .fc a=>a∈cs
 | .st k a n=>(k=Str.ofString "set"\/k=Str.ofString "plus")/\a∈cs/\N9 n
noncomputable def qJ (cs:List Str) (ds:List c8):Prop:=ds.length<=6/\∀d∈ds,Gb cs d
noncomputable def LU (cs:List Str) (o:Option jt):Prop:=∀c,o=some c->c.1∈cs/\(c.2.1=Str.ofString "from"\/c.2.1=Str.ofString "below")/\N9 c.2.2
noncomputable def AO (cs ns:List Str) (r:eD):Prop:=N9 r.lo/\N9 r.hi/\r.lo<=r.hi/\qJ cs r.ds/\r.go∈ns
noncomputable def xG:c8->Prop
 | .fc _=>False
 | _=>True
noncomputable def Gc (cs ns:List Str) (r:ia):Prop:=fW r.wd/\LU cs r.wh/\qJ cs r.ds/\(∀d∈r.ds,xG d)/\r.go∈ns
noncomputable def lC:List (List Pq):=[[.num 0],[.cB 1 8],[.cB 3 3],[.one (Str.ofString "again") 1 6,.num 2],[.one (Str.ofString "burst") 2 2],[.many (Str.ofString "best") 2 3 4],[.many (Str.ofString "worst") 1 2 6],[.many (Str.ofString "hits") 1 1 6],[.cB 1 2,.cB 1 2]]
theorem zd {ps:List Pq} (h:ps∈lC):LQ ps:=by
 simp only[lC,aaD,aaH,or_false] at h;rcases h with rfl | rfl | rfl | rfl | rfl | rfl | rfl | rfl | rfl <;>refine⟨by simp,by simp,λp hp=>?_⟩ <;>simp only[aaD,aaH,or_false] at hp <;>
  (first | (subst hp;simp [tV]) | (rcases hp with rfl | rfl <;>simp [tV]))
noncomputable def holds (v:Int) (r:eD):Prop:=r.lo<=v/\v<=r.hi
noncomputable def AG (cs ns bh:List Str):cU->Prop
 | .fin a b=>Jd a b
 | .qG c=>c∈cs
 | .ask c n g e=>c∈cs/\N9 n/\g∈bh/\e∈bh
 | .eC ps a b rs=>ps∈lC/\Jd a b/\1<=rs.length/\rs.length<=4/\(∀r∈rs,AO cs ns r)/\∀v:Int,0<=v->v<=998->(rs.filter λr=>decide (r.lo<=v) && decide (v<=r.hi)).length=1
 | .jx k rs=>(k=1\/k=2)/\1<=rs.length/\rs.length<=4/\(∀r∈rs,Gc cs ns r)/\(rs.map (·.wd)).Nodup
structure uf (g:eE):Prop where
 c4:g.1.length<=4
 cn:∀c∈g.1,fW c.1/\1<=c.2/\c.2<=60
 cd:(g.1.map (·.1)).Nodup
 p1:1<=g.2.length
 N5:g.2.length<=30
 pn:∀p∈g.2,fW p.1
 pd:(g.2.map (·.1)).Nodup
 ok:∀(i:Nat) (p:Str×cU),g.2[i]?=some p->AG (g.1.map (·.1)) (g.2.map (·.1)) ((g.2.map (·.1)).drop (i+1)) p.2
theorem fW.wd {z:Str} (h:fW z):Wd z:=h.2.1
theorem N9.nb {n:Int} (h:N9 n):Nb n:=⟨by have:=h.1;omega,by have:=h.2;omega⟩
theorem Gb.gd {cs:List Str} (hc:∀c∈cs,fW c) {d:c8} (h:Gb cs d):GD d:=by
 cases d with
 | mv a b=>exact⟨(hc _ h.1).wd,(hc _ h.2.1).wd⟩
 | fc a=>exact(hc _ h).wd
 | st k a n=>exact⟨by rcases h.1 with e | e <;>rw[e] <;>(unfold Wd;ac_rfl),(hc _ h.2.1).wd,h.2.2.nb⟩
theorem qJ.gds {cs:List Str} (hc:∀c∈cs,fW c) {ds:List c8} (h:qJ cs ds):Kf ds:=⟨h.1,λd hd=>(h.2 d hd).gd hc⟩
theorem LU.gc {cs:List Str} (hc:∀c∈cs,fW c) {o:Option jt} (h:LU cs o):GC o:=λc e=>by
 obtain⟨a,b,d⟩:=h c e;exact⟨(hc _ a).wd,by rcases b with e | e <;>rw[e] <;>(unfold Wd;ac_rfl),d.nb⟩
theorem AO.gt {cs ns:List Str} (hc:∀c∈cs,fW c) (hn:∀n∈ns,fW n) {r:eD} (h:AO cs ns r):GT r:=⟨h.1.nb,h.2.1.nb,h.2.2.2.1.gds hc,(hn _ h.2.2.2.2).wd⟩
theorem Gc.gp {cs ns:List Str} (hc:∀c∈cs,fW c) (hn:∀n∈ns,fW n) {r:ia} (h:Gc cs ns r):GP r:=⟨h.1.wd,h.2.1.gc hc,h.2.2.1.gds hc,(hn _ h.2.2.2.2).wd⟩
theorem Jd.nb {a b:Int} (h:Jd a b):Nb a/\Nb b:=by
 obtain⟨h1,h2,h3,h4,_⟩:=h;exact⟨⟨by omega,by omega⟩,by omega,by omega⟩
theorem AG.gw {cs ns bh:List Str} (hc:∀c∈cs,fW c) (hn:∀n∈ns,fW n) (hb:∀n∈bh,n∈ns) {x:cU} (h:AG cs ns bh x):GW x:=by
 cases x with
 | fin a b=>exact h.nb
 | qG c=>exact(hc _ h).wd
 | ask c n g e=>exact⟨(hc _ h.1).wd,h.2.1.nb,(hn _ (hb _ h.2.2.1)).wd,(hn _ (hb _ h.2.2.2)).wd⟩
 | eC ps a b rs=>obtain⟨h1,h2,h3,h4,h5,_⟩:=h;exact⟨zd h1,h2.nb.1,h2.nb.2,by omega,λr hr=>(h5 r hr).gt hc hn⟩
 | jx k rs=>obtain⟨h1,h2,h3,h4,_⟩:=h;exact⟨⟨by omega,by omega⟩,by omega,λr hr=>(h4 r hr).gp hc hn⟩
theorem uf.cs {g:eE} (h:uf g):∀c∈g.1.map (·.1),fW c:=λc hc=>by obtain⟨x,hx,rfl⟩:=List.mem_map.mp hc;exact(h.cn x hx).1
theorem uf.ns {g:eE} (h:uf g):∀n∈g.2.map (·.1),fW n:=λc hc=>by obtain⟨x,hx,rfl⟩:=List.mem_map.mp hc;exact h.pn x hx
theorem uf.gw {g:eE} (h:uf g):∀p∈g.2,GW p.2:=λp hp=>by
 obtain⟨i,hi,rfl⟩:=List.getElem_of_mem hp;exact(h.ok i _ (aaW hi)).gw h.cs h.ns λn hn=>List.drop_subset _ _ hn
theorem uf.gg {g:eE} (h:uf g):GG g:=⟨h.c4,λc hc=>⟨(h.cn c hc).1.wd,by have:=(h.cn c hc).2;exact⟨by omega,by omega⟩⟩,h.N5,λp hp=>⟨(h.pn p hp).wd,h.gw p hp⟩⟩
noncomputable def Wo (z:Str):Prop:=∀c∈z.cps.toList,33<=c
theorem fW.wo {z:Str} (h:fW z):Wo z:=λc hc=>by have:=h.2.2 c hc;omega
theorem gB (a:Int):Wo (bg a):=λc hc=>by
 rcases Int.lt_or_le a 0 with h | h
 ·obtain⟨n,rfl⟩:∃n:Nat,a= -(n:Int):=⟨a.natAbs,by omega⟩
  rw[kW (by omega)] at hc;rcases List.mem_cons.mp hc with rfl | hc
  ·decide
  ·have:=fE n c hc;omega
 ·obtain⟨n,rfl⟩:=abi h;have:=fE n c hc;omega
theorem Wo.app {a b:Str} (ha:Wo a) (hb:Wo b):Wo (a++b):=λc hc=>by
 rw[app_list] at hc;exact(List.mem_append.mp hc).elim (ha c) (hb c)
theorem Gd (a b:Int):Wo (iA a b):=by
 unfold iA
 split
 ·exact gB a
 ·exact((gB a).app (by unfold Wo;ac_rfl)).app (gB b)
theorem LV {cs:List Str} (hc:∀c∈cs,fW c) {d:c8} (h:Gb cs d):∀y∈dW d,Wo y:=by
 cases d with
 | mv a b=>
  intro y hy;simp only[dW,aaD,aaH,or_false] at hy;rcases hy with rfl | rfl | rfl
  ·unfold Wo;ac_rfl
  ·exact(hc _ h.1).wo
  ·exact(hc _ h.2.1).wo
 | fc a=>
  intro y hy;simp only[dW,aaD,aaH,or_false] at hy;rcases hy with rfl | rfl
  ·unfold Wo;ac_rfl
  ·exact(hc _ h).wo
 | st k a n=>
  intro y hy;simp only[dW,aaD,aaH,or_false] at hy;rcases hy with rfl | rfl | rfl
  ·rcases h.1 with e | e <;>rw[e] <;>(unfold Wo;ac_rfl)
  ·exact(hc _ h.2.1).wo
  ·exact gB n
theorem CJ {cs:List Str} (hc:∀c∈cs,fW c) {ds:List c8} (h:qJ cs ds):∀y∈fL ds,Wo y:=λy hy=>by
 obtain⟨d,hd,hy⟩:=List.mem_flatMap.mp hy;exact LV hc (h.2 d hd) y hy
theorem Je {cs ns:List Str} (hc:∀c∈cs,fW c) (hn:∀n∈ns,fW n) {r:eD} (h:AO cs ns r):∀y∈uG r,Wo y:=λy hy=>by
 simp only[uG,List.mem_append,aaD,aaH,or_false] at hy;rcases hy with ((rfl | rfl | rfl | rfl) | hy) | rfl | rfl
 ·unfold Wo;ac_rfl
 ·exact gB _
 ·unfold Wo;ac_rfl
 ·exact gB _
 ·exact CJ hc h.2.2.2.1 y hy
 ·unfold Wo;ac_rfl
 ·exact(hn _ h.2.2.2.2).wo
theorem CK {cs:List Str} (hc:∀c∈cs,fW c) {o:Option jt} (h:LU cs o):∀y∈gO o,Wo y:=by
 cases o with
 | none=>intro y hy;simp [gO] at hy
 | some c=>
  obtain⟨a,b,d⟩:=h c rfl;intro y hy;simp only[gO,aaD,aaH,or_false] at hy;rcases hy with rfl | rfl | rfl | rfl
  ·unfold Wo;ac_rfl
  ·exact(hc _ a).wo
  ·rcases b with e | e <;>rw[e] <;>(unfold Wo;ac_rfl)
  ·exact gB _
theorem Jf {cs ns:List Str} (hc:∀c∈cs,fW c) (hn:∀n∈ns,fW n) {r:ia} (h:Gc cs ns r):∀y∈pN r,Wo y:=λy hy=>by
 simp only[pN,List.mem_append,aaD,aaH,or_false] at hy;rcases hy with (((rfl | rfl) | hy) | hy) | rfl | rfl
 ·unfold Wo;ac_rfl
 ·exact h.1.wo
 ·exact CK hc h.2.1 y hy
 ·exact CJ hc h.2.2.1 y hy
 ·unfold Wo;ac_rfl
 ·exact(hn _ h.2.2.2.2).wo
theorem CL:∀{ps:List Pq},(∀p∈ps,tV p)->∀y∈pO ps,Wo y
 | [],_=>λy hy=>by cases hy
 | [p],g=>λy hy c hc=>by have:=yX (g p (by simp)) y hy c hc;omega
 | p::q::r,g=>λy hy=>by
  rcases List.mem_append.mp (show y∈mX p++Str.ofString "+"::pO (q::r) from hy) with h | h
  ·exact λc hc=>by have:=yX (g p (by simp)) y h c hc;omega
  ·rcases List.mem_cons.mp h with rfl | h
   ·unfold Wo;ac_rfl
   ·exact CL (λx hx=>g x (aaJ _ hx)) y h
noncomputable def Ge:cU->List (List Str)
 | .eC _ _ _ rs=>rs.map uG
 | .jx _ rs=>rs.map pN
 | _=>[]
noncomputable def pS (c:Str×Int):List Str:=[Str.ofString "count",c.1,bg c.2]
noncomputable def iT (p:Str×cU):List (List Str):=iy p.1 p.2::Ge p.2
noncomputable def AQ (g:eE):List (List Str):=g.1.map pS++g.2.flatMap iT
theorem ug (g:eE):iR g=(AQ g).map (Txt.join SP):=by
 unfold iR AQ;rw[aaM,abb,List.map_flatMap];refine congr (congrArg HAppend.hAppend ?_) ?_
 ·refine List.map_congr_left λc _=>?_;show qI c=Txt.join SP [_,_,_];rw[cF,cF,join_one];unfold qI;rw[show Str.ofString "count "=Str.ofString "count"++SP by ac_rfl];simp only[Str.append_assoc]
 ·have:∀p:Str×cU,pQ p=(iT p).map (Txt.join SP):=λp=>by
   unfold pQ iT;rw[aaI];congr 1;cases p.2 <;>simp [wR,Ge,F5,DG,Function.comp_def]
  exact congrArg (λf=>g.2.flatMap f) (funext this)
theorem xH {g:eE} (h:uf g):∀ws∈AQ g,ws≠[]/\∀y∈ws,Wo y:=λws hw=>by
 have kn:∀x:cU,Wo (wK x):=λx=>by
  cases x with
  | fin a b=>show Wo (Str.ofString "end");unfold Wo;ac_rfl
  | qG c=>show Wo (Str.ofString "score");unfold Wo;ac_rfl
  | ask c n g e=>show Wo (Str.ofString "ask");unfold Wo;ac_rfl
  | eC ps a b rs=>show Wo (Str.ofString "throw");unfold Wo;ac_rfl
  | jx k rs=>show Wo (Str.ofString "pick");unfold Wo;ac_rfl
 rcases List.mem_append.mp hw with hw | hw
 ·obtain⟨c,hc,rfl⟩:=List.mem_map.mp hw;refine⟨by simp [pS],λy hy=>?_⟩;simp only[pS,aaD,aaH,or_false] at hy;rcases hy with rfl | rfl | rfl
  ·unfold Wo;ac_rfl
  ·exact(h.cn c hc).1.wo
  ·exact gB _
 ·obtain⟨p,hp,hw⟩:=List.mem_flatMap.mp hw;obtain⟨i,hi,ep⟩:=List.getElem_of_mem hp;have ok:=h.ok i p (by rw[<-ep];exact aaW hi);have bh:∀n∈(g.2.map (·.1)).drop (i+1),fW n:=λn hn=>h.ns n (List.drop_subset _ _ hn);rcases List.mem_cons.mp hw with rfl | hw
  ·refine⟨by simp [iy],λy hy=>?_⟩;simp only[iy,List.mem_append,aaD,aaH,or_false] at hy;rcases hy with (rfl | rfl | rfl) | hy
   ·unfold Wo;ac_rfl
   ·exact(h.pn p hp).wo
   ·exact kn _
   ·generalize p.2=x at ok hy;cases x with
    | fin a b=>rw[show y=iA a b by simpa [wW] using hy];exact Gd a b
    | qG c=>rw[show y=c by simpa [wW] using hy];exact(h.cs _ ok).wo
    | ask c n g' e=>
     simp only[wW,aaD,aaH,or_false] at hy;rcases hy with rfl | rfl | rfl | rfl | rfl | rfl | rfl
     ·exact(h.cs _ ok.1).wo
     ·unfold Wo;ac_rfl
     ·exact gB _
     ·unfold Wo;ac_rfl
     ·exact(bh _ ok.2.2.1).wo
     ·unfold Wo;ac_rfl
     ·exact(bh _ ok.2.2.2).wo
    | eC ps a b rs=>
     rcases List.mem_append.mp (show y∈pO ps++ [Str.ofString "pay",iA a b] from hy) with hy | hy
     ·exact CL (zd ok.1).2.2 y hy
     ·simp only[aaD,aaH,or_false] at hy;rcases hy with rfl | rfl
      ·unfold Wo;ac_rfl
      ·exact Gd a b
    | jx k rs=>rw[show y=bg k by simpa [wW] using hy];exact gB k
  ·generalize p.2=x at ok hw;cases x with
   | eC ps a b rs=>
    obtain⟨r,hr,rfl⟩:=List.mem_map.mp (show ws∈rs.map uG from hw);exact⟨by simp [uG],Je h.cs h.ns (ok.2.2.2.2.1 r hr)⟩
   | jx k rs=>
    obtain⟨r,hr,rfl⟩:=List.mem_map.mp (show ws∈rs.map pN from hw);exact⟨by simp [pN],Jf h.cs h.ns (ok.2.2.2.1 r hr)⟩
   | _=>simp [Ge] at hw
theorem ze (c:Nat) (h32:c≠32) (hc:c<33):∀{ws:List Str},(∀y∈ws,Wo y)->c∉(Txt.join SP ws).cps.toList
 | [],_=>by rw[show(Txt.join SP []).cps.toList=[] by ac_rfl];exact λh=>by cases h
 | [x],h=>λm=>by rw[join_one] at m;have:=h x (by simp) c m;omega
 | x::y::r,h=>λm=>by
  rw[cF,app_list,app_list] at m;rcases List.mem_append.mp m with m | m
  ·rcases List.mem_append.mp m with m | m
   ·have:=h x (by simp) c m;omega
   ·have:SP.cps.toList=[32]:=by ac_rfl
    rw[this] at m;simp at m;exact h32 m
  ·exact ze c h32 hc (λz hz=>h z (aaJ _ hz)) m
theorem AH {ws:List Str} (n:ws≠[]) (h:∀y∈ws,Wo y):Txt.split (Txt.join SP ws) (Str.ofString " ")=ws:=by
 have e:SP=(⟨#[32]⟩:Str):=by ac_rfl
 show Txt.split (Txt.join SP ws) SP=ws;rw[e];exact fA 32 n λy hy hc=>by have:=h y hy 32 hc;omega
theorem CM {g:eE} (h:uf g):Txt.split (iS g) (Str.ofString "\n")=(AQ g).map (Txt.join SP):=by
 have e:Str.ofString "\n"=(⟨#[10]⟩:Str):=by ac_rfl
 unfold iS;rw[ug,e];refine fA 10 ?_ λy hy=>?_
 ·intro z;have:=congrArg List.length z;obtain⟨p,r,e2⟩:=List.exists_cons_of_length_pos (show 0<g.2.length from h.p1);simp [AQ,e2,iT] at this
 ·obtain⟨ws,hw,rfl⟩:=List.mem_map.mp hy;exact ze 10 (by decide) (by decide) (xH h ws hw).2
noncomputable def wA (gs:List (List (List Str))) (ws:List Str):List (List (List Str)):=
 if ws.head?=some (Str.ofString "place") then gs++ [[ws]] else gs.dropLast++ [gs.getLastD []++ [ws]]
theorem pT:∀(zf:List (List Str)) (gs:List (List (List Str))) (x:List (List Str)),(∀ws∈zf,ws.head?≠some (Str.ofString "place"))->zf.foldl wA (gs++ [x])=gs++ [x++zf]
 | [],gs,x,_=>by simp
 | ws::r,gs,x,h=>by
  rw[List.foldl_cons];have:wA (gs++ [x]) ws=gs++ [x++ [ws]]:=by
   unfold wA;rw[if_neg (h ws (by simp))];simp
  rw[this,pT r gs (x++ [ws]) λw hw=>h w (aaJ _ hw)];simp
theorem CN (x:cU):∀ws∈Ge x,ws.head?≠some (Str.ofString "place"):=by
 have h1:Str.ofString "from"≠Str.ofString "place":=by ac_rfl
 have h2:Str.ofString "way"≠Str.ofString "place":=by ac_rfl
 intro ws hw;cases x with
 | eC ps a b rs=>obtain⟨r,_,rfl⟩:=List.mem_map.mp (show ws∈rs.map uG from hw);simpa [uG] using h1
 | jx k rs=>obtain⟨r,_,rfl⟩:=List.mem_map.mp (show ws∈rs.map pN from hw);simpa [pN] using h2
 | _=>simp [Ge] at hw
theorem pU:∀(ps:List (Str×cU)) (gs:List (List (List Str))),(ps.flatMap iT).foldl wA gs=gs++ps.map iT
 | [],gs=>by simp
 | p::r,gs=>by
  rw[abd,List.foldl_append];have:(iT p).foldl wA gs=gs++ [iT p]:=by
   unfold iT;rw[List.foldl_cons];have e:wA gs (iy p.1 p.2)=gs++ [[iy p.1 p.2]]:=by unfold wA;rw[if_pos (by simp [iy])]
   rw[e,pT _ _ _ (CN p.2)];rfl
  rw[this,pU r];simp
theorem Jg (g:eE):(AQ g).foldl wA [[]]=g.1.map pS::g.2.map iT:=by
 have h1:Str.ofString "count"≠Str.ofString "place":=by ac_rfl
 unfold AQ;rw[List.foldl_append];have:=pT (g.1.map pS) [] [] λws hw=>by obtain⟨c,_,rfl⟩:=List.mem_map.mp hw;simpa [pS] using h1
 simp only[List.nil_append] at this;rw[this,pU];rfl
noncomputable def Fi:Sp:=λvs H Q _=>dc vs λa=>cK a λa=>∃ps,Lq H a ps/\yU ps/\ps.length<=4/\∀p H',aq H H'->H p=none->Rep H' (BH (IG ps)) (.ref p)->Q (.ref p) H'
theorem Fj {qs:List Pq} (h:qs∈lC):∃ps∈xx,ps.map gX=qs.map IM:=by
 simp only[lC,aaD,aaH,or_false] at h;rcases h with rfl | rfl | rfl | rfl | rfl | rfl | rfl | rfl | rfl
 ·exact⟨[.num 0],by simp [xx],rfl⟩
 ·exact⟨[.cB 1 8],by simp [xx],rfl⟩
 ·exact⟨[.cB 3 3],by simp [xx],rfl⟩
 ·exact⟨[.again 1 6,.num 2],by simp [xx],rfl⟩
 ·exact⟨[.dY 2 2],by simp [xx],rfl⟩
 ·exact⟨[.best 2 3 4],by simp [xx],rfl⟩
 ·exact⟨[.eU 1 2 6],by simp [xx],rfl⟩
 ·exact⟨[.hits 1 1 6],by simp [xx],rfl⟩
 ·exact⟨[.cB 1 2,.cB 1 2],by simp [xx],rfl⟩
theorem Jh {H:Hp} {l:Addr} {qs:List Pq} (h:pM H l qs) (n:qs∈lC):∃ps,yU ps/\ps.length<=4/\Lq H l ps:=by
 obtain⟨ps,hp,e⟩:=Fj n;obtain⟨xs,hl,lx,hx⟩:=h;have le:=congrArg List.length e;rw[aaA,aaA] at le;refine⟨ps,hp,by rw[le];exact(zd n).2.1,xs,hl,Al.of (by omega) λi v p e2 e1=>?_⟩;have e3:(ps.map gX)[i]?=some (gX p):=by rw[aaG,e1];rfl
 rw[e,aaG] at e3;obtain⟨q,eq,e4⟩:=Option.map_eq_some_iff.mp e3;obtain⟨a,ea,ha⟩:=hx i q eq;rw[ea] at e2;cases e2;exact⟨a,rfl,by rw[ha,e4]⟩
theorem rO {vs:List V} {k:Str->Int->Int->Prop} (h:qj vs λa b c=>nE a λa=>iD b λb=>iD c λc=>k a b c):∃a b c,vs=[.str a,.int b,.int c]/\k a b c:=by
 obtain⟨_,_,_,rfl,h0⟩:=rdL3_eq.mp h;obtain⟨_,rfl,h1⟩:=rdS_eq.mp h0;obtain⟨_,rfl,h2⟩:=rdI_eq.mp h1;obtain⟨_,rfl,h3⟩:=rdI_eq.mp h2;exact⟨_,_,_,rfl,h3⟩
theorem Gf {vs:List V} {k:Str->Str->Str->Prop} (h:qj vs λa b c=>nE a λa=>nE b λb=>nE c λc=>k a b c):∃a b c,vs=[.str a,.str b,.str c]/\k a b c:=by
 obtain⟨_,_,_,rfl,h0⟩:=rdL3_eq.mp h;obtain⟨_,rfl,h1⟩:=rdS_eq.mp h0;obtain⟨_,rfl,h2⟩:=rdS_eq.mp h1;obtain⟨_,rfl,h3⟩:=rdS_eq.mp h2;exact⟨_,_,_,rfl,h3⟩
theorem LW {vs:List V} {k:Str->Addr->Prop} (h:eA vs λa b=>nE a λa=>cK b λb=>k a b):∃a b,vs=[.str a,.ref b]/\k a b:=by
 obtain⟨_,_,rfl,h0⟩:=rdL2_eq.mp h;obtain⟨_,rfl,h1⟩:=rdS_eq.mp h0;obtain⟨_,rfl,h2⟩:=rdR_eq.mp h1;exact⟨_,_,rfl,h2⟩
theorem LX {vs:List V} {k:Bool->V->Prop} (h:eA vs λa b=>FJ a λa=>k a b):∃a b,vs=[.bl a,b]/\k a b:=by
 obtain⟨_,_,rfl,h0⟩:=rdL2_eq.mp h;obtain⟨_,rfl,h1⟩:=rdB_eq.mp h0;exact⟨_,_,rfl,h1⟩
theorem rP {vs:List V} {k:Addr->Addr->Addr->Prop} (h:qj vs λa b c=>cK a λa=>cK b λb=>cK c λc=>k a b c):∃a b c,vs=[.ref a,.ref b,.ref c]/\k a b c:=by
 obtain⟨_,_,_,rfl,h0⟩:=rdL3_eq.mp h;obtain⟨_,rfl,h1⟩:=rdR_eq.mp h0;obtain⟨_,rfl,h2⟩:=rdR_eq.mp h1;obtain⟨_,rfl,h3⟩:=rdR_eq.mp h2;exact⟨_,_,_,rfl,h3⟩
theorem m4 {vs:List V} {k:Addr->Addr->Addr->Addr->Prop} (h:my vs λa b c d=>cK a λa=>cK b λb=>cK c λc=>cK d λd=>k a b c d):∃a b c d,vs=[.ref a,.ref b,.ref c,.ref d]/\k a b c d:=by
 obtain⟨_,_,_,_,rfl,h0⟩:=rdL4_eq.mp h;obtain⟨_,rfl,h1⟩:=rdR_eq.mp h0;obtain⟨_,rfl,h2⟩:=rdR_eq.mp h1;obtain⟨_,rfl,h3⟩:=rdR_eq.mp h2;obtain⟨_,rfl,h4⟩:=rdR_eq.mp h3;exact⟨_,_,_,_,rfl,h4⟩
theorem CO {vs:List V} {k:Str->Addr->Addr->Addr->Prop} (h:my vs λa b c d=>nE a λa=>cK b λb=>cK c λc=>cK d λd=>k a b c d):∃a b c d,vs=[.str a,.ref b,.ref c,.ref d]/\k a b c d:=by
 obtain⟨_,_,_,_,rfl,h0⟩:=rdL4_eq.mp h;obtain⟨_,rfl,h1⟩:=rdS_eq.mp h0;obtain⟨_,rfl,h2⟩:=rdR_eq.mp h1;obtain⟨_,rfl,h3⟩:=rdR_eq.mp h2;obtain⟨_,rfl,h4⟩:=rdR_eq.mp h3;exact⟨_,_,_,_,rfl,h4⟩
theorem CP {vs:List V} {k:Addr->Int->Addr->Bool->Prop} (h:my vs λa b c d=>cK a λa=>iD b λb=>cK c λc=>FJ d λd=>k a b c d):∃a b c d,vs=[.ref a,.int b,.ref c,.bl d]/\k a b c d:=by
 obtain⟨_,_,_,_,rfl,h0⟩:=rdL4_eq.mp h;obtain⟨_,rfl,h1⟩:=rdR_eq.mp h0;obtain⟨_,rfl,h2⟩:=rdI_eq.mp h1;obtain⟨_,rfl,h3⟩:=rdR_eq.mp h2;obtain⟨_,rfl,h4⟩:=rdB_eq.mp h3;exact⟨_,_,_,_,rfl,h4⟩
theorem uh {vs:List V} {k:Addr->Int->Addr->Addr->Prop} (h:my vs λa b c d=>cK a λa=>iD b λb=>cK c λc=>cK d λd=>k a b c d):∃a b c d,vs=[.ref a,.int b,.ref c,.ref d]/\k a b c d:=by
 obtain⟨_,_,_,_,rfl,h0⟩:=rdL4_eq.mp h;obtain⟨_,rfl,h1⟩:=rdR_eq.mp h0;obtain⟨_,rfl,h2⟩:=rdI_eq.mp h1;obtain⟨_,rfl,h3⟩:=rdR_eq.mp h2;obtain⟨_,rfl,h4⟩:=rdR_eq.mp h3;exact⟨_,_,_,_,rfl,h4⟩
noncomputable def AR (ws:List Str):Dat:=.lst (ws.map .str)
noncomputable def pV (zf:List (List Str)):Dat:=.lst (zf.map AR)
noncomputable def Fk (gss:List (List (List Str))):Dat:=.lst (gss.map pV)
theorem lD {H:Hp}:∀{ws:List Str} {vs:List V},bj H (ws.map Dat.str) vs↔vs=ws.map V.str
 | [],vs=>by rw[aa3,aa3,cM]
 | w::r,vs=>by
  rw[aaI,aaI,bN];constructor
  ·rintro⟨v,us,rfl,h1,h2⟩;rw[fV.mp h1,lD.mp h2]
  ·rintro rfl;exact⟨_,_,rfl,fV.mpr rfl,lD.mpr rfl⟩
theorem m7 {H:Hp} {ws:List Str} {v:V}:Rep H (AR ws) v↔∃q,v=.ref q/\H q=some (.lst (ws.map V.str)):=by
 unfold AR;rw[bU];constructor
 ·rintro⟨p,vs,e,h,r⟩;rw[lD.mp r] at h;exact⟨p,e,h⟩
 ·rintro⟨q,e,h⟩;exact⟨q,_,e,h,lD.mpr rfl⟩
noncomputable def cC:Sp:=λvs H Q _=>eA vs λb _=>FJ b λb=>b=true/\Q .c6 H
noncomputable def d4:Sp:=λvs H Q _=>qj vs λz a b=>nE z λz=>iD a λa=>iD b λb=>∃k,z=bg k/\0<=k/\k<1000/\a<=k/\k<=b/\∀H',aq H H'->Q (.int k) H'
noncomputable def CQ:Sp:=λvs H Q _=>dc vs λz=>nE z λz=>∃m s,z=gN m s/\1<=m/\m<=6/\1<=s/\s<=20/\∀p H',aq H H'->H' p=some (.tup [.int m,.int s])->Q (.ref p) H'
noncomputable def CS:Sp:=λvs H Q _=>qj vs λk z d=>nE k λk=>nE z λz=>nE d λd=>∃n,z=bg n/\∃m s,d=gN m s/\
 ((tV (.many k n m s)/\∀p H',aq H H'->H' p=some (.tup (IM (.many k n m s)))->Q (.ref p) H')\/(m=1/\tV (.one k n s)/\∀p H',aq H H'->H' p=some (.tup (IM (.one k n s)))->Q (.ref p) H'))
noncomputable def Gg:Sp:=λvs H Q _=>dc vs λz=>nE z λz=>∃p,z=qF p/\tV p/\∀q H',aq H H'->H' q=some (.tup (IM p))->Q (.ref q) H'
noncomputable def zg:Sp:=λvs H Q _=>dc vs λz=>nE z λz=>∃ps,z=AB ps/\LQ ps/\∀l H',aq H H'->H l=none->pM H' l ps->Q (.ref l) H'
noncomputable def CT:Sp:=λvs H Q _=>dc vs λz=>nE z λz=>fW z/\∀H',aq H H'->Q (.bl true) H'
noncomputable def rQ:Sp:=λvs H Q _=>dc vs λz=>nE z λz=>fW z/\∀H',aq H H'->Q (.str z) H'
noncomputable def jA:Sp:=λvs H Q _=>eA vs λz l=>nE z λz=>cK l λl=>∃ts,H l=some (.lst (List.map V.str ts))/\z∈ts/\ts.length<=40/\Q (.str z) H
noncomputable def zh:Sp:=λvs H Q _=>dc vs λl=>cK l λl=>∃ts,H l=some (.lst (List.map V.str ts))/\ts.Nodup/\ts.length<=40/\∀H',aq H H'->Q .c6 H'
noncomputable def Gh:Sp:=λvs H Q _=>dc vs λl=>cK l λl=>∃c:jt,H l=some (.lst (List.map V.str [c.1,c.2.1,bg c.2.2]))/\fW c.1/\(c.2.1=Str.ofString "from"\/c.2.1=Str.ofString "below")/\N9 c.2.2/\∀p H',aq H H'->H' p=some (.tup [.str c.1,.str c.2.1,.int c.2.2])->Q (.ref p) H'
noncomputable def Gj:Sp:=λvs H Q _=>eA vs λl k=>cK l λl=>cK k λk=>∃c:jt,H l=some (.lst (List.map V.str [c.1,c.2.1,bg c.2.2]))/\fW c.1/\(c.2.1=Str.ofString "from"\/c.2.1=Str.ofString "below")/\N9 c.2.2/\∃cs,H k=some (.lst (List.map V.str cs))/\c.1∈cs/\cs.length<=40/\∀p H',aq H H'->H' p=some (.tup [.str c.1,.str c.2.1,.int c.2.2])->Q (.ref p) H'
noncomputable def vV:Sp:=λvs H Q _=>dc vs λz=>nE z λz=>∃a b,z=iA a b/\Jd a b/\∀p H',aq H H'->H' p=some (.tup [.int a,.int b])->Q (.ref p) H'
noncomputable def CU:Sp:=λvs H Q _=>dc vs λl=>cK l λl=>∃c:Str×Int,H l=some (.lst (List.map V.str (pS c)))/\fW c.1/\1<=c.2/\c.2<=60/\∀p H',aq H H'->H' p=some (.tup [.str c.1,.int c.2])->Q (.ref p) H'
noncomputable def Gk:Sp:=λvs H Q _=>dc vs λl=>cK l λl=>∃cs:List (Str×Int),Rep H (pV (cs.map pS)) (.ref l)/\cs.length<=4/\(∀c∈cs,fW c.1/\1<=c.2/\c.2<=60)/\(cs.map (·.1)).Nodup/\∀p H',aq H H'->H p=none->b5 H H' (.lst (cs.map ju)) (.ref p)->Q (.ref p) H'
noncomputable def Gm:Sp:=λvs H Q _=>eA vs λl c=>cK l λl=>cK c λc=>∃d,H l=some (.lst (List.map V.str (dW d)))/\∃cs,H c=some (.lst (List.map V.str cs))/\cs.length<=40/\Gb cs d/\∀p H',aq H H'->H' p=some (.tup (dV d))->Q (.ref p) H'
noncomputable def zi:Sp:=λvs H Q _=>eA vs λl c=>cK l λl=>cK c λc=>∃ds,H l=some (.lst (List.map V.str (fL ds)))/\∃cs,H c=some (.lst (List.map V.str cs))/\cs.length<=40/\qJ cs ds/\∀p H',aq H H'->H p=none->b5 H H' (.lst (ds.map dD)) (.ref p)->Q (.ref p) H'
noncomputable def vW:Sp:=λvs H Q _=>eA vs λl n=>cK l λl=>cK n λn=>∃ws g,H l=some (.lst (List.map V.str (ws++ [Str.ofString "go",g])))/\∃ns,H n=some (.lst (List.map V.str ns))/\ns.length<=40/\g∈ns/\Q (.str g) H
noncomputable def Gn:Sp:=λvs H Q _=>qj vs λl c n=>cK l λl=>cK c λc=>cK n λn=>∃r,H l=some (.lst (List.map V.str (uG r)))/\∃cs,H c=some (.lst (List.map V.str cs))/\cs.length<=40/\∃ns,H n=some (.lst (List.map V.str ns))/\ns.length<=40/\AO cs ns r/\∀p H',aq H H'->b5 H H' (wz r) (.ref p)->Q (.ref p) H'
noncomputable def Gp:Sp:=λvs H Q _=>qj vs λl c n=>cK l λl=>cK c λc=>cK n λn=>∃r,H l=some (.lst (List.map V.str (pN r)))/\∃cs,H c=some (.lst (List.map V.str cs))/\cs.length<=40/\(∀c∈cs,fW c)/\∃ns,H n=some (.lst (List.map V.str ns))/\ns.length<=40/\Gc cs ns r/\∀p H',aq H H'->b5 H H' (Ct r) (.ref p)->Q (.ref p) H'
noncomputable def CV:Sp:=λvs H Q _=>eA vs λl r=>cK l λl=>cK r λr=>∃ps,Lq H l ps/\yU ps/\ps.length<=4/\∃rs:List eD,Rep H (.lst (rs.map wz)) (.ref r)/\rs.length<=4/\(∀v:Int,0<=v->v<=998->(rs.filter λr=>decide (r.lo<=v) && decide (v<=r.hi)).length=1)/\∀H',aq H H'->Q .c6 H'
noncomputable def Gq:Sp:=λvs H Q _=>my vs λl r c n=>cK l λl=>cK r λr=>cK c λc=>cK n λn=>∃ps a b rs,H l=some (.lst (List.map V.str (wW (.eC ps a b rs))))/\Rep H (pV (rs.map uG)) (.ref r)/\∃cs,H c=some (.lst (List.map V.str cs))/\cs.length<=40/\∃ns,H n=some (.lst (List.map V.str ns))/\ns.length<=40/\AG cs ns [] (.eC ps a b rs)/\∀p H',aq H H'->b5 H H' (wD (.eC ps a b rs)) (.ref p)->Q (.ref p) H'
noncomputable def Gr:Sp:=λvs H Q _=>my vs λl r c n=>cK l λl=>cK r λr=>cK c λc=>cK n λn=>∃k rs,H l=some (.lst (List.map V.str (wW (.jx k rs))))/\Rep H (pV (rs.map pN)) (.ref r)/\∃cs,H c=some (.lst (List.map V.str cs))/\cs.length<=40/\(∀c∈cs,fW c)/\∃ns,H n=some (.lst (List.map V.str ns))/\ns.length<=40/\AG cs ns [] (.jx k rs)/\∀p H',aq H H'->b5 H H' (wD (.jx k rs)) (.ref p)->Q (.ref p) H'
noncomputable def zj:Sp:=λvs H Q _=>qj vs λl c n=>cK l λl=>cK c λc=>cK n λn=>∃a k g e,H l=some (.lst (List.map V.str (wW (.ask a k g e))))/\∃cs,H c=some (.lst (List.map V.str cs))/\cs.length<=40/\∃bs,H n=some (.lst (List.map V.str bs))/\bs.length<=40/\AG cs [] bs (.ask a k g e)/\∀p H',aq H H'->b5 H H' (wD (.ask a k g e)) (.ref p)->Q (.ref p) H'
noncomputable def plain:cU->Prop
 | .eC _ _ _ _=>False
 | .jx _ _=>False
 | _=>True
noncomputable def zk:Sp:=λvs H Q _=>my vs λk l c n=>nE k λk=>cK l λl=>cK c λc=>cK n λn=>∃x,k=wK x/\plain x/\H l=some (.lst (List.map V.str (wW x)))/\∃cs,H c=some (.lst (List.map V.str cs))/\cs.length<=40/\∃bs,H n=some (.lst (List.map V.str bs))/\bs.length<=40/\AG cs [] bs x/\∀p H',aq H H'->b5 H H' (wD x) (.ref p)->Q (.ref p) H'
noncomputable def CW:Sp:=λvs H Q _=>my vs λl c n b=>cK l λl=>cK c λc=>cK n λn=>cK b λb=>∃p:Str×cU,Rep H (pV (iT p)) (.ref l)/\∃cs,H c=some (.lst (List.map V.str cs))/\cs.length<=40/\(∀c∈cs,fW c)/\∃ns,H n=some (.lst (List.map V.str ns))/\ns.length<=40/\∃bs,H b=some (.lst (List.map V.str bs))/\bs.length<=40/\AG cs ns bs p.2/\∀q H',aq H H'->b5 H H' (wD p.2) (.ref q)->Q (.ref q) H'
noncomputable def Gs:Sp:=λvs H Q _=>dc vs λr=>cK r λr=>∃zf,Rep H (pV zf) (.ref r)/\zf.length<=1000/\(∀ws∈zf,ws≠[])/\∀l H',aq H H'->Rep H' (Fk (zf.foldl wA [[]])) (.ref l)->Q (.ref l) H'
structure PM (cs:List Str) (ps:List (Str×cU)):Prop where
 p1:1<=ps.length
 N5:ps.length<=30
 pn:∀p∈ps,fW p.1
 pd:(ps.map (·.1)).Nodup
 ok:∀(i:Nat) (p:Str×cU),ps[i]?=some p->AG cs (ps.map (·.1)) ((ps.map (·.1)).drop (i+1)) p.2
noncomputable def Gu:Sp:=λvs H Q _=>eA vs λl c=>cK l λl=>cK c λc=>∃ps:List (Str×cU),Rep H (Fk (ps.map iT)) (.ref l)/\∃cs,H c=some (.lst (List.map V.str cs))/\cs.length<=40/\(∀c∈cs,fW c)/\PM cs ps/\∀p H',aq H H'->H p=none->b5 H H' (.lst (ps.map qH)) (.ref p)->Q (.ref p) H'
noncomputable def zm:Sp:=λvs H Q _=>dc vs λz=>nE z λz=>∃g,z=iS g/\uf g/\∀p l m H',aq H H'->H l=none->H m=none->l≠m->H' p=some (.tup [.ref l,.ref m])->b5 H H' (eV g) (.ref p)->Q (.ref p) H'
noncomputable def PN (ns:List Int) (k:Int):Int:=
 if k< (ns.length:Int) then ns.getD k.toNat 0
 else ((if (ns.length:Int) >0 then ns.getD ((k*9+2) % (ns.length:Int)).toNat 0 % 998839 else 59)+71*k+3)* ((if (ns.length:Int) >0 then ns.getD ((k*9+2) % (ns.length:Int)).toNat 0 % 998839 else 59)*5+k*k+41) % 1000159
noncomputable def xI (ns:List Int) (k n:Int):Prop:=n=PN ns k
theorem xI.one {ns:List Int} {k n m:Int} (h:xI ns k n) (h2:xI ns k m):n=m:=h.trans h2.symm
noncomputable def iz (K:PySem.W.Frag):Sp:=λvs H Q _=>eA vs λa k=>cK a λa=>iD k λk=>∃ns,bG K H a (List.map V.int ns)/\0<=k/\k<1000/\∀n,xI ns k n->Q (.int n) H
noncomputable def qK:List Str:=[Str.ofString "from",Str.ofString "go",Str.ofString "place",Str.ofString "if",Str.ofString "count",Str.ofString "below",Str.ofString "b",Str.ofString "pay",Str.ofString "end",Str.ofString "score",Str.ofString "way",Str.ofString "else",Str.ofString "to",Str.ofString "pick",Str.ofString "throw",Str.ofString "set",Str.ofString "ask",Str.ofString "move",Str.ofString "plus",Str.ofString "face",Str.ofString "zzzzzzzz",Str.ofString "y",Str.ofString "bank",Str.ofString "hold",Str.ofString "die",Str.ofString "of",Str.ofString "best",Str.ofString "again",Str.ofString "lost",Str.ofString "won"]
noncomputable def om (n:Int):List Str:=qK.drop (n % 30).toNat++qK.take (n % 30).toNat
theorem LY:∀t∈qK,fW t:=by unfold fW;ac_rfl
theorem zo (n:Int):(om n).length=30:=by
 have:qK.length=30:=rfl;unfold om;rw[aaE,List.length_drop,abc];omega
theorem xJ (n:Int):(om n).Nodup:=by
 unfold om;rw[List.perm_append_comm.nodup_iff,List.take_append_drop];ac_rfl
theorem xK (n:Int):∀t∈om n,fW t:=λt ht=>LY t ((List.mem_append.mp ht).elim List.mem_of_mem_drop List.mem_of_mem_take)
theorem lE {ts:List Str} (h0:0<ts.length) (n:Int):∃y,fQ (List.map V.str ts) (n % (ts.length:Int))=some (.str y)/\y∈ts:=by
 have a:=aaX n (show(ts.length:Int)≠0 by omega);have b:=aaY n (show(0:Int)< (ts.length:Int) by omega);obtain⟨j,e⟩:=abi a;have hj:j<ts.length:=by omega
 refine⟨ts[j],?_,List.getElem_mem hj⟩;rw[e];exact bE (by rw[aaG,aaW hj];rfl)
theorem pickK {ts:List Str} {k:Int} (k0:0<=k) (k1:k<ts.length):∃y,fQ (List.map V.str ts) k=some (.str y)/\ts[k.toNat]?=some y:=by
 obtain⟨j,rfl⟩:=abi k0;have hj:j<ts.length:=by omega
 refine⟨ts[j],?_,by rw[abq];exact aaW hj⟩;exact bE (by rw[aaG,aaW hj];rfl)
noncomputable def zp:Sp:=λvs H Q _=>dc vs λn=>iD n λn=>∀p H',aq H H'->H p=none->H' p=some (.lst (List.map V.str (om n)))->Q (.ref p) H'
noncomputable def CY:Sp:=λvs H Q _=>dc vs λc=>iD c λc=>∀p a b H',aq H H'->H' p=some (.tup [.int a,.int b])->Jd a b->Q (.ref p) H'
noncomputable def pW (K:PySem.W.Frag):Sp:=λvs H Q _=>my vs λa k c b=>cK a λa=>iD k λk=>cK c λc=>FJ b λb=>∃ns,bG K H a (List.map V.int ns)/\0<=k/\k<900/\∃cs,H c=some (.lst (List.map V.str cs))/\cs.length<=4/\∀p (ds:List c8) H',aq H H'->H p=none->b5 H H' (.lst (ds.map dD)) (.ref p)->qJ cs ds->(b=false->∀d∈ds,xG d)->Q (.ref p) H'
noncomputable def Gv:Sp:=λvs H Q _=>dc vs λc=>iD c λc=>∀p ps H',aq H H'->b5 H H' (mY ps) (.ref p)->ps∈lC->Q (.ref p) H'
noncomputable def Gw (K:PySem.W.Frag):Sp:=λvs H Q _=>my vs λa k c n=>cK a λa=>iD k λk=>cK c λc=>cK n λn=>∃ns,bG K H a (List.map V.int ns)/\0<=k/\k<800/\∃cs,H c=some (.lst (List.map V.str cs))/\cs.length<=4/\∃nm,H n=some (.lst (List.map V.str nm))/\1<=nm.length/\nm.length<=30/\
 ∀p (rs:List eD) H',aq H H'->H p=none->b5 H H' (.lst (rs.map wz)) (.ref p)->1<=rs.length->rs.length<=4->(∀r∈rs,AO cs nm r)->(∀v:Int,0<=v->v<=998->(rs.filter λr=>decide (r.lo<=v) && decide (v<=r.hi)).length=1)->Q (.ref p) H'
noncomputable def Gx (K:PySem.W.Frag):Sp:=λvs H Q _=>my vs λa k c n=>cK a λa=>iD k λk=>cK c λc=>cK n λn=>∃ns,bG K H a (List.map V.int ns)/\0<=k/\k<800/\∃cs,H c=some (.lst (List.map V.str cs))/\cs.length<=4/\∃nm,H n=some (.lst (List.map V.str nm))/\1<=nm.length/\nm.length<=30/\
 ∀p (rs:List ia) H',aq H H'->H p=none->b5 H H' (.lst (rs.map Ct)) (.ref p)->1<=rs.length->rs.length<=4->(∀r∈rs,Gc cs nm r)->(rs.map (·.wd)).Nodup->Q (.ref p) H'
noncomputable def Gy (K:PySem.W.Frag):Sp:=λvs H Q _=>∃a k j c d,vs=[.ref a,.int k,.int j,.ref c,.ref d]/\∃ns,bG K H a (List.map V.int ns)/\0<=k/\k<700/\0<=j/\∃cs,H c=some (.lst (List.map V.str cs))/\cs.length<=4/\∃nm,H d=some (.lst (List.map V.str nm))/\1<=nm.length/\nm.length<=30/\
 ∀p x H',aq H H'->b5 H H' (wD x) (.ref p)->AG cs nm (nm.drop (j.toNat+1)) x->Q (.ref p) H'
noncomputable def CZ (K:PySem.W.Frag):Sp:=λvs H Q _=>eA vs λa k=>cK a λa=>iD k λk=>∃ns,bG K H a (List.map V.int ns)/\0<=k/\k<100/\∀p l m g H',aq H H'->H l=none->H m=none->l≠m->H' p=some (.tup [.ref l,.ref m])->b5 H H' (eV g) (.ref p)->uf g->Q (.ref p) H'
noncomputable def C4:Sp:=λvs H Q _=>dc vs λp=>cK p λp=>∃a b,H p=some (.tup [.int a,.int b])/\Nb a/\Nb b/\Q (.str (iA a b)) H
noncomputable def Gz:Sp:=λvs H Q _=>dc vs λv=>∃ps:List Pe,Rep H (LI ps) v/\ps.length<=4/\(∀p∈ps,tX p)/\∀H',aq H H'->Q (.str (Txt.join (Str.ofString " + ") (ps.map tY))) H'
noncomputable def C5:Sp:=λvs H Q _=>eA vs λl g=>cK l λl=>nE g λg=>∃us,H l=some (.lst us)/\∃ds:List c8,bj H (ds.map dD) us/\Kf ds/\Wd g/\∀H',aq H H'->Q (.str (AE ds g)) H'
noncomputable def GA:Sp:=λvs H Q _=>dc vs λv=>∃x,Rep H (wD x) v/\GW x/\∀p H',aq H H'->H p=none->H' p=some (.lst (List.map V.str (wR x)))->Q (.ref p) H'
noncomputable def vX:Sp:=λvs H Q _=>dc vs λv=>∃g,Rep H (eV g) v/\GG g/\∀H',aq H H'->Q (.str (iS g)) H'
noncomputable def zq (K:PySem.W.Frag):Sp:=λvs H Q _=>∃(a:Addr) (ns:List Int),vs=[.ref a]/\bG K H a (ns.map V.int)/\ns.length<=63/\∀H',Q (.bl true) H'
theorem ke {tc:TT} {a b:TS} {D:Ends} {σ:L2.St} {H:Hp} (h:∀Y N:Hp->Prop,Y H->tc σ H λv H'=>if v=true then Y H' else N H') (k:a D σ H):tIfS tc a b D σ H:=hV (λH'=>H'=H) (λ_=>False) (λ_ e=>e▸k) (λ_ f=>f.elim) λY N hY _=>h Y N (hY _ rfl)
theorem iq {tc:TT} {a b:TS} {D:Ends} {σ:L2.St} {H:Hp} (h:∀Y N:Hp->Prop,N H->tc σ H λv H'=>if v=true then Y H' else N H') (k:b D σ H):tIfS tc a b D σ H:=hV (λ_=>False) (λH'=>H'=H) (λ_ f=>f.elim) (λ_ e=>e▸k) λY N _ hN=>h Y N (hN _ rfl)
theorem pX {a b:TS} {D:Ends} {σ:L2.St} {H:Hp} {i:Nat} {ph:Addr} {k:Str} {r:List V} {z:Str} (e:σ[i]?=some (some (.ref ph))) (hw:H ph=some (.tup (.str k::r))) (h:k=z) (q:a D σ H):tIfS (tTest (tOp rEq (tOp rIxTH (tVar i) (tC (V.int 0))) (tC (V.str z)))) a b D σ H:=by
 refine ke (λY N q=>?_) q;unfold tVar;simp_all only[e,hw];rw[if_pos h];exact q
theorem fF {a b:TS} {D:Ends} {σ:L2.St} {H:Hp} {i:Nat} {ph:Addr} {k:Str} {r:List V} {z:Str} (e:σ[i]?=some (some (.ref ph))) (hw:H ph=some (.tup (.str k::r))) (h:k≠z) (q:b D σ H):tIfS (tTest (tOp rEq (tOp rIxTH (tVar i) (tC (V.int 0))) (tC (V.str z)))) a b D σ H:=by
 refine iq (λY N q=>?_) q;unfold tVar;simp_all only[e,hw];rw[if_neg h];exact q
theorem bo {a b:TS} {D:Ends} {σ:L2.St} {H:Hp} {i:Nat} {ph:Addr} {k:Str} {r:List V} {z:Str} (e:σ[i]?=some (some (.ref ph))) (hw:H ph=some (.tup (.str k::r))) (h:k≠z) (q:b D σ H):tSeq (tIfS (tTest (tOp rEq (tOp rIxTH (tVar i) (tC (V.int 0))) (tC (V.str z)))) a tNext) b D σ H:=fF e hw h q
theorem eQ {te:TE} {b c:TS} {D:Ends} {σ:L2.St} {H:Hp} {i:Nat} {ph:Addr} {k:Str} {r:List V} {z:Str} (e:σ[i]?=some (some (.ref ph))) (hw:H ph=some (.tup (.str k::r))) (h:k=z) (q:te σ H D.rt):tSeq (tIfS (tTest (tOp rEq (tOp rIxTH (tVar i) (tC (V.int 0))) (tC (V.str z)))) (tRet te) c) b D σ H:=pX e hw h q
noncomputable def dm (P:Program) (w:World) (base:Heap) (K:PySem.W.Frag) (mg:Str->Option Value) (ax aA aJ aB au aD av aL:Addr):Prop:=Txt K mg w.params ax aA aJ aB au aD av aL
section
variable {P : Program} {w : World} {K : PySem.W.Frag} {mg : Str -> Option Value} {base : Heap}
variable {ax aA aJ aB au aD av aL : Addr}
theorem fX:aS ["one","other","rest"] ["one","other"] (ai (top 10)):=.mk
theorem LZ (T:dm P w base K mg ax aA aJ aB au aD av aL):da P w K mg base (cL P w) 1 "common_divisor" ["one","other"] Ln:=by
 refine T.mM.dj (λ_ _ _ _ _ _=>fB λ_ _=>rfl) λf fd F=>F.dA fX (λvs H Q E h=>?_) (λcf A outer s H vs Q E hr h=>?_)
 ·obtain⟨_,_,rfl,_⟩:=EG h;rfl
 ·symm;obtain⟨a,b,rfl,k⟩:=EG h;nofun;clear G_;have nd:=fX.nd;refine⟨_,(ag (aH (i:=0) (aF uP (by rfl) T.z_abs rfl (aa (pv 0) ae)))
  (ag (aH (i:=1) (aF uP (by rfl) T.z_abs rfl (aa (pv 1) ae)))
  (ag (uL PassesOwn.never (aM ik (pv 1) af (aK _)) (ag (aH (i:=2) (aw bu (pv 0) (pv 1)))
  (ag (aH (i:=0) (pv 1))
  (ak (aH (i:=1) (pv 2))))))
  (ak (aO (pv 0)))))),?_⟩
  refine(?_:let bP:TS:=_;let bQ:TS:=_;let bR:TS:=_;let cm:TS:=_;tSeq bP (tSeq bQ (tSeq bR cm)) _ _ _);intro bP bQ bR cm;simp_all only[];refine A3 (λσ H1=>H1=H/\∃(x y:Int) (z:Option V),σ=[some (.int x),some (.int y),z]/\0<=x/\0<=y/\Nm.g x y=Nm.g a b) (λσ _=>match σ with | [_,some (.int y),_]=>y.toNat | _=>0) ?_ ?_ ?_
  ·refine⟨rfl,_,_,_,rfl,?_,?_,?_⟩
   ·split <;>omega
   ·split <;>omega
   ·rw[show(if a<0 then -a else a)=(a.natAbs:Int) by split <;>omega,show(if b<0 then -b else b)=(b.natAbs:Int) by split <;>omega,Nm.FT,Nm.yg]
  ·intro σ H1 cZ;symm;obtain⟨rfl,x,y,z,rfl,x0,y0,e⟩:=cZ;nofun;simp_all only[];refine dO (λc=>?_) (λc=>?_)
   ·refine⟨by omega,y0,aaX _ (by omega),by rw[Nm.HU x0 (by omega),e],?_⟩;have:=aaY x (show 0<y by omega);have:=aaX x (show y≠0 by omega);omega
   ·have z:y=0:=by omega
    subst z;rw[Nm.HV x0] at e;rw[e];exact k
  ·intro σ H1 Q1 Q2 hq hc
   revert hc
   simp_all only[];intro hc;symm;obtain⟨v,e1,e2,q⟩:=hc;nofun;exact⟨v,e1,e2,hq _ _ q⟩
theorem vY:aS ["top","bottom","divisor"] ["top","bottom"] (ai (top 11)):=.mk
theorem GB (T:dm P w base K mg ax aA aJ aB au aD av aL):da P w K mg base (cL P w) 2 "share" ["top","bottom"] (ID ax):=by
 have m8:=LZ T;refine T.EL.dj (λ_ _ _ _ _ _=>fB λ_ _=>rfl) λf fd F=>F.NT vY (λvs H Q E h=>?_) (λcf A outer s H vs Q E hr h=>?_)
 ·obtain⟨_,_,rfl,_⟩:=EG h;rfl
 ·symm;obtain⟨a,b,rfl,bt,kE,kQ⟩:=EG h;nofun;have nd:=vY.nd;have DH:A.handled=none:=hr.hd;refine⟨_,(ag (bp (aM bF (pv 1) af (aK _)) (ak (fu rfl T.k_NoShare T.x_NoShare DH (aa ao ae) (he:=se rfl) (hpl:=na rfl)))
   aT)
  (ag (aH (i:=2) (ar m8 (aa (pv 0) (aa (pv 1) ae))))
  (ag (bp (aM qW (pv 1) af (aK _)) (ak (aH (i:=2) (d8 dh (pv 2))))
   aT)
  (ak (aO (aY (aa (aw u2 (pv 0) (pv 2)) (aa (aw u2 (pv 1) (pv 2)) ae)))))))),?_⟩
  refine(?_:let bP:TS:=_;let bQ:TS:=_;let bR:TS:=_;let cm:TS:=_;tSeq bP (tSeq bQ (tSeq bR cm)) _ _ _);intro bP bQ bR cm;simp_all only[Ln,tRaise];refine dO (λz=>?_) (λz=>?_)
  ·exact⟨by decide,kE z⟩
  ·have g0:0<Nm.g a b:=Nm.Bp z;have gb:Bt 5000 (Nm.g a b):=bt.le (by have:=Nm.Br (a:=a) z;omega);have kq:=kQ z;unfold Nm.st Nm.sb at kq;refine dO (λc=>?_) (λc=>?_)
   ·rw[if_pos c,if_pos c] at kq;rw[Nm.Bx g0 (Nm.sI a b),Nm.Bx g0 (Nm.g7 a b)];exact⟨o3.of (by omega) gb.neg,o3.of (by omega) gb.neg,by decide,λp H2 s1 n1 e=>kq p H2 s1 n1 e⟩
   ·rw[if_neg c,if_neg c] at kq;rw[Nm.Bw g0,Nm.Bw g0];exact⟨o3.of (by omega) gb,o3.of (by omega) gb,by decide,λp H2 s1 n1 e=>kq p H2 s1 n1 e⟩
theorem eW:aS ["weights","bottom"] ["weights","bottom"] (ai (top 17)):=.mk
theorem L0 (T:dm P w base K mg ax aA aJ aB au aD av aL):da P w K mg base (cL P w) 3 "table_by_weights" ["weights","bottom"] IE:=by
 have ui:=GB T;refine T.j9.dj (λ_ _ _ _ _ _=>fB λ_ _=>rfl) λf fd F=>F.dA eW (λvs H Q E h=>?_) (λcf A outer s H vs Q E hr h=>?_)
 ·obtain⟨_,_,rfl,_⟩:=Ar h;rfl
 ·symm;obtain⟨d,B,rfl,ws,hd,ndk,hz,B0,bB,k⟩:=Ar h;nofun;have nd:=eW.nd;refine⟨_,(ak (aO (cw rfl (N:=["weights","bottom"]) (so:=ai (top 17)) (N':=["value","weights","bottom"]) (k:=1) (fr:=[0,1]) rfl rfl ⟨rfl,by ac_rfl,by ac_rfl,by ac_rfl,rfl,by ac_rfl,by ac_rfl⟩ (bw (K:=K) (aF pb (by rfl) T.z_sorted rfl (aa (pv 0) ae))) (λ_ _ _ _ _=>(aU (i:=0) (show(["value","weights","bottom"]:List Str).Nodup by ac_rfl) rfl (Or.inl rfl))) (λ_ _ _ _ _=>b6)
   (λ_ _ _ _ _=>(aY (aa (pv 0) (aa (ar ui (aa (D5 (Bk hr) (pv 1) (pv 0) (λ_ _=>rfl)) (aa (pv 2) ae))) ae))))))),?_⟩
  simp_all only[];refine⟨enc ws,.inl hd,BD ws,by rw[sO];exact hz,λl nl=>⟨⟨_,bG.of aj⟩,?_⟩⟩;rw[Af];have sm:aq H (upd H l (.lst (List.map V.int (Nm.o7 (Nm.keys ws))))):=ah nl;have ll:(List.map V.int (Nm.o7 (Nm.keys ws))).length=ws.length:=by rw[aaA,Nm.hJ];unfold Nm.keys;rw[aaA]
  refine comp_map (src_list (λH2 s2=>s2.seq (bG.of aj))) (λ_ _ _ _ h=>by rw[h.1];exact aq.refl _) (by rw[ll,sizeLine_eq];omega) (λi y H2=>∀r,(Nm.rowsOf ws B)[i]?=some r->Rep H2 (Eu r) y) (λi y H2 H3 s3 h r e=>(h r e).mono s3) ?_ ?_
  ·rintro i x w0 H2 H3 Q2 hi s2 ⟨rfl,hx⟩ kq;rw[aaG] at hx;symm;obtain⟨v,ev,rfl⟩:=Option.map_eq_some_iff.mp hx;nofun;have hv:v∈Nm.keys ws:=Nm.Eo.mp (aaO ev);have hd2:=s2 _ _ (sm _ _ hd);simp_all only[ID];refine⟨_,BE hd2 hv,_,rfl,bB,λz=>absurd z B0,λ_ p H4 s4 _ e4=>⟨by decide,λp5 H5 s5 _ e5=>?_⟩⟩;refine kq _ _ (s4.trans s5) λr er=>?_;have:r=(v,Nm.st (Nm.look ws v) B,Nm.sb (Nm.look ws v) B):=by
    unfold Nm.rowsOf at er;rw[aaG,ev] at er;exact(aa9 er).symm
   subst this;exact yy.mpr ⟨p5,p,rfl,e5,s5 _ _ e4⟩
  ·intro ys H2 s2 ly hy D n1 n2;refine k _ _ (sm.trans (s2.trans (ah n2))) (none_of sm n1) (bU.mpr ⟨D,ys,rfl,aj,?_⟩);refine bj.of ?_ λi dd v e1 e2=>?_
   ·rw[aaA,ly];unfold Nm.rowsOf;rw[aaA,aaA]
   ·rw[aaG] at e1;symm;obtain⟨r,er,rfl⟩:=Option.map_eq_some_iff.mp e1;nofun;exact(hy i v e2 r er).mono (ah n2)
theorem nK:aS ["rows","weights","value","weight"] ["rows"] (ai (top 18)):=.mk
theorem L1 (T:dm P w base K mg ax aA aJ aB au aD av aL):da P w K mg base (cL P w) 4 "table_of" ["rows"] (Lp aA):=by
 have kf:=L0 T;refine T.xu.dj (λ_ _ _ _ _ _=>du λ_=>rfl) λf fd F=>F.NT nK (λvs H Q E h=>?_) (λcf A outer s H vs Q E hr h=>?_)
 ·obtain⟨_,rfl,_⟩:=F2 h;rfl
 ·symm;obtain⟨v,rfl,ps,rp,hz,hb,hw,kE,kQ⟩:=F2 h;nofun;have nd:=nK.nd;have DH:A.handled=none:=hr.hd;refine⟨_,(ag (aH (i:=1) Bi)
  (ag (cH PassesOwn.leaving rfl (bw (K:=K) (pv 0)) (dU (K:=K) (n:=2) rfl (bJ (aU (i:=2) nd rfl (Or.inl rfl)) (bJ (aU (i:=3) nd rfl (Or.inl rfl)) dR))) (ag (bp (aM qW (pv 3) af (aK _)) (ak (fu rfl T.k_NoTable T.x_NoTable DH (aa ao ae) (he:=se rfl) (hpl:=na rfl)))
   aT)
  (ak (bp (aM eI (pv 3) af (aK _)) (ak (D6 (Bk hr) (pv 1) (pv 2) (aw bC (Bj (Bk hr) (pv 1) (pv 2) af (by first | exact⟨rfl,rfl,rfl⟩ | constructor <;>rfl)) (pv 3)) rfl))
   aT))))
  (ag (bp (aM bF (aF zY (by rfl) T.z_len aaF (aa (pv 1) ae)) af (aK _)) (ak (fu rfl T.k_NoTable T.x_NoTable DH (aa ao ae) (he:=se rfl) (hpl:=na rfl)))
   aT)
  (ak (aO (ar kf (aa (pv 1) (aa (xj rfl (by rfl) T.z_sum (pv 1) (he:=se rfl)) ae)))))))),?_⟩
  refine(?_:let bP:TS:=_;let bQ:TS:=_;let bR:TS:=_;let cm:TS:=_;tSeq bP (tSeq bQ (tSeq bR cm)) _ _ _);intro bP bQ bR cm;simp_all only[IE,tRaise];intro d Kg;symm;obtain⟨a,xs,rfl,ha,rl⟩:=bU.mp rp;nofun;have n1:=rl.length;rw[aaA] at n1;have q1:∀o,bG K (upd H d o) a xs:=λo=>bG.of (ah Kg _ _ ha);refine⟨_,rfl,⟨_,q1 _⟩,b9 (src_list (Ok:=λH'=>∃o,H'=upd H d o) (λH' ⟨o,e⟩=>by rw[e];exact q1 o))
   (λi σ H'=>H'=upd H d (.dK (enc (Nm.j3 (ps.take i))))/\(∀p∈ps.take i,0<=p.2)/\∃z1 z2,σ=[some (.ref a),some (.ref d),z1,z2])
   ⟨by rw[List.take_zero];rfl,by simp,_,_,rfl⟩ (λ_ _ _ _ h=>⟨_,h.1⟩) ?_ ?_⟩
  ·intro i x σ H' jB hi fG eL;symm;obtain⟨rfl,nn,z1,z2,rfl⟩:=fG;obtain⟨rfl,hx⟩:=eL;obtain⟨dd,ed,rd⟩:=rl.get hx;rw[aaG] at ed;obtain⟨p,ep,rfl⟩:=Option.map_eq_some_iff.mp ed;obtain⟨q,rfl,hq⟩:=u9.mp rd;nofun;have tk:ps.take (i+1)=ps.take i++ [p]:=by rw[aa4,ep];rfl
   refine⟨q,_,rfl,fM.of (ah Kg _ _ hq),rfl,?_⟩;simp_all only[tRaise];rw[tk,Nm.BK];refine dO (λc=>?_) (λc=>?_)
   ·exact⟨by decide,kE (.inl ⟨p,aaO ep,c⟩) _ (ah Kg)⟩
   ·have nn':∀r∈ps.take i++ [p],0<=r.2:=λr hr=>by
     rcases List.mem_append.mp hr with h | h
     ·exact nn r h
     ·have:r=p:=by simpa using h
      subst this;omega
    refine dO (λc2=>?_) (λc2=>?_)
    ·symm;obtain⟨o,ho,eo⟩:=Ag (H:=upd H d (.dK (enc (Nm.j3 (ps.take i))))) p.1 (.inl aj);nofun;refine⟨.inl ⟨_,.inl aj⟩,o,ho,?_⟩;rw[eo];simp_all only[];refine⟨_,BG _ _ aj (Nm.mG _) ?_,?_,nn',?_⟩
     ·have:=Nm.yz (ps.take i);rw[abc] at this;rw[sizeLine_eq];omega
     ·rw[DL,if_pos c2];rfl
     ·exact⟨_,rfl⟩
    ·refine⟨by rw[if_neg c2],nn',?_⟩;exact⟨_,rfl⟩
  ·intro σ H' cZ;symm;obtain⟨rfl,nn,z1,z2,rfl⟩:=cZ;nofun;rw[aaT (by omega)] at nn ⊢;simp_all only[tRaise,IE];have el:(enc (Nm.j3 ps)).length=(Nm.j3 ps).length:=sO _;refine⟨_,aj,dO (λz=>⟨by decide,kE (.inr ?_) _ (ah Kg)⟩) (λz=>?_)⟩
   ·exact Nm.yA.mp (List.eq_nil_of_length_eq_zero (by omega))
   ·have np:Nm.pos ps≠[]:=λe=>by
     have:=Nm.yA.mpr e;exact z (by rw[el,this];rfl)
    have nb:¬Nm.bad ps:=λb=>by
     rcases b with ⟨p,hp,c⟩ | c
     ·have:=nn p hp;omega
     ·exact np c
    have T0:=Nm.Er (show 0< (Nm.j3 ps).length by omega) (Nm.mG ps) (Nm.Ey ps);have T1:=Nm.pq (c:=10^12) (by decide) hb;rw[<-Nm.Ez] at T1;have lw:=Nm.yz ps;have ev:List.map (λx:Key×V=>x.2) (enc (Nm.j3 ps))=List.map V.int ((Nm.j3 ps).map (·.2)):=by
     unfold enc;rw[abb,abb];rfl
    refine⟨_,aj,_,ev,_,aj,Nm.mG ps,by omega,?_,?_,λp H' s' PQ r'=>?_⟩
    ·show Nm.pe (Nm.j3 ps)≠0;omega
    ·show Bt 5000 (Nm.pe (Nm.j3 ps));exact Bt.of (10^16) (by omega) (by omega)
    ·exact kQ nb p H' ((ah Kg).trans s') (none_of (ah Kg) PQ) r'
theorem vZ:aS ["base","exponent","product","turn"] ["base","exponent"] (ai (top 22)):=.mk
theorem L3 (T:dm P w base K mg ax aA aJ aB au aD av aL):da P w K mg base (cL P w) 1 "power" ["base","exponent"] Ls:=by
 refine T.EM.dj (λ_ _ _ _ _ _=>fB λ_ _=>rfl) λf fd F=>F.dA vZ (λvs H Q E h=>?_) (λcf A outer s H vs Q E hr h=>?_)
 ·obtain⟨_,_,rfl,_⟩:=h;rfl
 ·symm;obtain⟨b,e,rfl,be,e10,hb,kk⟩:=h;nofun;have nd:=vZ.nd;refine⟨_,(ag (aH (i:=2) af)
  (ag (cH PassesOwn.never rfl (dn rfl T.z_range (aa (pv 1) ae)) (aU (i:=3) nd rfl (Or.inl rfl)) (ag (bp (aM eI (pv 2) (b7 rfl T.c_MOST_BOTTOM_pools) (aK _)) (ak A1)
   aT)
  (ak (aH (i:=2) (aw cO (pv 2) (pv 0))))))
  (ak (aO (pv 2))))),?_⟩
  refine(?_:let bP:TS:=_;let bQ:TS:=_;let bR:TS:=_;tSeq bP (tSeq bQ bR) _ _ _);intro bP bQ bR;have sl:=sizeLine_eq;simp_all only[];refine⟨by omega,by omega,b9 (src_range (Ok:=λ_=>True)) (λi σ H'=>H=H'/\∃z,σ=[some (.int (b:Int)),some (.int (e:Int)),some (.int ((b^i:Nat):Int)),z]) ⟨rfl,_,rfl⟩ (λ_ _ _ _ _=>trivial) ?_ ?_⟩
  ·intro i x σ H' jB hi fG eL;symm;obtain⟨rfl,z,rfl⟩:=fG;obtain⟨rfl,rfl⟩:=eL;nofun;have b1:1<=b:=by omega
   have le:b^i<=b^e:=abx b1 (by omega);simp_all only[];rw[if_neg (by omega)];refine⟨eO (by omega) (by omega),?_,_,rfl⟩;rw[Nat.pow_succ,Int.natCast_mul]
  ·intro σ H' cZ;symm;obtain⟨rfl,z,rfl⟩:=cZ;nofun
   try rw[abq]
   simp_all only[];exact kk
theorem jC:aS ["part"] ["part"] (ai (top 23)):=.mk
theorem C6 (T:dm P w base K mg ax aA aJ aB au aD av aL):da P w K mg base (cL P w) 1 "most_faces" ["part"] EW:=by
 refine T.sZ.dj (λ_ _ _ _ _ _=>du λ_=>rfl) λf fd F=>F.dA jC (λvs H Q E h=>?_) (λcf A outer s H vs Q E hr h=>?_)
 ·obtain⟨_,rfl,_⟩:=jy h;rfl
 ·symm;obtain⟨q,rfl,p,hq,kk⟩:=jy h;nofun;have nd:=jC.nd;refine⟨_,(ag (bp (aM bF (aE aN (pv 0) af) ao (aK _)) (ak (aO af))
   aT)
  (ag (bp (aM bF (aE aN (pv 0) af) ao (aK _)) (ak (aO (dQ (aM eI (aE aN (pv 0) af) af (aK _)) af af)))
   aT)
  (ag (bp (aM bF (aE aN (pv 0) af) ao (aK _)) (ak (aO (aw bC (aF (qX rfl) (by rfl) T.z_max rfl (aa (aE aN (pv 0) af) (aa af ae))) af)))
   aT)
  (ak (aO (aE aN (pv 0) (d8 dh af))))))),?_⟩
  refine(?_:let bP:TS:=_;let bQ:TS:=_;let bR:TS:=_;let cm:TS:=_;tSeq bP (tSeq bQ (tSeq bR cm)) _ _ _);intro bP bQ bR cm;cases p with
  | num n=>
   simp only[gX] at hq;refine eQ rfl hq rfl ?_;simp_all only[hq];exact kk
  | cB m s=>
   simp only[gX] at hq;refine bo rfl hq (by ac_rfl) (bo rfl hq (by ac_rfl) (bo rfl hq (by ac_rfl) ?_));simp_all only[hq];exact⟨_,rfl,kk⟩
  | best n m s=>
   simp only[gX] at hq;refine bo rfl hq (by ac_rfl) (bo rfl hq (by ac_rfl) (bo rfl hq (by ac_rfl) ?_));simp_all only[hq];exact⟨_,rfl,kk⟩
  | eU n m s=>
   simp only[gX] at hq;refine bo rfl hq (by ac_rfl) (bo rfl hq (by ac_rfl) (bo rfl hq (by ac_rfl) ?_));simp_all only[hq];exact⟨_,rfl,kk⟩
  | hits n m s=>
   simp only[gX] at hq;refine bo rfl hq (by ac_rfl) (bo rfl hq (by ac_rfl) (bo rfl hq (by ac_rfl) ?_));simp_all only[hq];exact⟨_,rfl,kk⟩
  | again n s=>
   simp only[gX] at hq;refine bo rfl hq (by ac_rfl) (eQ rfl hq rfl ?_);simp_all only[hq];have e:DD (.again n s)=if 0<n then 2 else 1:=rfl
   rw[e] at kk
   by_cases c:0<n
   ·rw[if_pos (by omega)];rw[if_pos c] at kk;exact kk
   ·rw[if_neg (by omega)];rw[if_neg c] at kk;exact kk
  | dY n s=>
   simp only[gX] at hq;refine bo rfl hq (by ac_rfl) (bo rfl hq (by ac_rfl) (eQ rfl hq rfl ?_));simp_all only[hq];rw[show(if (0:Int) >(n:Int) then (0:Int) else (n:Int))=(n:Int) from if_neg (by omega)];exact kk
theorem iU:aS ["part"] ["part"] (ai (top 24)):=.mk
theorem C7 (T:dm P w base K mg ax aA aJ aB au aD av aL):da P w K mg base (cL P w) 2 "part_bottom" ["part"] vL:=by
 have Fl:=L3 T;have d5:=C6 T;refine T.qx.dj (λ_ _ _ _ _ _=>du λ_=>rfl) λf fd F=>F.dA iU (λvs H Q E h=>?_) (λcf A outer s H vs Q E hr h=>?_)
 ·obtain⟨_,rfl,_⟩:=jy h;rfl
 ·symm;obtain⟨q,rfl,p,hq,g,hb,kk⟩:=jy h;nofun;have nd:=iU.nd;refine⟨_,(ak (aO (ar Fl (aa (aE aN (pv 0) (d8 dh af)) (aa (ar d5 (aa (pv 0) ae)) ae))))),?_⟩;simp_all only[Ls,EW];refine⟨_,hq,_,B9 p,p,hq,lst p,rfl,DD p,rfl,?_,?_,?_,?_⟩
  ·cases p with
   | num n=>exact .inr rfl
   | _=>exact .inl g.1
  ·have:=pI g;omega
  ·have:lst p^DD p=bot p:=by cases p <;>rfl
   rw[this];exact hb
  ·have:lst p^DD p=bot p:=by cases p <;>rfl
   rw[this];exact kk
theorem jD:aS ["part","sides","low"] ["part"] (ai (top 25)):=.mk
theorem Fm {a b:TS} {D:Ends} {σ:L2.St} {H:Hp} {i:Nat} {ph:Addr} {k:Str} {r:List V} {z:Str} (e:σ[i]?=some (some (.ref ph))) (hw:H ph=some (.tup (.str k::r))) (h:k=z) (q:a {D with nx:=λσ' H'=>b D σ' H'} σ H):tSeq (tIfS (tTest (tOp rEq (tOp rIxTH (tVar i) (tC (V.int 0))) (tC (V.str z)))) a tNext) b D σ H:=pX e hw h q
theorem L4 (T:dm P w base K mg ax aA aJ aB au aD av aL):da P w K mg base (cL P w) 3 "part_count" ["part"] Lu:=by
 have d5:=C6 T;have dC:=C7 T;refine T.tq.dj (λ_ _ _ _ _ _=>du λ_=>rfl) λf fd F=>F.dA jD (λvs H Q E h=>?_) (λcf A outer s H vs Q E hr h=>?_)
 ·obtain⟨_,rfl,_⟩:=jy h;rfl
 ·symm;obtain⟨q,rfl,p,hq,g,hb,kk⟩:=jy h;nofun;have nd:=jD.nd;refine⟨_,(ag (aH (i:=1) (aE aN (pv 0) (d8 dh af)))
  (ag (bp (aM bF (aE aN (pv 0) af) ao (aK _)) (ag (aH (i:=2) (aF (qX rfl) (by rfl) T.z_max rfl (aa (aF (zK rfl) (by rfl) T.z_min rfl (aa (aE aN (pv 0) af) (aa (pv 1) ae))) (aa af ae))))
  (ak (aO (aw iF (aw bC (aw cO (pv 2) (pv 1)) (pv 1)) (pv 2)))))
   aT)
  (ag (bp (aM bF (aE aN (pv 0) af) ao (aK _)) (ak (aO (aw bC (aw cO (ar d5 (aa (pv 0) ae)) (aw iF (pv 1) af)) af)))
   aT)
  (ak (aO (ar dC (aa (pv 0) ae))))))),?_⟩
  refine(?_:let bP:TS:=_;let bQ:TS:=_;let bR:TS:=_;let cm:TS:=_;tSeq bP (tSeq bQ (tSeq bR cm)) _ _ _);intro bP bQ bR cm;cases p with
  | num n=>
   simp only[gX] at hq;refine aP (λN=>∀v,N [some (.ref q),some v,none] H) (λN hN=>?_) ?_
   ·simp_all only[hq];exact⟨_,rfl,hN _⟩
   intro v;refine bo rfl hq (by ac_rfl) (bo rfl hq (by ac_rfl) ?_);simp_all only[vL];exact⟨.num n,hq,g,hb,kk⟩
  | cB m s=>
   simp only[gX] at hq;refine aP (λN=>∀v,N [some (.ref q),some v,none] H) (λN hN=>?_) ?_
   ·simp_all only[hq];exact⟨_,rfl,hN _⟩
   intro v;refine bo rfl hq (by ac_rfl) (bo rfl hq (by ac_rfl) ?_);simp_all only[vL];exact⟨.cB m s,hq,g,hb,kk⟩
  | best n m s=>
   simp only[gX] at hq;refine aP (λN=>∀v,N [some (.ref q),some v,none] H) (λN hN=>?_) ?_
   ·simp_all only[hq];exact⟨_,rfl,hN _⟩
   intro v;refine bo rfl hq (by ac_rfl) (bo rfl hq (by ac_rfl) ?_);simp_all only[vL];exact⟨.best n m s,hq,g,hb,kk⟩
  | eU n m s=>
   simp only[gX] at hq;refine aP (λN=>∀v,N [some (.ref q),some v,none] H) (λN hN=>?_) ?_
   ·simp_all only[hq];exact⟨_,rfl,hN _⟩
   intro v;refine bo rfl hq (by ac_rfl) (bo rfl hq (by ac_rfl) ?_);simp_all only[vL];exact⟨.eU n m s,hq,g,hb,kk⟩
  | hits n m s=>
   simp only[gX] at hq;refine aP (λN=>∀v,N [some (.ref q),some v,none] H) (λN hN=>?_) ?_
   ·simp_all only[hq];exact⟨_,rfl,hN _⟩
   intro v;refine bo rfl hq (by ac_rfl) (bo rfl hq (by ac_rfl) ?_);simp_all only[vL];exact⟨.hits n m s,hq,g,hb,kk⟩
  | again n s=>
   simp only[gX] at hq;have e:(if (0:Int) >(if (s:Int)< (n:Int) then (s:Int) else (n:Int)) then (0:Int) else (if (s:Int)< (n:Int) then (s:Int) else (n:Int)))=((min n s:Nat):Int):=by
    by_cases c:(s:Int)< (n:Int)
    ·rw[if_pos c,if_neg (by omega),Nat.min_eq_right (by omega)]
    ·rw[if_neg c,if_neg (by omega),abk (by omega)]
   have tW:=g.2.1;refine aP (λN=>N [some (.ref q),some (.int s),none] H) (λN hN=>?_) ?_
   ·simp_all only[hq];exact⟨_,rfl,hN⟩
   refine Fm rfl hq rfl ?_;refine aP (λN=>N [some (.ref q),some (.int s),some (.int ((min n s:Nat):Int))] H) (λN hN=>?_) ?_
   ·simp_all only[hq];rw[e];exact hN
   simp_all only[];refine⟨jW (by omega) (by omega),?_⟩;have e2:((min n s:Nat):Int)* (s:Int)+ (s:Int) - ((min n s:Nat):Int)=((min n s*s+ (s - min n s):Nat):Int):=by
    rw[Int.natCast_add,Int.natCast_mul,Int.natCast_sub (Nat.min_le_right n s)];omega
   rw[e2];exact kk
  | dY n s=>
   simp only[gX] at hq;refine aP (λN=>N [some (.ref q),some (.int s),none] H) (λN hN=>?_) ?_
   ·simp_all only[hq];exact⟨_,rfl,hN⟩
   refine bo rfl hq (by ac_rfl) (eQ rfl hq rfl ?_);simp_all only[EW];refine⟨.dY n s,hq,jW (by have:=g.2.1;omega) (by have:=g.2.1;omega),?_⟩;have e2:((DD (.dY n s):Nat):Int)* ((s:Int) - 1)+1=(((n+1)* (s - 1)+1:Nat):Int):=by
    rw[Int.natCast_add,Int.natCast_mul,Int.natCast_sub g.1];rfl
   rw[e2];exact kk
theorem jE:aS ["pool","count","bottom","part"] ["pool"] (ai (top 26)):=.mk
theorem L5 (T:dm P w base K mg ax aA aJ aB au aD av aL):da P w K mg base (cL P w) 4 "check_size" ["pool"] Lv:=by
 have uj:=L4 T;have dC:=C7 T;refine T.tu.dj (λ_ _ _ _ _ _=>du λ_=>rfl) λf fd F=>F.NT jE (λvs H Q E h=>?_) (λcf A outer s H vs Q E hr h=>?_)
 ·obtain⟨_,rfl,_⟩:=jy h;rfl
 ·symm;obtain⟨l,rfl,ps,hp,g,kk⟩:=jy h;nofun;have nd:=jE.nd;have DH:A.handled=none:=hr.hd;refine⟨_,(ag (aH (i:=1) af)
  (ag (aH (i:=2) af)
  (ag (cH PassesOwn.leaving rfl (bw (K:=K) (pv 0)) (aU (i:=3) nd rfl (Or.inl rfl)) (ag (aH (i:=1) (aw cO (pv 1) (ar uj (aa (pv 3) ae))))
  (ak (aH (i:=2) (aw cO (pv 2) (ar dC (aa (pv 3) ae)))))))
  (ak (bp (PW.pt (pw_or (aM eI (pv 1) (b7 rfl T.c_MOST_THROWS) (aK _)) (pw_or1 (aM eI (pv 2) (b7 rfl T.c_MOST_BOTTOM_pools) (aK _))))) (ak (fu rfl T.k_TooMany T.x_TooMany DH (aa ao ae) (he:=se rfl) (hpl:=na rfl)))
   aT))))),?_⟩
  refine(?_:let bP:TS:=_;let bQ:TS:=_;let bR:TS:=_;let cm:TS:=_;tSeq bP (tSeq bQ (tSeq bR cm)) _ _ _);intro bP bQ bR cm;symm;obtain⟨xs,hl,al⟩:=hp;nofun;have lx:=al.length;simp_all only[];refine⟨⟨_,bG.of hl⟩,b9 (src_list (Ok:=λH'=>H=H') (λH' e=>by subst e;exact bG.of hl)) (λi σ H'=>H=H'/\∃z,σ=[some (.ref l),some (.int ((jz ((ps.take i).map cnt):Nat):Int)),some (.int ((jz ((ps.take i).map bot):Nat):Int)),z]) ⟨rfl,_,rfl⟩ (λ_ _ _ _ h=>h.1) ?_ ?_⟩
  ·intro i x σ H' jB hi fG eL;symm;obtain⟨rfl,z,rfl⟩:=fG;obtain⟨rfl,ex⟩:=eL;obtain⟨p,ep,q,rfl,hq⟩:=al.get ex;nofun;obtain⟨Fn,wq⟩:=List.getElem?_eq_some_iff.mp ep;have hm:p∈ps:=by rw[<-wq];exact List.getElem_mem Fn
   symm;obtain⟨gp,c1,b1⟩:=mV g hm;nofun;have c0:=mT g i;have b0:=mU g i;simp_all only[Lu,vL];refine⟨p,hq,gp,b1,eO (by omega) (by omega),p,hq,gp,b1,eO (by omega) (by omega),?_,?_,_,rfl⟩
   ·rw[take_snoc Fn,wq,aaM,aaI,aa3,gM,Int.natCast_mul]
   ·rw[take_snoc Fn,wq,aaM,aaI,aa3,gM,Int.natCast_mul]
  ·intro σ H' cZ;symm;obtain⟨rfl,z,rfl⟩:=cZ;nofun;rw[lx,aaT (aaC _)];have c0:=g.2.1;have b0:=g.2.2;simp_all only[];rw[if_neg (by omega),if_neg (by omega)];exact kk
theorem jF:aS ["dice","sides","found","turn","longer","faces"] ["dice","sides"] (ai (top 27)):=.mk
theorem L6 (T:dm P w base K mg ax aA aJ aB au aD av aL):da P w K mg base (cL P w) 1 "dice_faces" ["dice","sides"] Ca:=by
 refine T.tw.dj (λ_ _ _ _ _ _=>fB λ_ _=>rfl) λf fd F=>F.dA jF (λvs H Q E h=>?_) (λcf A outer s H vs Q E hr h=>?_)
 ·obtain⟨_,_,rfl,_⟩:=h;rfl
 ·symm;obtain⟨d,s',rfl,s1,tW,d6,hd,kk⟩:=h;nofun;have nd:=jF.nd;refine⟨_,(ag (aH (i:=2) (bx (aa (bx ae) ae)))
  (ag (cH PassesOwn.never rfl (dn rfl T.z_range (aa (pv 0) ae)) (aU (i:=3) nd rfl (Or.inl rfl)) (ag (aH (i:=4) (bx ae))
  (ag (cH PassesOwn.never rfl (bw (K:=K) (pv 2)) (aU (i:=5) nd rfl (Or.inr rfl)) (ak (aX (cu aaV PySem.F.slot_list_extend PySem.F.type_list_extend jf.r (pv 4) (aa (cw rfl (N:=["dice","sides","found","turn","longer","faces"]) (so:=ai (top 27)) (N':=["face","faces"]) (k:=1) (fr:=[5]) rfl rfl ⟨rfl,by ac_rfl,by ac_rfl,by ac_rfl,rfl,by ac_rfl,by ac_rfl⟩ (jd rfl T.z_range (aa af (aa (aw bC (pv 1) af) ae))) (λ_ _ _ _ _=>(aU (i:=0) (show(["face","faces"]:List Str).Nodup by ac_rfl) rfl (Or.inl rfl))) (λ_ _ _ _ _=>b6)
   (λ_ _ _ _ _=>(aw ft (pv 1) (bx (aa (pv 0) ae))))) ae)))))
  (ak (aH (i:=2) (pv 4))))))
  (ak (aO (pv 2))))),?_⟩
  refine(?_:let bP:TS:=_;let bQ:TS:=_;let bR:TS:=_;tSeq bP (tSeq bQ bR) _ _ _);intro bP bQ bR;have sl:=sizeLine_eq;simp_all only[];refine⟨aaP _,λe0 m0=>⟨by decide,λl0 n0=>⟨by omega,by omega,?_⟩⟩⟩;have s0:aq H (upd (upd H e0 (.lst [])) l0 (.lst [.ref e0])):=(ah m0).trans (ah n0);refine b9 (src_range (Ok:=λ_=>True)) (λi σ H'=>aq H H'/\∃l xs z z' N6,H' l=some (.lst xs)/\Al (Fa H') (AN s' i) xs/\σ=[some (.int (d:Int)),some (.int (s':Int)),some (.ref l),z,z',N6]) ?_ (λ_ _ _ _ _=>trivial) ?_ ?_
  ·exact⟨s0,l0,_,_,_,_,aj,.one ⟨e0,rfl,ah n0 _ _ aj⟩,rfl⟩
  ·intro i x σ H' jB hi fG eL;symm;obtain⟨sm,l,xs,z,z',N6,hl,al,rfl⟩:=fG;obtain⟨rfl,rfl⟩:=eL;nofun;have lx:=al.length;rw[hZ] at lx;have hle:s'^ (i+1)<=1296:=aaR (abx s1 (by omega)) hd;have aay:s'^i<=1296:=aaR (abx s1 (by omega)) hd;change tSeq _ _ _ _ _;refine br (λσ' H1=>aq jB H1/\∃m,jB m=none/\H1 m=some (.lst [])/\σ'=[some (.int (d:Int)),some (.int (s':Int)),some (.ref l),some (.int (0+i)),some (.ref m),N6]) (λN hN=>?_) ?_
   ·simp_all only[];exact⟨aaP _,λm nm=>hN _ _ ⟨ah nm,m,nm,aj,rfl⟩⟩
   intro _ H1 cZ;symm;obtain⟨ko,m,nm,hm,rfl⟩:=cZ;nofun;change tSeq _ _ _ _ _;refine br (λσ' H2=>aq jB H2/\∃ys,H2 m=some (.lst ys)/\Al (Fa H2) (AN s' (i+1)) ys/\∃z,σ'=[some (.int (d:Int)),some (.int (s':Int)),some (.ref l),some (.int (0+i)),some (.ref m),z]) (λN hN=>?_) ?_
   ·simp_all only[];refine⟨⟨_,bG.of (ko _ _ hl)⟩,b9 (src_list (Ok:=aq jB) (λH2 s2=>bG.of (s2 _ _ hl)))
     (λj σ H2=>aq jB H2/\∃ys z,H2 m=some (.lst ys)/\ys.length=j*s'/\Al (Fa (qv H2 m)) (((AN s' i).take j).flatMap λf=>(List.range s').map λi:Nat=>f++ [((i:Nat):Int)+1]) ys/\σ=[some (.int (d:Int)),some (.int (s':Int)),some (.ref l),some (.int (0+i)),some (.ref m),z])
     ⟨ko,[],_,hm,by simp,trivial,rfl⟩ (λ_ _ _ _ h=>h.1) ?_ ?_⟩
    ·intro j x σ H2 H3 hj fG eL;symm;obtain⟨mj,ys,z,wB,ly,ay,rfl⟩:=fG;obtain⟨rfl,ex⟩:=eL;obtain⟨f,ef,q,rfl,hq⟩:=al.get ex;nofun;obtain⟨hjf,ef'⟩:=List.getElem?_eq_some_iff.mp ef;have fl:=(jh s' i f (by rw[<-ef'];exact List.getElem_mem hjf)).1;have Kh:=mj _ _ hq;simp_all only[kF];refine⟨.inl ⟨rfl,_,bG.of wB⟩,by omega,by omega,by omega,by omega,?_⟩;rw[show((s':Int)+1 - 1).toNat=s' by omega];refine comp_map src_range (λ_ _ _ _ h=>by rw[h.1];exact aq.refl _) (by omega) (λk y H4=>Fa (qv H4 m) (f++ [((k:Nat):Int)+1]) y) (λk y H4 H5 s5 h=>h.mono (cS s5)) ?_ ?_
     ·rintro k x w0 H4 H5 Q2 hk s4 ⟨rfl,rfl⟩ kq;simp_all only[oV];refine⟨by decide,λa1 n1=>⟨_,ah n1 _ _ (s4 _ _ Kh),_,aj,by rw[aaA];simp only[aaL,aa5];omega,λa2 n2=>kq _ _ ((ah n1).trans (ah n2)) ⟨a2,rfl,?_⟩⟩⟩;have ne:a2≠m:=λe=>by
       subst e;rw[ah n1 _ _ (s4 _ _ wB)] at n2;cases n2
      rw[j5 ne,aj,aaM,Int.add_comm];rfl
     ·intro zs H4 s4 lz hz D n1 n2;have L7:=s4 _ _ wB;have jm:j*s'<=s'^ (i+1):=by rw[Nat.pow_succ];exact abo _ (by omega)
      have szz:∀{k:Nat},k=j*s'+s'->k<=sizeLine:=λe=>by omega
      refine⟨_,ah n2 _ _ L7,_,aj,szz (by rw[ly,lz]),?_⟩;have s5:aq H3 (upd H4 D (.lst zs)):=s4.trans (ah n2);refine⟨bL (mj.trans s5) nm,_,aj,by rw[aaE,ly,lz,Nat.succ_mul],?_,_,rfl⟩;rw[kU,aa4,ef,List.flatMap_append];refine Al.append (ay.imp λ_ _ h=>h.mono (cS s5)) ?_;simp only[Option.toList,abd,List.flatMap_nil,abg];refine Al.of (by rw[aaA,List.length_range];exact lz) λk y g e1 e2=>?_;rw[aaG] at e2;symm;obtain⟨k',ek,rfl⟩:=Option.map_eq_some_iff.mp e2;nofun;obtain⟨hk1,GF⟩:=List.getElem?_eq_some_iff.mp ek;rw[List.getElem_range] at GF;subst GF;exact(hz _ _ e1).mono (cS (ah n2))
    ·intro σ H2 cZ;symm;obtain⟨mj,ys,z,wB,ly,ay,rfl⟩:=cZ;nofun;refine hN _ _ ⟨mj,ys,wB,?_,_,rfl⟩;rw[lx,<-hZ s' i,aaT (aaC _)] at ay;exact ay.imp λ_ _ h=>h.mono sQ
   intro _ H2 cZ;symm;obtain⟨mj,ys,wB,ay,z,rfl⟩:=cZ;nofun;simp_all only[]
   first | exact⟨sm.trans mj,m,_,wB,ay,rfl,⟨_,rfl⟩,⟨_,rfl⟩,⟨_,rfl⟩⟩ | exact⟨sm.trans mj,m,_,wB,ay,rfl,_,_,rfl⟩ | exact⟨sm.trans mj,m,_,wB,ay,rfl,⟨_,rfl⟩,_,rfl⟩ | exact⟨sm.trans mj,m,_,wB,ay,rfl,_,rfl⟩
  ·intro σ H' cZ;symm;obtain⟨sm,l,xs,z,z',N6,hl,al,rfl⟩:=cZ;nofun;rw[abq] at al;simp_all only[];exact kk _ _ _ sm hl al
theorem iV:aS ["low","sides","found","face"] ["low","sides"] (ai (top 28)):=.mk
theorem L8 (T:dm P w base K mg ax aA aJ aB au aD av aL):da P w K mg base (cL P w) 1 "again_faces" ["low","sides"] Lw:=by
 refine T.qy.dj (λ_ _ _ _ _ _=>fB λ_ _=>rfl) λf fd F=>F.dA iV (λvs H Q E h=>?_) (λcf A outer s H vs Q E hr h=>?_)
 ·obtain⟨_,_,rfl,_⟩:=h;rfl
 ·symm;obtain⟨n,s',rfl,tW,kk⟩:=h;nofun;have nd:=iV.nd;refine⟨_,(ag (aH (i:=2) (bx ae))
  (ag (cH PassesOwn.never rfl (jd rfl T.z_range (aa af (aa (aw bC (pv 1) af) ae))) (aU (i:=3) nd rfl (Or.inr rfl)) (ak (bp (aM dS (pv 3) (pv 0) (aK _)) (ak (aX (cu aaV PySem.F.slot_list_extend PySem.F.type_list_extend jf.r (pv 2) (aa (cw rfl (N:=["low","sides","found","face"]) (so:=ai (top 28)) (N':=["second","face"]) (k:=1) (fr:=[3]) rfl rfl ⟨rfl,by ac_rfl,by ac_rfl,by ac_rfl,rfl,by ac_rfl,by ac_rfl⟩ (jd rfl T.z_range (aa af (aa (aw bC (pv 1) af) ae))) (λ_ _ _ _ _=>(aU (i:=0) (show(["second","face"]:List Str).Nodup by ac_rfl) rfl (Or.inl rfl))) (λ_ _ _ _ _=>b6)
   (λ_ _ _ _ _=>(bx (aa (pv 1) (aa (pv 0) ae))))) ae))))
   (ak (aX (cu aaV aaZ aa0 bY.r (pv 2) (aa (bx (aa (pv 3) ae)) ae)))))))
  (ak (aO (pv 2))))),?_⟩
  refine(?_:let bP:TS:=_;let bQ:TS:=_;let bR:TS:=_;tSeq bP (tSeq bQ bR) _ _ _);intro bP bQ bR;have sl:=sizeLine_eq;simp_all only[];refine⟨aaP _,λm nm=>⟨by omega,by omega,by omega,by omega,?_⟩⟩;rw[show((s':Int)+1 - 1).toNat=s' by omega];refine b9 (src_range (Ok:=λ_=>True)) (λi σ H'=>aq H H'/\∃xs z,H' m=some (.lst xs)/\xs.length<=i*20/\Al (Fa (qv H' m)) ((List.range i).flatMap λi:Nat=>if i<n then (List.range s').map λj:Nat=>[((i:Nat):Int)+1,((j:Nat):Int)+1] else [[((i:Nat):Int)+1]]) xs/\σ=[some (.int (n:Int)),some (.int (s':Int)),some (.ref m),z]) ?_ (λ_ _ _ _ _=>trivial) ?_ ?_
  ·exact⟨ah nm,_,_,aj,aaP _,trivial,rfl⟩
  ·intro i x σ H1 H2 hi fG eL;symm;obtain⟨sm,xs,z,hm,lx,al,rfl⟩:=fG;obtain⟨rfl,rfl⟩:=eL;nofun;change tIfS _ _ _ _ [some (.int (n:Int)),some (.int (s':Int)),some (.ref m),some (.int (1+ (i:Int)))] H2;refine hV (λH'=>H2=H'/\i<n) (λH'=>H2=H'/\¬i<n) (λH' e=>?_) (λH' e=>?_) (λY N hY hN=>?_)
   ·obtain⟨rfl,c⟩:=e;simp_all only[kF];refine⟨.inl ⟨rfl,_,bG.of hm⟩,by omega,by omega,by omega,by omega,?_⟩;rw[show((s':Int)+1 - 1).toNat=s' by omega];refine comp_map src_range (λ_ _ _ _ h=>by rw[h.1];exact aq.refl _) (by omega) (λk y H4=>Fa (qv H4 m) [((i:Nat):Int)+1,((k:Nat):Int)+1] y) (λk y H4 H5 s5 h=>h.mono (cS s5)) ?_ ?_
    ·rintro k x w0 H4 H5 Q2 hk s4 ⟨rfl,rfl⟩ kq;simp_all only[];refine⟨by decide,λa1 n1=>kq _ _ (ah n1) ⟨a1,rfl,?_⟩⟩;have ne:a1≠m:=λe=>by
      subst e;rw[s4 _ _ hm] at n1;cases n1
     rw[j5 ne,aj,Int.add_comm,Int.add_comm 1 (k:Int)];rfl
    ·intro zs H4 s4 lz hz D n1 n2;have L7:=s4 _ _ hm;refine⟨_,ah n2 _ _ L7,_,aj,by omega,?_⟩;have s5:aq H2 (upd H4 D (.lst zs)):=s4.trans (ah n2);refine⟨bL (sm.trans s5) nm,_,aj,by rw[aaE,lz];omega,?_,_,rfl⟩;rw[kU,List.range_succ,List.flatMap_append];refine Al.append (al.imp λ_ _ h=>h.mono (cS s5)) ?_;simp only[abd,List.flatMap_nil,abg];rw[if_pos c];refine Al.of (by rw[aaA,List.length_range];exact lz) λk y g e1 e2=>?_;rw[aaG] at e2;symm;obtain⟨k',ek,rfl⟩:=Option.map_eq_some_iff.mp e2;nofun;obtain⟨hk1,GF⟩:=List.getElem?_eq_some_iff.mp ek;rw[List.getElem_range] at GF;subst GF;exact(hz _ _ e1).mono (cS (ah n2))
   ·obtain⟨rfl,c⟩:=e;simp_all only[ck];refine⟨.inl ⟨rfl,_,bG.of hm⟩,by decide,λa1 n1=>⟨_,ah n1 _ _ hm,by omega,?_⟩⟩;have s5:=ah (o:=.lst [V.int (1+ (i:Int))]) n1;have ne:a1≠m:=λe=>by
     subst e;rw[hm] at n1;cases n1
    refine⟨bL (sm.trans s5) nm,_,aj,by rw[aaE];simp only[aaL,aa5];omega,?_,_,rfl⟩;rw[kU,List.range_succ,List.flatMap_append];refine Al.append (al.imp λ_ _ h=>h.mono (cS s5)) ?_;simp only[abd,List.flatMap_nil,abg];rw[if_neg c];refine .one ⟨a1,rfl,?_⟩;rw[j5 ne,aj,Int.add_comm];rfl
   ·simp_all only[];exact dO (λc=>hY _ ⟨rfl,by omega⟩) (λc=>hN _ ⟨rfl,by omega⟩)
  ·intro σ H' cZ;symm;obtain⟨sm,xs,z,hm,lx,al,rfl⟩:=cZ;nofun;simp_all only[];exact kk _ _ _ sm hm (al.imp λ_ _ h=>h.mono sQ)
theorem iW:aS ["most","sides","found","ahead"] ["most","sides"] (ai (top 29)):=.mk
theorem L9 (T:dm P w base K mg ax aA aJ aB au aD av aL):da P w K mg base (cL P w) 1 "burst_faces" ["most","sides"] Lx:=by
 refine T.qz.dj (λ_ _ _ _ _ _=>fB λ_ _=>rfl) λf fd F=>F.dA iW (λvs H Q E h=>?_) (λcf A outer s H vs Q E hr h=>?_)
 ·obtain⟨_,_,rfl,_⟩:=h;rfl
 ·symm;obtain⟨n,s',rfl,s1,tW,n7,kk⟩:=h;nofun;clear G_;have nd:=iW.nd;refine⟨_,(ag (aH (i:=2) (bx ae))
  (ag (cH PassesOwn.never rfl (dn rfl T.z_range (aa (pv 0) ae)) (aU (i:=3) nd rfl (Or.inr rfl)) (ak (aX (cu aaV PySem.F.slot_list_extend PySem.F.type_list_extend jf.r (pv 2) (aa (cw rfl (N:=["most","sides","found","ahead"]) (so:=ai (top 29)) (N':=["face","sides","ahead"]) (k:=1) (fr:=[1,3]) rfl rfl ⟨rfl,by ac_rfl,by ac_rfl,by ac_rfl,rfl,by ac_rfl,by ac_rfl⟩ (jd rfl T.z_range (aa af (aa (pv 1) ae))) (λ_ _ _ _ _=>(aU (i:=0) (show(["face","sides","ahead"]:List Str).Nodup by ac_rfl) rfl (Or.inl rfl))) (λ_ _ _ _ _=>b6)
   (λ_ _ _ _ _=>(aw ft (aw Bf (bx (aa (pv 1) ae)) (pv 2)) (bx (aa (pv 0) ae))))) ae)))))
  (ag (aX (cu aaV aaZ aa0 bY.r (pv 2) (aa (aw Bf (bx (aa (pv 1) ae)) (pv 0)) ae)))
  (ak (aO (pv 2)))))),?_⟩
  refine(?_:let bP:TS:=_;let bQ:TS:=_;let bR:TS:=_;let cm:TS:=_;tSeq bP (tSeq bQ (tSeq bR cm)) _ _ _);intro bP bQ bR cm;have sl:=sizeLine_eq;change tSeq _ _ _ _ _;refine br (λσ' H1=>aq H H1/\∃m,H m=none/\H1 m=some (.lst [])/\σ'=[some (.int (n:Int)),some (.int (s':Int)),some (.ref m),none]) (λN hN=>?_) ?_
  ·simp_all only[];exact⟨aaP _,λm nm=>hN _ _ ⟨ah nm,m,nm,aj,rfl⟩⟩
  intro _ H1 cZ;symm;obtain⟨ko,m,nm,hm,rfl⟩:=cZ;nofun;clear G_;change tSeq _ _ _ _ _;refine br (λσ' H1=>aq H H1/\∃xs z,H1 m=some (.lst xs)/\xs.length<=n*20/\Al (Fa (qv H1 m)) ((List.range n).flatMap λa=>Kb s' a) xs/\σ'=[some (.int (n:Int)),some (.int (s':Int)),some (.ref m),z]) (λN hN=>?_) ?_
  ·simp_all only[];refine⟨by omega,by omega,?_⟩
   try rw[abq]
   refine b9 (src_range (Ok:=λ_=>True)) (λi σ H'=>aq H H'/\∃xs z,H' m=some (.lst xs)/\xs.length<=i*20/\Al (Fa (qv H' m)) ((List.range i).flatMap λa=>Kb s' a) xs/\σ=[some (.int (n:Int)),some (.int (s':Int)),some (.ref m),z]) ?_ (λ_ _ _ _ _=>trivial) ?_ ?_
   ·exact⟨ko,_,_,hm,aaP _,trivial,rfl⟩
   ·intro i x σ H2 H3 hi fG eL;symm;obtain⟨sm,xs,z,hm,lx,al,rfl⟩:=fG;obtain⟨rfl,rfl⟩:=eL;nofun;simp_all only[kF];refine⟨.inl ⟨rfl,_,bG.of hm⟩,by omega,by omega,by omega,by omega,?_⟩;rw[show((s':Int) - 1).toNat=s' - 1 by omega];refine comp_map src_range (λ_ _ _ _ h=>by rw[h.1];exact aq.refl _) (by omega) (λk y H4=>Fa (qv H4 m) (List.replicate i (s':Int)++ [((k:Nat):Int)+1]) y) (λk y H4 H5 s5 h=>h.mono (cS s5)) ?_ ?_
    ·rintro k x w0 H4 H5 Q2 hk s4 ⟨rfl,rfl⟩ kq;simp_all only[oV,HH];refine⟨by decide,λa1 n1=>⟨_,aj,by omega,by omega,by simp only[aaL,aa5];omega,λa2 n2=>⟨by decide,λa3 n3=>⟨_,ah n3 _ _ aj,_,aj,?_,λa4 n4=>kq _ _ ((ah n1).trans ((ah n2).trans ((ah n3).trans (ah n4)))) ⟨a4,rfl,?_⟩⟩⟩⟩⟩
     ·rw[len_rep];simp only[aaL,aa5];omega
     ·have ne:a4≠m:=λe=>by
       subst e;rw[ah n3 _ _ (ah n2 _ _ (ah n1 _ _ (s4 _ _ hm)))] at n4;cases n4
      rw[j5 ne,aj,List.flatten_replicate_singleton,aaM,List.map_replicate,show((0:Int)+ (i:Int)).toNat=i by omega,Int.add_comm 1 (k:Int)];rfl
    ·intro zs H4 s4 lz hz D n1 n2;have L7:=s4 _ _ hm;refine⟨_,ah n2 _ _ L7,_,aj,by omega,?_⟩;have s5:aq H3 (upd H4 D (.lst zs)):=s4.trans (ah n2);refine⟨bL (sm.trans s5) nm,_,aj,by rw[aaE,lz];omega,?_,_,rfl⟩;rw[kU,List.range_succ,List.flatMap_append];refine Al.append (al.imp λ_ _ h=>h.mono (cS s5)) ?_;simp only[abd,List.flatMap_nil,abg];unfold Kb;refine Al.of (by rw[aaA,List.length_range];exact lz) λk y g e1 e2=>?_;rw[aaG] at e2;symm;obtain⟨k',ek,rfl⟩:=Option.map_eq_some_iff.mp e2;nofun;obtain⟨hk1,GF⟩:=List.getElem?_eq_some_iff.mp ek;rw[List.getElem_range] at GF;subst GF;exact(hz _ _ e1).mono (cS (ah n2))
   ·intro σ H' cZ;symm;obtain⟨sm,xs,z,hm,lx,al,rfl⟩:=cZ;nofun;exact hN _ _ ⟨sm,xs,_,hm,lx,al,rfl⟩
  intro _ H2 cZ;symm;obtain⟨sm,xs,z,hm,lx,al,rfl⟩:=cZ;nofun;clear G_;simp_all only[ck,HH];refine⟨.inl ⟨rfl,_,bG.of hm⟩,by decide,λa1 n1=>⟨_,aj,by omega,by omega,by simp only[aaL,aa5];omega,λa2 n2=>⟨_,ah n2 _ _ (ah n1 _ _ hm),by omega,?_⟩⟩⟩;generalize eH:upd (upd H2 a1 (.lst [V.int (s':Int)])) a2 (.lst (List.replicate (n:Int).toNat [V.int (s':Int)]).flatten)=H5;have s5:aq H2 H5:=by rw[<-eH];exact(ah n1).trans (ah n2)
  have ne:a2≠m:=λe=>by
   subst e;rw[ah n1 _ _ hm] at n2;cases n2
  have e5:H5 a2=some (.lst (List.map V.int (List.replicate n (s':Int)))):=by
   rw[<-eH,aj,List.flatten_replicate_singleton,List.map_replicate,abq]
  refine kk _ _ _ (bL (sm.trans s5) nm) aj ?_;refine Al.append (al.imp λ_ _ h=>(h.mono (cS s5)).mono yC) (.one ⟨a2,rfl,?_⟩);rw[aV ne];exact e5
theorem jG:aS ["part"] ["part"] (ai (top 30)):=.mk
theorem Ma (T:dm P w base K mg ax aA aJ aB au aD av aL):da P w K mg base (cL P w) 2 "part_faces" ["part"] Ly:=by
 have d5:=C6 T;have uk:=L6 T;have qL:=L8 T;have qM:=L9 T;refine T.tD.dj (λ_ _ _ _ _ _=>du λ_=>rfl) λf fd F=>F.dA jG (λvs H Q E h=>?_) (λcf A outer s H vs Q E hr h=>?_)
 ·obtain⟨_,rfl,_⟩:=jy h;rfl
 ·symm;obtain⟨q,rfl,p,hq,g,hc,kk⟩:=jy h;nofun;have nd:=jG.nd;refine⟨_,(ag (bp (aM bF (aE aN (pv 0) af) ao (aK _)) (ak (aO (bx (aa (bx ae) ae))))
   aT)
  (ag (bp (aM bF (aE aN (pv 0) af) ao (aK _)) (ak (aO (ar qL (aa (aE aN (pv 0) af) (aa (aE aN (pv 0) af) ae)))))
   aT)
  (ag (bp (aM bF (aE aN (pv 0) af) ao (aK _)) (ak (aO (ar qM (aa (ar d5 (aa (pv 0) ae)) (aa (aE aN (pv 0) af) ae)))))
   aT)
  (ak (aO (ar uk (aa (aE aN (pv 0) (d8 dh af)) (aa (aE aN (pv 0) (d8 dh af)) ae)))))))),?_⟩
  refine(?_:let bP:TS:=_;let bQ:TS:=_;let bR:TS:=_;let cm:TS:=_;tSeq bP (tSeq bQ (tSeq bR cm)) _ _ _);intro bP bQ bR cm;cases p with
  | num n=>
   simp only[gX] at hq;refine eQ rfl hq rfl ?_;simp_all only[hq];refine⟨aaP _,λe0 m0=>⟨by decide,λl0 n0=>kk _ _ _ ((ah m0).trans (ah n0)) aj (.one ⟨e0,rfl,ah n0 _ _ aj⟩)⟩⟩
  | cB m s=>
   simp only[gX] at hq;refine bo rfl hq (by ac_rfl) (bo rfl hq (by ac_rfl) (bo rfl hq (by ac_rfl) ?_));simp_all only[hq,Ca];refine⟨_,rfl,_,rfl,m,rfl,s,rfl,g.1,g.2.1,g.2.2,hc,kk⟩
  | best n m s=>
   simp only[gX] at hq;refine bo rfl hq (by ac_rfl) (bo rfl hq (by ac_rfl) (bo rfl hq (by ac_rfl) ?_));simp_all only[hq,Ca];refine⟨_,rfl,_,rfl,m,rfl,s,rfl,g.1,g.2.1,g.2.2.1,hc,kk⟩
  | eU n m s=>
   simp only[gX] at hq;refine bo rfl hq (by ac_rfl) (bo rfl hq (by ac_rfl) (bo rfl hq (by ac_rfl) ?_));simp_all only[hq,Ca];refine⟨_,rfl,_,rfl,m,rfl,s,rfl,g.1,g.2.1,g.2.2.1,hc,kk⟩
  | hits n m s=>
   simp only[gX] at hq;refine bo rfl hq (by ac_rfl) (bo rfl hq (by ac_rfl) (bo rfl hq (by ac_rfl) ?_));simp_all only[hq,Ca];refine⟨_,rfl,_,rfl,m,rfl,s,rfl,g.1,g.2.1,g.2.2.1,hc,kk⟩
  | again n s=>
   simp only[gX] at hq;refine bo rfl hq (by ac_rfl) (eQ rfl hq rfl ?_);simp_all only[hq,Lw];refine⟨n,rfl,s,rfl,g.2.1,kk⟩
  | dY n s=>
   simp only[gX] at hq;refine bo rfl hq (by ac_rfl) (bo rfl hq (by ac_rfl) (eQ rfl hq rfl ?_));simp_all only[hq,EW,Lx];refine⟨.dY n s,rfl,n+1,rfl,s,rfl,g.1,g.2.1,by have:=g.2.2;omega,kk⟩
theorem nN:aS ["part","faces"] ["part","faces"] (ai (top 31)):=.mk
theorem Mb (T:dm P w base K mg ax aA aJ aB au aD av aL):da P w K mg base (cL P w) 1 "value_of" ["part","faces"] Lz:=by
 refine T.xv.dj (λ_ _ _ _ _ _=>fB λ_ _=>rfl) λf fd F=>F.dA nN (λvs H Q E h=>?_) (λcf A outer s H vs Q E hr h=>?_)
 ·obtain⟨_,_,rfl,_⟩:=jn h;rfl
 ·symm;obtain⟨q,l,rfl,p,hq,fs,hl,g,hf,kk⟩:=jn h;nofun;clear G_;have nd:=nN.nd;refine⟨_,(ag (bp (aM bF (aE aN (pv 0) af) ao (aK _)) (ak (aO (aE aN (pv 0) af)))
   aT)
  (ag (bp (aM bF (aE aN (pv 0) af) ao (aK _)) (ak (aO (aF (iM (K:=K)) (by rfl) T.z_sum rfl (aa (cA (cE (K:=K)) (Ao (K:=K) rfl T.z_sorted (pv 1) kx (n1:=rfl)) dr (cv (aE aN (pv 0) af))) ae))))
   aT)
  (ag (bp (aM bF (aE aN (pv 0) af) ao (aK _)) (ak (aO (aF (iM (K:=K)) (by rfl) T.z_sum rfl (aa (cA (cE (K:=K)) (aF (o9 (K:=K)) (by rfl) T.z_sorted rfl (aa (pv 1) ae)) dr (cv (aE aN (pv 0) af))) ae))))
   aT)
  (ag (bp (aM bF (aE aN (pv 0) af) ao (aK _)) (ak (aO (aF aW (by rfl) T.z_len aaF (aa (cw rfl (N:=["part","faces"]) (so:=ai (top 31)) (N':=["face","part"]) (k:=1) (fr:=[0]) rfl rfl ⟨rfl,by ac_rfl,by ac_rfl,by ac_rfl,rfl,by ac_rfl,by ac_rfl⟩ (bw (K:=K) (pv 1)) (λ_ _ _ _ _=>(aU (i:=0) (show(["face","part"]:List Str).Nodup by ac_rfl) rfl (Or.inl rfl))) (λ_ _ _ _ _=>(yl (aM uN (pv 0) (aE aN (pv 1) af) (aK _))))
   (λ_ _ _ _ _=>(pv 0))) ae))))
   aT)
  (ag (bp (aM bF (aE aN (pv 0) af) ao (aK _)) (ak (aO (aE aI (pv 1) (d8 dh af))))
   aT)
  (ak (aO (aF (iM (K:=K)) (by rfl) T.z_sum rfl (aa (pv 1) ae))))))))),?_⟩
  refine(?_:let bP:TS:=_;let bQ:TS:=_;let bR:TS:=_;let cm:TS:=_;let fH:TS:=_;let iX:TS:=_;tSeq bP (tSeq bQ (tSeq bR (tSeq cm (tSeq fH iX)))) _ _ _);intro bP bQ bR cm fH iX;have sl:=sizeLine_eq;have fl:=(kT g fs hf).2;have ml:=pI g;cases p with
  | num n=>
   simp only[gX] at hq;refine eQ rfl hq rfl ?_;simp_all only[hq];exact kk _ (aq.refl _)
  | cB m s=>
   simp only[gX] at hq;refine bo rfl hq (by ac_rfl) (bo rfl hq (by ac_rfl) (bo rfl hq (by ac_rfl) (bo rfl hq (by ac_rfl) (bo rfl hq (by ac_rfl) ?_))));simp_all only[hq];exact⟨fs,bG.of hl,kk _ (aq.refl _)⟩
  | best n m s=>
   simp only[gX] at hq;refine bo rfl hq (by ac_rfl) (eQ rfl hq rfl ?_);simp_all only[hq];refine⟨_,bG.of hl,by omega,λa n1=>⟨_,ah n1 _ _ hq,_,at1,_,rfl,_,bG.of aj,λb n2=>⟨((Nm.o7 fs).reverse.take n),bG.of ?_,kk _ ((ah n1).trans (ah n2))⟩⟩⟩;rw[aj,iN (by omega),List.map_take,abq]
  | eU n m s=>
   simp only[gX] at hq;refine bo rfl hq (by ac_rfl) (bo rfl hq (by ac_rfl) (eQ rfl hq rfl ?_));simp_all only[hq];refine⟨_,bG.of hl,by omega,λa n1=>⟨_,ah n1 _ _ hq,_,at1,_,rfl,_,bG.of aj,λb n2=>⟨((Nm.o7 fs).take n),bG.of ?_,kk _ ((ah n1).trans (ah n2))⟩⟩⟩;rw[aj,iN (by omega),List.map_take,abq]
  | hits n m s=>
   simp only[gX] at hq;refine bo rfl hq (by ac_rfl) (bo rfl hq (by ac_rfl) (bo rfl hq (by ac_rfl) (eQ rfl hq rfl ?_)));simp_all only[hq];refine⟨⟨_,bG.of hl⟩,?_⟩;have S:Src (DP K l) (aq H) fs.length (λi x H H3=>H3=H/\(List.map V.int fs)[i]?=some x):=by
    have:=src_list (K:=K) (a:=l) (xs:=List.map V.int fs) (Ok:=aq H) (λH2 s2=>bG.of (s2 _ _ hl))
    rwa [aaA] at this
   refine Ah fs (λx=>if (n:Int)<=x then some x else none) S (λ_ _ _ _ h=>h.1) (by omega) ?_ ?_
   ·rintro i a x ea ⟨_,hx⟩ Y N y1 n1;rw[aaG,ea] at hx;cases hx;simp_all only[hq];refine dO (λc=>y1 _ (if_pos c)) (λc=>n1 (if_neg c))
   ·intro D n1 n2;refine⟨_,aj,?_⟩;have e:(List.map V.int (fs.filterMap λx=>if (n:Int)<=x then some x else none)).length=(fs.filter λx=>decide ((n:Int)<=x)).length:=by
     rw[aaA];clear hl hf fl kk S
     induction fs with
     | nil=>rfl
     | cons a r ih=>
      by_cases c:(n:Int)<=a
      ·simp [c,ih]
      ·simp [c,ih]
    rw[e];exact kk _ (ah n2)
  | again n s=>
   simp only[gX] at hq;refine bo rfl hq (by ac_rfl) (bo rfl hq (by ac_rfl) (bo rfl hq (by ac_rfl) (bo rfl hq (by ac_rfl) (eQ rfl hq rfl ?_))));simp_all only[hq];obtain⟨_,h⟩:=yO fs hf;rcases h with ⟨x,y,rfl,_⟩ | ⟨x,rfl,_⟩
   ·exact⟨_,hl,_,rfl,kk _ (aq.refl _)⟩
   ·exact⟨_,hl,_,rfl,kk _ (aq.refl _)⟩
  | dY n s=>
   simp only[gX] at hq;refine bo rfl hq (by ac_rfl) (bo rfl hq (by ac_rfl) (bo rfl hq (by ac_rfl) (bo rfl hq (by ac_rfl) (bo rfl hq (by ac_rfl) ?_))));simp_all only[hq];exact⟨fs,bG.of hl,kk _ (aq.refl _)⟩
theorem gQ:aS ["part","faces","product","face"] ["part","faces"] (ai (top 32)):=.mk
theorem Mc (T:dm P w base K mg ax aA aJ aB au aD av aL):da P w K mg base (cL P w) 1 "sides_product" ["part","faces"] LA:=by
 refine T.nX.dj (λ_ _ _ _ _ _=>fB λ_ _=>rfl) λf fd F=>F.dA gQ (λvs H Q E h=>?_) (λcf A outer s H vs Q E hr h=>?_)
 ·obtain⟨_,_,rfl,_⟩:=jn h;rfl
 ·symm;obtain⟨q,l,rfl,p,hq,fs,hl,g,hf,kk⟩:=jn h;nofun;have nd:=gQ.nd;refine⟨_,(ag (aH (i:=2) af)
  (ag (cH PassesOwn.never rfl (bw (K:=K) (pv 1)) (aU (i:=3) nd rfl (Or.inl rfl)) (ak (aH (i:=2) (aw cO (pv 2) (aE aN (pv 0) (d8 dh af))))))
  (ak (aO (pv 2))))),?_⟩
  refine(?_:let bP:TS:=_;let bQ:TS:=_;let bR:TS:=_;tSeq bP (tSeq bQ bR) _ _ _);intro bP bQ bR;have fl:=(kT g fs hf).2;have ml:=pI g;have l99:=IF g;have tW:=(tR g).2;have e0:0<fs.length->lst p=sd p:=λh=>by
   cases p with
   | num n=>rw[List.mem_singleton.mp hf] at h;cases h
   | _=>rfl
  simp_all only[];refine⟨⟨_,bG.of hl⟩,b9 (src_list (Ok:=λH'=>H=H') (λH' e=>by subst e;exact bG.of hl)) (λi σ H'=>H=H'/\∃z,σ=[some (.ref q),some (.ref l),some (.int ((sd p^i:Nat):Int)),z]) ⟨rfl,_,rfl⟩ (λ_ _ _ _ h=>h.1) ?_ ?_⟩
  ·intro i x σ H' jB hi fG eL;symm;obtain⟨rfl,z,rfl⟩:=fG;obtain⟨rfl,ex⟩:=eL;nofun;rw[aaA] at hi;have le:=Az (e:=i) tW (by omega);have e1:=e0 (by omega);simp_all only[];refine⟨_,hq,_,B9 p,?_⟩;simp_all only[];refine⟨eO (by omega) (by omega),?_,_,rfl⟩;rw[Nat.pow_succ,Int.natCast_mul,e1]
  ·intro σ H' cZ;symm;obtain⟨rfl,z,rfl⟩:=cZ;nofun;rw[aaA];simp_all only[];exact kk
theorem iY:aS ["part"] ["part"] (ai (top 33)):=.mk
theorem Md (T:dm P w base K mg ax aA aJ aB au aD av aL):da P w K mg base (cL P w) 3 "part_throws" ["part"] LB:=by
 have um:=Ma T;have xM:=Mb T;have oo:=Mc T;refine T.qA.dj (λ_ _ _ _ _ _=>du λ_=>rfl) λf fd F=>F.dA iY (λvs H Q E h=>?_) (λcf A outer s H vs Q E hr h=>?_)
 ·obtain⟨_,rfl,_⟩:=jy h;rfl
 ·symm;obtain⟨q,rfl,p,hq,g,hc,kk⟩:=jy h;nofun;have nd:=iY.nd;refine⟨_,(ak (aO (cw rfl (N:=["part"]) (so:=ai (top 33)) (N':=["faces","part"]) (k:=1) (fr:=[0]) rfl rfl ⟨rfl,by ac_rfl,by ac_rfl,by ac_rfl,rfl,by ac_rfl,by ac_rfl⟩ (bw (K:=K) (ar um (aa (pv 0) ae))) (λ_ _ _ _ _=>(aU (i:=0) (show(["faces","part"]:List Str).Nodup by ac_rfl) rfl (Or.inl rfl))) (λ_ _ _ _ _=>b6)
   (λ_ _ _ _ _=>(aY (aa (pv 0) (aa (ar xM (aa (pv 1) (aa (pv 0) ae))) (aa (ar oo (aa (pv 1) (aa (pv 0) ae))) ae)))))))),?_⟩
  have sl:=sizeLine_eq;simp_all only[Ly];refine⟨p,hq,g,hc,λl H1 xs s1 hl al=>⟨⟨_,bG.of hl⟩,?_⟩⟩;have lx:=al.length;rw[kS] at lx;refine comp_map (src_list (λH2 s2=>bG.of (s2 _ _ hl))) (λ_ _ _ _ h=>by rw[h.1];exact aq.refl _) (by omega) (λi y H2=>∀f,(ER p)[i]?=some f->TR (λ_=>none) H2 (f,PD p f,sd p^f.length) y) (λi y H2 H3 s3 h f e=>(h f e).mono s3) ?_ ?_
  ·rintro i x w0 H2 H3 Q2 hi s2 ⟨rfl,ex⟩ kq;symm;obtain⟨fs,ef,b,rfl,hb⟩:=al.get ex;nofun;have hf:fs∈ER p:=aaO ef;have Kh:=s2 _ _ (s1 _ _ hq);have EJ:=s2 _ _ hb;simp_all only[Lz,LA];refine⟨p,Kh,fs,EJ,g,hf,λH4 s4=>⟨p,s4 _ _ Kh,fs,s4 _ _ EJ,g,hf,by decide,λa H5 s5 na e5=>kq _ _ (s4.trans s5) λf e=>?_⟩⟩;rw[ef] at e;cases e;exact⟨a,b,rfl,e5,s5 _ _ (s4 _ _ EJ),rfl⟩
  ·intro ys H2 s2 ly hy D n1 n2;refine kk _ _ _ (s1.trans (s2.trans (ah n2))) aj ?_;refine Al.of (by unfold DE;rw[aaA,kS];omega) λi y r e1 e2=>?_;unfold DE at e2;rw[aaG] at e2;symm;obtain⟨f,ef,rfl⟩:=Option.map_eq_some_iff.mp e2;nofun;exact(hy i y e1 f ef).mono (ah n2)
theorem eX:aS ["pool","found","part","behind","longer","faces","value","bottom"] ["pool"] (ai (top 34)):=.mk
theorem Me (T:dm P w base K mg ax aA aJ aB au aD av aL):da P w K mg base (cL P w) 5 "throws_by_bottom" ["pool"] LC:=by
 have uo:=L5 T;have qN:=Md T;refine T.kc.dj (λ_ _ _ _ _ _=>du λ_=>rfl) λf fd F=>F.dA eX (λvs H Q E h=>?_) (λcf A outer s H vs Q E hr h=>?_)
 ·obtain⟨_,rfl,_⟩:=jy h;rfl
 ·symm;obtain⟨a,rfl,ps,hp,g,l4,kk⟩:=jy h;nofun;clear G_;have nd:=eX.nd;refine⟨_,(ag (aX (ar uo (aa (pv 0) ae)))
  (ag (aH (i:=1) (bx (aa (aY (aa (bx ae) (aa af (aa af ae)))) ae)))
  (ag (cH PassesOwn.never rfl (bw (K:=K) (pv 0)) (aU (i:=2) nd rfl (Or.inl rfl)) (ag (aH (i:=3) (ar qN (aa (pv 2) ae)))
  (ag (aH (i:=4) (bx ae))
  (ag (cH PassesOwn.never rfl (bw (K:=K) (pv 1)) (dU (K:=K) (n:=3) rfl (bJ (aU (i:=5) nd rfl (Or.inr rfl)) (bJ (aU (i:=6) nd rfl (Or.inr rfl)) (bJ (aU (i:=7) nd rfl (Or.inr rfl)) dR)))) (ak (aX (cu aaV PySem.F.slot_list_extend PySem.F.type_list_extend jf.r (pv 4) (aa (cw rfl (N:=["pool","found","part","behind","longer","faces","value","bottom"]) (so:=ai (top 34)) (N':=["more","faces","value","bottom"]) (k:=1) (fr:=[5,6,7]) rfl rfl ⟨rfl,by ac_rfl,by ac_rfl,by ac_rfl,rfl,by ac_rfl,by ac_rfl⟩ (bw (K:=K) (pv 3)) (λ_ _ _ _ _=>(aU (i:=0) (show(["more","faces","value","bottom"]:List Str).Nodup by ac_rfl) rfl (Or.inl rfl))) (λ_ _ _ _ _=>b6)
   (λ_ _ _ _ _=>(aY (aa (aw ft (pv 1) (aE aN (pv 0) af)) (aa (aw bC (pv 2) (aE aN (pv 0) af)) (aa (aw cO (pv 3) (aE aN (pv 0) af)) ae)))))) ae)))))
  (ak (aH (i:=1) (pv 4)))))))
  (ak (aO (pv 1)))))),?_⟩
  refine(?_:let bP:TS:=_;let bQ:TS:=_;let bR:TS:=_;let cm:TS:=_;tSeq bP (tSeq bQ (tSeq bR cm)) _ _ _);intro bP bQ bR cm;have sl:=sizeLine_eq;symm;obtain⟨vs,ha,ap⟩:=hp;nofun;clear G_;have lv:=ap.length;change tSeq _ _ _ _ _;refine br (λσ' H1=>H=H1/\σ'=[some (.ref a),none,none,none,none,none,none,none]) (λN hN=>?_) ?_
  ·simp_all only[Lv];exact⟨ps,⟨vs,ha,ap⟩,g,hN _ _ ⟨rfl,rfl⟩⟩
  rintro _ _ ⟨rfl,rfl⟩;change tSeq _ _ _ _ _;refine br (λσ' H1=>aq H H1/\∃l xs,H1 l=some (.lst xs)/\Al (TR H H1) (eC []) xs/\σ'=[some (.ref a),some (.ref l),none,none,none,none,none,none]) (λN hN=>?_) ?_
  ·simp_all only[];refine⟨aaP _,λe0 m0=>⟨by decide,λt H1 s1 nt e1=>⟨by decide,λl n1=>hN _ _ ⟨(ah m0).trans (s1.trans (ah n1)),l,_,aj,.one ⟨t,e0,rfl,ah n1 _ _ e1,ah n1 _ _ (s1 _ _ aj),m0⟩,rfl⟩⟩⟩⟩
  intro _ H1 cZ;symm;obtain⟨ko,l,xs,hl,al,rfl⟩:=cZ;nofun;clear G_;change tSeq _ _ _ _ _;refine br (λσ' H2=>aq H H2/\∃l xs,H2 l=some (.lst xs)/\Al (TR H H2) (eC ps) xs/\∃z1 z2 z3 z4 z5 z6,σ'=[some (.ref a),some (.ref l),z1,z2,z3,z4,z5,z6]) (λN hN=>?_) ?_
  ·simp_all only[];refine⟨⟨_,bG.of (ko _ _ ha)⟩,b9 (src_list (Ok:=aq H) (λH2 s2=>bG.of (s2 _ _ ha)))
    (λi σ H2=>aq H H2/\∃l xs z1 z2 z3 z4 z5 z6,H2 l=some (.lst xs)/\Al (TR H H2) (eC (ps.take i)) xs/\σ=[some (.ref a),some (.ref l),z1,z2,z3,z4,z5,z6])
    ⟨ko,l,xs,_,_,_,_,_,_,hl,al,rfl⟩ (λ_ _ _ _ h=>h.1) ?_ ?_⟩
   ·clear hl al xs l;intro i x σ H2 H3 hi fG eL;symm;obtain⟨mj,l,xs,z1,z2,z3,z4,z5,z6,hl,al,rfl⟩:=fG;obtain⟨rfl,ex⟩:=eL;obtain⟨p,ep,q,rfl,hq⟩:=ap.get ex;nofun;obtain⟨Fn,wq⟩:=List.getElem?_eq_some_iff.mp ep;have hm:p∈ps:=by rw[<-wq];exact List.getElem_mem Fn
    symm;obtain⟨gp,c1,b1⟩:=mV g hm;nofun;have lx:=al.length;rw[oD] at lx;have c0:=mT g i;have c2:=mT g (i+1);have es:eC (ps.take (i+1))=sT (eC (ps.take i)) p:=by rw[take_snoc Fn,wq,pJ]
    have ec:jz ((ps.take (i+1)).map cnt)=jz ((ps.take i).map cnt)*cnt p:=by rw[take_snoc Fn,wq,aaM,aaI,aa3,gM]
    rw[ec] at c2;change tSeq _ _ _ _ _;refine br (λσ' H4=>aq H3 H4/\∃b bs,H4 b=some (.lst bs)/\Al (TR (λ_=>none) H4) (DE p) bs/\σ'=[some (.ref a),some (.ref l),some (.ref q),some (.ref b),z3,z4,z5,z6]) (λN hN=>?_) ?_
    ·simp_all only[LB];exact⟨p,mj _ _ hq,gp,c1,λb H4 bs s4 hb ab=>hN _ _ ⟨s4,b,bs,hb,ab,rfl⟩⟩
    intro _ H4 cZ;symm;obtain⟨N7,b,bs,hb,ab,rfl⟩:=cZ;nofun;have lb:=ab.length;unfold DE at lb;rw[aaA,kS] at lb;have hl:=N7 _ _ hl;have al:=al.imp λ_ _ h=>TR.mono N7 h;change tSeq _ _ _ _ _;refine br (λσ' H5=>aq H4 H5/\∃m,H4 m=none/\H5 m=some (.lst [])/\σ'=[some (.ref a),some (.ref l),some (.ref q),some (.ref b),some (.ref m),z4,z5,z6]) (λN hN=>?_) ?_
    ·simp_all only[];exact⟨aaP _,λm nm=>hN _ _ ⟨ah nm,m,nm,aj,rfl⟩⟩
    intro _ H5 cZ;symm;obtain⟨sm5,m,nm,hm5,rfl⟩:=cZ;nofun;change tSeq _ _ _ _ _;refine br (λσ' H6=>aq H4 H6/\∃ys,H6 m=some (.lst ys)/\Al (TR H H6) (sT (eC (ps.take i)) p) ys/\∃z4 z5 z6,σ'=[some (.ref a),some (.ref l),some (.ref q),some (.ref b),some (.ref m),z4,z5,z6]) (λN hN=>?_) ?_
    ·simp_all only[];refine⟨⟨_,bG.of (sm5 _ _ hl)⟩,b9 (src_list (Ok:=aq H4) (λH2 s2=>bG.of (s2 _ _ hl)))
      (λj σ H6=>aq H4 H6/\∃ys z4 z5 z6,H6 m=some (.lst ys)/\ys.length=j*cnt p/\Al (TR H (qv H6 m)) (sT ((eC (ps.take i)).take j) p) ys/\σ=[some (.ref a),some (.ref l),some (.ref q),some (.ref b),some (.ref m),z4,z5,z6])
      ⟨sm5,[],_,_,_,hm5,by simp,trivial,rfl⟩ (λ_ _ _ _ h=>h.1) ?_ ?_⟩
     ·intro j x σ H6 H7 hj fG eL;symm;obtain⟨C8,ys,z4,z5,z6,AS,ly,ay,rfl⟩:=fG;obtain⟨rfl,ex⟩:=eL;obtain⟨r,er,t,fq,rfl,ht,PR,nfq⟩:=al.get ex;nofun;have fh:=yT g.1 i (by omega) r (aaO er);have ht:=C8 _ _ ht;have PR:=C8 _ _ PR;have hb6:=C8 _ _ hb;have b0:=mU g i;refine⟨t,_,rfl,fM.of ht,rfl,_,_,rfl,_,_,rfl,_,_,rfl,rfl,?_⟩;simp_all only[kF];refine⟨.inl ⟨rfl,_,bG.of AS⟩,⟨_,bG.of hb6⟩,?_⟩;refine comp_map (src_list (λH2 s2=>bG.of (s2 _ _ hb6))) (λ_ _ _ _ h=>by rw[h.1];exact aq.refl _) (by omega) (λk y H8=>∀u,(DE p)[k]?=some u->TR H (qv H8 m) (r.1++u.1,r.2.1+u.2.1,r.2.2*u.2.2) y) (λk y H8 H9 s9 h u e=>(h u e).mono (cS s9)) ?_ ?_
      ·rintro k x w0 H8 H9 Q2 hk s8 ⟨rfl,ex⟩ kq;symm;obtain⟨u,eu,c,d,rfl,hc,hd,_⟩:=ab.get ex;nofun;have hc8:=s8 _ _ (C8 _ _ hc);have hd8:=s8 _ _ (C8 _ _ hd);have PU:=s8 _ _ PR;have lu:u.1.length<=7:=by
        have hu:=aaO eu;unfold DE at hu;symm;obtain⟨f,hf,rfl⟩:=List.mem_map.mp hu;nofun;exact aaR (kT gp f hf).2 (pI gp)
       simp_all only[oV,hc8,hd8,PU];refine⟨by rw[aaA,aaA];omega,λa1 n1=>?_⟩;have s9:=ah (o:=.lst (List.map V.int r.1++List.map V.int u.1)) n1;simp only[s9 _ _ hc8];refine⟨_,rfl,_,at1,_,rfl,_,rfl,_,at2,_,rfl,eO (by omega) (by omega),by decide,λt2 H10 GH nt2 e10=>kq _ _ (s9.trans GH) λu' eu'=>?_⟩;rw[eu] at eu';cases eu';have hm9:=s9 _ _ (s8 _ _ AS);refine⟨t2,a1,rfl,?_,?_,?_⟩
       ·rw[j5 (λe=>by rw[e,hm9] at nt2;cases nt2),e10,Int.natCast_mul]
       ·rw[j5 (λe=>by rw[e,s8 _ _ AS] at n1;cases n1),GH _ _ aj,aaM]
       ·exact none_of (mj.trans (N7.trans (C8.trans s8))) n1
      ·intro zs H8 s8 lz hz D n1 n2;have hm8:=s8 _ _ AS;have jm:j*cnt p+cnt p<=jz ((ps.take i).map cnt)*cnt p:=by
        rw[<-Nat.succ_mul];exact abo _ (by omega)
       refine⟨_,ah n2 _ _ hm8,_,aj,by omega,?_⟩;have s9:aq H7 (upd H8 D (.lst zs)):=s8.trans (ah n2);refine⟨bL (C8.trans s9) nm,_,aj,by rw[aaE,ly,lz,lb,Nat.succ_mul],?_,_,rfl⟩;rw[kU,aa4,er];unfold sT;rw[List.flatMap_append];refine Al.append (ay.imp λ_ _ h=>h.mono (cS s9)) ?_;simp only[Option.toList,abd,List.flatMap_nil,abg];refine Al.of (by rw[aaA];unfold DE;rw[aaA,kS];omega) λk y v e1 e2=>?_;rw[aaG] at e2;symm;obtain⟨u,eu,rfl⟩:=Option.map_eq_some_iff.mp e2;nofun;exact(hz _ _ e1 u eu).mono (cS (ah n2))
     ·intro σ H6 cZ;symm;obtain⟨C8,ys,z4,z5,z6,AS,ly,ay,rfl⟩:=cZ;nofun;refine hN _ _ ⟨C8,ys,AS,?_,_,_,_,rfl⟩;rw[lx,<-oD,aaT (aaC _)] at ay;exact ay.imp λ_ _ h=>h.mono sQ
    intro _ H6 cZ;symm;obtain⟨C8,ys,AS,ay,z4,z5,z6,rfl⟩:=cZ;nofun;simp_all only[];rw[es];exact⟨mj.trans (N7.trans C8),m,_,AS,ay,rfl,_,rfl⟩
   ·intro σ H2 cZ;symm;obtain⟨mj,l,xs,z1,z2,z3,z4,z5,z6,hl,al,rfl⟩:=cZ;nofun;rw[lv,aaT (aaC _)] at al;exact hN _ _ ⟨mj,l,xs,hl,al,_,_,_,_,_,_,rfl⟩
  intro _ H2 cZ;symm;obtain⟨mj,l,xs,hl,al,z1,z2,z3,z4,z5,z6,rfl⟩:=cZ;nofun;simp_all only[];exact kk _ _ _ mj hl al
theorem jH:aS ["pool","found","common","part"] ["pool"] (ai (top 35)):=.mk
theorem Mf (T:dm P w base K mg ax aA aJ aB au aD av aL):da P w K mg base (cL P w) 6 "pool_table" ["pool"] Fi:=by
 have kg:=Me T;have dC:=C7 T;have xN:=L1 T;refine T.tE.dj (λ_ _ _ _ _ _=>du λ_=>rfl) λf fd F=>F.dA jH (λvs H Q E h=>?_) (λcf A outer s H vs Q E hr h=>?_)
 ·obtain⟨_,rfl,_⟩:=jy h;rfl
 ·symm;obtain⟨a,rfl,ps,hp,gl,l4,kk⟩:=jy h;nofun;clear G_;have nd:=jH.nd;refine⟨_,(ag (aH (i:=1) (ar kg (aa (pv 0) ae)))
  (ag (aH (i:=2) af)
  (ag (cH PassesOwn.never rfl (bw (K:=K) (pv 0)) (aU (i:=3) nd rfl (Or.inl rfl)) (ak (aH (i:=2) (aw cO (pv 2) (ar dC (aa (pv 3) ae))))))
  (ak (aO (ar xN (aa (cw rfl (N:=["pool","found","common","part"]) (so:=ai (top 35)) (N':=["faces","value","bottom","common"]) (k:=3) (fr:=[2]) rfl rfl ⟨rfl,by ac_rfl,by ac_rfl,by ac_rfl,rfl,by ac_rfl,by ac_rfl⟩ (bw (K:=K) (pv 1)) (λ_ _ _ _ _=>(dU (K:=K) (n:=3) rfl (bJ (aU (i:=0) (show(["faces","value","bottom","common"]:List Str).Nodup by ac_rfl) rfl (Or.inl rfl)) (bJ (aU (i:=1) (show(["faces","value","bottom","common"]:List Str).Nodup by ac_rfl) rfl (Or.inl rfl)) (bJ (aU (i:=2) (show(["faces","value","bottom","common"]:List Str).Nodup by ac_rfl) rfl (Or.inl rfl)) dR))))) (λ_ _ _ _ _=>b6)
   (λ_ _ _ _ _=>(aY (aa (pv 1) (aa (aw bT (pv 3) (pv 2)) ae))))) ae))))))),?_⟩
  refine(?_:let bP:TS:=_;let bQ:TS:=_;let bR:TS:=_;let cm:TS:=_;tSeq bP (tSeq bQ (tSeq bR cm)) _ _ _);intro bP bQ bR cm;have sl:=sizeLine_eq;have gm:=B8 gl;symm;obtain⟨vs,ha,ap⟩:=id hp;nofun;clear G_;have lv:=ap.length;change tSeq _ _ _ _ _;refine br (λσ' H1=>aq H H1/\∃l xs,H1 l=some (.lst xs)/\Al (TR H H1) (eC ps) xs/\σ'=[some (.ref a),some (.ref l),none,none]) (λN hN=>?_) ?_
  ·simp_all only[LC];exact⟨ps,hp,gm,l4,λl H1 xs s1 hl al=>hN _ _ ⟨s1,l,xs,hl,al,rfl⟩⟩
  intro _ H1 cZ;symm;obtain⟨ko,l,xs,hl,al,rfl⟩:=cZ;nofun;clear G_;have lx:=al.length;rw[oD] at lx;change tSeq _ _ _ _ _;refine br (λσ' H2=>H1=H2/\σ'=[some (.ref a),some (.ref l),some (.int 1),none]) (λN hN=>?_) ?_
  ·simp_all only[];exact hN _ _ ⟨rfl,rfl⟩
  rintro _ _ ⟨rfl,rfl⟩;change tSeq _ _ _ _ _;refine br (λσ' H2=>H1=H2/\∃z,σ'=[some (.ref a),some (.ref l),some (.int (jz (ps.map bot):Int)),z]) (λN hN=>?_) ?_
  ·simp_all only[];refine⟨⟨_,bG.of (ko _ _ ha)⟩,b9 (src_list (Ok:=λH'=>H1=H') (λH' e=>by subst e;exact bG.of (ko _ _ ha))) (λi σ H'=>H1=H'/\∃z,σ=[some (.ref a),some (.ref l),some (.int (jz ((ps.take i).map bot):Int)),z]) ⟨rfl,_,rfl⟩ (λ_ _ _ _ h=>h.1) ?_ ?_⟩
   ·intro i x σ H' jB hi fG eL;symm;obtain⟨rfl,z,rfl⟩:=fG;obtain⟨rfl,ex⟩:=eL;obtain⟨p,ep,q,rfl,hq⟩:=ap.get ex;nofun;obtain⟨Fn,wq⟩:=List.getElem?_eq_some_iff.mp ep;symm;obtain⟨gp,c1,b1⟩:=mV gm (aaO ep);nofun;have b0:=mU gm i;simp_all only[vL];refine⟨p,ko _ _ hq,gp,b1,eO (by omega) (by omega),?_,_,rfl⟩;rw[take_snoc Fn,wq,aaM,aaI,aa3,gM,Int.natCast_mul]
   ·intro σ H' cZ;symm;obtain⟨rfl,z,rfl⟩:=cZ;nofun;rw[lv,aaT (aaC _)];exact hN _ _ ⟨rfl,_,rfl⟩
  intro _ _ cZ;symm;obtain⟨rfl,z,rfl⟩:=cZ;have c0:=gm.2.1;have bW:=gm.2.2;obtain⟨up0,pln,l64,_⟩:=tS ps gl;nofun;clear G_;have dv:∀r∈eC ps,1<=r.2.2/\r.2.2<=jz (ps.map bot):=λr fh=>by
   have:=yT gm.1 ps.length (aaC _) r (by rw[aaT (aaC _)];exact fh);rw[aaT (aaC _)] at this;exact this.2
  have nb:=IH gl;have rwt:EU (jz (ps.map bot)) (eC ps)=DF ps:=rfl;generalize hW:jz (ps.map bot)=W at *;simp_all only[Lp];refine⟨⟨_,bG.of hl⟩,?_⟩;refine Ak (K:=K) (src_list (λH2 s2=>bG.of (s2 _ _ hl))) (λi u v b' H2=>∃r,(eC ps)[i]?=some r/\v=.int r.2.1/\b'=.int (r.2.2:Int)) ?_ (by omega)
   (λi y H2=>∀r,(eC ps)[i]?=some r->Rep H2 (yx (r.2.1,((W / r.2.2:Nat):Int))) y) (λi y H2 H3 s3 h r e=>(h r e).mono s3) ?_ ?_
  ·rintro i x H2 H3 hi s2 ⟨rfl,ex⟩;symm;obtain⟨r,er,t,q,rfl,ht,hq,nq⟩:=al.get ex;nofun;exact⟨aq.refl _,t,_,_,_,rfl,fM.of (s2 _ _ ht),r,er,rfl,rfl⟩
  ·intro i u v b' H2 Q2 hi s2 p8_ kq;symm;obtain⟨r,er,rfl,rfl⟩:=p8_;nofun;have hb:=dv r (aaO er);simp_all only[];refine⟨cQ.of (n:=64) (by omega) (Bt.of 1000000 (by omega) (by omega)),by decide,λt H3 s3 nt e3=>kq _ _ s3 λr' er'=>?_⟩;rw[er] at er';cases er';rw[<-Int.natCast_ediv] at e3;exact u9.mpr ⟨t,rfl,e3⟩
  ·intro ys H2 s2 ly hy D n1 n2;have rp:Rep (upd H2 D (.lst ys)) (BI (DF ps)) (.ref D):=by
    rw[<-rwt];refine bU.mpr ⟨D,ys,rfl,aj,bj.of ?_ λi dd v e1 e2=>?_⟩
    ·unfold EU;rw[aaA,aaA,ly,lx,<-oD]
    ·unfold EU at e1;rw[aaG,aaG] at e1;symm;obtain⟨p,ep,rfl⟩:=Option.map_eq_some_iff.mp e1;obtain⟨r,er,rfl⟩:=Option.map_eq_some_iff.mp ep;nofun;exact(hy i v e2 r er).mono (ah n2)
   have sD:aq H (upd H2 D (.lst ys)):=ko.trans (s2.trans (ah n2));exact⟨DF ps,rp,pln,λx hx=>(up0 x hx).2,l64,λb=>absurd b nb,λ_ p H' s' np r'=>kk p H' (sD.trans s') (none_of sD np) r'⟩
theorem jI:aS ["one"] ["one"] (ai (top 12)):=.mk
theorem Fo (T:dm P w base K mg ax aA aJ aB au aD av aL):da P w K mg base (cL P w) 1 "show_share" ["one"] Ci:=by
 refine T.sV.dj (λ_ _ _ _ _ _=>du λ_=>rfl) λf fd F=>F.dA jI (λvs H Q E h=>?_) (λcf A outer s H vs Q E hr h=>?_)
 ·obtain⟨_,rfl,_⟩:=jy h;rfl
 ·symm;obtain⟨p,rfl,a,b,hp,ba,bb,kk⟩:=jy h;nofun;have nd:=jI.nd;refine⟨_,(ag (bp (aM bF (aE aN (pv 0) af) af (aK _)) (ak (aO (bM (mH (K:=K) T.nodig) (by rfl) T.z_str rfl (aa (aE aN (pv 0) af) ae) (he:=se rfl) (hpl:=na rfl))))
   aT)
  (ak (aO (aw bf (aw bf (bM (mH (K:=K) T.nodig) (by rfl) T.z_str rfl (aa (aE aN (pv 0) af) ae) (he:=se rfl) (hpl:=na rfl)) ao) (bM (mH (K:=K) T.nodig) (by rfl) T.z_str rfl (aa (aE aN (pv 0) af) ae) (he:=se rfl) (hpl:=na rfl)))))),?_⟩
  simp only[Pr] at hp;simp_all only[hp];unfold iA at kk;have la:=vP ba;have lb:=vP bb;have sl:=sizeLine_eq;have s1:(Str.ofString "/").length=1:=by ac_rfl
  refine dO (λc=>?_) (λc=>?_)
  ·rw[if_pos c] at kk;exact⟨ba,kk⟩
  ·rw[if_neg c] at kk;refine⟨ba,?_,bb,?_,kk⟩
   ·show(bg a).length+ (Str.ofString "/").length<=sizeLine;omega
   ·show(bg a++Str.ofString "/").length+ (bg b).length<=sizeLine;rw[Str.length_append];omega
theorem jJ:aS ["text"] ["text"] (ai (top 13)):=.mk
theorem C9 (T:dm P w base K mg ax aA aJ aB au aD av aL):da P w K mg base (cL P w) 1 "is_figures" ["text"] yW:=by
 refine T.sW.dj (λ_ _ _ _ _ _=>du λ_=>rfl) λf fd F=>F.dA jJ (λvs H Q E h=>?_) (λcf A outer s H vs Q E hr h=>?_)
 ·obtain⟨_,rfl,_⟩:=rK h;rfl
 ·symm;obtain⟨z,rfl,az,lz,kk⟩:=rK h;nofun;have nd:=jJ.nd;refine⟨_,(ak (aO (dP (iG dS dS af (aF mI (by rfl) T.z_len aaF (aa (pv 0) ae)) (b7 rfl T.c_MOST_FIGURES)) (fk (aF (fS (K:=K)) (by rfl) T.z_all rfl (aa (cw rfl (N:=["text"]) (so:=ai (top 13)) (N':=["sign"]) (k:=1) (fr:=[]) rfl rfl ⟨rfl,by ac_rfl,by ac_rfl,by ac_rfl,rfl,by ac_rfl,by ac_rfl⟩ (BP (pv 0)) (λ_ _ _ _ _=>(aU (i:=0) (show(["sign"]:List Str).Nodup by ac_rfl) rfl (Or.inl rfl))) (λ_ _ _ _ _=>b6)
   (λ_ _ _ _ _=>(bD mz (pv 0) (ve rfl T.c_FIGURES) rfl))) ae)))))),?_⟩
  simp_all only[];have sl:=sizeLine_eq;have zl:z.cps.toList.length=z.length:=aa1;have no:¬(1<=z.length/\z.length<=12)->Q (.bl false) H:=λn=>by
   have:=kk H (aq.refl _);rw[decide_eq_false λd:dig z.cps.toList=>n ⟨by have:=d.1;omega,by have:=d.2.1;omega⟩] at this;exact this
  refine⟨by omega,dO (λc1=>dO (λc2=>?_) (λc2=>no (by omega))) (λc1=>no (by omega))⟩;refine⟨az,?_⟩;have S:Src (Lg z) (aq H) z.cps.toList.length (λi x H H3=>H3=H/\∃c,z.cps[i]?=some c/\x=.str ⟨#[c]⟩):=by rw[aa1];exact yF
  refine dM z.cps.toList (λc=>some (.bl (decide (c∈EX.cps.toList)))) S (λ_ _ _ _ h=>h.1) (by omega) ?_ ?_
  ·intro i c x ec PV Y N y1 _;symm;obtain⟨_,c',v3,rfl⟩:=PV;nofun;rw[Array.getElem?_toList] at ec;rw[ec] at v3;cases v3;simp_all only[jY,StrLaws.found_one];exact y1 _ rfl
  ·intro D n1 n2;rw[IL];refine⟨z.cps.toList.map λc=>decide (c∈EX.cps.toList),?_,?_⟩
   ·rw[abb];exact bG.of aj
   ·have e:(z.cps.toList.map λc=>decide (c∈EX.cps.toList)).all id=decide (dig z.cps.toList):=by
     rw[Bool.eq_iff_iff,decide_eq_true_eq,List.all_map,List.all_eq_true];exact⟨λa=>⟨by omega,by omega,λc hc=>by simpa using a c hc⟩,λd c hc=>by simpa using d.2.2 c hc⟩
    rw[e];exact kk _ (ah n2)
theorem jK:aS ["text","negative","unsigned","numbers","top","bottom","one"] ["text"] (ai (top 15)):=.mk
theorem lF {tc:TT} {a b:TS} {D:Ends} {σ:L2.St} {H:Hp} (C:Hp->Prop) (h2:∀H',C H'->b D σ H') (ht:∀N:Hp->Prop,(∀H',C H'->N H')->∀Y:Hp->Prop,tc σ H λv H'=>if v=true then Y H' else N H'):tIfS tc a b D σ H:=hV (λ_=>False) C (λ_ f=>f.elim) h2 λY N _ hN=>ht N hN Y
set_option tactic.hygienic true in
theorem AI {z:Str} {a b:Int} (h:Kd z=some (a,b)):∃(p:Str) (r:List Str),Txt.split (dZ z) ⟨#[47]⟩=p::r/\dig p.cps.toList/\a=sg (h7 z) (val p.cps.toList)/\((r=[]/\b=1)\/∃q:Str,r=[q]/\dig q.cps.toList/\b=((val q.cps.toList:Nat):Int)):=by
 unfold Kd at h;generalize Txt.split (dZ z) ⟨#[47]⟩=ps at *
 match ps,h with
 | [],h=>cases h
 | [p],h=>
  rw[vN] at h
  split at h
  ·rename_i k
   cases h;exact⟨p,[],rfl,k.1.1,rfl,.inl ⟨rfl,rfl⟩⟩
  ·cases h
 | [p,q],h=>
  rw[vO] at h
  split at h
  ·rename_i k
   cases h;exact⟨p,[q],rfl,k.1.1,rfl,.inr ⟨q,rfl,k.2.1.1,rfl⟩⟩
  ·cases h
 | p::q::r::l,h=>cases h
theorem v5 (z:Str):(dZ z).length<=z.length:=by
 have zs:∀y:Str,y.cps.toList.length=y.length:=λy=>aa1;have e:=congrArg List.length (mW z);rw[aaE,zs,zs] at e;omega
theorem Fp {z:Str} (az:F3 z) (lz:z.length<=100) {p:Str} {r:List Str} (es:Txt.split (dZ z) ⟨#[47]⟩=p::r) (hr:r=[]\/∃q,r=[q]):∀x∈p::r,(∀c∈x.cps.toList,c<128)/\x.length<=100:=by
 have bl:=mW z;have zs:∀y:Str,y.cps.toList.length=y.length:=λy=>aa1;have bll:=aaR (v5 z) lz;have PX:∀c∈(dZ z).cps.toList,c<128:=λc hc=>EZ az c (by rw[bl];exact aa2 _ hc);intro x hx;rcases hr with rfl | ⟨q,rfl⟩
 ·rw[List.mem_singleton.mp hx,(yD es).1];exact⟨PX,bll⟩
 ·have e:(dZ z).cps.toList=p.cps.toList++47::q.cps.toList:=(Ce es).1;have el:=congrArg List.length e;rw[zs,aaE,aaL,zs,zs] at el;rcases List.mem_cons.mp hx with rfl | hx
  ·exact⟨λc hc=>PX c (by rw[e];exact List.mem_append_left _ hc),by omega⟩
  ·rw[List.mem_singleton.mp hx];exact⟨λc hc=>PX c (by rw[e];exact aa2 _ (aaJ _ hc)),by omega⟩
theorem Dc {ys:List V} (h:∀(i:Nat) y,ys[i]?=some y->y=.bl true):ys=List.map V.bl (List.replicate ys.length true):=by
 rw[List.map_replicate];exact List.eq_replicate_iff.mpr ⟨rfl,λy hy=>by obtain⟨i,hi,rfl⟩:=List.getElem_of_mem hy;exact h i _ (aaW hi)⟩
theorem Mg (T:dm P w base K mg ax aA aJ aB au aD av aL):da P w K mg base (cL P w) 3 "read_share" ["text"] (LG K ax):=by
 have ic:=C9 T;have uq:=Fo T;have ui:=GB T;refine T.sY.dj (λ_ _ _ _ _ _=>du λ_=>rfl) λf fd F=>F.NT jK (λvs H Q E h=>?_) (λcf A outer s H vs Q E hr h=>?_)
 ·obtain⟨_,rfl,_⟩:=rK h;rfl
 ·symm;obtain⟨z,rfl,a,b,ez,az,lz,dz,b1,g1,kQ⟩:=rK h;nofun;have nd:=jK.nd;have DH:A.handled=none:=hr.hd;refine⟨_,(ag (bp (gy (di (aF (cR (K:=K)) (by rfl) T.z_isinstance rfl (aa (pv 0) (aa (dH (v:=V.ty "str") rfl T.z_str rfl rfl) ae))))) (ak (fu rfl T.k_NoShare T.x_NoShare DH (aa ao ae) (he:=se rfl) (hpl:=na rfl)))
   aT)
  (ag (aH (i:=1) (cu abe PySem.F.slot_str_startswith PySem.F.type_str_startswith qu (pv 0) (aa ao ae)))
  (ag (aH (i:=2) (dQ (di (pv 1)) (cA EB (pv 0) (cv af) dr) (pv 0)))
  (ag (aH (i:=3) (cu abe abA abB iO (pv 2) (aa ao ae)))
  (ag (bp (PW.pt (pw_or (aM eI (aF aW (by rfl) T.z_len aaF (aa (pv 3) ae)) af (aK _)) (pw_or1 (gy (di (aF (fS (K:=K)) (by rfl) T.z_all rfl (aa (cw rfl (N:=["text","negative","unsigned","numbers","top","bottom","one"]) (so:=ai (top 15)) (N':=["number"]) (k:=1) (fr:=[]) rfl rfl ⟨rfl,by ac_rfl,by ac_rfl,by ac_rfl,rfl,by ac_rfl,by ac_rfl⟩ (bw (K:=K) (pv 3)) (λ_ _ _ _ _=>(aU (i:=0) (show(["number"]:List Str).Nodup by ac_rfl) rfl (Or.inl rfl))) (λ_ _ _ _ _=>b6)
   (λ_ _ _ _ _=>(ar ic (aa (pv 0) ae)))) ae))))))) (ak (fu rfl T.k_NoShare T.x_NoShare DH (aa ao ae) (he:=se rfl) (hpl:=na rfl)))
   aT)
  (ag (aH (i:=4) (bM j6 (by rfl) T.z_int rfl (aa (aE aI (pv 3) af) ae) (he:=se rfl) (hpl:=na rfl)))
  (ag (aH (i:=5) (dQ (aM bF (aF aW (by rfl) T.z_len aaF (aa (pv 3) ae)) af (aK _)) (bM j6 (by rfl) T.z_int rfl (aa (aE aI (pv 3) af) ae) (he:=se rfl) (hpl:=na rfl)) af))
  (ag (aH (i:=6) (ar ui (aa (dQ (di (pv 1)) (d8 dh (pv 4)) (pv 4)) (aa (pv 5) ae)) (hx:=Ef)))
  (ag (bp (aM ik (ar uq (aa (pv 6) ae)) (pv 0) (aK _)) (ak (fu rfl T.k_NoShare T.x_NoShare DH (aa ao ae) (he:=se rfl) (hpl:=na rfl)))
   aT)
  (ak (aO (pv 6)))))))))))),?_⟩
  refine(?_:let bP:TS:=_;let bQ:TS:=_;let bR:TS:=_;let cm:TS:=_;let fH:TS:=_;let iX:TS:=_;let nO:TS:=_;let GJ:TS:=_;let Mh:TS:=_;let q9_:TS:=_;tSeq bP (tSeq bQ (tSeq bR (tSeq cm (tSeq fH (tSeq iX (tSeq nO (tSeq GJ (tSeq Mh q9_)))))))) _ _ _);intro bP bQ bR cm fH iX nO GJ Mh q9_;have sl:=sizeLine_eq;have bll:=v5 z;symm;obtain⟨p,r,es,dp,ea,hb⟩:=AI dz;nofun;have PY:=Fp az lz es (by rcases hb with ⟨e,_⟩ | ⟨q,e,_⟩;exact .inl e;exact .inr ⟨q,e⟩);have dg:∀x∈p::r,dig x.cps.toList:=λx hx=>by
   rcases List.mem_cons.mp hx with rfl | hx
   ·exact dp
   ·rcases hb with ⟨rfl,_⟩ | ⟨q,rfl,dq,_⟩
    ·cases hx
    ·rw[List.mem_singleton.mp hx];exact dq
  have rl:r.length<=1:=by rcases hb with ⟨rfl,_⟩ | ⟨q,rfl,_⟩ <;>simp
  have rd:∀x∈p::r,x.length<=640/\PySem.intText? x=some ((val x.cps.toList:Nat):Int):=λx hx=>by
   have d:=dg x hx;have pc:=PY x hx;exact⟨by omega,PySem.intText_digits d.all (by intro z;have:=d.1;rw[z] at this;simp at this) (by omega)⟩
  have PZ:Txt.startswith z (Str.ofString "-")=h7 z:=by
   rw[show Str.ofString "-"=⟨#[45]⟩ by ac_rfl,xo];rfl
  refine aP (λN=>N [some (.str z),none,none,none,none,none,none] H) (λN hN=>?_) ?_
  ·refine lF (λH'=>H'=H) (λH' e=>by simp_all only[];rw[e];exact hN) λN pY Y=>?_;simp_all only[tRaise];refine⟨_,gZ.str _,_,o4,?_⟩;rw[if_neg (by decide)];exact pY _ rfl
  refine aP (λN=>N [some (.str z),some (.bl (h7 z)),none,none,none,none,none] H) (λN hN=>?_) ?_
  ·simp_all only[];rw[PZ];exact⟨rfl,hN⟩
  refine aP (λN=>N [some (.str z),some (.bl (h7 z)),some (.str (dZ z)),none,none,none,none] H) (λN hN=>?_) ?_
  ·unfold dZ at hN;simp_all only[Lh];refine dO (λc=>?_) (λc=>?_)
   ·rw[if_pos c] at hN;exact⟨by omega,hN⟩
   ·rw[if_neg c] at hN;exact hN
  refine aP (λN=>∀H1 l,aq H H1->H1 l=some (.lst (List.map V.str (p::r)))->N [some (.str z),some (.bl (h7 z)),some (.str (dZ z)),some (.ref l),none,none,none] H1) (λN hN=>?_) ?_
  ·simp_all only[];exact⟨rfl,47,by ac_rfl,by omega,λl nl=>hN _ l (ah nl) (by rw[<-es];exact aj)⟩
  rintro H1 l s1 hl;refine aP (λN=>∀H2,aq H1 H2->N [some (.str z),some (.bl (h7 z)),some (.str (dZ z)),some (.ref l),none,none,none] H2) (λN hN=>?_) ?_
  ·refine lF (aq H1) (λH' s'=>by simp_all only[];exact hN _ s') λN pY Y=>?_;simp_all only[yW];refine⟨_,hl,?_⟩;rw[if_neg (by simp only[aaA,aaL];omega)];refine⟨⟨_,bG.of hl⟩,?_⟩;refine comp_map (src_list (K:=K) (λH' s'=>bG.of (s' _ _ hl))) (λ_ _ _ _ h=>by rw[h.1];exact aq.refl _) (by simp only[aaA,aaL];omega) (λi y _=>y=.bl true) (λi y H2 H3 s3 h=>h) ?_ ?_
   ·rintro i x w0 H4 H5 Q2 hi s4 ⟨rfl,ex⟩ kq;rw[aaG] at ex;symm;obtain⟨y,ey,rfl⟩:=Option.map_eq_some_iff.mp ex;nofun;have ym:=aaO ey;simp_all only[yW];exact⟨oF (PY y ym).1,by have:=(PY y ym).2;omega,λH6 s6=>kq _ _ s6 (by rw[decide_eq_true (dg y ym)])⟩
   ·intro ys H5 s5 ly hy D n1 n2;rw[Dc hy];refine⟨_,bG.of aj,?_⟩;rw[show(List.replicate ys.length true).all id=true by simp,if_neg (by decide)];exact pY _ (s5.trans (ah n2))
  rintro H2 s2;have nF:=s2 _ _ hl;refine aP (λN=>N [some (.str z),some (.bl (h7 z)),some (.str (dZ z)),some (.ref l),some (.int (val p.cps.toList:Nat)),none,none] H2) (λN hN=>?_) ?_
  ·simp_all only[];exact⟨_,nF,_,at0,_,rfl,(rd p (by simp)).1,_,(rd p (by simp)).2,hN⟩
  refine aP (λN=>N [some (.str z),some (.bl (h7 z)),some (.str (dZ z)),some (.ref l),some (.int (val p.cps.toList:Nat)),some (.int b),none] H2) (λN hN=>?_) ?_
  ·simp_all only[];refine⟨_,nF,?_⟩;rcases hb with ⟨rfl,rfl⟩ | ⟨q,rfl,dq,rfl⟩
   ·rw[if_neg (by simp)];exact hN
   ·rw[if_pos (by rfl)];exact⟨_,nF,_,at1,_,rfl,(rd q (by simp)).1,_,(rd q (by simp)).2,hN⟩
  have vp:=dp.lt;have vb:b<10^12:=by
   rcases hb with ⟨_,rfl⟩ | ⟨q,_,dq,rfl⟩
   ·decide
   ·have:=dq.lt;omega
  have bb:Bt 60 b:=Bt.of (10^12) (by omega) (by omega);have ba:Bt 60 a:=by
   have:=Cd (h7 z) (val p.cps.toList);rw[ea];exact Bt.of (10^12) (by omega) (by omega)
  have one:=Nm.Bz (a:=a) (b:=b) (p:=a) (q:=b) (by omega) (by omega) g1 rfl;refine aP (λN=>∀H3 u,aq H2 H3->H3 u=some (.tup (Pr a b))->N [some (.str z),some (.bl (h7 z)),some (.str (dZ z)),some (.ref l),some (.int (val p.cps.toList:Nat)),some (.int b),some (.ref u)] H3) (λN hN=>?_) ?_
  ·have k2:∀x:Int,x=a->∀u H',aq H2 H'->H' u=some (.tup (Pr (Nm.st x b) (Nm.sb x b)))->N [some (.str z),some (.bl (h7 z)),some (.str (dZ z)),some (.ref l),some (.int (val p.cps.toList:Nat)),some (.int b),some (.ref u)] H':=λx e u H' s' eu=>hN H' u s' (by rw[e,one.1,one.2] at eu;exact eu);simp_all only[ID];refine dO (λc=>?_) (λc=>?_)
   ·exact⟨bb.mono (by decide),λb0=>absurd b0 (by omega),λb0 r H' s' _ e=>k2 _ (by rw[ea];unfold sg;rw[if_pos c]) r H' s' e⟩
   ·exact⟨bb.mono (by decide),λb0=>absurd b0 (by omega),λb0 r H' s' _ e=>k2 _ (by rw[ea];unfold sg;rw[if_neg c]) r H' s' e⟩
  rintro H3 u s3 hu;refine aP (λN=>N [some (.str z),some (.bl (h7 z)),some (.str (dZ z)),some (.ref l),some (.int (val p.cps.toList:Nat)),some (.int b),some (.ref u)] H3) (λN hN=>?_) ?_
  ·refine lF (λH'=>H'=H3) (λH' e=>by simp_all only[];rw[e];exact hN) λN pY Y=>?_;simp_all only[Ci];refine⟨a,b,hu,ba.mono (by decide),bb.mono (by decide),?_⟩;rw[if_neg (λc=>c ez.symm)];exact pY _ rfl
  simp_all only[];exact kQ u H3 (s1.trans (s2.trans s3)) hu
theorem nQ:aS ["text","least","most","number"] ["text","least","most"] (ai (top 14)):=.mk
theorem Dd (T:dm P w base K mg ax aA aJ aB au aD av aL):da P w K mg base (cL P w) 2 "whole_in" ["text","least","most"] d4:=by
 have ic:=C9 T;refine T.xt.dj (λ_ _ _ _ _ _=>vG λ_ _ _=>rfl) λf fd F=>F.dA nQ (λvs H Q E h=>?_) (λcf A outer s H vs Q E hr h=>?_)
 ·obtain⟨_,_,_,rfl,_⟩:=rO h;rfl
 ·symm;obtain⟨z,a,b,rfl,k,rfl,k0,k1,ka,kb,kk⟩:=rO h;nofun;have nd:=nQ.nd;refine⟨_,(ag (bp (gy (di (ar ic (aa (pv 0) ae)))) (ak (aO eB))
   aT)
  (ag (aH (i:=3) (bM j6 (by rfl) T.z_int rfl (aa (pv 0) ae) (he:=se rfl) (hpl:=na rfl)))
  (ak (aO (dQ (PW.pt (pw_and (aM bF (bM cD (by rfl) T.z_str rfl (aa (pv 3) ae) (he:=se rfl) (hpl:=na rfl)) (pv 0) (aK _)) (pw_and1 (uO dS dS (pv 1) (pv 3) (pv 2))))) (pv 3) eB))))),?_⟩
  refine(?_:let bP:TS:=_;let bQ:TS:=_;let bR:TS:=_;tSeq bP (tSeq bQ bR) _ _ _);intro bP bQ bR;simp_all only[yW];symm;obtain⟨l1,l3,fg⟩:=dI k0 k1;nofun;have dg:dig (bg k).cps.toList:=⟨by rw[aa1];exact l1,by rw[aa1];exact aaR l3 (by decide),fg⟩
  refine⟨oF λc hc=>by have:=kX k0 k1 c hc;omega,by omega,λH1 s1=>?_⟩;rw[if_neg (λn=>n dg)];have lg:k.natAbs.log2<1920:=by
   have:k.natAbs.log2<10:=by
    by_cases z:k.natAbs=0
    ·rw[z];decide
    ·exact(Nat.log2_lt z).mpr (by omega)
   omega
  refine⟨(by omega),k,(show PySem.intText? (bg k)=some k from PySem.W.KIN.num_reads k0 (by omega)),lg,?_⟩;rw[if_pos (show Str.ofString (toString k)=bg k from rfl),if_pos (by omega),if_pos (by omega)];exact kk _ s1
theorem dE:aS ["text","least","most","number"] ["text","least","most"] (ai (top 43)):=.mk
theorem xO (T:dm P w base K mg ax aA aJ aB au aD av aL):da P w K mg base (cL P w) 3 "read_number_pooltexts" ["text","least","most"] d4:=by
 have fI:=Dd T;refine T.gK.dj (λ_ _ _ _ _ _=>vG λ_ _ _=>rfl) λf fd F=>F.dA dE (λvs H Q E h=>?_) (λcf A outer s H vs Q E hr h=>?_)
 ·obtain⟨_,_,_,rfl,_⟩:=rO h;rfl
 ·symm;obtain⟨z,a,b,rfl,k,rfl,k0,k1,ka,kb,kk⟩:=rO h;nofun;have nd:=dE.nd;refine⟨_,(ag (aH (i:=3) (ar fI (aa (pv 0) (aa (pv 1) (aa (pv 2) ae)))))
  (ag (bp (aM rZ (pv 3) eB (aK _)) (ak de)
   aT)
  (ak (aO (pv 3))))),?_⟩
  refine(?_:let bP:TS:=_;let bQ:TS:=_;let bR:TS:=_;tSeq bP (tSeq bQ bR) _ _ _);intro bP bQ bR;simp_all only[d4];refine⟨k,rfl,k0,k1,ka,kb,λH1 s1=>?_⟩;rw[if_neg (by simp)];exact kk _ s1
theorem lG:aS ["text","pieces","dice"] ["text"] (ai (top 45)):=.mk
theorem De (T:dm P w base K mg ax aA aJ aB au aD av aL):da P w K mg base (cL P w) 4 "read_dice" ["text"] CQ:=by
 have bO:=xO T;refine T.vn.dj (λ_ _ _ _ _ _=>du λ_=>rfl) λf fd F=>F.dA lG (λvs H Q E h=>?_) (λcf A outer s H vs Q E hr h=>?_)
 ·obtain⟨_,rfl,_⟩:=rK h;rfl
 ·symm;obtain⟨z,rfl,m,n,rfl,m1,m6,n1,Ck,kk⟩:=rK h;nofun;have nd:=lG.nd;refine⟨_,(ag (aH (i:=1) (cu abe abA abB iO (pv 0) (aa ao ae)))
  (ag (bp (aM ik (aF aW (by rfl) T.z_len aaF (aa (pv 1) ae)) af (aK _)) (ak de)
   aT)
  (ag (aH (i:=2) (dQ (aM bF (aE aI (pv 1) af) ao (aK _)) af (ar bO (aa (aE aI (pv 1) af) (aa af (aa (b7 rfl T.c_MOST_DICE) ae))))))
  (ak (aO (aY (aa (pv 2) (aa (ar bO (aa (aE aI (pv 1) af) (aa af (aa (b7 rfl T.c_MOST_SIDES) ae)))) ae)))))))),?_⟩
  refine(?_:let bP:TS:=_;let bQ:TS:=_;let bR:TS:=_;let cm:TS:=_;tSeq bP (tSeq bQ (tSeq bR cm)) _ _ _);intro bP bQ bR cm;have dl:=kd ⟨m1,m6⟩ ⟨n1,Ck⟩;have cut:=IS ⟨m1,m6⟩ ⟨n1,Ck⟩;have Fq:Str.ofString "d"=⟨#[100]⟩:=by ac_rfl
  change tSeq _ _ _ _ _;refine br (λσ' H1=>aq H H1/\∃l,H1 l=some (.lst (List.map V.str (IP m n)))/\σ'=[some (.str (gN m n)),some (.ref l),none]) (λN hN=>?_) ?_
  ·simp_all only[];refine⟨rfl,100,Fq,by omega,λl nl=>?_⟩;rw[cut];exact hN _ _ ⟨ah nl,l,aj,rfl⟩
  intro _ H1 cZ;symm;obtain⟨ko,l,hl,rfl⟩:=cZ;nofun;change tSeq _ _ _ _ _;refine br (λσ' H2=>H1=H2/\σ'=[some (.str (gN m n)),some (.ref l),none]) (λN hN=>?_) ?_
  ·simp_all only[];refine⟨_,hl,?_⟩;rw[if_neg (show ¬¬(((List.map V.str (IP m n)).length:Nat):Int)=2 from λh=>h rfl)];exact hN _ _ ⟨rfl,rfl⟩
  rintro _ _ ⟨rfl,rfl⟩;change tSeq _ _ _ _ _;refine br (λσ' H2=>aq H1 H2/\σ'=[some (.str (gN m n)),some (.ref l),some (.int m)]) (λN hN=>?_) ?_
  ·simp_all only[d4]
   by_cases e:m=1
   ·subst e;refine⟨_,hl,.str (Str.ofString ""),rfl,rfl,?_⟩;rw[if_pos rfl];exact hN _ _ ⟨aq.refl _,rfl⟩
   ·have a0:fQ (List.map V.str (IP m n)) 0=some (.str (bg m)):=by
     refine bE (j:=0) ?_;show some (V.str (if m=1 then Str.ofString "" else bg m))=_;rw[if_neg e]
    refine⟨_,hl,.str (bg m),a0,rfl,?_⟩;rw[if_neg]
    ·exact⟨_,hl,_,a0,_,rfl,m,rfl,by omega,by omega,by omega,by omega,λH2 s2=>hN _ _ ⟨s2,rfl⟩⟩
    ·intro h
     injection h with h
     have l1:=(dI (show 0<=m by omega) (by omega)).1;rw[h] at l1;exact absurd l1 (by ac_rfl)
  rintro _ H2 ⟨mj,rfl⟩;have nF:=mj _ _ hl;simp_all only[d4];exact⟨_,nF,_,bE (j:=1) rfl,_,rfl,n,rfl,by omega,by omega,by omega,by omega,λH3 s3=>⟨by decide,λp H4 s4 np e4=>kk _ _ (ko.trans (mj.trans (s3.trans s4))) e4⟩⟩
theorem iZ:aS ["kind","figures","dice_text","dice","number"] ["kind","figures","dice_text"] (ai (top 46)):=.mk
theorem Ji (T:dm P w base K mg ax aA aJ aB au aD av aL):da P w K mg base (cL P w) 5 "read_worded" ["kind","figures","dice_text"] CS:=by
 have bO:=xO T;have i4:=De T;refine T.qB.dj (λ_ _ _ _ _ _=>vG λ_ _ _=>rfl) λf fd F=>F.dA iZ (λvs H Q E h=>?_) (λcf A outer s H vs Q E hr h=>?_)
 ·obtain⟨_,_,_,rfl,_⟩:=Gf h;rfl
 ·symm;obtain⟨k,z,d,rfl,n,rfl,m,x,rfl,hh⟩:=Gf h;nofun;have nd:=iZ.nd;refine⟨_,(ag (aH (i:=3) (ar i4 (aa (pv 2) ae)))
  (ag (bp (aM (j4 (K:=K) (w:=w)) (pv 0) (dG (v:=V.ref _) rfl T.g_OF_ONE rfl) rfl) (ag (aH (i:=4) (ar bO (aa (pv 1) (aa (aE (kL (K:=K)) (oB (K:=K) (w:=w) (dG (v:=V.ref _) rfl T.g_OF_ONE rfl) (pv 0) (λ_ _=>rfl)) af) (aa (aE (kL (K:=K)) (oB (K:=K) (w:=w) (dG (v:=V.ref _) rfl T.g_OF_ONE rfl) (pv 0) (λ_ _=>rfl)) af) ae)))))
  (ag (bp (aM ik (aE aN (pv 3) af) af (aK _)) (ak de)
   aT)
  (ak (aO (aY (aa (pv 0) (aa (pv 4) (aa (aE aN (pv 3) af) ae))))))))
   aT)
  (ag (bp (aM (qw (K:=K) (w:=w)) (pv 0) (dG (v:=V.ref _) rfl T.g_OF_MANY rfl) rfl) (ak de)
   aT)
  (ag (aH (i:=4) (ar bO (aa (pv 1) (aa (aE (kL (K:=K)) (oB (K:=K) (w:=w) (dG (v:=V.ref _) rfl T.g_OF_MANY rfl) (pv 0) (λ_ _=>rfl)) af) (aa (aE (kL (K:=K)) (oB (K:=K) (w:=w) (dG (v:=V.ref _) rfl T.g_OF_MANY rfl) (pv 0) (λ_ _=>rfl)) af) ae)))))
  (ag (bp (PW.pt (pw_and (aM ik (pv 0) ao (aK _)) (pw_and1 (aM eI (pv 4) (aE aN (pv 3) af) (aK _))))) (ak de)
   aT)
  (ak (aO (aY (aa (pv 0) (aa (pv 4) (aa (aE aN (pv 3) af) (aa (aE aN (pv 3) af) ae)))))))))))),?_⟩
  refine(?_:let bP:TS:=_;let bQ:TS:=_;let bR:TS:=_;let cm:TS:=_;let fH:TS:=_;let iX:TS:=_;tSeq bP (tSeq bQ (tSeq bR (tSeq cm (tSeq fH iX)))) _ _ _);intro bP bQ bR cm fH iX;have kws:∀(P:Prop),(tV (.many k n m x)->P)->(m=1->tV (.one k n x)->P)->P:=λP a b=>by
   rcases hh with ⟨g,_⟩ | ⟨e,g,_⟩
   ·exact a g
   ·exact b e g
  have md:1<=m/\m<=6/\1<=x/\x<=20:=kws _ (λg=>g.2.2) (λe g=>⟨by omega,by omega,g.2.2.1,g.2.2.2⟩);change tSeq _ _ _ _ _;refine br (λσ' H1=>aq H H1/\∃p,H1 p=some (.tup [.int m,.int x])/\σ'=[some (.str k),some (.str (bg n)),some (.str (gN m x)),some (.ref p),none]) (λN hN=>?_) ?_
  ·simp_all only[CQ];exact⟨m,x,rfl,md.1,md.2.1,md.2.2.1,md.2.2.2,λp H1 s1 e=>hN _ _ ⟨s1,p,e,rfl⟩⟩
  intro _ H1 cZ;symm;obtain⟨ko,p,hp,rfl⟩:=cZ;nofun;change tSeq _ _ _ _ _;rcases hh with ⟨⟨gk,n1,m1,m6,x1,x20⟩,kk⟩ | ⟨rfl,⟨gk,n0,x1,x20⟩,kk⟩
  ·have Ck:n<=20:=by rcases gk with h | h | h <;>omega
   have no:(["again","burst"]:List Str).any (λy=>decide (y=k))=false:=by rcases gk with h | h | h <;>rw[h.1] <;>ac_rfl
   have ye:(["best","worst","hits"]:List Str).any (λy=>decide (y=k))=true:=by rcases gk with h | h | h <;>rw[h.1] <;>ac_rfl
   refine br (λσ' H2=>H1=H2/\σ'=[some (.str k),some (.str (bg n)),some (.str (gN m x)),some (.ref p),none]) (λN hN=>?_) ?_
   ·simp_all only[];refine dN.rd T.m_OF_ONE ⟨_,rfl,?_⟩;rw[if_neg (by rw[no];decide)];exact hN _ _ ⟨rfl,rfl⟩
   rintro _ _ ⟨rfl,rfl⟩;change tSeq _ _ _ _ _;refine br (λσ' H2=>H1=H2/\σ'=[some (.str k),some (.str (bg n)),some (.str (gN m x)),some (.ref p),none]) (λN hN=>?_) ?_
   ·simp_all only[];refine dN.rdN T.m_OF_MANY ⟨_,rfl,?_⟩;rw[if_neg (by rw[ye];decide)];exact hN _ _ ⟨rfl,rfl⟩
   rintro _ _ ⟨rfl,rfl⟩;change tSeq _ _ _ _ _;refine br (λσ' H2=>aq H1 H2/\σ'=[some (.str k),some (.str (bg n)),some (.str (gN m x)),some (.ref p),some (.int n)]) (λN hN=>?_) ?_
   ·obtain⟨hi,hn,pp,es,nn,hl,hk,e,sq⟩:∃hi:Int,n<=hi/\∃pp es nn,K.lookup au=some ⟨.type "dict",none,.dict es nn,#[]⟩/\PySem.W.KeysLit w.params es.toList/\PySem.W.nsIn K au k=some (some (.ref pp))/\∀H,fM K H pp [.int 1,.int hi]:=by
     rcases gk with h | h | h
     ·rw[h.1];exact⟨6,by omega,iP.rd T.r_OF_MANY_worst T.m_OF_MANY⟩
     ·rw[h.1];exact⟨6,by omega,iP.rd T.r_OF_MANY_best T.m_OF_MANY⟩
     ·rw[h.1];exact⟨20,by omega,iP.rd T.r_OF_MANY_hits T.m_OF_MANY⟩
    simp_all only[BR,D0,d4];exact⟨pp,es,nn,hl,hk,e,_,sq _,_,at0,pp,es,nn,hl,hk,e,_,sq _,_,at1,1,rfl,hi,rfl,n,rfl,by omega,by omega,by omega,by omega,λH2 s2=>hN _ _ ⟨s2,rfl⟩⟩
   rintro _ H2 ⟨mj,rfl⟩;have sC:=mj _ _ hp;change tSeq _ _ _ _ _;refine br (λσ' H3=>H2=H3/\σ'=[some (.str k),some (.str (bg n)),some (.str (gN m x)),some (.ref p),some (.int n)]) (λN hN=>?_) ?_
   ·simp_all only[sC];refine dO (λc=>?_) (λc=>?_)
    ·rw[if_neg (by rcases gk with h | h | h <;>first | omega | exact absurd h.1 c)];exact hN _ _ ⟨rfl,rfl⟩
    ·rw[if_neg (by decide)];exact hN _ _ ⟨rfl,rfl⟩
   rintro _ _ ⟨rfl,rfl⟩;simp_all only[sC];exact⟨by decide,λq H3 s3 nq e3=>kk _ _ (ko.trans (mj.trans s3)) e3⟩
  ·have ye:(["again","burst"]:List Str).any (λy=>decide (y=k))=true:=by rcases gk with h | h <;>rw[h.1] <;>ac_rfl
   obtain⟨hi,hn,pp,es,nn,hl,hk,e,sq⟩:∃hi:Int,(n<=hi/\hi<=20)/\∃pp es nn,K.lookup aD=some ⟨.type "dict",none,.dict es nn,#[]⟩/\PySem.W.KeysLit w.params es.toList/\PySem.W.nsIn K aD k=some (some (.ref pp))/\∀H,fM K H pp [.int 0,.int hi]:=by
    rcases gk with h | h
    ·rw[h.1];exact⟨20,by omega,iP.rd T.r_OF_ONE_again T.m_OF_ONE⟩
    ·rw[h.1];exact⟨6,by omega,iP.rd T.r_OF_ONE_burst T.m_OF_ONE⟩
   refine br (λ_ _=>False) (λN hN=>?_) (λ_ _ h=>h.elim);simp_all only[BR,D0,d4];refine dN.rd T.m_OF_ONE ⟨_,rfl,?_⟩;rw[if_pos ye];refine⟨pp,es,nn,hl,hk,e,_,sq _,_,at0,pp,es,nn,hl,hk,e,_,sq _,_,at1,0,rfl,hi,rfl,n,rfl,by omega,by omega,by omega,by omega,λH2 s2=>?_⟩;have sC:=s2 _ _ hp;refine⟨_,sC,_,rfl,rfl,?_⟩;rw[if_neg (λh=>h rfl)];exact⟨_,sC,_,rfl,by decide,λq H3 s3 nq e3=>kk _ _ (ko.trans (s2.trans s3)) e3⟩
theorem lH:aS ["text","words"] ["text"] (ai (top 47)):=.mk
theorem Jj (T:dm P w base K mg ax aA aJ aB au aD av aL):da P w K mg base (cL P w) 6 "read_part" ["text"] Gg:=by
 have bO:=xO T;have i4:=De T;have qO:=Ji T;refine T.vo.dj (λ_ _ _ _ _ _=>du λ_=>rfl) λf fd F=>F.dA lH (λvs H Q E h=>?_) (λcf A outer s H vs Q E hr h=>?_)
 ·obtain⟨_,rfl,_⟩:=rK h;rfl
 ·symm;obtain⟨z,rfl,p,rfl,gp,kk⟩:=rK h;nofun;have nd:=lH.nd;refine⟨_,(ag (aH (i:=1) (cu abe abA abB iO (pv 0) (aa ao ae)))
  (ag (bp (PW.pt (pw_and (aM bF (aF aW (by rfl) T.z_len aaF (aa (pv 1) ae)) af (aK _)) (pw_and1 (aM bF (aE aI (pv 1) af) ao (aK _))))) (ak (aO (ar qO (aa (aE aI (pv 1) af) (aa (aE aI (pv 1) af) (aa (aE aI (pv 1) af) ae))))))
   aT)
  (ag (bp (aM ik (aF aW (by rfl) T.z_len aaF (aa (pv 1) ae)) af (aK _)) (ak de)
   aT)
  (ag (bp (aM mz ao (pv 0) rfl) (ak (aO (aw (BM (K:=K)) (aY (aa ao ae)) (ar i4 (aa (pv 0) ae)))))
   aT)
  (ak (aO (aY (aa ao (aa (ar bO (aa (pv 0) (aa af (aa (b7 rfl T.c_MOST_NUMBER_pooltexts) ae)))) ae))))))))),?_⟩
  refine(?_:let bP:TS:=_;let bQ:TS:=_;let bR:TS:=_;let cm:TS:=_;let fH:TS:=_;tSeq bP (tSeq bQ (tSeq bR (tSeq cm fH))) _ _ _);intro bP bQ bR cm fH;have pl:=Cm gp;have cut:=IQ gp;have e32:Str.ofString " "=⟨#[32]⟩:=by ac_rfl
  have Fq:Str.ofString "d"=⟨#[100]⟩:=by ac_rfl
  change tSeq _ _ _ _ _;refine br (λσ' H1=>aq H H1/\∃l,H1 l=some (.lst (List.map V.str (mX p)))/\σ'=[some (.str (qF p)),some (.ref l)]) (λN hN=>?_) ?_
  ·simp_all only[];refine⟨rfl,32,e32,by omega,λl nl=>?_⟩;rw[cut];exact hN _ _ ⟨ah nl,l,aj,rfl⟩
  intro _ H1 cZ;symm;obtain⟨ko,l,hl,rfl⟩:=cZ;nofun;change tSeq _ _ _ _ _;cases p with
  | num n=>
   have nf:=dI gp.1 (by have:=gp.2;omega);have jo:H1 l=some (.lst [V.str (bg n)]):=hl;refine br (λσ' H2=>H1=H2/\σ'=[some (.str (bg n)),some (.ref l)]) (λN hN=>?_) ?_
   ·simp_all only[jo];rw[if_neg (by decide),if_neg (by decide)];exact hN _ _ ⟨rfl,rfl⟩
   rintro _ _ ⟨rfl,rfl⟩;change tSeq _ _ _ _ _;refine br (λσ' H2=>H1=H2/\σ'=[some (.str (bg n)),some (.ref l)]) (λN hN=>?_) ?_
   ·simp_all only[jo];rw[if_neg (by decide)];exact hN _ _ ⟨rfl,rfl⟩
   rintro _ _ ⟨rfl,rfl⟩;simp_all only[d4];have ne:(Builtin.Str.occurrences (bg n) ⟨#[100]⟩ 0 (bg n).length 1).isEmpty=true:=by
    have h:=StrLaws.found_one (bg n) 100;rw[decide_eq_false (λhc=>by have:=kX gp.1 (by have:=gp.2;omega) 100 hc;omega)] at h
    simpa using h
   rw[Fq,ne,if_neg (by decide)];exact⟨n,rfl,gp.1,by have:=gp.2;omega,gp.1,by have:=gp.2;omega,λH' s'=>⟨by decide,λq H2 s2 nq e=>kk _ _ (ko.trans (s'.trans s2)) e⟩⟩
  | cB m x=>
   have jo:H1 l=some (.lst [V.str (gN m x)]):=hl;refine br (λσ' H2=>H1=H2/\σ'=[some (.str (gN m x)),some (.ref l)]) (λN hN=>?_) ?_
   ·simp_all only[jo];rw[if_neg (by decide),if_neg (by decide)];exact hN _ _ ⟨rfl,rfl⟩
   rintro _ _ ⟨rfl,rfl⟩;change tSeq _ _ _ _ _;refine br (λσ' H2=>H1=H2/\σ'=[some (.str (gN m x)),some (.ref l)]) (λN hN=>?_) ?_
   ·simp_all only[jo];rw[if_neg (by decide)];exact hN _ _ ⟨rfl,rfl⟩
   rintro _ _ ⟨rfl,rfl⟩;simp_all only[d4,CQ,A7];have ne:(Builtin.Str.occurrences (gN m x) ⟨#[100]⟩ 0 (gN m x).length 1).isEmpty=false:=by
    have h:=StrLaws.found_one (gN m x) 100;rw[decide_eq_true (by unfold gN;rw[app_list,app_list];exact List.mem_append_left _ (aa2 _ (by ac_rfl)))] at h
    simpa using h
   rw[Fq,ne,if_pos rfl];exact⟨by decide,λp H2 s2 np e=>⟨m,x,rfl,gp.1,gp.2.1,gp.2.2.1,gp.2.2.2,λp1 H' s' e'=>⟨_,fM.of (s' _ _ e),_,fM.of e',by simp,(show 1+2<=sizeLine by decide),λh=>(by simp at h),λ_ q nq=>kk _ _ (ko.trans (s2.trans (s'.trans (ah nq)))) aj⟩⟩⟩
  | many k n m x=>
   have jo:H1 l=some (.lst [V.str k,V.str (bg n),V.str (Str.ofString "of"),V.str (gN m x)]):=hl;refine br (λ_ _=>False) (λN hN=>?_) (λ_ _ h=>h.elim);simp_all only[jo,CS];rw[if_pos (by decide)];exact⟨_,bE (j:=3) rfl,_,rfl,n,rfl,m,x,rfl,.inl ⟨gp,λq H' s' e=>kk _ _ (ko.trans s') e⟩⟩
  | one k n x=>
   have jo:H1 l=some (.lst [V.str k,V.str (bg n),V.str (Str.ofString "of"),V.str (gN 1 x)]):=hl;refine br (λ_ _=>False) (λN hN=>?_) (λ_ _ h=>h.elim);simp_all only[jo,CS];rw[if_pos (by decide)];exact⟨_,bE (j:=3) rfl,_,rfl,n,rfl,1,x,rfl,.inr ⟨rfl,gp,λq H' s' e=>kk _ _ (ko.trans s') e⟩⟩
theorem lI:aS ["text","pieces"] ["text"] (ai (top 48)):=.mk
theorem Jk (T:dm P w base K mg ax aA aJ aB au aD av aL):da P w K mg base (cL P w) 7 "read_pool" ["text"] zg:=by
 have v7:=Jj T;refine T.vq.dj (λ_ _ _ _ _ _=>du λ_=>rfl) λf fd F=>F.dA lI (λvs H Q E h=>?_) (λcf A outer s H vs Q E hr h=>?_)
 ·obtain⟨_,rfl,_⟩:=rK h;rfl
 ·symm;obtain⟨z,rfl,ps,rfl,⟨pn,p4,gp⟩,kk⟩:=rK h;nofun;have nd:=lI.nd;refine⟨_,(ag (bp (gy (di (aF (cR (K:=K)) (by rfl) T.z_isinstance rfl (aa (pv 0) (aa (dH (v:=V.ty "str") rfl T.z_str rfl rfl) ae))))) (ak de)
   aT)
  (ag (aH (i:=1) (cu abe abA abB An (pv 0) (aa ao ae)))
  (ag (bp (aM eI (aF aW (by rfl) T.z_len aaF (aa (pv 1) ae)) (b7 rfl T.c_MOST_PARTS) (aK _)) (ak de)
   aT)
  (ak (aO (cw rfl (N:=["text","pieces"]) (so:=ai (top 48)) (N':=["piece"]) (k:=1) (fr:=[]) rfl rfl ⟨rfl,by ac_rfl,by ac_rfl,by ac_rfl,rfl,by ac_rfl,by ac_rfl⟩ (bw (K:=K) (pv 1)) (λ_ _ _ _ _=>(aU (i:=0) (show(["piece"]:List Str).Nodup by ac_rfl) rfl (Or.inl rfl))) (λ_ _ _ _ _=>b6)
   (λ_ _ _ _ _=>(ar v7 (aa (pv 0) ae))))))))),?_⟩
  refine(?_:let bP:TS:=_;let bQ:TS:=_;let bR:TS:=_;let cm:TS:=_;tSeq bP (tSeq bQ (tSeq bR cm)) _ _ _);intro bP bQ bR cm;have pl:=Cn gp;have cut:=IU pn gp;change tSeq _ _ _ _ _;refine br (λσ' H1=>H=H1/\σ'=[some (.str (AB ps)),none]) (λN hN=>?_) ?_
  ·simp_all only[];refine⟨_,gZ.str _,_,o4,?_⟩;rw[if_neg (by decide)];exact hN _ _ ⟨rfl,rfl⟩
  rintro _ _ ⟨rfl,rfl⟩;change tSeq _ _ _ _ _;refine br (λσ' H1=>aq H H1/\∃l,H1 l=some (.lst (List.map V.str (ps.map qF)))/\σ'=[some (.str (AB ps)),some (.ref l)]) (λN hN=>?_) ?_
  ·simp_all only[];refine⟨rfl,by ac_rfl,by omega,λl nl=>?_⟩;rw[yY,cut];exact hN _ _ ⟨ah nl,l,aj,rfl⟩
  intro _ H1 cZ;symm;obtain⟨ko,l,hl,rfl⟩:=cZ;nofun;change tSeq _ _ _ _ _;refine br (λσ' H2=>H1=H2/\σ'=[some (.str (AB ps)),some (.ref l)]) (λN hN=>?_) ?_
  ·simp_all only[];refine⟨_,hl,?_⟩;rw[if_neg (by rw[aaA,aaA];omega)];exact hN _ _ ⟨rfl,rfl⟩
  rintro _ _ ⟨rfl,rfl⟩;simp_all only[];refine⟨⟨_,bG.of hl⟩,?_⟩;refine comp_map (src_list (K:=K) (λH' s'=>bG.of (s' _ _ hl))) (λ_ _ _ _ h=>by rw[h.1];exact aq.refl _) (by rw[aaA,aaA,sizeLine_eq];omega) (λi y H4=>∀p,ps[i]?=some p->∃q,y=.ref q/\H4 q=some (.tup (IM p))) (λi y H4 H5 s5 h p e=>let ⟨q,a,b⟩:=h p e;⟨q,a,s5 _ _ b⟩) ?_ ?_
  ·rintro i x w0 H4 H5 Q2 hi s4 ⟨rfl,ex⟩ kq;rw[aaG,aaG] at ex;symm;obtain⟨tx,P0,rfl⟩:=Option.map_eq_some_iff.mp ex;obtain⟨p,ep,rfl⟩:=Option.map_eq_some_iff.mp P0;nofun;simp_all only[Gg];refine⟨p,rfl,gp p (aaO ep),λq H6 s6 e6=>kq _ _ s6 λp' wq=>?_⟩;rw[ep] at wq;cases wq;exact⟨q,rfl,e6⟩
  ·intro ys H5 s5 ly hy D n1 n2;rw[aaA,aaA] at ly;refine kk _ _ (ko.trans (s5.trans (ah n2))) (none_of (ko.trans s5) n2) ⟨ys,aj,ly,λi p ep=>?_⟩;have li:i<ys.length:=by
    have:=(List.getElem?_eq_some_iff.mp ep).1;omega
   symm;obtain⟨q,eq,hq⟩:=hy i _ (aaW li) p ep;nofun;exact⟨q,by rw[aaW li,eq],ah n2 _ _ hq⟩
theorem pZ:aS ["text"] ["text"] (ai (top 62)):=.mk
theorem Df (T:dm P w base K mg ax aA aJ aB au aD av aL):da P w K mg base (cL P w) 1 "is_name" ["text"] CT:=by
 refine T.Av.dj (λ_ _ _ _ _ _=>du λ_=>rfl) λf fd F=>F.dA pZ (λvs H Q E h=>?_) (λcf A outer s H vs Q E hr h=>?_)
 ·obtain⟨_,rfl,_⟩:=rK h;rfl
 ·symm;obtain⟨z,rfl,⟨l1,l8,ch⟩,kk⟩:=rK h;nofun;have nd:=pZ.nd;refine⟨_,(ak (aO (dP (iG dS dS af (aF mI (by rfl) T.z_len aaF (aa (pv 0) ae)) (b7 rfl T.c_MOST_LETTERS)) (fk (aF (fS (K:=K)) (by rfl) T.z_all rfl (aa (cw rfl (N:=["text"]) (so:=ai (top 62)) (N':=["sign"]) (k:=1) (fr:=[]) rfl rfl ⟨rfl,by ac_rfl,by ac_rfl,by ac_rfl,rfl,by ac_rfl,by ac_rfl⟩ (BP (pv 0)) (λ_ _ _ _ _=>(aU (i:=0) (show(["sign"]:List Str).Nodup by ac_rfl) rfl (Or.inl rfl))) (λ_ _ _ _ _=>b6)
   (λ_ _ _ _ _=>(bD mz (pv 0) (ve rfl T.c_LETTERS) rfl))) ae)))))),?_⟩
  have sl:=sizeLine_eq;have zl:z.cps.toList.length=z.length:=aa1;have Mi:∀c:Nat,97<=c->c<=122->c∈(Str.ofString "abcdefghijklmnopqrstuvwxyz").cps.toList:=by
   have e:(Str.ofString "abcdefghijklmnopqrstuvwxyz").cps.toList=(List.range 26).map (97+·):=by ac_rfl
   intro c h1 h2;rw[e];exact List.mem_map.mpr ⟨c - 97,List.mem_range.mpr (by omega),by omega⟩
  simp_all only[];refine⟨by omega,dO (λc1=>dO (λc2=>?_) (λc2=>absurd l8 (by omega))) (λc1=>absurd l1 (by omega))⟩;refine⟨oF λc hc=>by have:=ch c hc;omega,?_⟩;have S:Src (Lg z) (aq H) z.cps.toList.length (λi x H H3=>H3=H/\∃c,z.cps[i]?=some c/\x=.str ⟨#[c]⟩):=by rw[aa1];exact yF
  refine dM z.cps.toList (λc=>some (.bl true)) S (λ_ _ _ _ h=>h.1) (by omega) ?_ ?_
  ·intro i c x ec PV Y N y1 _;symm;obtain⟨_,c',v3,rfl⟩:=PV;nofun;rw[Array.getElem?_toList] at ec;rw[ec] at v3;cases v3;simp_all only[jY,StrLaws.found_one];have hc:=aaO (show z.cps.toList[i]?=some c by rw[Array.getElem?_toList];exact ec);rw[decide_eq_true (Mi c (ch c hc).1 (ch c hc).2)];exact y1 _ rfl
  ·intro D n1 n2;rw[List.filterMap_eq_map'];refine⟨z.cps.toList.map λc=>true,?_,?_⟩
   ·rw[abb];exact bG.of aj
   ·have e:(z.cps.toList.map λc=>true).all id=true:=by rw[List.all_map,List.all_eq_true];intro c _;rfl
    rw[e];exact kk _ (ah n2)
theorem qa:aS ["words","number"] ["words"] (ai (top 63)):=.mk
theorem Jl (T:dm P w base K mg ax aA aJ aB au aD av aL):da P w K mg base (cL P w) 3 "when_of" ["words"] Gh:=by
 have m9:=Df T;have fI:=Dd T;refine T.Aw.dj (λ_ _ _ _ _ _=>du λ_=>rfl) λf fd F=>F.dA qa (λvs H Q E h=>?_) (λcf A outer s H vs Q E hr h=>?_)
 ·obtain⟨_,rfl,_⟩:=jy h;rfl
 ·symm;obtain⟨l,rfl,c,hl,nc,fb,n9,kk⟩:=jy h;nofun;have nd:=qa.nd;refine⟨_,(ag (bp (PW.pt (pw_or (aM ik (aF aW (by rfl) T.z_len aaF (aa (pv 0) ae)) af (aK _)) (pw_or (gy (di (ar m9 (aa (aE aI (pv 0) af) ae)))) (pw_or1 (aM g5 (aE aI (pv 0) af) (aY (aa ao (aa ao ae))) rfl))))) (ak (aO eB))
   aT)
  (ag (aH (i:=1) (ar fI (aa (aE aI (pv 0) af) (aa af (aa (b7 rfl T.c_MOST_NUMBER_games) ae)))))
  (ak (aO (dQ (aM rZ (pv 1) eB (aK _)) eB (aY (aa (aE aI (pv 0) af) (aa (aE aI (pv 0) af) (aa (pv 1) ae))))))))),?_⟩
  refine(?_:let bP:TS:=_;let bQ:TS:=_;let bR:TS:=_;tSeq bP (tSeq bQ bR) _ _ _);intro bP bQ bR;symm;obtain⟨x,y,n⟩:=c;nofun;have hl:H l=some (.lst [V.str x,V.str y,V.str (bg n)]):=hl;simp_all only[CT,d4,Bb,hl];refine⟨nc,λH1 s1=>?_⟩;rw[if_neg (by decide)];refine⟨_,s1 _ _ hl,_,rfl,by decide,λp H2 s2 np e2=>⟨_,.inr (fM.of e2),rfl,rfl,?_⟩⟩;have n9:N9 n:=n9;rw[if_neg (by rcases fb with e | e <;>rw[show y=_ from e] <;>ac_rfl)];refine⟨_,(s1.trans s2) _ _ hl,_,rfl,_,rfl,n,rfl,n9.1,by have:=n9.2;omega,n9.1,n9.2,λH3 s3=>?_⟩;rw[if_neg (λz=>by cases z)];exact⟨_,(s1.trans (s2.trans s3)) _ _ hl,_,rfl,_,(s1.trans (s2.trans s3)) _ _ hl,_,rfl,by decide,λq H4 s4 nq e4=>kk q H4 (s1.trans (s2.trans (s3.trans s4))) e4⟩
theorem rS:aS ["held","words"] ["held","words"] (ai (top 64)):=.mk
theorem c5 (T:dm P w base K mg ax aA aJ aB au aD av aL):da P w K mg base (cL P w) 1 "demand" ["held","words"] cC:=by
 refine T.B2.dj (λ_ _ _ _ _ _=>fB λ_ _=>rfl) λf fd F=>F.dA rS (λvs H Q E h=>?_) (λcf A outer s H vs Q E hr h=>?_)
 ·obtain⟨_,_,rfl,_⟩:=LX h;rfl
 ·symm;obtain⟨b,x,rfl,rfl,kk⟩:=LX h;nofun;have nd:=rS.nd;refine⟨_,(ak (bp (gy (di (pv 0))) (ak de)
   aT)),?_⟩
  simp_all only[];exact kk
theorem eM:aS ["text","least","most","number"] ["text","least","most"] (ai (top 65)):=.mk
theorem ur (T:dm P w base K mg ax aA aJ aB au aD av aL):da P w K mg base (cL P w) 3 "read_number_games" ["text","least","most"] d4:=by
 have fI:=Dd T;have aZ:=c5 T;refine T.jr.dj (λ_ _ _ _ _ _=>vG λ_ _ _=>rfl) λf fd F=>F.dA eM (λvs H Q E h=>?_) (λcf A outer s H vs Q E hr h=>?_)
 ·obtain⟨_,_,_,rfl,_⟩:=rO h;rfl
 ·symm;obtain⟨z,a,b,rfl,k,rfl,k0,k1,ka,kb,kk⟩:=rO h;nofun;have nd:=eM.nd;refine⟨_,(ag (aH (i:=3) (ar fI (aa (pv 0) (aa (pv 1) (aa (pv 2) ae)))))
  (ag (aX (ar aZ (aa (bD sf (pv 3) eB (aK _)) (aa ao ae))))
  (ak (aO (pv 3))))),?_⟩
  refine(?_:let bP:TS:=_;let bQ:TS:=_;let bR:TS:=_;tSeq bP (tSeq bQ bR) _ _ _);intro bP bQ bR;simp_all only[d4,cC];exact⟨k,rfl,k0,k1,ka,kb,λH1 s1=>⟨by simp,kk _ s1⟩⟩
theorem lJ:aS ["text"] ["text"] (ai (top 67)):=.mk
theorem xP (T:dm P w base K mg ax aA aJ aB au aD av aL):da P w K mg base (cL P w) 2 "read_name" ["text"] rQ:=by
 have aZ:=c5 T;have m9:=Df T;refine T.vt.dj (λ_ _ _ _ _ _=>du λ_=>rfl) λf fd F=>F.dA lJ (λvs H Q E h=>?_) (λcf A outer s H vs Q E hr h=>?_)
 ·obtain⟨_,rfl,_⟩:=rK h;rfl
 ·symm;obtain⟨z,rfl,nz,kk⟩:=rK h;nofun;have nd:=lJ.nd;refine⟨_,(ag (aX (ar aZ (aa (ar m9 (aa (pv 0) ae)) (aa ao ae))))
  (ak (aO (pv 0)))),?_⟩
  simp_all only[CT,cC];exact⟨nz,λH1 s1=>kk _ s1⟩
theorem jL:aS ["text","names"] ["text","names"] (ai (top 68)):=.mk
theorem qb (T:dm P w base K mg ax aA aJ aB au aD av aL):da P w K mg base (cL P w) 2 "read_known" ["text","names"] jA:=by
 have aZ:=c5 T;refine T.tF.dj (λ_ _ _ _ _ _=>fB λ_ _=>rfl) λf fd F=>F.dA jL (λvs H Q E h=>?_) (λcf A outer s H vs Q E hr h=>?_)
 ·obtain⟨_,_,rfl,_⟩:=LW h;rfl
 ·symm;obtain⟨z,l,rfl,ts,hl,m,t40,kk⟩:=LW h;nofun;have nd:=jL.nd;refine⟨_,(ag (aX (ar aZ (aa (bD (xh (K:=K)) (pv 0) (pv 1) rfl) (aa ao ae))))
  (ak (aO (pv 0)))),?_⟩
  simp_all only[cC,Bb];refine⟨_,.inl (bG.of hl),rfl,List.all_eq_true.mpr λx hx=>?_,?_,kk⟩
  ·symm;obtain⟨t,_,rfl⟩:=List.mem_map.mp hx;nofun;rfl
  ·rw[if_neg (by decide)];exact List.any_eq_true.mpr ⟨_,List.mem_map_of_mem m,by simp [DC]⟩
theorem gR:aS ["names"] ["names"] (ai (top 69)):=.mk
theorem xQ (T:dm P w base K mg ax aA aJ aB au aD av aL):da P w K mg base (cL P w) 2 "demand_unlike" ["names"] zh:=by
 have aZ:=c5 T;refine T.nY.dj (λ_ _ _ _ _ _=>du λ_=>rfl) λf fd F=>F.dA gR (λvs H Q E h=>?_) (λcf A outer s H vs Q E hr h=>?_)
 ·obtain⟨_,rfl,_⟩:=jy h;rfl
 ·symm;obtain⟨l,rfl,ts,hl,nd0,t40,kk⟩:=jy h;nofun;have nd:=gR.nd;refine⟨_,(ak (aX (ar aZ (aa (bD bF (aF (sU (P:=P) (w:=w)) (by rfl) T.z_len aaF (aa (bM (Au (K:=K) (P:=P) (w:=w)) (by rfl) T.z_set rfl (aa (pv 0) ae) (he:=se rfl) (hpl:=na rfl)) ae)) (aF aW (by rfl) T.z_len aaF (aa (pv 0) ae)) (aK _)) (aa ao ae))))),?_⟩;simp_all only[cC];refine⟨ts,bG.of hl,by omega,λm nm=>⟨ts,aj,?_⟩⟩;have ne:l≠m:=λz=>by rw[z,nm] at hl;cases hl
  exact⟨_,by rw[aV ne];exact hl,by rw[Stt.As nd0,aaA],kk _ (ah nm)⟩
theorem jM:aS ["text","worth","refusal"] ["text"] (ai (top 70)):=.mk
theorem Fs {a b:Int} (h:Jd a b):F3 (iA a b)/\(iA a b).length<=100/\Kd (iA a b)=some (a,b):=by
 obtain⟨b1,bm,a0,a1,g1⟩:=h;obtain⟨y,rfl⟩:=abi (show 0<=b by omega);obtain⟨neg,x,ex,nz⟩:∃(neg:Bool) (x:Nat),a=sg neg x/\¬(neg=true/\x=0):=by
  rcases Int.lt_or_le a 0 with c | c
  ·exact⟨true,a.natAbs,by simp [sg];omega,by rintro⟨_,z⟩;omega⟩
  ·exact⟨false,a.natAbs,by simp [sg];omega,by rintro⟨z,_⟩;cases z⟩
 subst ex;have hx:x<10^12:=by have:=Cd neg x;omega
 have hy:y<10^12:=by omega
 have g2:Nm.g (x:Nat) (y:Nat)=1:=by
  rw[<-g1];unfold sg
  split
  ·exact(Nm.Bq _ _).symm
  ·rfl
 refine⟨?_,?_,IK hx hy (by omega) nz g2⟩
 ·have nl:∀i:Int,∀c∈(bg i).cps.toList,c<128:=λi c hc=>by
   rcases Int.lt_or_le i 0 with h | h
   ·obtain⟨n,rfl⟩:∃n:Nat,i= -(n:Int):=⟨i.natAbs,by omega⟩
    rw[kW (by omega)] at hc;rcases List.mem_cons.mp hc with rfl | hc
    ·decide
    ·have:=fE n c hc;omega
   ·obtain⟨n,rfl⟩:=abi h;have:=fE n c hc;omega
  refine oF λc hc=>?_;unfold iA at hc
  split at hc
  ·exact nl _ c hc
  ·rw[app_list,app_list] at hc;rcases List.mem_append.mp hc with hc | hc
   ·rcases List.mem_append.mp hc with hc | hc
    ·exact nl _ c hc
    ·have:∀c∈(Str.ofString "/").cps.toList,c<128:=by ac_rfl
     exact this c hc
   ·exact nl _ c hc
 ·have:=lA (a:=sg neg x) (b:=(y:Nat)) ⟨by omega,by omega⟩ ⟨by omega,by omega⟩;omega
theorem Dg (T:dm P w base K mg ax aA aJ aB au aD av aL):da P w K mg base (cL P w) 4 "read_worth" ["text"] vV:=by
 have uu:=Mg T;have aZ:=c5 T;refine T.tG.dj (λ_ _ _ _ _ _=>du λ_=>rfl) λf fd F=>F.dA jM (λvs H Q E h=>?_) (λcf A outer s H vs Q E hr h=>?_)
 ·obtain⟨_,rfl,_⟩:=rK h;rfl
 ·symm;obtain⟨z,rfl,a,b,rfl,sh,kk⟩:=rK h;nofun;have nd:=jM.nd;refine⟨_,(ag (Ei (i:=2) (j:=1) uu (hr.mono (by decide)) rfl (aa (pv 0) ae) rfl rfl rfl T.k_NoShare nd rfl rfl rfl rfl (λad=>(ak de)) (he:=se rfl) (hpl:=na rfl))
  (ag (aX (ar aZ (aa (bD dS (aE aN (pv 1) af) (b7 rfl T.c_MOST_BOTTOM_games) (aK _)) (aa ao ae))))
  (ak (aO (pv 1))))),?_⟩
  refine(?_:let bP:TS:=_;let bQ:TS:=_;let bR:TS:=_;tSeq bP (tSeq bQ bR) _ _ _);intro bP bQ bR;symm;obtain⟨az,lz,dz⟩:=Fs sh;nofun;simp_all only[LG,cC,FW];exact⟨a,b,rfl,az,lz,dz,sh.1,sh.2.2.2.2,λp H' s' e=>⟨_,e,_,rfl,_,rfl,sh.2.1,kk _ _ s' e⟩⟩
theorem fY:aS ["text","refusal"] ["text"] (ai (top 71)):=.mk
theorem Jm (T:dm P w base K mg ax aA aJ aB au aD av aL):da P w K mg base (cL P w) 8 "read_game_pool" ["text"] zg:=by
 have v9:=Jk T;refine T.mO.dj (λ_ _ _ _ _ _=>du λ_=>rfl) λf fd F=>F.dA fY (λvs H Q E h=>?_) (λcf A outer s H vs Q E hr h=>?_)
 ·obtain⟨_,rfl,_⟩:=rK h;rfl
 ·symm;obtain⟨z,rfl,ps,rfl,gp,kk⟩:=rK h;nofun;have nd:=fY.nd;refine⟨_,(ak (yM (i:=1) v9 (hr.mono (by decide)) rfl (aa (pv 0) ae) rfl rfl rfl T.k_NoPool nd rfl rfl (λad=>(ak de)) (he:=se rfl) (hpl:=na rfl))),?_⟩;simp_all only[zg,BZ];exact⟨ps,rfl,gp,kk⟩
theorem gS:aS ["pool","refusal"] ["pool"] (ai (top 72)):=.mk
theorem Jn (T:dm P w base K mg ax aA aJ aB au aD av aL):da P w K mg base (cL P w) 7 "table_in_game" ["pool"] Fi:=by
 have uv:=Mf T;refine T.nZ.dj (λ_ _ _ _ _ _=>du λ_=>rfl) λf fd F=>F.dA gS (λvs H Q E h=>?_) (λcf A outer s H vs Q E hr h=>?_)
 ·obtain⟨_,rfl,_⟩:=jy h;rfl
 ·symm;obtain⟨a,rfl,ps,hp,gl,l4,kk⟩:=jy h;nofun;have nd:=gS.nd;refine⟨_,(ak (yM (i:=1) uv (hr.mono (by decide)) rfl (aa (pv 0) ae) rfl rfl rfl T.k_TooMany nd rfl rfl (λad=>(ak de)) (he:=se rfl) (hpl:=na rfl))),?_⟩;simp_all only[Fi,BZ];exact⟨ps,hp,gl,l4,kk⟩
theorem jN:aS ["words"] ["words"] (ai (top 73)):=.mk
theorem Jo (T:dm P w base K mg ax aA aJ aB au aD av aL):da P w K mg base (cL P w) 4 "read_count" ["words"] CU:=by
 have aZ:=c5 T;have eN:=xP T;have bX:=ur T;refine T.tH.dj (λ_ _ _ _ _ _=>du λ_=>rfl) λf fd F=>F.dA jN (λvs H Q E h=>?_) (λcf A outer s H vs Q E hr h=>?_)
 ·obtain⟨_,rfl,_⟩:=jy h;rfl
 ·symm;obtain⟨l,rfl,c,hl,nc,c1,c60,kk⟩:=jy h;nofun;have nd:=jN.nd;refine⟨_,(ag (aX (ar aZ (aa (dP (bD bF (aF aW (by rfl) T.z_len aaF (aa (pv 0) ae)) af (aK _)) (fk (bD bF (aE aI (pv 0) af) ao (aK _)))) (aa ao ae))))
  (ak (aO (aY (aa (ar eN (aa (aE aI (pv 0) af) ae)) (aa (ar bX (aa (aE aI (pv 0) af) (aa af (aa (b7 rfl T.c_MOST_OF_COUNT) ae)))) ae)))))),?_⟩
  obtain⟨x,n⟩:=c;have hl:H l=some (.lst [V.str (Str.ofString "count"),V.str x,V.str (bg n)]):=hl;simp_all only[rQ,d4,cC,hl];rw[if_pos (show((3:Nat):Int)=3 from rfl)];exact⟨nc,λH1 s1=>⟨_,s1 _ _ hl,_,rfl,_,rfl,n,rfl,by omega,by have:n<=60:=c60;omega,c1,c60,λH2 s2=>⟨by decide,λp H3 s3 np e=>kk _ _ (s1.trans (s2.trans s3)) e⟩⟩⟩
theorem i5:aS ["rows","counts"] ["rows"] (ai (top 74)):=.mk
theorem ni {α:Type} {H:Hp} {l:Addr} {xs:List V} {te:TE} {tl:L2.St} {fin:List V->Hp->Prop} (f:α->List Str) (g:α->Dat) (as:List α) (hl:H l=some (.lst xs)) (rl:bj H ((as.map f).map AR) xs) (hz:as.length<=sizeLine)
  (hs:∀(a:α) (q:Addr) (v0:Option V) (H4:Hp) (Q2:VK),a∈as->aq H H4->H4 q=some (.lst (List.map V.str (f a)))->(∀y H6,aq H4 H6->b5 H H6 (g a) y->Q2 y H6)->te ((v0::tl).set 0 (some (.ref q))) H4 Q2)
  (mE:∀ys H5,aq H H5->cg H H5 (as.map g) ys->fin ys H5):gz (DP K l) (gName 0) jY te (none::tl) H fin:=by
 have len:=rl.length;rw[aaA,aaA] at len;refine comp_map (src_list (K:=K) (λH' s'=>bG.of (s' _ _ hl))) (λ_ _ _ _ h=>by rw[h.1];exact aq.refl _) (by omega) (λi y H4=>∀c,as[i]?=some c->b5 H H4 (g c) y) (λi y H4 H5 s5 h c e=>(h c e).mono s5) ?_ ?_
 ·rintro i x w0 H4 H5 Q2 hi s4 ⟨rfl,ex⟩ kq;obtain⟨d,ed,rd⟩:=rl.get ex;rw[aaG,aaG] at ed;obtain⟨t,et,rfl⟩:=Option.map_eq_some_iff.mp ed;obtain⟨c,ec,rfl⟩:=Option.map_eq_some_iff.mp et;obtain⟨q,rfl,hq⟩:=m7.mp rd;exact hs c q w0 _ Q2 (aaO ec) s4 (s4 _ _ hq) λy H6 s6 r=>kq _ _ s6 λc' v3=>by
   rw[ec] at v3;cases v3;exact r
 ·intro ys H5 s5 ly hy;refine mE ys H5 s5 (bj.of (by rw[aaA];omega) λi d u e1 e2=>?_);rw[aaG] at e1;obtain⟨c,ec,rfl⟩:=Option.map_eq_some_iff.mp e1;exact hy i u e2 c ec
theorem Jp (T:dm P w base K mg ax aA aJ aB au aD av aL):da P w K mg base (cL P w) 5 "read_counts" ["rows"] Gk:=by
 have aZ:=c5 T;have uw:=Jo T;have df:=xQ T;refine T.qC.dj (λ_ _ _ _ _ _=>du λ_=>rfl) λf fd F=>F.dA i5 (λvs H Q E h=>?_) (λcf A outer s H vs Q E hr h=>?_)
 ·obtain⟨_,rfl,_⟩:=jy h;rfl
 ·symm;obtain⟨l,rfl,cs,rp,c4,cn,cd,kk⟩:=jy h;nofun;have nd:=i5.nd;refine⟨_,(ag (g9 (i:=1) rfl nd rfl rfl (N:=["rows","counts"]) (so:=ai (top 74)) (N':=["words"]) (k:=1) (fr:=[]) rfl rfl ⟨rfl,by ac_rfl,by ac_rfl,by ac_rfl,rfl,by ac_rfl,by ac_rfl⟩ (bw (K:=K) (pv 0)) (λ_ _ _ _ _=>(aU (i:=0) (show(["words"]:List Str).Nodup by ac_rfl) rfl (Or.inl rfl))) (λ_ _ _ _ _=>b6)
   (λ_ _ _ _ _=>(ar uw (aa (pv 0) ae))))
  (ag (aX (ar aZ (aa (bD dS (aF aW (by rfl) T.z_len aaF (aa (pv 1) ae)) (b7 rfl T.c_MOST_COUNTS) (aK _)) (aa ao ae))))
  (ag (aX (ar df (aa (cw rfl (N:=["rows","counts"]) (so:=ai (top 74)) (N':=["name","most"]) (k:=2) (fr:=[]) rfl rfl ⟨rfl,by ac_rfl,by ac_rfl,by ac_rfl,rfl,by ac_rfl,by ac_rfl⟩ (bw (K:=K) (pv 1)) (λ_ _ _ _ _=>(dU (K:=K) (n:=2) rfl (bJ (aU (i:=0) (show(["name","most"]:List Str).Nodup by ac_rfl) rfl (Or.inl rfl)) (bJ (aU (i:=1) (show(["name","most"]:List Str).Nodup by ac_rfl) rfl (Or.inl rfl)) dR)))) (λ_ _ _ _ _=>b6)
   (λ_ _ _ _ _=>(pv 0))) ae)))
  (ak (aO (pv 1)))))),?_⟩
  refine(?_:let bP:TS:=_;let bQ:TS:=_;let bR:TS:=_;let cm:TS:=_;tSeq bP (tSeq bQ (tSeq bR cm)) _ _ _);intro bP bQ bR cm;have sl:=sizeLine_eq;symm;obtain⟨q,xs,eq,hl,rl⟩:=bU.mp rp;nofun;cases eq;have len:=rl.length;rw[aaA,aaA] at len;refine aP (λN=>∀D H1,aq H H1->H D=none->∀ys,H1 D=some (.lst ys)->cg H H1 (cs.map ju) ys->N [some (.ref l),some (.ref D)] H1) (λN hN=>?_) ?_
  ·simp_all only[CU];refine⟨⟨_,bG.of hl⟩,ni pS ju cs hl rl (by omega) ?_ λys H5 s5 ry D n1 n2=>hN D _ (s5.trans (ah n2)) n1 ys aj (ry.mono (ah n2))⟩;intro c q v0 H4 Q2 mc s4 hq kq;have cc:=cn c mc;simp_all only[CU];exact⟨c,hq,cc.1,cc.2.1,cc.2.2,λp H6 s6 e6=>kq _ _ s6 (js (cb.of (s4.trans s6)) e6 bK bH)⟩
  intro D H1 s1 nD ys hD ry;simp_all only[cC,zh];have ly:=ry.length;rw[aaA] at ly;refine⟨_,hD,by omega,⟨_,bG.of hD⟩,?_⟩;refine mF (K:=K) (src_list (λH2 s2=>bG.of (s2 _ _ hD))) (λi a b H2=>∃c,cs[i]?=some c/\a=.str c.1) ?_ (by omega) (λi y H2=>∀c,cs[i]?=some c->y=.str c.1) (λi y H2 H3 s3 h c e=>h c e) ?_ ?_
  ·rintro i x H2 H3 hi s2 ⟨rfl,ex⟩;symm;obtain⟨d,ed,rd⟩:=bj.get ry ex;rw[aaG] at ed;obtain⟨c,ec,rfl⟩:=Option.map_eq_some_iff.mp ed;obtain⟨t,y,z,rfl,ht,hy,hz⟩:=B4.mp (show Rep _ (.tup _) x from rd);nofun;exact⟨aq.refl _,t,y,z,rfl,fM.of (s2 _ _ (eJ _ _ ht)),c,ec,fV.mp hy⟩
  ·intro i u v H2 Q2 hi s2 eL kq;symm;obtain⟨c,ec,rfl⟩:=eL;nofun;simp_all only[];exact kq _ _ (aq.refl _) λc' v3=>by rw[ec] at v3;cases v3;rfl
  ·intro zs H2 s2 lz hz E n1 n2;have ez:zs=(cs.map (·.1)).map V.str:=by rw[abb];exact list_eq (by omega) hz
   refine⟨cs.map (·.1),by rw[ez];exact aj,cd,by rw[aaA];omega,λH' s'=>?_⟩;have s3:=s2.trans ((ah n2).trans s');exact kk D H' (s1.trans s3) nD (cY nD (s3 _ _ hD) (ry.mono s3))
theorem lK:aS ["words","counts","count"] ["words","counts"] (ai (top 75)):=.mk
theorem Jq (T:dm P w base K mg ax aA aJ aB au aD av aL):da P w K mg base (cL P w) 4 "read_deed" ["words","counts"] Gm:=by
 have aZ:=c5 T;have b8:=qb T;have bX:=ur T;refine T.vv.dj (λ_ _ _ _ _ _=>fB λ_ _=>rfl) λf fd F=>F.dA lK (λvs H Q E h=>?_) (λcf A outer s H vs Q E hr h=>?_)
 ·obtain⟨_,_,rfl,_⟩:=jn h;rfl
 ·symm;obtain⟨l,c,rfl,d,hl,cs,hc,kr,ok,kk⟩:=jn h;nofun;have nd:=lK.nd;refine⟨_,(ag (aH (i:=2) (ar b8 (aa (aE aI (pv 0) af) (aa (pv 1) ae))))
  (ag (bp (aM bF (aE aI (pv 0) af) ao (aK _)) (ak (aO (aY (aa ao (aa (pv 2) ae)))))
   aT)
  (ag (bp (aM bF (aE aI (pv 0) af) ao (aK _)) (ag (aX (ar aZ (aa (bD ik (aE aI (pv 0) af) (pv 2) (aK _)) (aa ao ae))))
  (ak (aO (aY (aa ao (aa (pv 2) (aa (ar b8 (aa (aE aI (pv 0) af) (aa (pv 1) ae))) ae)))))))
   aT)
  (ak (aO (aY (aa (aE aI (pv 0) af) (aa (pv 2) (aa (ar bX (aa (aE aI (pv 0) af) (aa af (aa (b7 rfl T.c_MOST_NUMBER_games) ae)))) ae))))))))),?_⟩
  refine(?_:let bP:TS:=_;let bQ:TS:=_;let bR:TS:=_;let cm:TS:=_;tSeq bP (tSeq bQ (tSeq bR cm)) _ _ _);intro bP bQ bR cm;cases d with
  | mv a b=>
   have hl:H l=some (.lst [V.str (Str.ofString "move"),V.str a,V.str b]):=hl;simp_all only[jA,d4,cC,hl];symm;obtain⟨ma,mb,ne⟩:=ok;nofun;refine⟨cs,hc,ma,kr,?_⟩;rw[if_neg (by ac_rfl)];exact⟨ne,cs,hc,mb,kr,by decide,λp H2 s2 np e=>kk _ _ s2 e⟩
  | fc a=>
   have hl:H l=some (.lst [V.str (Str.ofString "face"),V.str a]):=hl;simp_all only[jA,d4,cC,hl];exact⟨cs,hc,ok,kr,by decide,λp H2 s2 np e=>kk _ _ s2 e⟩
  | st k a n=>
   have hl:H l=some (.lst [V.str k,V.str a,V.str (bg n)]):=hl;simp_all only[jA,d4,cC,hl];symm;obtain⟨hk,ma,n9⟩:=ok;nofun;refine⟨cs,hc,ma,kr,?_⟩;rw[if_neg (by rcases hk with e | e <;>rw[e] <;>ac_rfl),if_neg (by rcases hk with e | e <;>rw[e] <;>ac_rfl)];exact⟨n,rfl,n9.1,by have:=n9.2;omega,n9.1,n9.2,λH1 s1=>⟨by decide,λp H2 s2 np e=>kk _ _ (s1.trans s2) e⟩⟩
theorem jO:aS ["words","counts","deeds","spot","behind"] ["words","counts"] (ai (top 76)):=.mk
theorem Ft {c:TT} {tb:TS} {D:Ends} {σ:L2.St} {H:Hp} (Pv:Nat->L2.St->Hp->Prop) {m:Nat} (h0:Pv m σ H)
  (hs:∀m σ H,Pv m σ H->∃b:Bool,(∀Q:Bool->Hp->Prop,Q b H->c σ H Q)/\if b=true then tb {D with nx:=λσ' H'=>∃m',m'<m/\Pv m' σ' H',ct:=λσ' H'=>∃m',m'<m/\Pv m' σ' H',bk:=D.nx} σ H else D.nx σ H):wH c tb D σ H:=by
 refine⟨Pv,⟨m,h0⟩,?_⟩;intro m σ H p;obtain⟨b,k,q⟩:=hs m σ H p;refine k _ ?_;cases b with
 | true=>exact⟨_,λσ' H' h=>h,q⟩
 | false=>exact q
theorem ux (as bs:List V) (x y:V):fo (as++ (bs++ [x,y])) (some (as.length:Int)) (some (-2))=bs:=by
 unfold fo;have e:=HT.DW (-2) (as++ (bs++ [x,y])).length (as++ (bs++ [x,y])).length;have l:(as++ (bs++ [x,y])).length=as.length+bs.length+2:=by simp;omega
 rw[if_pos (by decide),l] at e;have e2:HT.rj (as.length+bs.length+2) (as.length+bs.length+2) (some (-2))=as.length+bs.length:=by omega
 rw[l,e2,HT.fP,abk (by omega),List.drop_left,show as.length+bs.length - as.length=bs.length by omega];exact List.take_left
theorem zr (as bs cs:List V):fo (as++ (bs++cs)) (some (as.length:Int)) (some ((as.length+bs.length:Nat):Int))=bs:=by
 unfold fo;have l:(as++ (bs++cs)).length=as.length+bs.length+cs.length:=by simp;omega
 rw[l,HT.fP,HT.fP,abk (by omega),abk (by omega),List.drop_left,show as.length+bs.length - as.length=bs.length by omega];exact List.take_left
theorem Jr {ds:List c8} {i:Nat} {d:c8} (e:ds[i]?=some d):fL ds=fL (ds.take i)++ (dW d++fL (ds.drop (i+1))):=by
 obtain⟨hi,rfl⟩:=List.getElem?_eq_some_iff.mp e;have h:=List.take_append_drop i ds;rw[List.drop_eq_getElem_cons hi] at h;have k:fL (ds.take i++ds[i]::ds.drop (i+1))=fL ds:=congrArg fL h;rw[<-k];simp only[fL,List.flatMap_append,abd]
theorem fi {H H1:Hp} {D:Addr} {ys:List V} (s:aq H H1) (hD:H1 D=some (.lst ys)):cb (upd H D (.lst [])) H1:=λa zs e=>by
 by_cases c:a=D
 ·subst c;exact⟨_,hD⟩
 ·rw[aV c] at e;exact⟨_,s _ _ e⟩
theorem Dh (T:dm P w base K mg ax aA aJ aB au aD av aL):da P w K mg base (cL P w) 5 "read_deeds" ["words","counts"] zi:=by
 have aZ:=c5 T;have wa:=Jq T;refine T.tI.dj (λ_ _ _ _ _ _=>fB λ_ _=>rfl) λf fd F=>F.dA jO (λvs H Q E h=>?_) (λcf A outer s H vs Q E hr h=>?_)
 ·obtain⟨_,_,rfl,_⟩:=jn h;rfl
 ·symm;obtain⟨l,c,rfl,ds,hl,cs,hc,kr,ok,kk⟩:=jn h;nofun;clear G_;have nd:=jO.nd;refine⟨_,(ag (aH (i:=2) (bx ae))
  (ag (aH (i:=3) af)
  (ag (uL PassesOwn.never (aM qW (pv 3) (aF aW (by rfl) T.z_len aaF (aa (pv 0) ae)) (aK _)) (ag (aX (ar aZ (aa (bD (j4 (K:=K) (w:=w)) (aE aI (pv 0) (pv 3)) (dG (v:=V.ref _) rfl T.g_DEEDS rfl) rfl) (aa ao ae))))
  (ag (aH (i:=4) (aw bC (pv 3) (vm (K:=K) (w:=w) (dG (v:=V.ref _) rfl T.g_DEEDS rfl) (aE aI (pv 0) (pv 3)) (λ_ _=>rfl))))
  (ag (aX (ar aZ (aa (bD dS (pv 4) (aF aW (by rfl) T.z_len aaF (aa (pv 0) ae)) (aK _)) (aa ao ae))))
  (ag (aX (cu aaV aaZ aa0 bY.r (pv 2) (aa (ar wa (aa (cA (cE (K:=K)) (pv 0) (cv (pv 3)) (cv (pv 4))) (aa (pv 1) ae))) ae)))
  (ak (aH (i:=3) (pv 4))))))))
  (ag (aX (ar aZ (aa (bD dS (aF aW (by rfl) T.z_len aaF (aa (pv 2) ae)) (b7 rfl T.c_MOST_DEEDS) (aK _)) (aa ao ae))))
  (ak (aO (pv 2))))))),?_⟩
  refine(?_:let bP:TS:=_;let bQ:TS:=_;let bR:TS:=_;let cm:TS:=_;let fH:TS:=_;tSeq bP (tSeq bQ (tSeq bR (tSeq cm fH))) _ _ _);intro bP bQ bR cm fH;have sl:=sizeLine_eq;refine aP (λN=>∀D,H D=none->N [some (.ref l),some (.ref c),some (.ref D),none,none] (upd H D (.lst []))) (λN hN=>?_) ?_
  ·simp_all only[];exact⟨by omega,hN⟩
  intro D nD;refine aP (λN=>N [some (.ref l),some (.ref c),some (.ref D),some (.int 0),none] (upd H D (.lst []))) (λN hN=>?_) ?_
  ·simp_all only[];exact hN
  refine aP (λN=>∀H1 z ys,aq H H1->H1 D=some (.lst ys)->cg (upd H D (.lst [])) H1 (ds.map dD) ys->N [some (.ref l),some (.ref c),some (.ref D),some (.int ((fL ds).length:Nat)),z] H1) (λN hN=>?_) ?_
  ·refine Ft (λk σ H1=>∃i ys z,i<=ds.length/\k=ds.length - i/\aq H H1/\H1 D=some (.lst ys)/\cg (upd H D (.lst [])) H1 ((ds.take i).map dD) ys/\σ=[some (.ref l),some (.ref c),some (.ref D),some (.int ((fL (ds.take i)).length:Nat)),z]) (m:=ds.length) ⟨0,[],none,aaP _,rfl,ah nD,aj,cN,rfl⟩ ?_
   ·intro k σ H1 P1;symm;obtain⟨i,ys,z,hi,rfl,s1,hD,ry,rfl⟩:=P1;nofun;clear G_;have jo:=s1 _ _ hl;have GK:=s1 _ _ hc;have ly:=ry.length;rw[aaA,abc] at ly
    by_cases ci:i<ds.length
    ·obtain⟨d,ed⟩:∃d,ds[i]?=some d:=⟨_,aaW ci⟩
     have et:ds.take (i+1)=ds.take i++ [d]:=by rw[aa4,ed];rfl
     have okd:=ok.2 d (aaO ed);have e2:=Jr ed;have e3:fL (ds.take (i+1))=fL (ds.take i)++dW d:=by rw[et,vS]
     generalize fL (ds.take i)=u at *;generalize fL (ds.drop (i+1))=v at *;obtain⟨kz,kn,hk,hn,mi,mk⟩:∃(kz:Str) (kn:Nat),(dW d).head?=some kz/\(dW d).length=kn/\jq K aL kz (kn:Int)/\(["set","plus","face","move"]:List Str).any (λy=>decide (y=kz))=true:=by
      cases d with
      | mv a b=>exact⟨_,3,rfl,rfl,T.v_DEEDS_move,by ac_rfl⟩
      | fc a=>exact⟨_,2,rfl,rfl,T.v_DEEDS_face,by ac_rfl⟩
      | st k a n=>
       rcases okd.1 with e | e
       ·rw[e];exact⟨_,3,rfl,rfl,T.v_DEEDS_set,by ac_rfl⟩
       ·rw[e];exact⟨_,3,rfl,rfl,T.v_DEEDS_plus,by ac_rfl⟩
     have lz:(fL ds).length=u.length+kn+v.length:=by rw[e2];simp;omega
     have kn2:=(ua d).1;have Ac:fQ (List.map V.str (fL ds)) (u.length:Nat)=some (.str kz):=by
      refine bE ?_;rw[e2,aaG,abp (aaC _),Nat.sub_self];symm;obtain⟨y,r,ey⟩:=List.exists_cons_of_ne_nil (LM d);nofun;rw[ey] at hk ⊢;cases hk;rfl
     refine⟨true,λQ q=>by simp_all only[];exact⟨_,jo,by rw[decide_eq_true (by rw[aaA];omega)];exact q⟩,?_⟩;rw[if_pos rfl];refine aP (λN=>N [some (.ref l),some (.ref c),some (.ref D),some (.int (u.length:Nat)),z] H1) (λN hN=>?_) ?_
     ·simp_all only[cC];refine⟨_,jo,_,Ac,dN.rd T.m_DEEDS ?_⟩;rw[mk];exact⟨_,rfl,rfl,hN⟩
     refine aP (λN=>N [some (.ref l),some (.ref c),some (.ref D),some (.int (u.length:Nat)),some (.int ((u.length+kn:Nat):Int))] H1) (λN hN=>?_) ?_
     ·symm;obtain⟨es,nn,t,J2,P2,J1⟩:=mi.rd T.m_DEEDS;nofun;simp_all only[xr];refine⟨_,jo,_,Ac,_,rfl,es,nn,J2,P2,kn,t,J1,?_⟩;rw[<-Int.natCast_add];exact hN
     refine aP (λN=>N [some (.ref l),some (.ref c),some (.ref D),some (.int (u.length:Nat)),some (.int ((u.length+kn:Nat):Int))] H1) (λN hN=>?_) ?_
     ·simp_all only[cC];exact⟨_,jo,by rw[aaA];omega,hN⟩
     simp_all only[Gm,ck];refine⟨.inl ⟨rfl,_,bG.of hD⟩,_,bG.of jo,λp np=>?_⟩;have ec:fo (List.map V.str (fL ds)) (some ((u.length:Nat):Int)) (some ((u.length+kn:Nat):Int))=List.map V.str (dW d):=by
      have:=zr (List.map V.str u) (List.map V.str (dW d)) (List.map V.str v);rw[aaA,aaA,hn] at this;rw[e2,aaM,aaM];exact this
     rw[ec];have nD':D≠p:=λz=>by rw[z,np] at hD;cases hD
     refine⟨d,aj,cs,ah np _ _ GK,kr,okd,λq H3 s3 e3'=>?_⟩;have N8:=s3 _ _ (ah np _ _ hD);have sA:aq H H3:=s1.trans ((ah np).trans s3);have li:=fi sA N8;have d6:=ok.1;have e4:eZ (upd H D (.lst [])) H3 q=some (.tup (dV d)):=by
      rw[dX λzs z=>by obtain⟨ws,e⟩:=li _ _ z;rw[e3'] at e;cases e];exact e3'
     refine⟨ys,N8,by omega,ds.length - (i+1),by omega,i+1,by omega,rfl,bL sA nD,ys++ [.ref q],aj,?_,by rw[e3,aaE,hn],_,rfl⟩;show bj (eZ _ _) _ _;rw[fC aj,et,aaM];exact jg (yZ.mpr ⟨q,rfl,e4⟩) (ry.mono ((ah np).trans s3))
    ·have ei:ds.take i=ds:=aaT (by omega);rw[ei];refine⟨false,λQ q=>by simp_all only[];exact⟨_,jo,by rw[decide_eq_false (by rw[aaA];omega)];exact q⟩,?_⟩;rw[if_neg (by decide)];rw[ei] at ry;exact hN H1 z ys s1 hD ry
  intro H1 z ys s1 hD ry;have ly:=ry.length;rw[aaA] at ly;simp_all only[cC,hD];exact⟨by have:=ok.1;omega,kk D H1 s1 nD (cY nD hD (ry.low (cb.of (ah nD))))⟩
theorem lM:aS ["words","names"] ["words","names"] (ai (top 77)):=.mk
theorem Di (ws:List Str) (x y:Str):fQ (List.map V.str (ws++ [x,y])) (-2)=some (V.str x):=by
 have l:(List.map V.str (ws++ [x,y])).length=ws.length+2:=by simp
 unfold fQ;rw[l];have e:zQ (ws.length+2) (-2)=some ws.length:=by
  unfold zQ;rw[if_neg (by decide),if_pos (by omega)];congr 1;omega
 rw[e];simp
theorem Dj (T:dm P w base K mg ax aA aJ aB au aD av aL):da P w K mg base (cL P w) 3 "read_goal" ["words","names"] vW:=by
 have aZ:=c5 T;have b8:=qb T;refine T.vx.dj (λ_ _ _ _ _ _=>fB λ_ _=>rfl) λf fd F=>F.dA lM (λvs H Q E h=>?_) (λcf A outer s H vs Q E hr h=>?_)
 ·obtain⟨_,_,rfl,_⟩:=jn h;rfl
 ·symm;obtain⟨l,n,rfl,ws,g,hl,ns,hn,AU,P4,kk⟩:=jn h;nofun;have nd:=lM.nd;refine⟨_,(ag (aX (ar aZ (aa (bD bF (aE aI (pv 0) (d8 dh af)) ao (aK _)) (aa ao ae))))
  (ak (aO (ar b8 (aa (aE aI (pv 0) (d8 dh af)) (aa (pv 1) ae)))))),?_⟩
  simp_all only[jA,cC,hl];have a1:fQ (List.map V.str (ws++ [Str.ofString "go",g])) (-1)=some (V.str g):=by
   rw[show ws++ [Str.ofString "go",g]=(ws++ [Str.ofString "go"])++ [g] by simp,aaM];exact uU _ _
  have a2:fQ (List.map V.str (ws++ [Str.ofString "go",g])) (-2)=some (V.str (Str.ofString "go")):=Di _ _ _;exact⟨_,a2,rfl,rfl,_,a1,_,rfl,ns,hn,P4,AU,kk⟩
theorem fZ:aS ["words","counts","names","low","high"] ["words","counts","names"] (ai (top 78)):=.mk
theorem Dk {t:TA} {σ:L2.St} {H:Hp} {D:Ends} (h:t σ H λvs H1=>vs.length<=sizeLine/\∀p H2,aq H1 H2->H1 p=none->H2 p=some (.tup vs)->D.rt (.ref p) H2):tRet (tTupS t) D σ H:=h
theorem cP {a:TE} {b:TA} {σ:L2.St} {H:Hp} {Q:List V->Hp->Prop} (h:a σ H λv H1=>b σ H1 λvs H2=>Q (v::vs) H2):tCons a b σ H Q:=h
theorem gC {i:Nat} {v:V} {σ:L2.St} {H:Hp} {Q:VK} (e:σ[i]?=some (some v)) (h:Q v H):tVar i σ H Q:=by
 unfold tVar;rw[e];exact h
theorem Js (T:dm P w base K mg ax aA aJ aB au aD av aL):da P w K mg base (cL P w) 6 "read_throw_row" ["words","counts","names"] Gn:=by
 have aZ:=c5 T;have bX:=ur T;have ie:=Dh T;have i6:=Dj T;refine T.mP.dj (λ_ _ _ _ _ _=>vG λ_ _ _=>rfl) λf fd F=>F.dA fZ (λvs H Q E h=>?_) (λcf A outer s H vs Q E hr h=>?_)
 ·obtain⟨_,_,_,rfl,_⟩:=rP h;rfl
 ·symm;obtain⟨l,c,n,rfl,r,hl,cs,hc,kr,ns,hn,AU,⟨Ki,Mj,lh,ok,gm⟩,kk⟩:=rP h;nofun;clear G_;have nd:=fZ.nd;refine⟨_,(ag (aX (ar aZ (aa (dP (bD uN (aF aW (by rfl) T.z_len aaF (aa (pv 0) ae)) af (aK _)) (dP (bD bF (aE aI (pv 0) af) ao (aK _)) (fk (bD bF (aE aI (pv 0) af) ao (aK _))))) (aa ao ae))))
  (ag (aH (i:=3) (ar bX (aa (aE aI (pv 0) af) (aa af (aa (b7 rfl T.c_MOST_NUMBER_games) ae)))))
  (ag (aH (i:=4) (ar bX (aa (aE aI (pv 0) af) (aa (pv 3) (aa (b7 rfl T.c_MOST_NUMBER_games) ae)))))
  (ak (aO (aY (aa (pv 3) (aa (pv 4) (aa (ar ie (aa (cA (cE (K:=K)) (pv 0) (cv af) (cv (d8 dh af))) (aa (pv 1) ae))) (aa (ar i6 (aa (pv 0) (aa (pv 2) ae))) ae)))))))))),?_⟩
  refine(?_:let bP:TS:=_;let bQ:TS:=_;let bR:TS:=_;let cm:TS:=_;tSeq bP (tSeq bQ (tSeq bR cm)) _ _ _);intro bP bQ bR cm;symm;obtain⟨lo,hi,ds,go⟩:=r;have d6:=ok.1;have sl:=sizeLine_eq;have Ki:N9 lo:=Ki;have Mj:N9 hi:=Mj;have lh:lo<=hi:=lh;obtain⟨xs,hl,x0,x1,x2,x3,x6,xc,ws,xg⟩:∃xs,H l=some (.lst xs)/\fQ xs 0=some (.str (Str.ofString "from"))/\fQ xs 1=some (.str (bg lo))/\fQ xs 2=some (.str (Str.ofString "to"))/\fQ xs 3=some (.str (bg hi))/\6<=xs.length/\fo xs (some 4) (some (-2))=List.map V.str (fL ds)/\∃ws:List Str,xs=List.map V.str (ws++ [Str.ofString "go",go]):=by
   refine⟨_,hl,bE (j:=0) rfl,bE (j:=1) rfl,bE (j:=2) rfl,bE (j:=3) rfl,by simp [uG],?_,[Str.ofString "from",bg lo,Str.ofString "to",bg hi]++fL ds,rfl⟩;have:=ux [V.str (Str.ofString "from"),V.str (bg lo),V.str (Str.ofString "to"),V.str (bg hi)] (List.map V.str (fL ds)) (V.str (Str.ofString "go")) (V.str go);rw[<-this];congr 1;simp [uG]
  nofun;clear G_;refine aP (λN=>N [some (.ref l),some (.ref c),some (.ref n),none,none] H) (λN hN=>?_) ?_
  ·simp_all only[cC,hl];rw[if_pos (by omega)];refine⟨_,x0,rfl,?_⟩;rw[if_pos rfl];exact⟨_,x2,rfl,rfl,hN⟩
  refine aP (λN=>∀H1,aq H H1->N [some (.ref l),some (.ref c),some (.ref n),some (.int lo),none] H1) (λN hN=>?_) ?_
  ·simp_all only[d4,hl];exact⟨_,x1,_,rfl,lo,rfl,Ki.1,by have:=Ki.2;omega,Ki.1,Ki.2,hN⟩
  intro H1 s1;have jo:=s1 _ _ hl;refine aP (λN=>∀H2,aq H1 H2->N [some (.ref l),some (.ref c),some (.ref n),some (.int lo),some (.int hi)] H2) (λN hN=>?_) ?_
  ·simp_all only[d4,jo];exact⟨_,x3,_,rfl,hi,rfl,Mj.1,by have:=Mj.2;omega,lh,Mj.2,hN⟩
  intro H2 s2;have nF:=s2 _ _ jo;have Dz:=s2 _ _ (s1 _ _ hc);have FR:=s2 _ _ (s1 _ _ hn);clear hl jo;have call:∀KK:VK,(∀q H3,aq H2 H3->H2 q=none->b5 H2 H3 (.lst (ds.map dD)) (.ref q)->KK (.ref q) H3)->tCall zi [] E0 (tCons (tSl (rSlL K) (tVar 0) (tPart (tC (V.int 4))) (tPart (tUn (rU λi=>V.int (-i)) (tC (V.int 2))))) (tCons (tVar 1) tNil)) [some (.ref l),some (.ref c),some (.ref n),some (.int lo),some (.int hi)] H2 KK:=by
   intro KK hk;simp_all only[zi];refine⟨xs,bG.of nF,λp np=>?_⟩;rw[xc];exact⟨ds,aj,cs,ah np _ _ Dz,kr,ok,λq H3 s3 nq rq=>hk q H3 ((ah np).trans s3) (none_of (ah np) nq) (rq.low (cb.of (ah np)))⟩
  refine Dk (cP (gC rfl (cP (gC rfl (cP ?_)))));refine call _ λq H3 s3 nq rq=>?_;refine cP ?_;have goal:tCall vW [] E0 (tCons (tVar 0) (tCons (tVar 2) tNil)) [some (.ref l),some (.ref c),some (.ref n),some (.int lo),some (.int hi)] H3 λv H4=>(4<=sizeLine/\∀t H5,aq H4 H5->H4 t=none->H5 t=some (.tup [.int lo,.int hi,.ref q,v])->Q (.ref t) H5):=by
   simp_all only[vW];refine⟨ws,go,by rw[<-xg];exact s3 _ _ nF,ns,s3 _ _ FR,AU,gm,by decide,λt H4 s4 nt e4=>?_⟩;have sA:aq H H2:=s1.trans s2;have sB:=sA.trans (s3.trans s4);exact kk t H4 sB (qE (cb.of sB) e4 bH bH ((rq.mono s4).low (cb.of sA)) bK)
  exact goal
theorem lN:aS ["words","counts","when"] ["words","counts"] (ai (top 79)):=.mk
theorem Jt (T:dm P w base K mg ax aA aJ aB au aD av aL):da P w K mg base (cL P w) 4 "read_when" ["words","counts"] Gj:=by
 have aZ:=c5 T;have AJ:=Jl T;have b8:=qb T;refine T.vy.dj (λ_ _ _ _ _ _=>fB λ_ _=>rfl) λf fd F=>F.dA lN (λvs H Q E h=>?_) (λcf A outer s H vs Q E hr h=>?_)
 ·obtain⟨_,_,rfl,_⟩:=jn h;rfl
 ·symm;obtain⟨l,k,rfl,c,hl,nc,fb,n9,cs,hk,mc,kr,kk⟩:=jn h;nofun;have nd:=lN.nd;refine⟨_,(ag (aH (i:=2) (ar AJ (aa (pv 0) ae)))
  (ag (aX (ar aZ (aa (bD sf (pv 2) eB (aK _)) (aa ao ae))))
  (ag (aX (ar b8 (aa (aE aN (pv 2) af) (aa (pv 1) ae))))
  (ak (aO (pv 2)))))),?_⟩
  refine(?_:let bP:TS:=_;let bQ:TS:=_;let bR:TS:=_;let cm:TS:=_;tSeq bP (tSeq bQ (tSeq bR cm)) _ _ _);intro bP bQ bR cm;simp_all only[jA,cC,Gh];exact⟨c,hl,nc,fb,n9,λp H1 s1 e=>⟨by simp,_,e,_,rfl,_,rfl,cs,s1 _ _ hk,mc,kr,kk _ _ s1 e⟩⟩
theorem gU:aS ["words","counts","names","asked","ahead","when","deeds"] ["words","counts","names"] (ai (top 80)):=.mk
theorem Ju (T:dm P w base K mg ax aA aJ aB au aD av aL):da P w K mg base (cL P w) 6 "read_pick_row" ["words","counts","names"] Gp:=by
 have aZ:=c5 T;have wb:=Jt T;have ie:=Dh T;have eN:=xP T;have i6:=Dj T;refine T.oi.dj (λ_ _ _ _ _ _=>vG λ_ _ _=>rfl) λf fd F=>F.dA gU (λvs H Q E h=>?_) (λcf A outer s H vs Q E hr h=>?_)
 ·obtain⟨_,_,_,rfl,_⟩:=rP h;rfl
 ·symm;obtain⟨l,c,n,rfl,r,hl,cs,hc,kr,cn,ns,hn,AU,⟨nw,oc,ok,nf,gm⟩,kk⟩:=rP h;nofun;clear G_;have nd:=gU.nd;refine⟨_,(ag (aX (ar aZ (aa (dP (bD uN (aF aW (by rfl) T.z_len aaF (aa (pv 0) ae)) af (aK _)) (fk (bD bF (aE aI (pv 0) af) ao (aK _)))) (aa ao ae))))
  (ag (aH (i:=3) (bD bF (aE aI (pv 0) af) ao (aK _)))
  (ag (aH (i:=4) (dQ (di (pv 3)) af af))
  (ag (aH (i:=5) (dQ (di (pv 3)) (ar wb (aa (cA (cE (K:=K)) (pv 0) (cv af) (cv (pv 4))) (aa (pv 1) ae))) eB))
  (ag (aH (i:=6) (ar ie (aa (cA (cE (K:=K)) (pv 0) (cv (pv 4)) (cv (d8 dh af))) (aa (pv 1) ae))))
  (ag (aX (ar aZ (aa (bD (qq (K:=K)) ao (cw rfl (N:=["words","counts","names","asked","ahead","when","deeds"]) (so:=ai (top 80)) (N':=["deed"]) (k:=1) (fr:=[]) rfl rfl ⟨rfl,by ac_rfl,by ac_rfl,by ac_rfl,rfl,by ac_rfl,by ac_rfl⟩ (bw (K:=K) (pv 6)) (λ_ _ _ _ _=>(aU (i:=0) (show(["deed"]:List Str).Nodup by ac_rfl) rfl (Or.inl rfl))) (λ_ _ _ _ _=>b6)
   (λ_ _ _ _ _=>(aE aN (pv 0) af))) rfl) (aa ao ae))))
  (ak (aO (aY (aa (ar eN (aa (aE aI (pv 0) af) ae)) (aa (pv 5) (aa (pv 6) (aa (ar i6 (aa (pv 0) (aa (pv 2) ae))) ae))))))))))))),?_⟩
  refine(?_:let bP:TS:=_;let bQ:TS:=_;let bR:TS:=_;let cm:TS:=_;let fH:TS:=_;let iX:TS:=_;let nO:TS:=_;tSeq bP (tSeq bQ (tSeq bR (tSeq cm (tSeq fH (tSeq iX nO))))) _ _ _);intro bP bQ bR cm fH iX nO;symm;obtain⟨wd,wh,ds,go⟩:=r;have d6:ds.length<=6:=ok.1;have sl:=sizeLine_eq;obtain⟨xs,hx,xe,x0,x1,x4,ws,xg⟩:∃xs,H l=some (.lst xs)/\xs=List.map V.str (pN ⟨wd,wh,ds,go⟩)/\fQ xs 0=some (.str (Str.ofString "way"))/\fQ xs 1=some (.str wd)/\4<=xs.length/\∃ws:List Str,xs=List.map V.str (ws++ [Str.ofString "go",go]):=
   ⟨_,hl,rfl,bE (j:=0) rfl,bE (j:=1) rfl,by simp [pN];omega,[Str.ofString "way",wd]++gO wh++fL ds,rfl⟩
  nofun;clear G_;clear hl;obtain⟨bq,y,x2,ey,ht,hf,xc⟩:∃(bq:Bool) (y:Str),fQ xs 2=some (.str y)/\decide (y=Str.ofString "if")=bq/\(bq=true->∃cc:jt,wh=some cc/\fo xs (some 3) (some 6)=List.map V.str [cc.1,cc.2.1,bg cc.2.2])/\(bq=false->wh=none)/\fo xs (some (if bq=true then 6 else 2)) (some (-2))=List.map V.str (fL ds):=by
   clear hx x0 x1 x4 xg;subst xe;cases wh with
   | none=>
    have hy:∃y,fQ (List.map V.str (pN ⟨wd,none,ds,go⟩)) 2=some (.str y)/\y≠Str.ofString "if":=by
     cases ds with
     | nil=>exact⟨Str.ofString "go",bE (j:=2) rfl,by ac_rfl⟩
     | cons d r=>
      cases d with
      | mv a b=>exact⟨Str.ofString "move",bE (j:=2) rfl,by ac_rfl⟩
      | fc a=>exact⟨Str.ofString "face",bE (j:=2) rfl,by ac_rfl⟩
      | st k a m=>
       obtain⟨hk,_⟩:=ok.2 _ aaK;exact⟨k,bE (j:=2) rfl,by rcases hk with e | e <;>rw[e] <;>ac_rfl⟩
    symm;obtain⟨y,h2,ne⟩:=hy;nofun;refine⟨false,y,h2,decide_eq_false ne,(λe=>by cases e),λ_=>rfl,?_⟩;have hc:=ux [V.str (Str.ofString "way"),V.str wd] (List.map V.str (fL ds)) (V.str (Str.ofString "go")) (V.str go);rw[if_neg (by decide),<-hc];congr 1;simp [pN,gO]
   | some c=>
    refine⟨true,Str.ofString "if",bE (j:=2) rfl,by ac_rfl,λ_=>⟨c,rfl,?_⟩,(λe=>by cases e),?_⟩
    ·have hc:=zr [V.str (Str.ofString "way"),V.str wd,V.str (Str.ofString "if")] [V.str c.1,V.str c.2.1,V.str (bg c.2.2)] (List.map V.str (fL ds)++ [V.str (Str.ofString "go"),V.str go]);show _=[V.str c.1,V.str c.2.1,V.str (bg c.2.2)];rw[<-hc];congr 1;simp [pN,gO]
    ·have hc:=ux [V.str (Str.ofString "way"),V.str wd,V.str (Str.ofString "if"),V.str c.1,V.str c.2.1,V.str (bg c.2.2)] (List.map V.str (fL ds)) (V.str (Str.ofString "go")) (V.str go);rw[if_pos rfl,<-hc];congr 1;simp [pN,gO]
  refine aP (λN=>N [some (.ref l),some (.ref c),some (.ref n),none,none,none,none] H) (λN hN=>?_) ?_
  ·simp_all only[cC,hx];rw[if_pos (by omega)];exact⟨_,x0,rfl,rfl,hN⟩
  refine aP (λN=>N [some (.ref l),some (.ref c),some (.ref n),some (.bl bq),none,none,none] H) (λN hN=>?_) ?_
  ·simp_all only[hx];refine⟨_,x2,rfl,?_⟩;rw[show decide (V.str y=V.str (Str.ofString "if"))=bq by rw[<-ey];simp];exact hN
  refine aP (λN=>N [some (.ref l),some (.ref c),some (.ref n),some (.bl bq),some (.int (if bq=true then 6 else 2)),none,none] H) (λN hN=>?_) ?_
  ·cases bq
   ·simp_all only[];exact hN
   ·simp_all only[];exact hN
  refine aP (λN=>∀v H1,aq H H1->b5 H H1 (lj wh) v->N [some (.ref l),some (.ref c),some (.ref n),some (.bl bq),some (.int (if bq=true then 6 else 2)),some v,none] H1) (λN hN=>?_) ?_
  ·cases bq
   ·have e:=hf rfl;subst e;simp_all only[];exact hN _ _ (aq.refl _) B7
   ·symm;obtain⟨cc,e,P5⟩:=ht rfl;subst e;obtain⟨m1,m2,m3⟩:=oc cc rfl;nofun;simp_all only[Gj];refine⟨_,bG.of hx,λp np=>?_⟩;have P5:fo xs (some 3) (some 6)=[V.str cc.1,V.str cc.2.1,V.str (bg cc.2.2)]:=P5;rw[P5];exact⟨cc,aj,cn _ m1,m2,m3,cs,ah np _ _ hc,m1,kr,λq H' s' e'=>hN _ _ ((ah np).trans s') (tQ (cb.of ((ah np).trans s')) e' bK bK bH)⟩
  intro v H1 s1 rv;have jo:=s1 _ _ hx;have GK:=s1 _ _ hc;have P6:=s1 _ _ hn;refine aP (λN=>∀D H2,aq H1 H2->H1 D=none->b5 H1 H2 (.lst (ds.map dD)) (.ref D)->N [some (.ref l),some (.ref c),some (.ref n),some (.bl bq),some (.int (if bq=true then 6 else 2)),some v,some (.ref D)] H2) (λN hN=>?_) ?_
  ·simp_all only[zi];refine⟨_,bG.of jo,λp np=>?_⟩;rw[xc];exact⟨ds,aj,cs,ah np _ _ GK,kr,ok,λD H2 s2 nD rD=>hN D H2 ((ah np).trans s2) (none_of (ah np) nD) (rD.low (cb.of (ah np)))⟩
  intro D H2 s2 nD rD;symm;obtain⟨D',zs,eq,hD,rz⟩:=bU.mp rD;nofun;cases eq;have hD:=eJ _ _ hD;have lz:=rz.length;rw[aaA] at lz;have nF:=s2 _ _ jo;have FR:=s2 _ _ P6;refine aP (λN=>∀H3,aq H2 H3->N [some (.ref l),some (.ref c),some (.ref n),some (.bl bq),some (.int (if bq=true then 6 else 2)),some v,some (.ref D)] H3) (λN hN=>?_) ?_
  ·simp_all only[cC,Bb];refine⟨⟨_,bG.of hD⟩,?_⟩;have S:Src (DP K D) (aq H2) ds.length (λi x H H3=>H3=H/\zs[i]?=some x):=lz▸src_list (λH' e=>bG.of (e _ _ hD));refine dM ds (λd=>(dV d).head?) S (λ_ _ _ _ h=>h.1) (by omega) ?_ ?_
   ·rintro j d x ea ⟨_,ex⟩ Y N y1 n1;symm;obtain⟨d',ed,rd⟩:=bj.get rz ex;nofun;rw[aaG,ea] at ed;cases ed;symm;obtain⟨t',rfl,Fu⟩:=yZ.mp rd;nofun;have Fu:=eJ _ _ Fu;cases d <;>(simp_all only[jY,Fu];exact⟨_,rfl,y1 _ rfl⟩)
   ·intro E' n1 n2;refine⟨_,.inl (bG.of aj),rfl,List.all_eq_true.mpr λx hx=>?_,?_,hN _ (ah n2)⟩
    ·symm;obtain⟨d,hd,e⟩:=List.mem_filterMap.mp hx;nofun;cases d <;>cases e <;>rfl
    ·unfold HE;refine List.any_eq_false.mpr λx hx=>?_;symm;obtain⟨d,hd,e⟩:=List.mem_filterMap.mp hx;nofun;cases d with
     | mv a b=>cases e;ac_rfl
     | fc a=>exact(nf _ hd).elim
     | st k a m=>
      cases e;rcases(ok.2 _ hd).1 with e | e <;>rw[e] <;>ac_rfl
  intro H3 s3;have Dl:=s3 _ _ nF;have hn3:=s3 _ _ FR;have call:∀KK:VK,(∀H4,aq H3 H4->KK (.str wd) H4)->tCall rQ [] E0 (tCons (tOp rIxLH (tVar 0) (tC (V.int 1))) tNil) [some (.ref l),some (.ref c),some (.ref n),some (.bl bq),some (.int (if bq=true then 6 else 2)),some v,some (.ref D)] H3 KK:=by
   intro KK hk;simp_all only[rQ];exact⟨_,Dl,_,x1,_,rfl,nw,hk⟩
  refine Dk (cP ?_);refine call _ λH4 s4=>?_;refine cP (gC rfl (cP (gC rfl (cP ?_))));have hl4:=s4 _ _ Dl;have hn4:=s4 _ _ hn3;have goal:tCall vW [] E0 (tCons (tVar 0) (tCons (tVar 2) tNil)) [some (.ref l),some (.ref c),some (.ref n),some (.bl bq),some (.int (if bq=true then 6 else 2)),some v,some (.ref D)] H4 λu H5=>(4<=sizeLine/\∀t H6,aq H5 H6->H5 t=none->H6 t=some (.tup [.str wd,v,.ref D,u])->Q (.ref t) H6):=by
   simp_all only[vW];refine⟨ws,go,by rw[<-xg];exact hl4,ns,hn4,AU,gm,by decide,λt H6 s6 nt e6=>?_⟩;have sB:aq H H6:=s1.trans (s2.trans (s3.trans (s4.trans s6)));exact kk t H6 sB (qE (cb.of sB) e6 bK (rv.mono (s2.trans (s3.trans (s4.trans s6)))) ((rD.mono (s3.trans (s4.trans s6))).low (cb.of s1)) bK)
  exact goal
theorem dy:aS ["pool","rows","value","part","holding"] ["pool","rows"] (ai (top 81)):=.mk
theorem zt {f:eD->Bool}:∀{rs:List eD} {xs:List V},xs.length=rs.length->((rs.zip xs).filterMap λx=>if f x.1=true then some x.2 else none).length=(rs.filter f).length
 | [],[],_=>rfl
 | [],x::xs,h=>by simp at h
 | r::rs,[],h=>by simp at h
 | r::rs,x::xs,h=>by
  have ih:=zt (f:=f) (rs:=rs) (xs:=xs) (by simpa using h);cases c:f r <;>simp [c,ih]
theorem Fv (T:dm P w base K mg ax aA aJ aB au aD av aL):da P w K mg base (cL P w) 8 "demand_each_in_one_row" ["pool","rows"] CV:=by
 have aZ:=c5 T;have oq:=Jn T;refine T.gA.dj (λ_ _ _ _ _ _=>fB λ_ _=>rfl) λf fd F=>F.dA dy (λvs H Q E h=>?_) (λcf A outer s H vs Q E hr h=>?_)
 ·obtain⟨_,_,rfl,_⟩:=jn h;rfl
 ·symm;obtain⟨l,r,rfl,ps,hp,gl,l4,rs,rr,r4,one,kk⟩:=jn h;nofun;have nd:=dy.nd;refine⟨_,(ak (cH PassesOwn.never rfl (bw (K:=K) (ar oq (aa (pv 0) ae))) (dU (K:=K) (n:=2) rfl (bJ (aU (i:=2) nd rfl (Or.inr rfl)) (bJ (aU (i:=3) nd rfl (Or.inl rfl)) dR))) (ag (g9 (i:=4) rfl nd rfl rfl (N:=["pool","rows","value","part","holding"]) (so:=ai (top 81)) (N':=["row","value"]) (k:=1) (fr:=[2]) rfl rfl ⟨rfl,by ac_rfl,by ac_rfl,by ac_rfl,rfl,by ac_rfl,by ac_rfl⟩ (bw (K:=K) (pv 1)) (λ_ _ _ _ _=>(aU (i:=0) (show(["row","value"]:List Str).Nodup by ac_rfl) rfl (Or.inl rfl))) (λ_ _ _ _ _=>(yl (uO dS dS (aE aN (pv 0) af) (pv 1) (aE aN (pv 0) af))))
   (λ_ _ _ _ _=>(pv 0)))
  (ak (aX (ar aZ (aa (bD bF (aF aW (by rfl) T.z_len aaF (aa (pv 4) ae)) af (aK _)) (aa ao ae)))))))),?_⟩
  have sl:=sizeLine_eq;symm;obtain⟨r',xs,eq,fh,rl⟩:=bU.mp rr;nofun;cases eq;have lx:=rl.length;rw[aaA] at lx;simp_all only[Fi];refine⟨ps,hp,gl,l4,λp H1 s1 np rp=>?_⟩;symm;obtain⟨p',ts,eq,NX,rt⟩:=bU.mp rp;nofun;cases eq;have tb:=EV ps gl;refine⟨⟨_,bG.of NX⟩,b9 (src_list (Ok:=λH'=>aq H1 H') (λH' e=>bG.of (e _ _ NX))) (λi σ H'=>aq H1 H'/\∃z2 z3 z4,σ=[some (.ref l),some (.ref r),z2,z3,z4]) ⟨aq.refl _,_,_,_,rfl⟩ (λ_ _ _ _ p=>p.1) ?_ ?_⟩
  ·intro i x σ H' jB hi fG eL;symm;obtain⟨s',z2,z3,z4,rfl⟩:=fG;obtain⟨rfl,ex⟩:=eL;obtain⟨d,ed,rd⟩:=rt.get ex;rw[aaG] at ed;obtain⟨row,er,rfl⟩:=Option.map_eq_some_iff.mp ed;obtain⟨t,q,rfl,ht,hq⟩:=yy.mp rd;nofun;have bd:=tb.2 row (aaO er);simp_all only[cC,zF];have hrX:=s' _ _ (s1 _ _ fh);have rlX:=rl.mono (s1.trans s');have ht:=s' _ _ ht;refine⟨_,fM.of ht,rfl,_,_,rfl,_,_,rfl,rfl,⟨_,bG.of hrX⟩,?_⟩;have lz:(rs.zip xs).length=xs.length:=by rw[List.length_zip];omega
   have S:Src (DP K r) (aq jB) (rs.zip xs).length (λi x H H3=>H3=H/\xs[i]?=some x):=by rw[lz];exact src_list (λH' e=>bG.of (e _ _ hrX))
   refine dM (rs.zip xs) (λx=>if (decide (x.1.lo<=row.1) && decide (row.1<=x.1.hi))=true then some x.2 else none) S (λ_ _ _ _ h=>h.1) (by omega) ?_ ?_
   ·rintro j ⟨Fw,v⟩ x ea ⟨_,ex⟩ Y N y1 n1;obtain⟨e1,e2⟩:=List.getElem?_zip_eq_some.mp ea;rw[ex] at e2;cases e2;symm;obtain⟨d,ed,rd⟩:=rlX.get ex;nofun;rw[aaG,e1] at ed;cases ed;symm;obtain⟨t',a1,a2,a3,a4,rfl,Fu,q1,q2,q3,q4⟩:=B6.mp (show Rep _ (.tup _) _ from rd);obtain rfl:=kR.mp q1;obtain rfl:=kR.mp q2;nofun;simp_all only[Fu]
    by_cases c1:Fw.lo<=row.1
    ·rw[if_pos c1]
     by_cases c2:row.1<=Fw.hi
     ·rw[if_pos c2];exact y1 _ (if_pos (by simp [c1,c2]))
     ·rw[if_neg c2];exact n1 (if_neg (by simp [c2]))
    ·rw[if_neg c1,if_neg (by decide)];exact n1 (if_neg (by simp [c1]))
   ·intro D n1 n2;refine⟨_,aj,?_,s'.trans (ah n1),_,rfl⟩;rw[zt (f:=λr=>decide (r.lo<=row.1) && decide (row.1<=r.hi)) lx.symm,one _ bd.1 bd.2];rfl
  ·intro σ H' cZ;symm;obtain⟨s',z2,z3,z4,rfl⟩:=cZ;nofun;simp_all only[];exact kk H' (s1.trans s')
theorem jP:aS ["words","rows","counts","names","pool","told"] ["words","rows","counts","names"] (ai (top 82)):=.mk
theorem Jv (bs:List V) (x y:V):fo (bs++ [x,y]) none (some (-2))=bs:=by
 have h:=ux [] bs x y;unfold fo at *;rw[show(some (([]:List V).length:Int):Option Int)=some ((0:Nat):Int) from rfl,HT.fP,Nat.zero_min] at h;rw[HT.oP];exact h
theorem Fx {H:Hp} {p:Pq} {v:V}:Rep H (E3 (F7 p)) v↔∃q,v=.ref q/\H q=some (.tup (IM p)):=by
 cases p with
 | num n=>exact Cp
 | cB m s=>exact tZ
 | many k n m s=>exact Cq
 | one k n s=>exact tZ
theorem Fy {G H:Hp} {L:Addr} {ps:List Pq} (h:pM H L ps) (n:G L=none) (s:cb G H):b5 G H (mY ps) (.ref L):=by
 obtain⟨xs,hl,lx,hx⟩:=h;refine cY n hl (bj.of (by rw[aaA,aaA];omega) λi d v e1 e2=>?_);rw[aaG,aaG] at e1;obtain⟨t,et,rfl⟩:=Option.map_eq_some_iff.mp e1;obtain⟨p,ep,rfl⟩:=Option.map_eq_some_iff.mp et;obtain⟨q,eq,hq⟩:=hx i p ep;rw[eq] at e2;cases e2;refine Fx.mpr ⟨q,rfl,?_⟩;rw[dX λzs z=>by obtain⟨ws,e⟩:=s _ _ z;rw[hq] at e;cases e];exact hq
theorem Jw (T:dm P w base K mg ax aA aJ aB au aD av aL):da P w K mg base (cL P w) 9 "read_throw" ["words","rows","counts","names"] Gq:=by
 have aZ:=c5 T;have nj:=Jm T;have nk:=Js T;have gD:=Fv T;have ig:=Dg T;refine T.tJ.dj (λ_ _ _ _ _ _=>vH λ_ _ _ _=>rfl) λf fd F=>F.dA jP (λvs H Q E h=>?_) (λcf A outer s H vs Q E hr h=>?_)
 ·obtain⟨_,_,_,_,rfl,_⟩:=m4 h;rfl
 ·symm;obtain⟨l,r,c,n,rfl,ps,a,b,rs,hl,rp,cs,hc,kr,ns,hn,AU,⟨p9,sh,r1,r4,ok,one⟩,kk⟩:=m4 h;nofun;have nd:=jP.nd;refine⟨_,(ag (aX (ar aZ (aa (dP (bD uN (aF aW (by rfl) T.z_len aaF (aa (pv 0) ae)) af (aK _)) (fk (bD bF (aE aI (pv 0) (d8 dh af)) ao (aK _)))) (aa ao ae))))
  (ag (aX (ar aZ (aa (iG dS dS af (aF aW (by rfl) T.z_len aaF (aa (pv 1) ae)) (b7 rfl T.c_MOST_THROW_ROWS)) (aa ao ae))))
  (ag (aH (i:=4) (ar nj (aa (cu abe PySem.F.slot_str_join PySem.F.type_str_join (gJ (K:=K)) ao (aa (cA (cE (K:=K)) (pv 0) dr (cv (d8 dh af))) ae)) ae)))
  (ag (g9 (i:=5) rfl nd rfl rfl (N:=["words","rows","counts","names","pool","told"]) (so:=ai (top 82)) (N':=["row","counts","names"]) (k:=1) (fr:=[2,3]) rfl rfl ⟨rfl,by ac_rfl,by ac_rfl,by ac_rfl,rfl,by ac_rfl,by ac_rfl⟩ (bw (K:=K) (pv 1)) (λ_ _ _ _ _=>(aU (i:=0) (show(["row","counts","names"]:List Str).Nodup by ac_rfl) rfl (Or.inl rfl))) (λ_ _ _ _ _=>b6)
   (λ_ _ _ _ _=>(ar nk (aa (pv 0) (aa (pv 1) (aa (pv 2) ae))))))
  (ag (aX (ar gD (aa (pv 4) (aa (pv 5) ae))))
  (ak (aO (aY (aa ao (aa (pv 4) (aa (ar ig (aa (aE aI (pv 0) (d8 dh af)) ae)) (aa (pv 5) ae)))))))))))),?_⟩
  refine(?_:let bP:TS:=_;let bQ:TS:=_;let bR:TS:=_;let cm:TS:=_;let fH:TS:=_;let iX:TS:=_;tSeq bP (tSeq bQ (tSeq bR (tSeq cm (tSeq fH iX)))) _ _ _);intro bP bQ bR cm fH iX;have sl:=sizeLine_eq;have gp:=zd p9;symm;obtain⟨q0,ys,eq,fh,rl⟩:=bU.mp rp;nofun;cases eq;have lr:=rl.length;rw[aaA,aaA] at lr;obtain⟨xs,hl,x2,x1,x3,xc⟩:∃xs,H l=some (.lst xs)/\fQ xs (-2)=some (.str (Str.ofString "pay"))/\fQ xs (-1)=some (.str (iA a b))/\3<=xs.length/\fo xs none (some (-2))=List.map V.str (pO ps):=by
   refine⟨_,hl,Di _ _ _,?_,?_,?_⟩
   ·show fQ (List.map V.str (pO ps++ [Str.ofString "pay",iA a b])) (-1)=_;rw[show pO ps++ [Str.ofString "pay",iA a b]=(pO ps++ [Str.ofString "pay"])++ [iA a b] by simp,aaM];exact uU _ _
   ·have:=List.length_pos_iff.mpr (xC gp.1);simp [wW];omega
   ·have:=Jv (List.map V.str (pO ps)) (V.str (Str.ofString "pay")) (V.str (iA a b));rw[<-this];simp [wW]
  refine aP (λN=>N [some (.ref l),some (.ref r),some (.ref c),some (.ref n),none,none] H) (λN hN=>?_) ?_
  ·simp_all only[cC,hl];rw[if_pos (by omega)];exact⟨_,x2,rfl,rfl,hN⟩
  refine aP (λN=>N [some (.ref l),some (.ref r),some (.ref c),some (.ref n),none,none] H) (λN hN=>?_) ?_
  ·simp_all only[cC,fh];rw[if_pos (by omega)];exact⟨by omega,hN⟩
  refine aP (λN=>∀L H1,aq H H1->H L=none->pM H1 L ps->N [some (.ref l),some (.ref r),some (.ref c),some (.ref n),some (.ref L),none] H1) (λN hN=>?_) ?_
  ·simp_all only[zg];refine⟨rfl,_,bG.of hl,λp np=>?_⟩;rw[xc];refine⟨pO ps,bG.of aj,iQ (B:=10) (pP gp.2.2) (by have:=uc ps;have:=gp.2.1;omega) (by decide) (by ac_rfl),ps,ud ps,gp,λL H1 s1 nL pL=>hN L H1 ((ah np).trans s1) (none_of (ah np) nL) pL⟩
  intro L H1 s1 nL pL;have jo:=s1 _ _ hl;have hr1:=s1 _ _ fh;have GK:=s1 _ _ hc;have P6:=s1 _ _ hn;refine aP (λN=>∀R H2,aq H1 H2->H1 R=none->b5 H1 H2 (.lst (rs.map wz)) (.ref R)->N [some (.ref l),some (.ref r),some (.ref c),some (.ref n),some (.ref L),some (.ref R)] H2) (λN hN=>?_) ?_
  ·simp_all only[];refine⟨⟨_,bG.of hr1⟩,ni uG wz rs hr1 (rl.mono s1) (by omega) ?_ λzs H5 s5 rz D n1 n2=>hN D _ (s5.trans (ah n2)) n1 (cY n1 aj (rz.mono (ah n2)))⟩;intro Fw q v0 H4 Q2 mr s4 hq kq;simp_all only[Gn];exact⟨Fw,hq,cs,s4 _ _ GK,kr,ns,s4 _ _ P6,AU,ok Fw mr,λp H6 s6 rb=>kq _ _ s6 (rb.low (cb.of s4))⟩
  intro R H2 s2 nR rR;have pL2:=pL.mono s2;have nF:=s2 _ _ jo;symm;obtain⟨ps7,gl7,l7,ph7⟩:=Jh pL2 p9;nofun;refine aP (λN=>∀H3,aq H2 H3->N [some (.ref l),some (.ref r),some (.ref c),some (.ref n),some (.ref L),some (.ref R)] H3) (λN hN=>?_) ?_
  ·simp_all only[CV];exact⟨ps7,ph7,gl7,l7,rs,rR.rep,r4,one,hN⟩
  intro H3 s3;have Dl:=s3 _ _ nF;simp_all only[vV];refine⟨_,Dl,_,x1,_,rfl,a,b,rfl,sh,λp H4 s4 e4=>⟨by decide,λt H5 s5 nt e5=>?_⟩⟩;have sA:aq H H4:=s1.trans (s2.trans (s3.trans s4));have sB:aq H H5:=sA.trans s5;exact kk t H5 sB (qE (cb.of sB) e5 bK (Fy (pL2.mono (s3.trans (s4.trans s5))) nL (cb.of sB)) (js (cb.of sB) (s5 _ _ e4) bH bH) ((rR.mono (s3.trans (s4.trans s5))).low (cb.of s1)))
theorem lO:aS ["words","rows","counts","names","told"] ["words","rows","counts","names"] (ai (top 83)):=.mk
theorem Jx (T:dm P w base K mg ax aA aJ aB au aD av aL):da P w K mg base (cL P w) 7 "read_pick" ["words","rows","counts","names"] Gr:=by
 have aZ:=c5 T;have ou:=Ju T;have df:=xQ T;refine T.vz.dj (λ_ _ _ _ _ _=>vH λ_ _ _ _=>rfl) λf fd F=>F.dA lO (λvs H Q E h=>?_) (λcf A outer s H vs Q E hr h=>?_)
 ·obtain⟨_,_,_,_,rfl,_⟩:=m4 h;rfl
 ·symm;obtain⟨l,r,c,n,rfl,k,rs,hl,rp,cs,hc,kr,cn,ns,hn,AU,⟨k12,r1,r4,ok,wn⟩,kk⟩:=m4 h;nofun;have nd:=lO.nd;refine⟨_,(ag (aX (ar aZ (aa (dP (bD bF (aF aW (by rfl) T.z_len aaF (aa (pv 0) ae)) af (aK _)) (fk (bD (j4 (K:=K) (w:=w)) (aE aI (pv 0) af) (dG (v:=V.ref _) rfl T.g_PERSONS rfl) rfl))) (aa ao ae))))
  (ag (aX (ar aZ (aa (iG dS dS af (aF aW (by rfl) T.z_len aaF (aa (pv 1) ae)) (b7 rfl T.c_MOST_PICK_ROWS)) (aa ao ae))))
  (ag (g9 (i:=4) rfl nd rfl rfl (N:=["words","rows","counts","names","told"]) (so:=ai (top 83)) (N':=["row","counts","names"]) (k:=1) (fr:=[2,3]) rfl rfl ⟨rfl,by ac_rfl,by ac_rfl,by ac_rfl,rfl,by ac_rfl,by ac_rfl⟩ (bw (K:=K) (pv 1)) (λ_ _ _ _ _=>(aU (i:=0) (show(["row","counts","names"]:List Str).Nodup by ac_rfl) rfl (Or.inl rfl))) (λ_ _ _ _ _=>b6)
   (λ_ _ _ _ _=>(ar ou (aa (pv 0) (aa (pv 1) (aa (pv 2) ae))))))
  (ag (aX (ar df (aa (cw rfl (N:=["words","rows","counts","names","told"]) (so:=ai (top 83)) (N':=["row"]) (k:=1) (fr:=[]) rfl rfl ⟨rfl,by ac_rfl,by ac_rfl,by ac_rfl,rfl,by ac_rfl,by ac_rfl⟩ (bw (K:=K) (pv 4)) (λ_ _ _ _ _=>(aU (i:=0) (show(["row"]:List Str).Nodup by ac_rfl) rfl (Or.inl rfl))) (λ_ _ _ _ _=>b6)
   (λ_ _ _ _ _=>(aE aN (pv 0) af))) ae)))
  (ak (aO (aY (aa ao (aa (vm (K:=K) (w:=w) (dG (v:=V.ref _) rfl T.g_PERSONS rfl) (aE aI (pv 0) af) (λ_ _=>rfl)) (aa (pv 4) ae)))))))))),?_⟩
  refine(?_:let bP:TS:=_;let bQ:TS:=_;let bR:TS:=_;let cm:TS:=_;let fH:TS:=_;tSeq bP (tSeq bQ (tSeq bR (tSeq cm fH))) _ _ _);intro bP bQ bR cm fH;have sl:=sizeLine_eq;symm;obtain⟨q0,ys,eq,fh,rl⟩:=bU.mp rp;nofun;cases eq;have lr:=rl.length;rw[aaA,aaA] at lr;have hl:H l=some (.lst [V.str (bg k)]):=hl;obtain⟨mi,mk⟩:jq K av (bg k) k/\(["1","2"]:List Str).any (λy=>decide (y=bg k))=true:=by
   rcases k12 with rfl | rfl
   ·exact⟨T.v_PERSONS_1,by ac_rfl⟩
   ·exact⟨T.v_PERSONS_2,by ac_rfl⟩
  refine aP (λN=>N [some (.ref l),some (.ref r),some (.ref c),some (.ref n),none] H) (λN hN=>?_) ?_
  ·simp_all only[cC,hl];rw[if_pos (show((1:Nat):Int)=1 from rfl)];refine dN.rd T.m_PERSONS ?_;rw[mk];exact⟨_,rfl,rfl,hN⟩
  refine aP (λN=>N [some (.ref l),some (.ref r),some (.ref c),some (.ref n),none] H) (λN hN=>?_) ?_
  ·simp_all only[cC,fh];rw[if_pos (by omega)];exact⟨by omega,hN⟩
  refine aP (λN=>∀R H2,aq H H2->H R=none->∀zs,H2 R=some (.lst zs)->cg H H2 (rs.map Ct) zs->N [some (.ref l),some (.ref r),some (.ref c),some (.ref n),some (.ref R)] H2) (λN hN=>?_) ?_
  ·simp_all only[];refine⟨⟨_,bG.of fh⟩,ni pN Ct rs fh rl (by omega) ?_ λzs H5 s5 rz D n1 n2=>hN D _ (s5.trans (ah n2)) n1 zs aj (rz.mono (ah n2))⟩;intro Fw q v0 H4 Q2 mr s4 hq kq;simp_all only[Gp];exact⟨Fw,hq,cs,s4 _ _ hc,kr,cn,ns,s4 _ _ hn,AU,ok Fw mr,λp H6 s6 rb=>kq _ _ s6 (rb.low (cb.of s4))⟩
  intro R H2 s2 nR zs hR rz;have nF:=s2 _ _ hl;have lz:=rz.length;rw[aaA] at lz;refine aP (λN=>∀H3,aq H2 H3->N [some (.ref l),some (.ref r),some (.ref c),some (.ref n),some (.ref R)] H3) (λN hN=>?_) ?_
  ·simp_all only[zh];refine⟨⟨_,bG.of hR⟩,?_⟩;have S:Src (DP K R) (aq H2) rs.length (λi x H H3=>H3=H/\zs[i]?=some x):=lz▸src_list (λH' e=>bG.of (e _ _ hR));refine dM rs (λx=>some (.str x.wd)) S (λ_ _ _ _ h=>h.1) (by omega) ?_ ?_
   ·rintro j Fw x ea ⟨_,ex⟩ Y N y1 n1;symm;obtain⟨d,ed,rd⟩:=bj.get rz ex;nofun;rw[aaG,ea] at ed;cases ed;symm;obtain⟨t',a1,a2,a3,a4,rfl,Fu,q1,q2,q3,q4⟩:=B6.mp (show Rep _ (.tup _) _ from rd);obtain rfl:=fV.mp q1;nofun;have Fu:=eJ _ _ Fu;simp_all only[jY,Fu];exact y1 _ rfl
   ·intro D n1 n2;have e:rs.filterMap (λx=>some (V.str x.wd))=List.map V.str (rs.map (·.wd)):=by rw[abb,List.filterMap_eq_map'];rfl
    rw[e];exact⟨_,aj,wn,by rw[aaA];omega,λH' s'=>hN H' ((ah n2).trans s')⟩
  intro H3 s3;have Dl:=s3 _ _ nF;symm;obtain⟨es,nn,t,J2,P2,J1⟩:=mi.rd T.m_PERSONS;nofun;simp_all only[xr,Dl];refine⟨es,nn,J2,P2,k,t,J1,by decide,λp H4 s4 np e4=>?_⟩;have sA:aq H H4:=s2.trans (s3.trans s4);exact kk p H4 sA (tQ (cb.of sA) e4 bK bH (cY nR (s4 _ _ (s3 _ _ hR)) (rz.mono (s3.trans s4))))
theorem nS:aS ["words","counts","behind","count","number"] ["words","counts","behind"] (ai (top 84)):=.mk
theorem Jy (T:dm P w base K mg ax aA aJ aB au aD av aL):da P w K mg base (cL P w) 4 "read_ask" ["words","counts","behind"] zj:=by
 have aZ:=c5 T;have b8:=qb T;have bX:=ur T;refine T.xw.dj (λ_ _ _ _ _ _=>vG λ_ _ _=>rfl) λf fd F=>F.dA nS (λvs H Q E h=>?_) (λcf A outer s H vs Q E hr h=>?_)
 ·obtain⟨_,_,_,rfl,_⟩:=rP h;rfl
 ·symm;obtain⟨l,c,n,rfl,a,k,g,e,hl,cs,hc,kr,bs,hn,GL,⟨ma,n9,P4,me⟩,kk⟩:=rP h;nofun;have nd:=nS.nd;refine⟨_,(ag (aX (ar aZ (aa (bD bF (aF aW (by rfl) T.z_len aaF (aa (pv 0) ae)) af (aK _)) (aa ao ae))))
  (ag (aX (ar aZ (aa (dP (bD bF (aE aI (pv 0) af) ao (aK _)) (dP (bD bF (aE aI (pv 0) af) ao (aK _)) (fk (bD bF (aE aI (pv 0) af) ao (aK _))))) (aa ao ae))))
  (ag (aH (i:=3) (ar b8 (aa (aE aI (pv 0) af) (aa (pv 1) ae))))
  (ag (aH (i:=4) (ar bX (aa (aE aI (pv 0) af) (aa af (aa (b7 rfl T.c_MOST_NUMBER_games) ae)))))
  (ak (aO (aY (aa ao (aa (pv 3) (aa (pv 4) (aa (ar b8 (aa (aE aI (pv 0) af) (aa (pv 2) ae))) (aa (ar b8 (aa (aE aI (pv 0) af) (aa (pv 2) ae))) ae)))))))))))),?_⟩
  refine(?_:let bP:TS:=_;let bQ:TS:=_;let bR:TS:=_;let cm:TS:=_;let fH:TS:=_;tSeq bP (tSeq bQ (tSeq bR (tSeq cm fH))) _ _ _);intro bP bQ bR cm fH;have hl:H l=some (.lst [V.str a,V.str (Str.ofString "from"),V.str (bg k),V.str (Str.ofString "go"),V.str g,V.str (Str.ofString "else"),V.str e]):=hl;simp_all only[jA,cC,d4,hl];refine⟨rfl,V.str (Str.ofString "go"),rfl,rfl,?_⟩;rw[if_pos rfl];exact⟨V.str (Str.ofString "else"),rfl,rfl,rfl,cs,hc,ma,kr,k,rfl,n9.1,by have:=n9.2;omega,n9.1,n9.2,λH1 s1=>⟨_,s1 _ _ hl,_,rfl,_,rfl,bs,s1 _ _ hn,P4,GL,_,s1 _ _ hl,_,rfl,_,rfl,bs,s1 _ _ hn,me,GL,by decide,λp H2 s2 np e2=>
   kk p H2 (s1.trans s2) (pH (cb.of (s1.trans s2)) e2 (bA bK (bA bK (bA bH (bA bK (bA bK cN))))))⟩⟩
theorem jQ:aS ["kind","words","counts","behind"] ["kind","words","counts","behind"] (ai (top 85)):=.mk
theorem Jz (T:dm P w base K mg ax aA aJ aB au aD av aL):da P w K mg base (cL P w) 5 "read_plain" ["kind","words","counts","behind"] zk:=by
 have aZ:=c5 T;have xR:=Jy T;have ig:=Dg T;have b8:=qb T;refine T.tK.dj (λ_ _ _ _ _ _=>vH λ_ _ _ _=>rfl) λf fd F=>F.dA jQ (λvs H Q E h=>?_) (λcf A outer s H vs Q E hr h=>?_)
 ·obtain⟨_,_,_,_,rfl,_⟩:=CO h;rfl
 ·symm;obtain⟨k,l,c,n,rfl,x,rfl,pl,hl,cs,hc,kr,bs,hn,GL,ok,kk⟩:=CO h;nofun;have nd:=jQ.nd;refine⟨_,(ag (bp (aM bF (pv 0) ao (aK _)) (ak (aO (ar xR (aa (pv 1) (aa (pv 2) (aa (pv 3) ae))))))
   aT)
  (ag (aX (ar aZ (aa (dP (bD wV (pv 0) (aY (aa ao (aa ao ae))) rfl) (fk (bD bF (aF aW (by rfl) T.z_len aaF (aa (pv 1) ae)) af (aK _)))) (aa ao ae))))
  (ag (bp (aM bF (pv 0) ao (aK _)) (ak (aO (aY (aa ao (aa (ar ig (aa (aE aI (pv 1) af) ae)) ae)))))
   aT)
  (ak (aO (aY (aa ao (aa (ar b8 (aa (aE aI (pv 1) af) (aa (pv 2) ae))) ae)))))))),?_⟩
  refine(?_:let bP:TS:=_;let bQ:TS:=_;let bR:TS:=_;let cm:TS:=_;tSeq bP (tSeq bQ (tSeq bR cm)) _ _ _);intro bP bQ bR cm;cases x with
  | eC ps a b rs=>exact pl.elim
  | jx k rs=>exact pl.elim
  | fin a b=>
   have hl:H l=some (.lst [V.str (iA a b)]):=hl;simp_all only[jA,cC,vV,zj,hl,wK];rw[if_neg (by ac_rfl)];refine⟨by decide,λp H1 s1 np e1=>⟨_,e1,rfl,rfl,?_⟩⟩;rw[if_pos (by ac_rfl)];exact⟨_,s1 _ _ hl,rfl,_,s1 _ _ hl,_,rfl,_,rfl,a,b,rfl,ok,λp H3 s3 e3=>⟨by decide,λq H4 s4 nq e4=>kk q H4 (s1.trans (s3.trans s4)) (js (cb.of (s1.trans (s3.trans s4))) e4 bK (js (cb.of (s1.trans (s3.trans s4))) (s4 _ _ e3) bH bH))⟩⟩
  | qG a=>
   have hl:H l=some (.lst [V.str a]):=hl;simp_all only[jA,cC,vV,zj,hl,wK];rw[if_neg (by ac_rfl)];refine⟨by decide,λp H1 s1 np e1=>⟨_,e1,rfl,rfl,?_⟩⟩;rw[if_pos (by ac_rfl)];refine⟨_,s1 _ _ hl,rfl,?_⟩;rw[if_neg (by ac_rfl)];exact⟨_,s1 _ _ hl,_,rfl,_,rfl,cs,s1 _ _ hc,ok,kr,by decide,λq H4 s4 nq e4=>kk q H4 (s1.trans s4) (js (cb.of (s1.trans s4)) e4 bK bK)⟩
  | ask a k g e=>
   simp_all only[jA,cC,vV,zj,hl,wK];exact⟨a,k,g,e,rfl,cs,hc,kr,bs,hn,GL,ok,kk⟩
theorem lP:aS ["group","counts","names","behind","kind","words","rows"] ["group","counts","names","behind"] (ai (top 86)):=.mk
theorem JA (T:dm P w base K mg ax aA aJ aB au aD av aL):da P w K mg base (cL P w) 10 "read_what" ["group","counts","names","behind"] CW:=by
 have aZ:=c5 T;have uy:=Jw T;have wc:=Jx T;have uz:=Jz T;refine T.vA.dj (λ_ _ _ _ _ _=>vH λ_ _ _ _=>rfl) λf fd F=>F.dA lP (λvs H Q E h=>?_) (λcf A outer s H vs Q E hr h=>?_)
 ·obtain⟨_,_,_,_,rfl,_⟩:=m4 h;rfl
 ·symm;obtain⟨l,c,n,b,rfl,p,rp,cs,hc,kr,cn,ns,hn,AU,bs,hb,GL,ok,kk⟩:=m4 h;nofun;clear G_;have nd:=lP.nd;refine⟨_,(ag (aH (i:=4) (aE aI (aE aI (pv 0) af) af))
  (ag (aH (i:=5) (cA (cE (K:=K)) (aE aI (pv 0) af) (cv af) dr))
  (ag (aH (i:=6) (cA (cE (K:=K)) (pv 0) (cv af) dr))
  (ag (bp (aM bF (pv 4) ao (aK _)) (ak (aO (ar uy (aa (pv 5) (aa (pv 6) (aa (pv 1) (aa (pv 2) ae)))))))
   aT)
  (ag (bp (aM bF (pv 4) ao (aK _)) (ak (aO (ar wc (aa (pv 5) (aa (pv 6) (aa (pv 1) (aa (pv 2) ae)))))))
   aT)
  (ag (aX (ar aZ (aa (bD bF (aF aW (by rfl) T.z_len aaF (aa (pv 6) ae)) af (aK _)) (aa ao ae))))
  (ak (aO (ar uz (aa (pv 4) (aa (pv 5) (aa (pv 1) (aa (pv 3) ae))))))))))))),?_⟩
  refine(?_:let bP:TS:=_;let bQ:TS:=_;let bR:TS:=_;let cm:TS:=_;let fH:TS:=_;let iX:TS:=_;let nO:TS:=_;tSeq bP (tSeq bQ (tSeq bR (tSeq cm (tSeq fH (tSeq iX nO))))) _ _ _);intro bP bQ bR cm fH iX nO;symm;obtain⟨q0,xs,eq,hl,rl⟩:=bU.mp rp;nofun;clear G_;cases eq;symm;obtain⟨v0,r0,rfl,rv,rr⟩:=bN.mp (show bj H (AR (iy p.1 p.2)::(Ge p.2).map AR) xs from rl);obtain⟨q1,rfl,wu⟩:=m7.mp rv;nofun;clear G_;have wu:H q1=some (.lst (V.str (Str.ofString "place")::V.str p.1::V.str (wK p.2)::List.map V.str (wW p.2))):=wu;refine aP (λN=>N [some (.ref l),some (.ref c),some (.ref n),some (.ref b),some (.str (wK p.2)),none,none] H) (λN hN=>?_) ?_
  ·simp_all only[hl,wu];exact hN
  refine aP (λN=>∀D H1,aq H H1->H1 D=some (.lst (List.map V.str (wW p.2)))->N [some (.ref l),some (.ref c),some (.ref n),some (.ref b),some (.str (wK p.2)),some (.ref D),none] H1) (λN hN=>?_) ?_
  ·simp_all only[hl];refine⟨_,bG.of wu,λD nD=>?_⟩;rw[gP (by decide)];exact hN D _ (ah nD) aj
  intro D H1 s1 hD;refine aP (λN=>∀G H2,aq H1 H2->H2 G=some (.lst r0)->N [some (.ref l),some (.ref c),some (.ref n),some (.ref b),some (.str (wK p.2)),some (.ref D),some (.ref G)] H2) (λN hN=>?_) ?_
  ·simp_all only[s1 _ _ hl];refine⟨_,bG.of (s1 _ _ hl),λG nG=>?_⟩;rw[gP (by decide)];exact hN G _ (ah nG) aj
  intro G H2 s2 hG;have JB:=s2 _ _ hD;have sA:=s1.trans s2;have Dz:=sA _ _ hc;have FR:=sA _ _ hn;have EJ:=sA _ _ hb;have rr2:Rep H2 (.lst ((Ge p.2).map AR)) (.ref G):=bU.mpr ⟨G,_,rfl,hG,rr.mono sA⟩;generalize p.2=x at *;have out:∀t H3,aq H2 H3->b5 H2 H3 (wD x) (.ref t)->Q (.ref t) H3:=λt H3 s3 r=>kk t H3 (sA.trans s3) (r.low (cb.of sA));cases x with
  | eC ps a b' rs=>
   simp_all only[Gq,wK];exact⟨ps,a,b',rs,JB,rr2,cs,Dz,kr,ns,FR,AU,ok,out⟩
  | jx k rs=>
   simp_all only[Gr,wK];rw[if_neg (by ac_rfl)];exact⟨k,rs,JB,rr2,cs,Dz,kr,cn,ns,FR,AU,ok,out⟩
  | fin a b'=>
   have e0:r0=[]:=cM.mp rr;subst e0;simp_all only[cC,zk,wK];rw[if_neg (by ac_rfl),if_neg (by ac_rfl)];exact⟨_,hG,rfl,.fin a b',rfl,trivial,JB,cs,Dz,kr,bs,EJ,GL,ok,out⟩
  | qG a=>
   have e0:r0=[]:=cM.mp rr;subst e0;simp_all only[cC,zk,wK];rw[if_neg (by ac_rfl),if_neg (by ac_rfl)];exact⟨_,hG,rfl,.qG a,rfl,trivial,JB,cs,Dz,kr,bs,EJ,GL,ok,out⟩
  | ask a k g e=>
   have e0:r0=[]:=cM.mp rr;subst e0;simp_all only[cC,zk,wK];rw[if_neg (by ac_rfl),if_neg (by ac_rfl)];exact⟨_,hG,rfl,.ask a k g e,rfl,trivial,JB,cs,Dz,kr,bs,EJ,GL,ok,out⟩
theorem qc:aS ["rows","groups","words"] ["rows"] (ai (top 87)):=.mk
theorem xS {K:PySem.W.Frag} {i:Nat} {l:Addr} {x:TE} {D:Ends} {σ:L2.St} {H:Hp} (e:σ[i]?=some (some (.ref l))) (ty:J0 K "list" (.ref l) H) (h:x σ H λy H1=>∃xs,H1 l=some (.lst xs)/\xs.length<sizeLine/\D.nx σ (upd H1 l (.lst (xs++ [y])))):tDrop (tBM K "list" ck (tVar i) (tCons x tNil)) D σ H:=by
 have q:(fun(y:V) (H1:Hp)=>ck (.ref l) [y] H1 λ_ H2=>D.nx σ H2)=λy H1=>∃xs,H1 l=some (.lst xs)/\xs.length<sizeLine/\D.nx σ (upd H1 l (.lst (xs++ [y]))):=by
  funext y H1;apply propext;unfold ck;constructor
  ·rintro⟨_,xs,_,e1,e2,h⟩;cases e1;cases e2;exact⟨xs,h⟩
  ·rintro⟨xs,h⟩;exact⟨_,xs,_,rfl,rfl,h⟩
 unfold tDrop tBM tVar;rw[e];refine⟨ty,?_⟩;show x σ H (fun(y:V) (H1:Hp)=>ck (.ref l) [y] H1 λ_ H2=>D.nx σ H2);rw[q];exact h
theorem uA {t:TA} {σ:L2.St} {H:Hp} {Q:VK} (h:t σ H λvs H1=>vs.length<=sizeLine/\∀p H2,aq H1 H2->H1 p=none->H2 p=some (.tup vs)->Q (.ref p) H2):tTupS t σ H Q:=h
theorem xT {σ:L2.St} {H:Hp} {Q:List V->Hp->Prop} (h:Q [] H):tNil σ H Q:=h
abbrev Gt:=Addr×List (List Str)×List V
theorem Dp {H':Hp}:∀{ts:List Gt},(∀x∈ts,H' x.1=some (.lst x.2.2)/\bj H' (x.2.1.map AR) x.2.2)->bj H' ((ts.map (·.2.1)).map pV) (ts.map λt=>V.ref t.1)
 | [],_=>cM.mpr rfl
 | x::r,h=>bN.mpr ⟨_,_,rfl,bU.mpr ⟨_,_,rfl,(h x (by simp)).1,(h x (by simp)).2⟩,Dp λy hy=>h y (aaJ _ hy)⟩
theorem JC (as:List V) (x:V):fQ (as++ [x]) (-1)=some x:=by
 have l:(as++ [x]).length=as.length+1:=by simp
 unfold fQ;rw[l];have e:zQ (as.length+1) (-1)=some as.length:=by
  unfold zQ;rw[if_neg (by decide),if_pos (by omega)];congr 1;omega
 rw[e];simp
structure Gi (H H':Hp) (G:Addr) (ts:List Gt) (t:Gt):Prop where
 s:aq H H'
 g:H' G=some (.lst ((ts++ [t]).map λt=>V.ref t.1))
 a:∀x∈ts++ [t],H x.1=none/\x.1≠G/\H' x.1=some (.lst x.2.2)/\bj H (x.2.1.map AR) x.2.2
 n:∀x∈ts,x.1≠t.1
 o:H G=none
theorem Gi.new {H H':Hp} {G:Addr} {ts:List Gt} {t:Gt} (h:Gi H H' G ts t) {p:Addr} (np:H' p=none):Gi H (upd (upd H' p (.lst [])) G (.lst ((ts++ [t]).map (λt=>V.ref t.1)++ [V.ref p]))) G (ts++ [t]) (p,[],[]):=by
 have nG:p≠G:=λz=>by rw[z,h.g] at np;cases np
 have nx:∀x∈ts++ [t],x.1≠p:=λx hx z=>by have:=(h.a x hx).2.2.1;rw[z,np] at this;cases this
 refine⟨bL (h.s.trans (ah np)) h.o,?_,λx hx=>?_,nx,h.o⟩
 ·rw[aj,aaM (l₁:=ts++ [t])];rfl
 ·rcases List.mem_append.mp hx with hx | hx
  ·obtain⟨a,b,c,d⟩:=h.a x hx;exact⟨a,b,by rw[aV b,aV (nx x hx)];exact c,d⟩
  ·rw[List.mem_singleton.mp hx];exact⟨none_of h.s np,nG,by rw[aV nG,aj],cM.mpr rfl⟩
theorem Gi.push {H H':Hp} {G:Addr} {ts:List Gt} {t:Gt} (h:Gi H H' G ts t) {ws:List Str} {q:Addr} (hq:H q=some (.lst (ws.map V.str))):Gi H (upd H' t.1 (.lst (t.2.2++ [V.ref q]))) G ts (t.1,t.2.1++ [ws],t.2.2++ [V.ref q]):=by
 obtain⟨a,b,c,d⟩:=h.a t (by simp);refine⟨bL h.s a,?_,λx hx=>?_,h.n,h.o⟩
 ·rw[aV (Ne.symm b),h.g,aaM,aaM];rfl
 ·rcases List.mem_append.mp hx with hx | hx
  ·obtain⟨a,b,c,d⟩:=h.a x (List.mem_append_left _ hx);exact⟨a,b,by rw[aV (h.n x hx)];exact c,d⟩
  ·rw[List.mem_singleton.mp hx];refine⟨a,b,aj,?_⟩;rw[aaM];exact d.append (bN.mpr ⟨_,_,rfl,m7.mpr ⟨q,rfl,hq⟩,cM.mpr rfl⟩)
theorem JD (T:dm P w base K mg ax aA aJ aB au aD av aL):da P w K mg base (cL P w) 1 "grouped" ["rows"] Gs:=by
 refine T.Ax.dj (λ_ _ _ _ _ _=>du λ_=>rfl) λf fd F=>F.dA qc (λvs H Q E h=>?_) (λcf A outer s H vs Q E hr h=>?_)
 ·obtain⟨_,rfl,_⟩:=jy h;rfl
 ·symm;obtain⟨r,rfl,zf,rp,aak,wn,kk⟩:=jy h;nofun;clear G_;have nd:=qc.nd;refine⟨_,(ag (aH (i:=1) (bx (aa (bx ae) ae)))
  (ag (cH PassesOwn.never rfl (bw (K:=K) (pv 0)) (aU (i:=2) nd rfl (Or.inl rfl)) (ag (bp (aM bF (aE aI (pv 2) af) ao (aK _)) (ak (aX (cu aaV aaZ aa0 bY.r (pv 1) (aa (bx ae) ae))))
   aT)
  (ak (aX (cu aaV aaZ aa0 bY.r (aE aI (pv 1) (d8 dh af)) (aa (pv 2) ae))))))
  (ak (aO (pv 1))))),?_⟩
  refine(?_:let bP:TS:=_;let bQ:TS:=_;let bR:TS:=_;tSeq bP (tSeq bQ bR) _ _ _);intro bP bQ bR;have sl:=sizeLine_eq;symm;obtain⟨q0,xs,eq,hl,rl⟩:=bU.mp rp;nofun;clear G_;cases eq;have len:=rl.length;rw[aaA] at len;refine aP (λN=>∀H1 G p,Gi H H1 G [] (p,[],[])->N [some (.ref r),some (.ref G),none] H1) (λN hN=>?_) ?_
  ·simp_all only[];refine⟨by decide,λp np=>⟨by decide,λG nG=>hN _ _ p ?_⟩⟩;have P7:p≠G:=λz=>by rw[z,aj] at nG;cases nG
   rw[aV (Ne.symm P7)] at nG;refine⟨bL (ah np) nG,aj,λx hx=>?_,(λx hx=>by cases hx),nG⟩;rw[List.mem_singleton.mp hx];exact⟨np,P7,by rw[aV P7,aj],cM.mpr rfl⟩
  rintro H1 G p gi;refine aP (λN=>∀H2 ts t z,Gi H H2 G ts t->ts.map (·.2.1)++ [t.2.1]=zf.foldl wA [[]]->N [some (.ref r),some (.ref G),z] H2) (λN hN=>?_) ?_
  ·simp_all only[];refine⟨⟨_,bG.of (gi.s _ _ hl)⟩,b9 (src_list (Ok:=aq H) (λH' s'=>bG.of (s' _ _ hl))) (λi σ H2=>aq H H2/\∃ts t z,Gi H H2 G ts t/\ts.map (·.2.1)++ [t.2.1]=(zf.take i).foldl wA [[]]/\ts.length<=i/\t.2.2.length<=i/\σ=[some (.ref r),some (.ref G),z]) ⟨gi.s,[],_,_,gi,rfl,aaC _,aaC _,rfl⟩ (λ_ _ _ _ h=>h.1) ?_ ?_⟩
   ·intro i x σ H2 H3 hi fG eL;symm;obtain⟨s2,ts,t,z,gi,eg,l0,lt,rfl⟩:=fG;obtain⟨rfl,ex⟩:=eL;obtain⟨d,ed,rd⟩:=rl.get ex;rw[aaG] at ed;obtain⟨ws,ew,rfl⟩:=Option.map_eq_some_iff.mp ed;obtain⟨q,rfl,hq⟩:=m7.mp rd;nofun;clear G_;have wsn:=wn ws (aaO ew);have et:(zf.take (i+1)).foldl wA [[]]=wA (ts.map (·.2.1)++ [t.2.1]) ws:=by rw[aa4,ew,List.foldl_append,eg];rfl
    rw[et];clear et eg;symm;obtain⟨y,ws',ey⟩:=List.exists_cons_of_ne_nil wsn;nofun;have Oa:=s2 _ _ hq;have h0:fQ (ws.map V.str) 0=some (.str y):=by rw[ey];exact at0
    simp only[gName,abm,abl];refine aP (λN=>∀H4 Kj t',Gi H H4 G Kj t'->Kj.map (·.2.1)++ [t'.2.1++ [ws]]=wA (ts.map (·.2.1)++ [t.2.1]) ws->Kj.length<=i+1->t'.2.2.length<=i->N [some (.ref r),some (.ref G),some (.ref q)] H4) (λN hN=>?_) ?_
    ·by_cases c:y=Str.ofString "place"
     ·refine ke (λY N k=>by
       simp_all only[];refine⟨_,Oa,_,h0,rfl,?_⟩
       first | exact k | (rw[if_pos (by rw[c])];exact k) | (rw[if_pos (by simp [c])];exact k)) ?_
      simp_all only[ck];refine⟨.inl ⟨rfl,_,bG.of gi.g⟩,by decide,λp np=>⟨_,ah np _ _ gi.g,by rw[aaA,aaE];simp only[aaL,aa5];omega,hN _ _ _ (gi.new np) ?_ ?_ (aaP _)⟩⟩
      ·rw[aaM];unfold wA;rw[if_pos (by rw[ey,c];rfl)];rfl
      ·rw[aaE];exact Nat.add_le_add_right l0 1
     ·refine iq (λY N k=>by
       simp_all only[];refine⟨_,Oa,_,h0,rfl,?_⟩;rw[if_neg (by intro z;apply c;simpa using z)];exact k) ?_
      refine hN _ ts t gi ?_ (by omega) lt;unfold wA;rw[if_neg (by rw[ey];intro h;cases h;exact c rfl)];simp
    rintro H4 Kj t' Ob e' l' lt';have hG:=Ob.g;rw[aaM] at hG;symm;obtain⟨_,_,hp,_⟩:=Ob.a t' (by simp);nofun;have m1:=JC (Kj.map λt=>V.ref t.1) (V.ref t'.1);simp_all only[ck];exact⟨_,hG,_,m1,.inl ⟨rfl,_,bG.of hp⟩,_,rfl,_,hp,by omega,(Ob.push hq).s,Kj,_,Ob.push hq,e',by omega,(by rw[aaE];exact Nat.add_le_add_right lt' 1),_,rfl⟩
   ·intro σ H2 cZ;symm;obtain⟨s2,ts,t,z,gi,eg,_,_,rfl⟩:=cZ;nofun;rw[aaT (by omega)] at eg;exact hN _ ts t z gi eg
  rintro H2 ts t z gi eg;simp_all only[];refine kk G H2 gi.s ?_;rw[<-eg];refine bU.mpr ⟨G,_,rfl,gi.g,?_⟩;have:=Dp (H':=H2) (ts:=ts++ [t]) λx hx=>⟨(gi.a x hx).2.2.1,bj.mono gi.s (gi.a x hx).2.2.2⟩
  rwa [aaM] at this
theorem i7:aS ["groups","counts","names","places","number","group"] ["groups","counts"] (ai (top 88)):=.mk
theorem JE (T:dm P w base K mg ax aA aJ aB au aD av aL):da P w K mg base (cL P w) 11 "read_places" ["groups","counts"] Gu:=by
 have aZ:=c5 T;have eN:=xP T;have df:=xQ T;have we:=JA T;refine T.qD.dj (λ_ _ _ _ _ _=>fB λ_ _=>rfl) λf fd F=>F.dA i7 (λvs H Q E h=>?_) (λcf A outer s H vs Q E hr h=>?_)
 ·obtain⟨_,_,rfl,_⟩:=jn h;rfl
 ·symm;obtain⟨l,c,rfl,ps,rp,cs,hc,kr,cn,⟨p1,N5,pn,pd,pok⟩,kk⟩:=jn h;nofun;clear G_;have nd:=i7.nd;refine⟨_,(ag (aX (ar aZ (aa (iG dS dS af (aF aW (by rfl) T.z_len aaF (aa (pv 0) ae)) (b7 rfl T.c_MOST_PLACES)) (aa ao ae))))
  (ag (aX (ar aZ (aa (aF (fS (K:=K)) (by rfl) T.z_all rfl (aa (cw rfl (N:=["groups","counts","names","places","number","group"]) (so:=ai (top 88)) (N':=["group"]) (k:=1) (fr:=[]) rfl rfl ⟨rfl,by ac_rfl,by ac_rfl,by ac_rfl,rfl,by ac_rfl,by ac_rfl⟩ (bw (K:=K) (pv 0)) (λ_ _ _ _ _=>(aU (i:=0) (show(["group"]:List Str).Nodup by ac_rfl) rfl (Or.inl rfl))) (λ_ _ _ _ _=>b6)
   (λ_ _ _ _ _=>(bD uN (aF aW (by rfl) T.z_len aaF (aa (aE aI (pv 0) af) ae)) af (aK _)))) ae)) (aa ao ae))))
  (ag (g9 (i:=2) rfl nd rfl rfl (N:=["groups","counts","names","places","number","group"]) (so:=ai (top 88)) (N':=["group"]) (k:=1) (fr:=[]) rfl rfl ⟨rfl,by ac_rfl,by ac_rfl,by ac_rfl,rfl,by ac_rfl,by ac_rfl⟩ (bw (K:=K) (pv 0)) (λ_ _ _ _ _=>(aU (i:=0) (show(["group"]:List Str).Nodup by ac_rfl) rfl (Or.inl rfl))) (λ_ _ _ _ _=>b6)
   (λ_ _ _ _ _=>(ar eN (aa (aE aI (aE aI (pv 0) af) af) ae))))
  (ag (aX (ar df (aa (pv 2) ae)))
  (ag (aH (i:=3) (bx ae))
  (ag (cH PassesOwn.never rfl (qp (K:=K) rfl T.z_enumerate (aa (pv 0) ae)) (dU (K:=K) (n:=2) rfl (bJ (aU (i:=4) nd rfl (Or.inl rfl)) (bJ (aU (i:=5) nd rfl (Or.inl rfl)) dR))) (ak (aX (cu aaV aaZ aa0 bY.r (pv 3) (aa (aY (aa (aE aI (pv 2) (pv 4)) (aa (ar we (aa (pv 5) (aa (pv 1) (aa (pv 2) (aa (cA (cE (K:=K)) (pv 2) (cv (aw bC (pv 4) af)) dr) ae))))) ae))) ae)))))
  (ak (aO (pv 3))))))))),?_⟩
  refine(?_:let bP:TS:=_;let bQ:TS:=_;let bR:TS:=_;let cm:TS:=_;let fH:TS:=_;let iX:TS:=_;let nO:TS:=_;tSeq bP (tSeq bQ (tSeq bR (tSeq cm (tSeq fH (tSeq iX nO))))) _ _ _);intro bP bQ bR cm fH iX nO;have sl:=sizeLine_eq;symm;obtain⟨q0,xs,eq,hl,rl⟩:=bU.mp rp;nofun;clear G_;cases eq;have lx:=rl.length;rw[aaA,aaA] at lx;have row:∀(i:Nat) x,xs[i]?=some x->∃p q q1 r0,ps[i]?=some p/\x=.ref q/\Rep H (pV (iT p)) (.ref q)/\H q=some (.lst (.ref q1::r0))/\H q1=some (.lst (V.str (Str.ofString "place")::V.str p.1::V.str (wK p.2)::List.map V.str (wW p.2))):=λi x ex=>by
   symm;obtain⟨d,ed,rd⟩:=rl.get ex;rw[aaG,aaG] at ed;obtain⟨t,et,rfl⟩:=Option.map_eq_some_iff.mp ed;obtain⟨p,ep,rfl⟩:=Option.map_eq_some_iff.mp et;obtain⟨q,ys,rfl,hq,rq⟩:=bU.mp rd;obtain⟨v0,r0,rfl,rv,rr⟩:=bN.mp (show bj H (AR (iy p.1 p.2)::(Ge p.2).map AR) ys from rq);obtain⟨q1,rfl,wu⟩:=m7.mp rv;nofun;exact⟨p,q,q1,r0,ep,rfl,rd,hq,wu⟩
  refine aP (λN=>N [some (.ref l),some (.ref c),none,none,none,none] H) (λN hN=>?_) ?_
  ·simp_all only[cC,hl];rw[if_pos (by omega)];exact⟨by omega,hN⟩
  refine aP (λN=>∀H1,aq H H1->N [some (.ref l),some (.ref c),none,none,none,none] H1) (λN hN=>?_) ?_
  ·simp_all only[cC];refine⟨⟨_,bG.of hl⟩,?_⟩;have S:Src (DP K l) (aq H) ps.length (λi x H H3=>H3=H/\xs[i]?=some x):=lx▸src_list (λH' e=>bG.of (e _ _ hl));refine dM ps (λ_=>some (.bl true)) S (λ_ _ _ _ h=>h.1) (by omega) ?_ ?_
   ·rintro j p x ea ⟨_,ex⟩ Y N y1 n1;symm;obtain⟨p',q,q1,r0,ep,rfl,rd,hq,wu⟩:=row j x ex;nofun;have wp:=Cy p'.2;simp_all only[jY,hq,wu];rw[decide_eq_true (by simp only[aaL,aaA];omega)];exact y1 _ rfl
   ·intro D n1 n2;refine⟨ps.map λ_=>true,?_,?_,hN _ (ah n2)⟩
    ·have e:ps.filterMap (λ_=>some (V.bl true))=List.map V.bl (ps.map λ_=>true):=by rw[abb,List.filterMap_eq_map'];rfl
     rw[e];exact bG.of aj
    ·rw[List.all_map,List.all_eq_true];intro x _;rfl
  intro H1 s1;refine aP (λN=>∀D H2,aq H1 H2->H2 D=some (.lst (List.map V.str (ps.map (·.1))))->N [some (.ref l),some (.ref c),some (.ref D),none,none,none] H2) (λN hN=>?_) ?_
  ·simp_all only[rQ];have jo:=s1 _ _ hl;refine⟨⟨_,bG.of jo⟩,?_⟩;refine comp_map (src_list (K:=K) (λH' s'=>bG.of (s' _ _ jo))) (λ_ _ _ _ h=>by rw[h.1];exact aq.refl _) (by omega) (λi y H4=>∀p,ps[i]?=some p->y=.str p.1) (λi y H4 H5 s5 h p e=>h p e) ?_ ?_
   ·rintro i x w0 H4 H5 Q2 hi s4 ⟨rfl,ex⟩ kq;symm;obtain⟨p',q,q1,r0,ep,rfl,rd,hq,wu⟩:=row i x ex;nofun;have hq4:=s4 _ _ (s1 _ _ hq);have P8:=s4 _ _ (s1 _ _ wu);simp_all only[rQ,hq4,P8];exact⟨pn p' (aaO ep),λH6 s6=>kq _ _ s6 λp2 e2=>by rw[ep] at e2;cases e2;rfl⟩
   ·intro ys H5 s5 ly hy D n1 n2;have ez:ys=(ps.map (·.1)).map V.str:=by rw[abb];exact list_eq (by omega) hy
    rw[ez];exact hN D _ (s5.trans (ah n2)) aj
  intro D H2 s2 hD;refine aP (λN=>∀H3,aq H2 H3->N [some (.ref l),some (.ref c),some (.ref D),none,none,none] H3) (λN hN=>?_) ?_
  ·simp_all only[zh];exact⟨_,hD,pd,by rw[aaA];omega,hN⟩
  intro H3 s3;have Kk:=s1.trans (s2.trans s3);have N8:=s3 _ _ hD;have Dl:=Kk _ _ hl;have zu:=Kk _ _ hc;have ln:(ps.map (·.1)).length=ps.length:=aaA ..;refine aP (λN=>∀P,H3 P=none->N [some (.ref l),some (.ref c),some (.ref D),some (.ref P),none,none] (upd H3 P (.lst []))) (λN hN=>?_) ?_
  ·simp_all only[];exact⟨aaP _,hN⟩
  intro P nP;have sP:aq H3 (upd H3 P (.lst [])):=ah nP;refine aP (λN=>∀H4 ys z4 z5,aq H3 H4->H4 P=some (.lst ys)->cg (upd H3 P (.lst [])) H4 (ps.map qH) ys->N [some (.ref l),some (.ref c),some (.ref D),some (.ref P),z4,z5] H4) (λN hN=>?_) ?_
  ·simp_all only[];refine⟨⟨_,bG.of (sP _ _ Dl)⟩,b9 (BB (Ok:=aq H3) (λH' s'=>bG.of (s' _ _ Dl))) (λi σ H4=>aq H3 H4/\∃ys z4 z5,H4 P=some (.lst ys)/\cg (upd H3 P (.lst [])) H4 ((ps.take i).map qH) ys/\σ=[some (.ref l),some (.ref c),some (.ref D),some (.ref P),z4,z5]) ⟨sP,[],_,_,aj,cN,rfl⟩ (λ_ _ _ _ h=>h.1) ?_ ?_⟩
   ·intro i x σ H4 H5 hi fG eL;symm;obtain⟨s4,ys,z4,z5,hP,ry,rfl⟩:=fG;obtain⟨t,y,nt,rfl,ey,rfl⟩:=eL;obtain⟨p,q,q1,r0,ep,rfl,rd,hq,wu⟩:=row i y ey;nofun;clear G_;have ly:=ry.length;rw[aaA,abc] at ly;have st:=ah (o:=.tup [.int (i:Int),.ref q]) nt;refine⟨t,_,rfl,fM.of aj,rfl,?_⟩;generalize upd H4 t (.tup [.int (i:Int),.ref q])=H5 at *;have s5:=s4.trans st;have P9:=st _ _ hP;have Ml:=s5 _ _ N8;have en:(ps.map (·.1))[i]?=some p.1:=by rw[aaG,ep];rfl
    have Qa:fQ (List.map V.str (ps.map (·.1))) (i:Int)=some (.str p.1):=bE (by rw[aaG,en];rfl);simp only[zF,gName,gCons,gNil,abm,abl];refine⟨_,_,rfl,_,_,rfl,rfl,?_⟩;have ixc:∀KK:V->Hp->Prop,KK (.str p.1) H5->tOp rIxLH (tVar 2) (tVar 4) [some (.ref l),some (.ref c),some (.ref D),some (.ref P),some (.int (i:Int)),some (.ref q)] H5 KK:=λKK hK=>by
     simp_all only[];exact⟨_,Ml,_,Qa,hK⟩
    have rd5:Rep H5 (pV (iT p)) (.ref q):=rd.mono (Kk.trans s5);have call:∀KK:V->Hp->Prop,(∀v H6,aq H5 H6->b5 H5 H6 (wD p.2) (.ref v)->KK (.ref v) H6)->tCall CW [] E0 (tCons (tVar 5) (tCons (tVar 1) (tCons (tVar 2) (tCons (tSl (rSlL K) (tVar 2) (tPart (tOp (rI0 λi j=>V.int (i+j)) (tVar 4) (tC (V.int 1)))) tNoPart) tNil)))) [some (.ref l),some (.ref c),some (.ref D),some (.ref P),some (.int (i:Int)),some (.ref q)] H5 KK:=λKK hK=>by
     simp_all only[CW];refine⟨_,bG.of Ml,λb nb=>?_⟩;have sb:=ah (o:=.lst (fo (List.map V.str (ps.map (·.1))) (some ((i:Int)+1)) none)) nb;refine⟨p,rd5.mono sb,cs,sb _ _ (s5 _ _ zu),kr,cn,ps.map (·.1),sb _ _ Ml,by omega,(ps.map (·.1)).drop (i+1),?_,by rw[List.length_drop];omega,pok i p ep,λv H6 s6 rv=>hK v H6 (sb.trans s6) (rv.low (.of sb))⟩;rw[aj,gP (by omega),<-List.map_drop,show((i:Int)+1).toNat=i+1 by omega]
    refine xS rfl (.inl ⟨rfl,_,bG.of P9⟩) (uA (cP (ixc _ (cP (call _ λv H6 s6 rv=>xT ⟨(show 2<=sizeLine by omega),λu H7 s7 nu e7=>?_⟩)))));have DI:=s6.trans s7;have li:=fi s5 P9;refine⟨ys,DI _ _ P9,by omega,bL (s5.trans DI) nP,_,_,_,aj,?_,rfl⟩;show bj (eZ _ (upd _ _ _)) _ _;rw[fC (ys:=[]) aj,aa4,ep,aaM];exact jg (js (li.trans DI) e7 bK ((rv.low li).mono s7)) (ry.mono (st.trans DI))
   ·intro σ H4 cZ;symm;obtain⟨s4,ys,z4,z5,hP,ry,rfl⟩:=cZ;nofun;rw[aaT (by omega)] at ry;exact hN _ ys _ _ s4 hP ry
  rintro H4 ys z4 z5 s4 hP ry;simp_all only[];exact kk P H4 (Kk.trans s4) (none_of Kk nP) ((cY nP hP (ry.low (.of sP))).low (.of Kk))
theorem lQ:aS ["text","groups","counts"] ["text"] (ai (top 89)):=.mk
theorem JF (T:dm P w base K mg ax aA aJ aB au aD av aL):da P w K mg base (cL P w) 12 "read_game" ["text"] zm:=by
 have aZ:=c5 T;have AK:=JD T;have qP:=Jp T;have qQ:=JE T;refine T.vB.dj (λ_ _ _ _ _ _=>du λ_=>rfl) λf fd F=>F.dA lQ (λvs H Q E h=>?_) (λcf A outer s H vs Q E hr h=>?_)
 ·obtain⟨_,rfl,_⟩:=rK h;rfl
 ·symm;obtain⟨z,rfl,g,rfl,og,kk⟩:=rK h;nofun;clear G_;have nd:=lQ.nd;refine⟨_,(ag (aX (ar aZ (aa (aF (cR (K:=K)) (by rfl) T.z_isinstance rfl (aa (pv 0) (aa (dH (v:=V.ty "str") rfl T.z_str rfl rfl) ae))) (aa ao ae))))
  (ag (aH (i:=1) (ar AK (aa (cw rfl (N:=["text","groups","counts"]) (so:=ai (top 89)) (N':=["row"]) (k:=1) (fr:=[]) rfl rfl ⟨rfl,by ac_rfl,by ac_rfl,by ac_rfl,rfl,by ac_rfl,by ac_rfl⟩ (bw (K:=K) (cu abe abA abB iO (pv 0) (aa ao ae))) (λ_ _ _ _ _=>(aU (i:=0) (show(["row"]:List Str).Nodup by ac_rfl) rfl (Or.inl rfl))) (λ_ _ _ _ _=>b6)
   (λ_ _ _ _ _=>(Il (K:=K) abe abA abB iO (pv 0) (aa ao ae)))) ae)))
  (ag (aH (i:=2) (ar qP (aa (aE aI (pv 1) af) ae)))
  (ak (aO (aY (aa (pv 2) (aa (ar qQ (aa (cA (cE (K:=K)) (pv 1) (cv af) dr) (aa (cw rfl (N:=["text","groups","counts"]) (so:=ai (top 89)) (N':=["name","most"]) (k:=2) (fr:=[]) rfl rfl ⟨rfl,by ac_rfl,by ac_rfl,by ac_rfl,rfl,by ac_rfl,by ac_rfl⟩ (bw (K:=K) (pv 2)) (λ_ _ _ _ _=>(dU (K:=K) (n:=2) rfl (bJ (aU (i:=0) (show(["name","most"]:List Str).Nodup by ac_rfl) rfl (Or.inl rfl)) (bJ (aU (i:=1) (show(["name","most"]:List Str).Nodup by ac_rfl) rfl (Or.inl rfl)) dR)))) (λ_ _ _ _ _=>b6)
   (λ_ _ _ _ _=>(pv 0))) ae))) ae)))))))),?_⟩
  refine(?_:let bP:TS:=_;let bQ:TS:=_;let bR:TS:=_;let cm:TS:=_;tSeq bP (tSeq bQ (tSeq bR cm)) _ _ _);intro bP bQ bR cm;have sl:=sizeLine_eq;obtain⟨gl,gw⟩:=ib og.gg;have lT:(iS g).length<=1000000:=by
   have jl:=eK (sep:=Str.ofString "\n") gw;have l1:(Str.ofString "\n").length=1:=by ac_rfl
   have ml:=abo (1330+1) gl;unfold iS;rw[l1] at jl;exact aaR jl (aaR ml (by decide))
  have lW:(AQ g).length<=200:=by rw[ug,aaA] at gl;exact gl
  have e10:Str.ofString "\n"=(⟨#[10]⟩:Str):=by ac_rfl
  have e32:Str.ofString " "=(⟨#[32]⟩:Str):=by ac_rfl
  refine aP (λN=>N [some (.str (iS g)),none,none] H) (λN hN=>?_) ?_
  ·simp_all only[cC];exact⟨_,gZ.str _,_,o4,rfl,hN⟩
  refine aP (λN=>∀D H1,aq H H1->Rep H1 (Fk (g.1.map pS::g.2.map iT)) (.ref D)->N [some (.str (iS g)),some (.ref D),none] H1) (λN hN=>?_) ?_
  ·simp_all only[Gs];refine⟨rfl,10,e10,lT,λL nL=>?_⟩;have eS:=CM og;rw[e10] at eS;rw[eS];refine⟨⟨_,bG.of aj⟩,?_⟩;have hL0:upd H L (.lst (List.map V.str ((AQ g).map (Txt.join SP)))) L=some (.lst (List.map V.str ((AQ g).map (Txt.join SP)))):=aj;refine comp_map (src_list (K:=K) (λH' s'=>bG.of (s' _ _ hL0))) (λ_ _ _ _ h=>by rw[h.1];exact aq.refl _) (by rw[aaA,aaA];omega) (λi y H4=>∀ws,(AQ g)[i]?=some ws->Rep H4 (AR ws) y) (λi y H4 H5 s5 h ws e=>(h ws e).mono s5) ?_ ?_
   ·rintro i x w0 H4 H5 Q2 hi s4 ⟨rfl,ex⟩ kq;rw[aaG,aaG] at ex;symm;obtain⟨tx,P0,rfl⟩:=Option.map_eq_some_iff.mp ex;obtain⟨ws,Qb,rfl⟩:=Option.map_eq_some_iff.mp P0;nofun;have hw:=xH og ws (aaO Qb);have sp:=AH hw.1 hw.2;rw[e32] at sp;have lr:(Txt.join SP ws).length<=1000000:=aaR (gw _ (by rw[ug];exact List.mem_map_of_mem (aaO Qb))) (by decide);simp_all only[];refine⟨rfl,32,e32,lr,λM nM=>?_⟩;rw[sp];refine kq _ _ (ah nM) λws' Mm=>?_;rw[Qb] at Mm;cases Mm;exact m7.mpr ⟨M,rfl,aj⟩
   ·intro ys H5 s5 ly hy D n1 n2;rw[aaA,aaA] at ly;refine⟨AQ g,bU.mpr ⟨D,ys,rfl,aj,bj.of (by rw[aaA];omega) λi d u e1 e2=>?_⟩,by omega,λws hw=>(xH og ws hw).1,λl H' s' r=>?_⟩
    ·rw[aaG] at e1;symm;obtain⟨ws,ew,rfl⟩:=Option.map_eq_some_iff.mp e1;nofun;exact(hy i u e2 ws ew).mono (ah n2)
    ·rw[Jg] at r;exact hN l H' ((ah nL).trans (s5.trans ((ah n2).trans s'))) r
  intro D H1 s1 rD;symm;obtain⟨q0,xs,eq,hD,rl⟩:=bU.mp rD;nofun;clear G_;cases eq;symm;obtain⟨v0,r0,rfl,rv,rr⟩:=bN.mp (show bj H1 (pV (g.1.map pS)::(g.2.map iT).map pV) xs from rl);obtain⟨q,ys,rfl,hq,rq⟩:=bU.mp rv;nofun;clear G_;refine aP (λN=>∀C H2,aq H1 H2->H1 C=none->b5 H1 H2 (.lst (g.1.map ju)) (.ref C)->N [some (.str (iS g)),some (.ref D),some (.ref C)] H2) (λN hN=>?_) ?_
  ·simp_all only[Gk,hD];exact⟨g.1,bU.mpr ⟨q,ys,rfl,hq,rq⟩,og.c4,og.cn,og.cd,hN⟩
  intro C H2 s2 nC rC;have JB:=s2 _ _ hD;symm;obtain⟨C0,cs,eq,hC,rc⟩:=bU.mp rC;nofun;clear G_;cases eq;have hC:=eJ _ _ hC;have lc:=rc.length;rw[aaA] at lc;have c4:=og.c4;have ho:∀c∈g.1.map (·.1),fW c:=og.cs;simp_all only[Gu];refine⟨_,bG.of JB,λG nG=>?_⟩;rw[gP (by decide)];have Oc:=(ah (o:=HO.lst (List.drop (1:Int).toNat (V.ref q::r0))) nG) _ _ hC;have hG:upd H2 G (.lst (List.drop (1:Int).toNat (V.ref q::r0))) G=some (.lst r0):=aj;generalize hX:upd H2 G (.lst (List.drop (1:Int).toNat (V.ref q::r0)))=X at *;have sX:aq H2 X:=by rw[<-hX];exact ah nG
  refine⟨⟨_,bG.of Oc⟩,?_⟩;refine mF (K:=K) (src_list (λH3 s3=>bG.of (s3 _ _ Oc))) (λi a b H3=>∃c,g.1[i]?=some c/\a=.str c.1) ?_ (by omega) (λi y H3=>∀c,g.1[i]?=some c->y=.str c.1) (λi y H3 H4 s3 h c e=>h c e) ?_ ?_
  ·rintro i x H3 H4 hi s3 ⟨rfl,ex⟩;symm;obtain⟨d,ed,rd⟩:=bj.get rc ex;rw[aaG] at ed;obtain⟨c,ec,rfl⟩:=Option.map_eq_some_iff.mp ed;obtain⟨t,y,z,rfl,ht,hy,hz⟩:=B4.mp (show Rep _ (.tup _) x from rd);nofun;exact⟨aq.refl _,t,y,z,rfl,fM.of (s3 _ _ (sX _ _ (eJ _ _ ht))),c,ec,fV.mp hy⟩
  ·intro i u v H3 Q2 hi s3 eL kq;symm;obtain⟨c,ec,rfl⟩:=eL;nofun;simp_all only[];exact kq _ _ (aq.refl _) λc' v3=>by rw[ec] at v3;cases v3;rfl
  ·intro zs H3 s3 lz hz E' n1 n2;have ez:zs=(g.1.map (·.1)).map V.str:=by rw[abb];exact list_eq (by omega) hz
   have sE:=s3.trans (ah (o:=HO.lst zs) n2);have rG:Rep X (Fk (g.2.map iT)) (.ref G):=bU.mpr ⟨G,r0,rfl,hG,rr.mono (s2.trans sX)⟩;refine⟨g.2,rG.mono sE,g.1.map (·.1),by rw[ez];exact aj,by rw[aaA];omega,ho,⟨og.p1,og.N5,og.pn,og.pd,og.ok⟩,λp H4 s4 np rp=>⟨by decide,λt H5 s5 nt e5=>?_⟩⟩;have sA:aq H1 (upd H3 E' (.lst zs)):=s2.trans (sX.trans sE);have hp4:∃ws,H4 p=some (.lst ws):=by
    symm;obtain⟨p',ws,e,h,_⟩:=bU.mp rp;nofun;cases e;exact⟨ws,eJ _ _ h⟩
   have hC4:=s4 _ _ (sE _ _ Oc);have sB:aq H H5:=s1.trans (sA.trans (s4.trans s5));refine kk t C p H5 sB (none_of s1 nC) (none_of (s1.trans sA) np) (λz=>by rw[<-z,sE _ _ Oc] at np;cases np) e5 (js (cb.of sB) e5 ((rC.mono (sX.trans (sE.trans (s4.trans s5)))).low (cb.of s1)) ((rp.mono s5).low (cb.of (s1.trans sA))))
theorem qd:aS ["_law_script","_law_k","_law_base"] ["_law_script","_law_k"] (ai (top 91)):=.mk
theorem wj (T:dm P w base K mg ax aA aJ aB au aD av aL):da P w K mg base (cL P w) 1 "_law_at" ["_law_script","_law_k"] (iz K):=by
 refine T.Ay.dj (λ_ _ _ _ _ _=>fB λ_ _=>rfl) λf fd F=>F.dA qd (λvs H Q E h=>?_) (λcf A outer s H vs Q E hr h=>?_)
 ·obtain⟨_,_,rfl,_⟩:=Ar h;rfl
 ·symm;obtain⟨a,k,rfl,ns,hS,k0,k1,kk⟩:=Ar h;nofun;clear G_;have nd:=qd.nd;refine⟨_,(ag (bp (aM qW (pv 1) (aF (jZ (K:=K)) (by rfl) T.z_len aaF (aa (pv 0) ae)) (aK _)) (ak (aO (aE (rF (K:=K)) (pv 0) (pv 1))))
   aT)
  (ag (aH (i:=2) af)
  (ag (bp (aM eI (aF (jZ (K:=K)) (by rfl) T.z_len aaF (aa (pv 0) ae)) af (aK _)) (ak (aH (i:=2) (aw bu (aE (rF (K:=K)) (pv 0) (aw bu (aw bC (aw cO (pv 1) af) af) (aF (jZ (K:=K)) (by rfl) T.z_len aaF (aa (pv 0) ae)))) af)))
   aT)
  (ak (aO (aw bu (aw cO (aw bC (aw bC (pv 2) (aw cO af (pv 1))) af) (aw bC (aw bC (aw cO (pv 2) af) (aw cO (pv 1) (pv 1))) af)) af)))))),?_⟩
  refine(?_:let bP:TS:=_;let bQ:TS:=_;let bR:TS:=_;let cm:TS:=_;tSeq bP (tSeq bQ (tSeq bR cm)) _ _ _);intro bP bQ bR cm;have kq:IntMulOk k k:=eO (by omega) (by omega);refine aP (λN=>¬k< (ns.length:Int)->N [some (.ref a),some (.int k),none] H) (λN hN=>?_) ?_
  ·simp_all only[D9];exact⟨ns,hS,dO (λc=>⟨ns,hS,k0,c,kk _ (by unfold xI PN;rw[if_pos c])⟩) hN⟩
  intro c;refine aP (λN=>N [some (.ref a),some (.int k),some (.int 59)] H) (λN hN=>?_) ?_
  ·simp_all only[];exact hN
  refine aP (λN=>N [some (.ref a),some (.int k),some (.int (if (ns.length:Int) >0 then ns.getD ((k*9+2) % (ns.length:Int)).toNat 0 % 998839 else 59))] H) (λN hN=>?_) ?_
  ·simp_all only[D9];refine⟨ns,hS,dO (λz=>?_) (λz=>?_)⟩
   ·rw[if_pos z] at hN;exact⟨jW,ns,hS,z,ns,hS,aaX _ (by omega),aaY _ z,by decide,hN⟩
   ·rw[if_neg z] at hN;exact hN
  obtain⟨x,hx⟩:∃x,x=if (ns.length:Int) >0 then ns.getD ((k*9+2) % (ns.length:Int)).toNat 0 % 998839 else 59:=⟨_,rfl⟩
  have x1:0<=x/\x<998839:=by
   rw[hx]
   split
   ·exact⟨aaX _ (by decide),aaY _ (by decide)⟩
   ·exact⟨by decide,by decide⟩
  have q:∀n,n=(x+71*k+3)* (x*5+k*k+41) % 1000159->xI ns k n:=λn e=>by unfold xI PN;rw[if_neg c,<-hx];exact e
  rw[<-hx];clear hx;show IntMulOk 71 k/\IntMulOk x 5/\IntMulOk k k/\IntMulOk (x+71*k+3) (x*5+k*k+41)/\(0:Int)<1000159/\Q (V.int ((x+71*k+3)* (x*5+k*k+41) % 1000159)) H;exact⟨eO,jW,kq,eO (by omega) (by omega),by decide,kk _ (q _ rfl)⟩
theorem jR:aS ["_law_turn","_law_some"] ["_law_turn"] (ai (top 92)):=.mk
theorem GN (T:dm P w base K mg ax aA aJ aB au aD av aL):da P w K mg base (cL P w) 1 "_law_names" ["_law_turn"] zp:=by
 refine T.tL.dj (λ_ _ _ _ _ _=>du λ_=>rfl) λf fd F=>F.dA jR (λvs H Q E h=>?_) (λcf A outer s H vs Q E hr h=>?_)
 ·obtain⟨_,rfl,_⟩:=J8 h;rfl
 ·symm;obtain⟨n,rfl,kk⟩:=J8 h;nofun;clear G_;have nd:=jR.nd;refine⟨_,(ag (aH (i:=1) (bx (aa ao (aa ao (aa ao (aa ao (aa ao (aa ao (aa ao (aa ao (aa ao (aa ao (aa ao (aa ao (aa ao (aa ao ae))))))))))))))))
  (ag (aH (i:=1) (aw ft (pv 1) (bx (aa ao (aa ao (aa ao (aa ao (aa ao (aa ao (aa ao (aa ao (aa ao (aa ao (aa ao (aa ao (aa ao ae))))))))))))))))
  (ag (aH (i:=1) (aw ft (pv 1) (bx (aa ao (aa ao (aa ao ae))))))
  (ak (aO (aw ft (cA (cE (K:=K)) (pv 1) (cv (aw bu (pv 0) af)) dr) (cA (cE (K:=K)) (pv 1) dr (cv (aw bu (pv 0) af))))))))),?_⟩
  refine(?_:let bP:TS:=_;let bQ:TS:=_;let bR:TS:=_;let cm:TS:=_;tSeq bP (tSeq bQ (tSeq bR cm)) _ _ _);intro bP bQ bR cm;have sl:=sizeLine_eq;refine aP (λN=>∀H1 l,aq H H1->H1 l=some (.lst (List.map V.str (qK.take 14)))->N [some (.int n),some (.ref l)] H1) (λN hN=>?_) ?_
  ·simp_all only[];exact⟨by decide,λl nl=>hN _ _ (ah nl) aj⟩
  rintro H1 l s1 hl;refine aP (λN=>∀H2 l,aq H H2->H2 l=some (.lst (List.map V.str (qK.take 27)))->N [some (.int n),some (.ref l)] H2) (λN hN=>?_) ?_
  ·simp_all only[oV];refine⟨by decide,λq nq=>⟨_,ah nq _ _ hl,_,aj,by rw[sl];decide,λr nr=>hN _ _ (s1.trans ((ah nq).trans (ah nr))) aj⟩⟩
  clear hl s1;rintro H2 l s1 hl;refine aP (λN=>∀H3 l,aq H H3->H3 l=some (.lst (List.map V.str qK))->N [some (.int n),some (.ref l)] H3) (λN hN=>?_) ?_
  ·simp_all only[oV];refine⟨by decide,λq nq=>⟨_,ah nq _ _ hl,_,aj,by rw[sl];decide,λr nr=>hN _ _ (s1.trans ((ah nq).trans (ah nr))) aj⟩⟩
  clear hl s1;rintro H3 l s1 hl;have n0:=aaX n (show(30:Int)≠0 by decide);have n1:=aaY n (show(0:Int)<30 by decide);simp_all only[oV];refine⟨by decide,_,bG.of hl,λq nq=>⟨by decide,_,bG.of (ah nq _ _ hl),λr nr=>⟨_,ah nr _ _ aj,_,aj,?_,λt nt=>?_⟩⟩⟩
  ·have a:=iJ (List.map V.str qK) (some (n % 30)) none;have b:=iJ (List.map V.str qK) none (some (n % 30));have:qK.length=30:=rfl;rw[aaA] at a b;omega
  ·refine kk t _ (s1.trans ((ah nq).trans ((ah nr).trans (ah nt)))) (none_of (s1.trans ((ah nq).trans (ah nr))) nt) ?_;rw[aj,gP n0,iN n0,<-List.map_drop,<-List.map_take,<-aaM];rfl
theorem jS:aS ["_law_cell","_law_bottom","_law_top"] ["_law_cell"] (ai (top 93)):=.mk
theorem Dq {q b s:Int} (h:1<=b) (hs:s=1\/s= -1):Nm.g ((b*q+1)*s) b=1:=by
 have d1:=Nm.sI ((b*q+1)*s) b;have d2:=Nm.g7 ((b*q+1)*s) b;have p:=Nm.Bp (a:=(b*q+1)*s) (show b≠0 by omega);generalize Nm.g ((b*q+1)*s) b=x at *;have d3:x∣1:=by
  have e:x∣b*q+1:=by
   rcases hs with rfl | rfl
   ·rwa [Int.mul_one] at d1
   ·rw[Int.mul_neg,Int.mul_one] at d1;exact Int.dvd_neg.mp d1
  exact(Int.dvd_add_right (Int.dvd_mul_of_dvd_left d2)).mp e
 have:=Int.le_of_dvd (by decide) d3;omega
theorem JG (T:dm P w base K mg ax aA aJ aB au aD av aL):da P w K mg base (cL P w) 1 "_law_share" ["_law_cell"] CY:=by
 refine T.tM.dj (λ_ _ _ _ _ _=>du λ_=>rfl) λf fd F=>F.dA jS (λvs H Q E h=>?_) (λcf A outer s H vs Q E hr h=>?_)
 ·obtain⟨_,rfl,_⟩:=J8 h;rfl
 ·symm;obtain⟨c,rfl,kk⟩:=J8 h;nofun;clear G_;have nd:=jS.nd;refine⟨_,(ag (aH (i:=1) (aE aI (bx (aa af (aa af (aa af (aa af (aa af (aa af (aa af ae)))))))) (aw bu (pv 0) af)))
  (ag (aH (i:=2) (aw bu (aw bT (pv 0) af) (aE aI (bx (aa af (aa (aw iF (aw Hx af af) af) ae))) (aw bu (aw bT (pv 0) af) af))))
  (ag (bp (aM eI (pv 1) af (aK _)) (ak (aH (i:=2) (aw bC (aw iF (pv 2) (aw bu (pv 2) (pv 1))) af)))
   aT)
  (ak (aO (aY (aa (aw cO (pv 2) (aE aI (bx (aa af (aa (d8 dh af) ae))) (aw bu (aw bT (pv 0) af) af))) (aa (pv 1) ae)))))))),?_⟩
  refine(?_:let bP:TS:=_;let bQ:TS:=_;let bR:TS:=_;let cm:TS:=_;tSeq bP (tSeq bQ (tSeq bR cm)) _ _ _);intro bP bQ bR cm;refine aP (λN=>∀H1 (b:Int),aq H H1->1<=b->b<=1000000->N [some (.int c),some (.int b),none] H1) (λN hN=>?_) ?_
  ·simp_all only[];have n0:=aaX c (show(7:Int)≠0 by decide);have n1:=aaY c (show(0:Int)<7 by decide);symm;obtain⟨b,eb,b0,b1⟩:=CI (ns:=[1,2,1,5,9,1000000,999979]) (P:=λb=>1<=b/\b<=1000000) (by decide) n0 n1;nofun;exact⟨by decide,λl nl=>⟨by decide,_,aj,_,eb,hN _ _ (ah nl) b0 b1⟩⟩
  rintro H1 b s1 b0 b1;refine aP (λN=>∀H2 (t:Int),aq H1 H2->0<=t->t<999999999999->N [some (.int c),some (.int b),some (.int t)] H2) (λN hN=>?_) ?_
  ·have n0:=aaX (c / 70) (show(2:Int)≠0 by decide);have n1:=aaY (c / 70) (show(0:Int)<2 by decide);symm;obtain⟨m,em,m0,m1⟩:=CI (ns:=[100,10^12 - 1]) (P:=λm=>0<m/\m<=999999999999) (by decide) n0 n1;nofun;have q0:=aaX (c / 7) (show m≠0 by omega);have q1:=aaY (c / 7) m0;simp_all only[];exact⟨cQ.lit,by decide,by decide,by decide,by decide,λp np=>⟨cQ.lit,by decide,_,aj,_,em,m,rfl,m0,hN _ _ (ah np) q0 (by omega)⟩⟩
  rintro H2 t s2 t0 t1;refine aP (λN=>∀t:Int,0<=t->t<1000000000000->(b=1\/∃q,t=b*q+1)->N [some (.int c),some (.int b),some (.int t)] H2) (λN hN=>?_) ?_
  ·simp_all only[];have m0:=aaX t (show b≠0 by omega);have m1:=aaY t (show 0<b by omega);have e:=Int.mul_ediv_add_emod t b;exact dO (λh=>⟨by omega,hN _ (by have:=Int.mul_nonneg (show(0:Int)<=b by omega) (Int.ediv_nonneg t0 (show(0:Int)<=b by omega));omega) (by omega) (.inr ⟨t / b,by omega⟩)⟩) (λh=>hN _ t0 (by omega) (.inl (by omega)))
  clear t0 t1 t;rintro t t0 t1 tb;have n0:=aaX (c / 140) (show(2:Int)≠0 by decide);have n1:=aaY (c / 140) (show(0:Int)<2 by decide);symm;obtain⟨m,em,hm⟩:=CI (ns:=[1,-1]) (P:=λm=>m=1\/m= -1) (by decide) n0 n1;nofun;have hg:Nm.g (t*m) b=1:=by
   rcases tb with rfl | ⟨q,rfl⟩
   ·have:=Dq (q:=t - 1) (b:=1) (s:=m) (by decide) hm
    rwa [Int.one_mul,Int.sub_add_cancel] at this
   ·exact Dq b0 hm
  simp_all only[];refine⟨by decide,λp np=>⟨cQ.lit,by decide,_,aj,_,em,m,rfl,?_,by decide,λq H3 s3 nq e3=>kk q (t*m) b H3 (s1.trans (s2.trans ((ah np).trans s3))) e3 ?_⟩⟩
  ·rcases hm with rfl | rfl
   ·exact jW
   ·exact jW
  ·refine⟨b0,b1,?_,?_,hg⟩
   ·rcases hm with rfl | rfl <;>omega
   ·rcases hm with rfl | rfl <;>omega
theorem jT:aS ["_law_script","_law_at_here","_law_counted","_law_is_thrown","_law_deeds_here","_law_j","_law_cell","_law_name","_law_other"] ["_law_script","_law_at_here","_law_counted","_law_is_thrown"] (ai (top 94)):=.mk
theorem Dr (T:dm P w base K mg ax aA aJ aB au aD av aL):da P w K mg base (cL P w) 2 "_law_deeds" ["_law_script","_law_at_here","_law_counted","_law_is_thrown"] (pW K):=by
 have bV:=wj T;refine T.tN.dj (λ_ _ _ _ _ _=>vH λ_ _ _ _=>rfl) λf fd F=>F.dA jT (λvs H Q E h=>?_) (λcf A outer s H vs Q E hr h=>?_)
 ·obtain⟨_,_,_,_,rfl,_⟩:=CP h;rfl
 ·symm;obtain⟨a,k,c,th,rfl,ns,hS,k0,k1,cs,hc,c4,kk⟩:=CP h;nofun;have nd:=jT.nd;refine⟨_,(ag (aH (i:=4) (bx ae))
  (ag (cH PassesOwn.never rfl (dn rfl T.z_range (aa (aw cO (aw bu (ar bV (aa (pv 0) (aa (pv 1) ae))) af) (bM xk (by rfl) T.z_int rfl (aa (bD eI (aF aW (by rfl) T.z_len aaF (aa (pv 2) ae)) af (aK _)) ae) (he:=se rfl) (hpl:=na rfl))) ae)) (aU (i:=5) nd rfl (Or.inl rfl)) (ag (aH (i:=6) (ar bV (aa (pv 0) (aa (aw bC (aw bC (pv 1) af) (pv 5)) ae))))
  (ag (aH (i:=7) (aE aI (pv 2) (aw bu (aw bT (pv 6) af) (aF aW (by rfl) T.z_len aaF (aa (pv 2) ae)))))
  (ag (aH (i:=8) (aE aI (pv 2) (aw bu (aw bC (aw bT (pv 6) af) af) (aF aW (by rfl) T.z_len aaF (aa (pv 2) ae)))))
  (ak (bp (PW.pt (pw_and (aM bF (aw bu (pv 6) af) af (aK _)) (pw_and1 (aM ik (pv 8) (pv 7) (aK _))))) (ak (aX (cu aaV aaZ aa0 bY.r (pv 4) (aa (aY (aa ao (aa (pv 7) (aa (pv 8) ae)))) ae))))
   (ak (bp (PW.pt (pw_and (aM bF (aw bu (pv 6) af) af (aK _)) (pw_and1 (di (pv 3))))) (ak (aX (cu aaV aaZ aa0 bY.r (pv 4) (aa (aY (aa ao (aa (pv 7) ae))) ae))))
   (ak (aX (cu aaV aaZ aa0 bY.r (pv 4) (aa (aY (aa (aE aI (bx (aa ao (aa ao ae))) (aw bu (pv 6) af)) (aa (pv 7) (aa (aw bu (aw bT (pv 6) af) af) ae)))) ae))))))))))))
  (ak (aO (pv 4))))),?_⟩
  refine(?_:let bP:TS:=_;let bQ:TS:=_;let bR:TS:=_;tSeq bP (tSeq bQ bR) _ _ _);intro bP bQ bR;have sl:=sizeLine_eq;refine aP (λN=>∀H1 l,aq H H1->H l=none->H1 l=some (.lst [])->N [some (.ref a),some (.int k),some (.ref c),some (.bl th),some (.ref l),none,none,none,none] H1) (λN hN=>?_) ?_
  ·simp_all only[];exact⟨aaP _,λl nl=>hN _ l (ah nl) nl aj⟩
  rintro H1 l s1 nl hl;refine aP (λN=>∀H2 (ds:List c8) xs,aq H H2->H2 l=some (.lst xs)->qJ cs ds->(th=false->∀d∈ds,xG d)->cg (upd H l (.lst [])) H2 (ds.map dD) xs->∀z5 z6 z7 z8,N [some (.ref a),some (.int k),some (.ref c),some (.bl th),some (.ref l),z5,z6,z7,z8] H2) (λN hN=>?_) ?_
  ·simp_all only[iz];refine⟨ns,s1.seq hS,k0,by omega,λn _=>⟨by decide,_,s1 _ _ hc,?_⟩⟩;rw[aaA];have n1:=aaX n (show(7:Int)≠0 by decide);have n2:=aaY n (show(0:Int)<7 by decide);obtain⟨r,er,r0,r6,rc⟩:∃r:Int,(n % 7*if (0:Int)< (cs.length:Int) then 1 else 0)=r/\0<=r/\r<=6/\(0<r->0<cs.length):=by
    refine⟨_,rfl,?_⟩
    by_cases c0:(0:Int)< (cs.length:Int)
    ·rw[if_pos c0];exact⟨by omega,by omega,λ_=>by omega⟩
    ·rw[if_neg c0];exact⟨by omega,by omega,λh=>by omega⟩
   refine⟨by split <;>exact jW,?_⟩;rw[er];refine⟨by omega,by omega,?_⟩;refine b9 (src_range (Ok:=λ_=>True)) (λi σ H2=>aq H H2/\∃(ds:List c8) (xs:List V),H2 l=some (.lst xs)/\ds.length=i/\(∀d∈ds,Gb cs d)/\(th=false->∀d∈ds,xG d)/\cg (upd H l (.lst [])) H2 (ds.map dD) xs/\∃z5 z6 z7 z8,σ=[some (.ref a),some (.int k),some (.ref c),some (.bl th),some (.ref l),z5,z6,z7,z8]) ⟨s1,[],[],hl,rfl,(λd hd=>by cases hd),(λ_ d hd=>by cases hd),cN,_,_,_,_,rfl⟩ (λ_ _ _ _ _=>trivial) ?_ ?_
   ·intro i x σ H2 H3 hi fG eL;symm;obtain⟨s3,ds,xs,hx,ld,gd,fc,rx,z5,z6,z7,z8,rfl⟩:=fG;obtain⟨rfl,rfl⟩:=eL;nofun;have xl:xs.length=i:=by have:=bj.length rx;rw[aaA] at this;omega
    have c1:0<cs.length:=rc (by omega);have zu:=s3 _ _ hc;have li:cb (upd H l (.lst [])) H3:=fi s3 hx;simp only[gName,abm,abl,Int.zero_add];refine aP (λN=>∀n:Int,N [some (.ref a),some (.int k),some (.ref c),some (.bl th),some (.ref l),some (.int (i:Int)),some (.int n),z7,z8] H3) (λN hN=>?_) ?_
    ·simp_all only[iz];exact⟨ns,s3.seq hS,by omega,by omega,λn _=>hN n⟩
    intro n;refine aP (λN=>∀c1,c1∈cs->N [some (.ref a),some (.int k),some (.ref c),some (.bl th),some (.ref l),some (.int (i:Int)),some (.int n),some (.str c1),z8] H3) (λN hN=>?_) ?_
    ·symm;obtain⟨y,ey,hy⟩:=lE c1 (n / 5);nofun;simp_all only[];refine⟨cQ.lit,_,zu,?_⟩;rw[aaA];exact⟨by omega,_,zu,_,ey,hN _ hy⟩
    intro y hy;refine aP (λN=>∀c1,c1∈cs->N [some (.ref a),some (.int k),some (.ref c),some (.bl th),some (.ref l),some (.int (i:Int)),some (.int n),some (.str y),some (.str c1)] H3) (λN hN=>?_) ?_
    ·symm;obtain⟨y,ey,hy⟩:=lE c1 (n / 5+1);nofun;simp_all only[];refine⟨cQ.lit,_,zu,?_⟩;rw[aaA];exact⟨by omega,_,zu,_,ey,hN _ hy⟩
    intro y2 hy2;have push:∀(d:c8) (p:Addr) (H5:Hp),aq H3 H5->H5 p=some (.tup (dV d))->Gb cs d->(th=false->xG d)->aq H (upd H5 l (.lst (xs++ [.ref p])))/\∃(DJ:List c8) (En:List V),upd H5 l (.lst (xs++ [.ref p])) l=some (.lst En)/\DJ.length=i+1/\(∀d∈DJ,Gb cs d)/\(th=false->∀d∈DJ,xG d)/\cg (upd H l (.lst [])) (upd H5 l (.lst (xs++ [.ref p]))) (DJ.map dD) En:=λd p H5 s5 e5 gd' fc'=>by
     refine⟨bL (s3.trans s5) nl,ds++ [d],_,aj,by rw[aaE,ld];rfl,λe he=>?_,λht e he=>?_,?_⟩
     ·rcases List.mem_append.mp he with he | he
      ·exact gd e he
      ·rw[List.mem_singleton.mp he];exact gd'
     ·rcases List.mem_append.mp he with he | he
      ·exact fc ht e he
      ·rw[List.mem_singleton.mp he];exact fc' ht
     ·show bj (eZ _ (upd _ _ _)) _ _;rw[fC (ys:=[]) aj,aaM];have e4:eZ (upd H l (.lst [])) H5 p=some (.tup (dV d)):=by
       rw[dX λzs z=>by obtain⟨ws,e⟩:=li.trans s5 _ _ z;rw[e5] at e;cases e];exact e5
      exact jg (yZ.mpr ⟨p,rfl,e4⟩) (rx.mono s5)
    have ty:J0 K "list" (.ref l) H3:=.inl ⟨rfl,_,bG.of hx⟩
    by_cases a1:n % 5=3/\y2≠y
    ·refine ke (λY N k=>by simp_all only[];exact⟨by decide,by rw[if_pos a1.1,if_pos a1.2];exact k⟩) ?_;simp_all only[ck];refine⟨ty,by omega,λp1 H5 s5 np1 e5=>?_⟩;symm;obtain⟨w1,DJ,En,w2,w3,w4,w5,w6⟩:=push (.mv y y2) p1 H5 s5 e5 ⟨hy,hy2,a1.2⟩ λ_=>trivial;nofun;exact⟨_,s5 _ _ hx,by omega,w1,DJ,En,w2,w3,w4,w5,w6,_,rfl⟩
    ·refine iq (λY N k=>by
      simp_all only[];refine⟨by decide,?_⟩
      by_cases e:n % 5=3
      ·rw[if_pos e,if_neg (λz=>a1 ⟨e,z⟩)];exact k
      ·rw[if_neg e,if_neg (by decide)];exact k) ?_
     by_cases a2:n % 5=4/\th=true
     ·refine ke (λY N k=>by simp_all only[];exact⟨by decide,by rw[if_pos a2.1,if_pos a2.2];exact k⟩) ?_;simp_all only[ck];refine⟨ty,by omega,λp1 H5 s5 np1 e5=>?_⟩;obtain⟨w1,DJ,En,w2,w3,w4,w5,w6⟩:=push (.fc y) p1 H5 s5 e5 hy (λz=>by rw[a2.2] at z;cases z);exact⟨_,s5 _ _ hx,by omega,w1,DJ,En,w2,w3,w4,w5,w6,_,rfl⟩
     ·refine iq (λY N k=>by
       simp_all only[];refine⟨by decide,?_⟩
       by_cases e:n % 5=4
       ·rw[if_pos e,if_neg (λz=>a2 ⟨e,z⟩)];exact k
       ·rw[if_neg e,if_neg (by decide)];exact k) ?_
      have q0:=aaX (n / 40) (show(1000:Int)≠0 by decide);have q1:=aaY (n / 40) (show(0:Int)<1000 by decide);obtain⟨ww,Qc,hw⟩:∃z,fQ [V.str (Str.ofString "plus"),V.str (Str.ofString "set")] (n % 2)=some (.str z)/\(z=Str.ofString "set"\/z=Str.ofString "plus"):=by
       have o:n % 2=0\/n % 2=1:=by omega
       rcases o with o | o
       ·rw[o];exact⟨_,rfl,.inr rfl⟩
       ·rw[o];exact⟨_,rfl,.inl rfl⟩
      simp_all only[ck];refine⟨ty,by omega,λp np=>⟨by decide,_,aj,_,Qc,cQ.lit,by decide,by omega,λp1 H5 s5 np1 e5=>?_⟩⟩;have JH:=(ah np).trans s5;symm;obtain⟨w1,DJ,En,w2,w3,w4,w5,w6⟩:=push (.st ww y (n / 40 % 1000)) p1 H5 JH e5 ⟨hw,hy,q0,by omega⟩ λ_=>trivial;nofun;exact⟨_,JH _ _ hx,by omega,w1,DJ,En,w2,w3,w4,w5,w6,_,rfl⟩
   ·intro σ H2 cZ;symm;obtain⟨s3,ds,xs,hx,ld,gd,fc,rx,z5,z6,z7,z8,rfl⟩:=cZ;nofun;exact hN _ ds xs s3 hx ⟨by omega,gd⟩ fc rx _ _ _ _
  rintro H2 ds xs s2 hx dk fc rx z5 z6 z7 z8;simp_all only[];exact kk _ ds H2 s2 nl (cY nl hx (rx.low (.of (ah nl)))) dk fc
theorem lR:aS ["_law_cell","_law_some"] ["_law_cell"] (ai (top 95)):=.mk
theorem JI (T:dm P w base K mg ax aA aJ aB au aD av aL):da P w K mg base (cL P w) 1 "_law_pool" ["_law_cell"] Gv:=by
 refine T.vC.dj (λ_ _ _ _ _ _=>du λ_=>rfl) λf fd F=>F.dA lR (λvs H Q E h=>?_) (λcf A outer s H vs Q E hr h=>?_)
 ·obtain⟨_,rfl,_⟩:=J8 h;rfl
 ·symm;obtain⟨c,rfl,kk⟩:=J8 h;nofun;clear G_;have nd:=lR.nd;refine⟨_,(ag (aH (i:=1) (bx (aa (bx (aa (aY (aa ao (aa af ae))) ae)) (aa (bx (aa (aY (aa ao (aa af (aa af ae)))) ae)) (aa (bx (aa (aY (aa ao (aa af (aa af ae)))) ae)) (aa (bx (aa (aY (aa ao (aa af (aa af ae)))) (aa (aY (aa ao (aa af ae))) ae))) (aa (bx (aa (aY (aa ao (aa af (aa af ae)))) ae)) ae)))))))
  (ag (aH (i:=1) (aw ft (pv 1) (bx (aa (bx (aa (aY (aa ao (aa af (aa af (aa af ae))))) ae)) (aa (bx (aa (aY (aa ao (aa af (aa af (aa af ae))))) ae)) (aa (bx (aa (aY (aa ao (aa af (aa af (aa af ae))))) ae)) (aa (bx (aa (aY (aa ao (aa af (aa af ae)))) (aa (aY (aa ao (aa af (aa af ae)))) ae))) ae)))))))
  (ak (aO (aE aI (pv 1) (aw bu (pv 0) af)))))),?_⟩
  refine(?_:let bP:TS:=_;let bQ:TS:=_;let bR:TS:=_;tSeq bP (tSeq bQ bR) _ _ _);intro bP bQ bR;have sl:=sizeLine_eq;refine aP (λN=>∀K0 l0 Od,aq H K0->K0 l0=some (.lst Od)->cg H K0 ((lC.take 5).map mY) Od->N [some (.int c),some (.ref l0)] K0) (λN hN=>?_) ?_
  ·simp_all only[];refine⟨by decide,λt1 G1 s1 n1 e1=>?_⟩;refine⟨by decide,λt2 n2=>?_⟩;have s2:=ah (o:=.lst [V.ref t1]) n2;have e2:upd G1 t2 (.lst [V.ref t1]) t2=some (.lst [V.ref t1]):=aj;generalize upd G1 t2 (.lst [V.ref t1])=G2 at s2 e2 ⊢;refine⟨by decide,λt3 G3 s3 n3 e3=>?_⟩;refine⟨by decide,λt4 n4=>?_⟩;have s4:=ah (o:=.lst [V.ref t3]) n4;have e4:upd G3 t4 (.lst [V.ref t3]) t4=some (.lst [V.ref t3]):=aj;generalize upd G3 t4 (.lst [V.ref t3])=G4 at s4 e4 ⊢;refine⟨by decide,λt5 G5 s5 n5 e5=>?_⟩;refine⟨by decide,λt6 n6=>?_⟩;have s6:=ah (o:=.lst [V.ref t5]) n6;have e6:upd G5 t6 (.lst [V.ref t5]) t6=some (.lst [V.ref t5]):=aj;generalize upd G5 t6 (.lst [V.ref t5])=G6 at s6 e6 ⊢;refine⟨by decide,λt7 G7 s7 n7 e7=>?_⟩;refine⟨by decide,λt8 G8 s8 n8 e8=>?_⟩;refine⟨by decide,λt9 n9=>?_⟩;have s9:=ah (o:=.lst [V.ref t7,V.ref t8]) n9;have e9:upd G8 t9 (.lst [V.ref t7,V.ref t8]) t9=some (.lst [V.ref t7,V.ref t8]):=aj;generalize upd G8 t9 (.lst [V.ref t7,V.ref t8])=G9 at s9 e9 ⊢;refine⟨by decide,λGO GQ GH n10 e10=>?_⟩;refine⟨by decide,λFz n11=>?_⟩;have Qd:=ah (o:=.lst [V.ref GO]) n11;have e11:upd GQ Fz (.lst [V.ref GO]) Fz=some (.lst [V.ref GO]):=aj;generalize upd GQ Fz (.lst [V.ref GO])=Qe at Qd e11 ⊢;refine⟨by decide,λOe n12=>?_⟩;have Mn:=ah (o:=.lst [V.ref t2,V.ref t4,V.ref t6,V.ref t9,V.ref Fz]) n12;have e12:upd Qe Oe (.lst [V.ref t2,V.ref t4,V.ref t6,V.ref t9,V.ref Fz]) Oe=some (.lst [V.ref t2,V.ref t4,V.ref t6,V.ref t9,V.ref Fz]):=aj;generalize upd Qe Oe (.lst [V.ref t2,V.ref t4,V.ref t6,V.ref t9,V.ref Fz])=Of at Mn e12 ⊢;have q12:aq Of Of:=aq.refl _;have q11:=Mn.trans q12;have Og:=Qd.trans q11;have q9:=GH.trans Og;have q8:=s9.trans q9;have q7:=s8.trans q8;have q6:=s7.trans q7;have q5:=s6.trans q6;have q4:=s5.trans q5;have q3:=s4.trans q4;have q2:=s3.trans q3;have q1:=s2.trans q2;have q0:=s1.trans q1;have sF:aq H Of:=q0;have p1:aq H G1:=s1;have p2:aq H G2:=p1.trans s2;have p3:aq H G3:=p2.trans s3;have p4:aq H G4:=p3.trans s4;have p5:aq H G5:=p4.trans s5;have p6:aq H G6:=p5.trans s6;have p7:aq H G7:=p6.trans s7;have p8:aq H G8:=p7.trans s8;have p9:aq H G9:=p8.trans s9;have p10:aq H GQ:=p9.trans GH;have p11:aq H Qe:=p10.trans Qd;have h2:H t2=none:=none_of p1 n2;have h4:H t4=none:=none_of p3 n4;have h6:H t6=none:=none_of p5 n6;have h9:H t9=none:=none_of p8 n9;have h11:H Fz=none:=none_of p10 n11;have rN:cg H Of (List.map mY [[.num 0],[.cB 1 8],[.cB 3 3],[.one (Str.ofString "again") 1 6,.num 2],[.one (Str.ofString "burst") 2 2]]) [V.ref t2,V.ref t4,V.ref t6,V.ref t9,V.ref Fz]:=bA (cY h2 (q2 _ _ e2) (bA (js (.of sF) (q1 _ _ e1) bK bH) cN)) (bA (cY h4 (q4 _ _ e4) (bA (tQ (.of sF) (q3 _ _ e3) bK bH bH) cN)) (bA (cY h6 (q6 _ _ e6) (bA (tQ (.of sF) (q5 _ _ e5) bK bH bH) cN)) (bA (cY h9 (q9 _ _ e9) (bA (tQ (.of sF) (q7 _ _ e7) bK bH bH) (bA (js (.of sF) (q8 _ _ e8) bK bH) cN))) (bA (cY h11 (q11 _ _ e11) (bA (tQ (.of sF) (Og _ _ e10) bK bH bH) cN)) (cN)))));exact hN _ Oe _ q0 e12 rN
  rintro K0 l0 Od sK0 O6 rv0;have lv0:Od.length=5:=by have:=bj.length rv0;rw[aaA] at this;exact this.symm
  refine aP (λN=>∀K1 l1 Oh,aq H K1->K1 l1=some (.lst Oh)->cg H K1 (lC.map mY) Oh->N [some (.int c),some (.ref l1)] K1) (λN hN=>?_) ?_
  ·simp_all only[oV];refine⟨by decide,λt1 G1 s1 n1 e1=>?_⟩;refine⟨by decide,λt2 n2=>?_⟩;have s2:=ah (o:=.lst [V.ref t1]) n2;have e2:upd G1 t2 (.lst [V.ref t1]) t2=some (.lst [V.ref t1]):=aj;generalize upd G1 t2 (.lst [V.ref t1])=G2 at s2 e2 ⊢;refine⟨by decide,λt3 G3 s3 n3 e3=>?_⟩;refine⟨by decide,λt4 n4=>?_⟩;have s4:=ah (o:=.lst [V.ref t3]) n4;have e4:upd G3 t4 (.lst [V.ref t3]) t4=some (.lst [V.ref t3]):=aj;generalize upd G3 t4 (.lst [V.ref t3])=G4 at s4 e4 ⊢;refine⟨by decide,λt5 G5 s5 n5 e5=>?_⟩;refine⟨by decide,λt6 n6=>?_⟩;have s6:=ah (o:=.lst [V.ref t5]) n6;have e6:upd G5 t6 (.lst [V.ref t5]) t6=some (.lst [V.ref t5]):=aj;generalize upd G5 t6 (.lst [V.ref t5])=G6 at s6 e6 ⊢;refine⟨by decide,λt7 G7 s7 n7 e7=>?_⟩;refine⟨by decide,λt8 G8 s8 n8 e8=>?_⟩;refine⟨by decide,λt9 n9=>?_⟩;have s9:=ah (o:=.lst [V.ref t7,V.ref t8]) n9;have e9:upd G8 t9 (.lst [V.ref t7,V.ref t8]) t9=some (.lst [V.ref t7,V.ref t8]):=aj;generalize upd G8 t9 (.lst [V.ref t7,V.ref t8])=G9 at s9 e9 ⊢;refine⟨by decide,λGO n10=>?_⟩;have GH:=ah (o:=.lst [V.ref t2,V.ref t4,V.ref t6,V.ref t9]) n10;have e10:upd G9 GO (.lst [V.ref t2,V.ref t4,V.ref t6,V.ref t9]) GO=some (.lst [V.ref t2,V.ref t4,V.ref t6,V.ref t9]):=aj;generalize upd G9 GO (.lst [V.ref t2,V.ref t4,V.ref t6,V.ref t9])=GQ at GH e10 ⊢;have Og:aq GQ GQ:=aq.refl _;have q9:=GH.trans Og;have q8:=s9.trans q9;have q7:=s8.trans q8;have q6:=s7.trans q7;have q5:=s6.trans q6;have q4:=s5.trans q5;have q3:=s4.trans q4;have q2:=s3.trans q3;have q1:=s2.trans q2;have q0:=s1.trans q1;have sF:aq H GQ:=sK0.trans q0;have p1:aq H G1:=sK0.trans s1;have p2:aq H G2:=p1.trans s2;have p3:aq H G3:=p2.trans s3;have p4:aq H G4:=p3.trans s4;have p5:aq H G5:=p4.trans s5;have p6:aq H G6:=p5.trans s6;have p7:aq H G7:=p6.trans s7;have p8:aq H G8:=p7.trans s8;have p9:aq H G9:=p8.trans s9;have h2:H t2=none:=none_of p1 n2;have h4:H t4=none:=none_of p3 n4;have h6:H t6=none:=none_of p5 n6;have h9:H t9=none:=none_of p8 n9;have rN:cg H GQ (List.map mY [[.many (Str.ofString "best") 2 3 4],[.many (Str.ofString "worst") 1 2 6],[.many (Str.ofString "hits") 1 1 6],[.cB 1 2,.cB 1 2]]) [V.ref t2,V.ref t4,V.ref t6,V.ref t9]:=bA (cY h2 (q2 _ _ e2) (bA (qE (.of sF) (q1 _ _ e1) bK bH bH bH) cN)) (bA (cY h4 (q4 _ _ e4) (bA (qE (.of sF) (q3 _ _ e3) bK bH bH bH) cN)) (bA (cY h6 (q6 _ _ e6) (bA (qE (.of sF) (q5 _ _ e5) bK bH bH bH) cN)) (bA (cY h9 (q9 _ _ e9) (bA (tQ (.of sF) (q7 _ _ e7) bK bH bH) (bA (tQ (.of sF) (q8 _ _ e8) bK bH bH) cN))) (cN))));have hL:=q0 _ _ O6;refine⟨_,hL,_,e10,by rw[lv0];show 5+4<=sizeLine;omega,λtz nz=>?_⟩;refine hN _ tz _ (sF.trans (ah nz)) aj ?_;rw[show lC.map mY=(lC.take 5).map mY++List.map mY [[.many (Str.ofString "best") 2 3 4],[.many (Str.ofString "worst") 1 2 6],[.many (Str.ofString "hits") 1 1 6],[.cB 1 2,.cB 1 2]] from rfl];exact bj.append (cg.mono (q0.trans (ah nz)) rv0) (cg.mono (ah nz) rN)
  rintro K1 l1 Oh sK1 jo rv1;have lv1:Oh.length=9:=by have:=bj.length rv1;rw[aaA] at this;exact this.symm
  have n0:=aaX c (show(9:Int)≠0 by decide);have n1:=aaY c (show(0:Int)<9 by decide);obtain⟨ps,eps⟩:∃ps,lC[(c % 9).toNat]?=some ps:=⟨_,aaW (show(c % 9).toNat<lC.length from by show _<9;omega)⟩
  obtain⟨v,ev,rv⟩:=rv1.ix n0 (show(lC.map mY)[(c % 9).toNat]?=some (mY ps) by rw[aaG,eps];rfl);symm;obtain⟨p,xs,rfl,hp,_⟩:=bU.mp (show Rep _ (.lst _) v from rv);nofun;simp_all only[];exact⟨by decide,_,jo,_,ev,kk p ps K1 sK1 rv (aaO eps)⟩
theorem fJ:aS ["_law_script","_law_at_here","_law_counted","_law_named","_law_low","_law_rows","_law_j","_law_high","_law_goal"] ["_law_script","_law_at_here","_law_counted","_law_named"] (ai (top 96)):=.mk
theorem Ds {H:Hp} {ds:List Dat} {vs:List V} (h:bj H ds vs):bj H ds.reverse vs.reverse:=by
 have l:=h.length;refine bj.of (by rw[abt,abt,l]) λi d v ed ev=>?_;have hi:=(List.getElem?_eq_some_iff.mp ev).1;rw[abt] at hi;rw[List.getElem?_reverse (by omega)] at ed;rw[List.getElem?_reverse hi] at ev;rw[l] at ed;obtain⟨d',e,r⟩:=h.get ev;rw[ed] at e;cases e;exact r
theorem JJ (T:dm P w base K mg ax aA aJ aB au aD av aL):da P w K mg base (cL P w) 3 "_law_throw_rows" ["_law_script","_law_at_here","_law_counted","_law_named"] (Gw K):=by
 have bV:=wj T;have ij:=Dr T;refine T.kM.dj (λ_ _ _ _ _ _=>vH λ_ _ _ _=>rfl) λf fd F=>F.dA fJ (λvs H Q E h=>?_) (λcf A outer s H vs Q E hr h=>?_)
 ·obtain⟨_,_,_,_,rfl,_⟩:=uh h;rfl
 ·symm;obtain⟨a,k,c,d,rfl,ns,hS,k0,k1,cs,hc,c4,nm,hd,n1,Oi,kk⟩:=uh h;nofun;clear G_;have nd:=fJ.nd;refine⟨_,(ag (aH (i:=4) af)
  (ag (aH (i:=5) (bx ae))
  (ag (cH PassesOwn.never rfl (dn rfl T.z_range (aa (aw bu (ar bV (aa (pv 0) (aa (pv 1) ae))) af) ae)) (aU (i:=6) nd rfl (Or.inl rfl)) (ag (aH (i:=7) (aw bC (pv 4) (aw bu (ar bV (aa (pv 0) (aa (aw bC (aw bC (pv 1) af) (pv 6)) ae))) af)))
  (ag (aH (i:=8) (aE aI (pv 3) (aw bu (ar bV (aa (pv 0) (aa (aw bC (aw bC (pv 1) af) (pv 6)) ae))) (aF aW (by rfl) T.z_len aaF (aa (pv 3) ae)))))
  (ag (aX (cu aaV aaZ aa0 bY.r (pv 5) (aa (aY (aa (pv 4) (aa (pv 7) (aa (ar ij (aa (pv 0) (aa (aw bC (aw bC (pv 1) af) (aw cO af (pv 6))) (aa (pv 2) (aa kx ae))))) (aa (pv 8) ae))))) ae)))
  (ak (aH (i:=4) (aw bC (pv 7) af)))))))
  (ag (aH (i:=8) (aE aI (pv 3) (aw bu (ar bV (aa (pv 0) (aa (aw bC (pv 1) af) ae))) (aF aW (by rfl) T.z_len aaF (aa (pv 3) ae)))))
  (ag (aX (cu aaV aaZ aa0 bY.r (pv 5) (aa (aY (aa (pv 4) (aa (aw iF af (aw bu (aw bT (ar bV (aa (pv 0) (aa (pv 1) ae))) af) af)) (aa (bx ae) (aa (pv 8) ae))))) ae)))
  (ag (bp (aM bF (aw bu (aw bT (ar bV (aa (pv 0) (aa (pv 1) ae))) af) af) af (aK _)) (ak (aX (wQ aaV PySem.F.slot_list_reverse PySem.F.type_list_reverse oU.r (pv 5))))
   aT)
  (ak (aO (pv 5))))))))),?_⟩
  refine(?_:let bP:TS:=_;let bQ:TS:=_;let bR:TS:=_;let cm:TS:=_;let fH:TS:=_;let iX:TS:=_;let nO:TS:=_;tSeq bP (tSeq bQ (tSeq bR (tSeq cm (tSeq fH (tSeq iX nO))))) _ _ _);intro bP bQ bR cm fH iX nO;have sl:=sizeLine_eq;refine aP (λN=>N [some (.ref a),some (.int k),some (.ref c),some (.ref d),some (.int 0),none,none,none,none] H) (λN hN=>?_) ?_
  ·simp_all only[];exact hN
  refine aP (λN=>∀H1 l,aq H H1->H l=none->H1 l=some (.lst [])->N [some (.ref a),some (.int k),some (.ref c),some (.ref d),some (.int 0),some (.ref l),none,none,none] H1) (λN hN=>?_) ?_
  ·simp_all only[];exact⟨aaP _,λl nl=>hN _ l (ah nl) nl aj⟩
  rintro H1 l s1 nl hl;have pick:∀(H2:Hp) (n:Int),aq H H2->∃y,y∈nm/\H2 d=some (.lst (List.map V.str nm))/\0< (nm.length:Int)/\fQ (List.map V.str nm) (n % (nm.length:Int))=some (.str y):=λH2 n s2=>by
   symm;obtain⟨y,ey,hy⟩:=lE (ts:=nm) (by omega) n;nofun;exact⟨y,hy,s2 _ _ hd,by omega,ey⟩
  refine aP (λN=>∀H2 (low:Int) (rs:List eD) xs,aq H H2->0<=low->low<=20->H2 l=some (.lst xs)->rs.length<=3->(∀r∈rs,AO cs nm r)->(∀v:Int,0<=v->(rs.filter λr=>decide (r.lo<=v) && decide (v<=r.hi)).length=if v<low then 1 else 0)->cg (upd H l (.lst [])) H2 (rs.map wz) xs->∀z6 z7 z8,N [some (.ref a),some (.int k),some (.ref c),some (.ref d),some (.int low),some (.ref l),z6,z7,z8] H2) (λN hN=>?_) ?_
  ·simp_all only[iz];refine⟨ns,s1.seq hS,k0,by omega,λn _=>?_⟩;have n1:=aaX n (show(4:Int)≠0 by decide);have n2:=aaY n (show(0:Int)<4 by decide);refine⟨by decide,by omega,by omega,b9 (src_range (Ok:=λ_=>True))
    (λi σ H2=>aq H H2/\∃(low:Int) (rs:List eD) (xs:List V),0<=low/\low<=6*i/\H2 l=some (.lst xs)/\rs.length=i/\(∀r∈rs,AO cs nm r)/\(∀v:Int,0<=v->(rs.filter λr=>decide (r.lo<=v) && decide (v<=r.hi)).length=if v<low then 1 else 0)/\cg (upd H l (.lst [])) H2 (rs.map wz) xs/\∃z6 z7 z8,σ=[some (.ref a),some (.int k),some (.ref c),some (.ref d),some (.int low),some (.ref l),z6,z7,z8])
    ⟨s1,0,[],[],by omega,by omega,hl,rfl,(λr hr=>by cases hr),(λv v0=>by rw[if_neg (by omega)];rfl),cN,_,_,_,rfl⟩ (λ_ _ _ _ _=>trivial) ?_ ?_⟩
   ·intro i x σ H2 H3 hi fG eL;symm;obtain⟨s3,low,rs,xs,w0,w1,hx,lr,gr,fr,rx,z6,z7,z8,rfl⟩:=fG;obtain⟨rfl,rfl⟩:=eL;nofun;have xl:xs.length=i:=by have:=bj.length rx;rw[aaA] at this;omega
    have DK:=s3.seq hS;simp only[gName,abm,abl,Int.zero_add];refine aP (λN=>∀high:Int,low<=high->high<=low+5->N [some (.ref a),some (.int k),some (.ref c),some (.ref d),some (.int low),some (.ref l),some (.int (i:Int)),some (.int high),z8] H3) (λN hN=>?_) ?_
    ·simp_all only[iz];refine⟨ns,DK,by omega,by omega,λm _=>?_⟩;have m1:=aaX m (show(6:Int)≠0 by decide);have m2:=aaY m (show(0:Int)<6 by decide);exact⟨by decide,hN _ (by omega) (by omega)⟩
    intro high h1 h2;refine aP (λN=>∀g,g∈nm->N [some (.ref a),some (.int k),some (.ref c),some (.ref d),some (.int low),some (.ref l),some (.int (i:Int)),some (.int high),some (.str g)] H3) (λN hN=>?_) ?_
    ·simp_all only[iz];refine⟨ns,DK,by omega,by omega,λm _=>?_⟩;symm;obtain⟨y,hy,GR,nz,ey⟩:=pick H3 m s3;nofun;refine⟨_,GR,?_⟩;rw[aaA];exact⟨nz,_,GR,_,ey,hN _ hy⟩
    intro g hg;refine aP (λN=>∀H4 (rs:List eD) (xs:List V),aq H H4->H4 l=some (.lst xs)->rs.length=i+1->(∀r∈rs,AO cs nm r)->(∀v:Int,0<=v->(rs.filter λr=>decide (r.lo<=v) && decide (v<=r.hi)).length=if v<high+1 then 1 else 0)->cg (upd H l (.lst [])) H4 (rs.map wz) xs->N [some (.ref a),some (.int k),some (.ref c),some (.ref d),some (.int low),some (.ref l),some (.int (i:Int)),some (.int high),some (.str g)] H4) (λN hN=>?_) ?_
    ·have li:=fi s3 hx;have call:∀KK:V->Hp->Prop,(∀p (ds:List c8) H4,aq H3 H4->H3 p=none->b5 H3 H4 (.lst (ds.map dD)) (.ref p)->qJ cs ds->KK (.ref p) H4)->tCall (pW K) [] E0 (tCons (tVar 0) (tCons (tOp (rI0 λi j=>V.int (i+j)) (tOp (rI0 λi j=>V.int (i+j)) (tVar 1) (tC (V.int 9))) (tOp (rI IntMulOk λi j=>V.int (i*j)) (tC (V.int 6)) (tVar 6))) (tCons (tVar 2) (tCons (tC (V.bl true)) tNil)))) [some (.ref a),some (.int k),some (.ref c),some (.ref d),some (.int low),some (.ref l),some (.int (i:Int)),some (.int high),some (.str g)] H3 KK:=λKK hK=>by
      show IntMulOk 6 (i:Int)/\pW K [V.ref a,V.int (k+9+6* (i:Int)),V.ref c,V.bl true] H3 KK E0;refine⟨eO,?_⟩;simp_all only[pW];exact⟨ns,DK,by omega,by omega,cs,s3 _ _ hc,c4,λp ds H4 s4 np rp dk _=>hK p ds H4 s4 np rp dk⟩
     refine xS rfl (.inl ⟨rfl,_,bG.of hx⟩) (uA (cP (gC rfl (cP (gC rfl (cP (call _ λp ds H4 s4 np rp dk=>cP (gC rfl (xT ⟨(show 4<=sizeLine by omega),λq H5 s5 nq e5=>⟨_,s5 _ _ (s4 _ _ hx),by omega,?_⟩⟩)))))))));refine hN _ (rs++ [⟨low,high,ds,g⟩]) _ (bL (s3.trans (s4.trans s5)) nl) aj (by rw[aaE,lr];rfl) (λr fh=>?_) (λv v0=>?_) ?_
     ·rcases List.mem_append.mp fh with h | h
      ·exact gr r h
      ·rw[List.mem_singleton.mp h];exact⟨⟨w0,(show low<=999 by omega)⟩,⟨(show 0<=high by omega),(show high<=999 by omega)⟩,h1,dk,hg⟩
     ·rw[List.filter_append,aaE,fr v v0]
      by_cases c1:v<low
      ·rw[if_pos c1,if_pos (by omega),List.filter_cons_of_neg (by simp;omega)];rfl
      ·rw[if_neg c1]
       by_cases c2:v<high+1
       ·rw[if_pos c2,List.filter_cons_of_pos (by simp;omega)];rfl
       ·rw[if_neg c2,List.filter_cons_of_neg (by simp;omega)];rfl
     ·show bj (eZ _ (upd _ _ _)) _ _;rw[fC (ys:=[]) aj,aaM];exact jg (qE (li.trans (s4.trans s5)) e5 bH bH ((rp.mono s5).low li) bK) (rx.mono (s4.trans s5))
    rintro H4 rs4 xs4 s4 hx4 lr4 gr4 NV rx4;simp_all only[];refine⟨s4,high+1,by omega,by omega,rs4,xs4,hx4,lr4,gr4,NV,rx4,?_⟩
    first | exact⟨_,rfl⟩ | exact⟨rfl,_,rfl⟩ | exact⟨_,_,rfl⟩ | exact⟨_,_,_,rfl⟩
   ·intro σ H2 cZ;symm;obtain⟨s3,low,rs,xs,w0,w1,hx,lr,gr,fr,rx,z6,z7,z8,rfl⟩:=cZ;nofun;exact hN _ low rs xs s3 w0 (by omega) hx (by omega) gr fr rx _ _ _
  rintro H2 low rs xs s2 w0 w1 hx lr gr fr rx z6 z7 z8;have xl:xs.length=rs.length:=by have:=bj.length rx;rw[aaA] at this;omega
  refine aP (λN=>∀g,g∈nm->N [some (.ref a),some (.int k),some (.ref c),some (.ref d),some (.int low),some (.ref l),z6,z7,some (.str g)] H2) (λN hN=>?_) ?_
  ·simp_all only[iz];refine⟨ns,s2.seq hS,by omega,by omega,λm _=>?_⟩;symm;obtain⟨y,hy,GR,nz,ey⟩:=pick H2 m s2;nofun;refine⟨_,GR,?_⟩;rw[aaA];exact⟨nz,_,GR,_,ey,hN _ hy⟩
  intro g hg;refine aP (λN=>∀H4 (rs:List eD) (xs:List V),aq H H4->H4 l=some (.lst xs)->1<=rs.length->rs.length<=4->(∀r∈rs,AO cs nm r)->(∀v:Int,0<=v->v<=998->(rs.filter λr=>decide (r.lo<=v) && decide (v<=r.hi)).length=1)->cg (upd H l (.lst [])) H4 (rs.map wz) xs->N [some (.ref a),some (.int k),some (.ref c),some (.ref d),some (.int low),some (.ref l),z6,z7,some (.str g)] H4) (λN hN=>?_) ?_
  ·have li:=fi s2 hx;simp_all only[iz,ck];refine⟨.inl ⟨rfl,_,bG.of hx⟩,ns,s2.seq hS,by omega,by omega,λm _=>⟨cQ.lit,by decide,aaP _,λp np=>⟨by decide,λq H5 s5 nq e5=>?_⟩⟩⟩;have m1:=aaX (m / 9) (show(2:Int)≠0 by decide);have m2:=aaY (m / 9) (show(0:Int)<2 by decide);have Oj:=(ah (o:=.lst []) np).trans s5;have PQ:(upd H l (.lst [])) p=none:=by
    rw[aV (λz=>by rw[z,hx] at np;cases np)];exact none_of s2 np
   refine⟨_,Oj _ _ hx,by omega,hN _ (rs++ [⟨low,999 - m / 9 % 2,[],g⟩]) _ (bL (s2.trans Oj) nl) aj (by rw[aaE];exact Nat.le_add_left _ _) (by rw[aaE];exact Nat.add_le_add_right lr 1) (λr fh=>?_) (λv v0 v1=>?_) ?_⟩
   ·rcases List.mem_append.mp fh with h | h
    ·exact gr r h
    ·rw[List.mem_singleton.mp h];exact⟨⟨w0,(show low<=999 by omega)⟩,⟨(show 0<=999 - m / 9 % 2 by omega),(show 999 - m / 9 % 2<=999 by omega)⟩,(show low<=999 - m / 9 % 2 by omega),⟨aaP _,(λd hd=>by cases hd)⟩,hg⟩
   ·rw[List.filter_append,aaE,fr v v0]
    by_cases c1:v<low
    ·rw[if_pos c1,List.filter_cons_of_neg (by simp;omega)];rfl
    ·rw[if_neg c1,List.filter_cons_of_pos (by simp;omega)];rfl
   ·show bj (eZ _ (upd _ _ _)) _ _;rw[fC (ys:=[]) aj,aaM];exact jg (qE (li.trans Oj) e5 bH bH (cY PQ (s5 _ _ aj) cN) bK) (rx.mono Oj)
  clear hx lr gr fr rx xl xs rs;rintro H4 rs xs s4 hx r1 r4 gr fr rx;refine aP (λN=>∀H4 (rs:List eD) (xs:List V),aq H H4->H4 l=some (.lst xs)->1<=rs.length->rs.length<=4->(∀r∈rs,AO cs nm r)->(∀v:Int,0<=v->v<=998->(rs.filter λr=>decide (r.lo<=v) && decide (v<=r.hi)).length=1)->cg (upd H l (.lst [])) H4 (rs.map wz) xs->N [some (.ref a),some (.int k),some (.ref c),some (.ref d),some (.int low),some (.ref l),z6,z7,some (.str g)] H4) (λN hN=>?_) ?_
  ·simp_all only[iz,D2,oS];refine⟨ns,s4.seq hS,k0,by omega,λn _=>⟨cQ.lit,by decide,dO (λ_=>?_) (λ_=>hN _ rs xs s4 hx r1 r4 gr fr rx)⟩⟩;refine⟨.inl ⟨rfl,_,bG.of hx⟩,_,hx,hN _ rs.reverse xs.reverse (bL s4 nl) aj (by rw[abt];exact r1) (by rw[abt];exact r4) (λr fh=>gr r (List.mem_reverse.mp fh)) (λv v0 v1=>by rw[List.filter_reverse,abt];exact fr v v0 v1) ?_⟩;show bj (eZ _ (upd _ _ _)) _ _;rw[fC (ys:=[]) aj,List.map_reverse];exact Ds rx
  clear hx r1 r4 gr fr rx xs rs s4 H4;rintro H4 rs xs s4 hx r1 r4 gr fr rx;simp_all only[];exact kk _ rs H4 s4 nl (cY nl hx (rx.low (.of (ah nl)))) r1 r4 gr fr
theorem gf:aS ["_law_script","_law_at_here","_law_counted","_law_named","_law_rows","_law_j","_law_cell","_law_when","_law_goal","_law_word"] ["_law_script","_law_at_here","_law_counted","_law_named"] (ai (top 97)):=.mk
theorem condB {G H:Hp} (s:cb G H) {c:jt} {q:Addr} (h:H q=some (.tup [.str c.1,.str c.2.1,.int c.2.2])):b5 G H (lj (some c)) (.ref q):=by
 refine LN.mpr ⟨q,rfl,?_⟩;rw[dX λzs z=>by obtain⟨ws,e⟩:=s _ _ z;rw[h] at e;cases e];exact h
theorem uB {ws:List Str} (h:ws.Nodup) (i:Nat):(ws.take i).Nodup:=h.sublist (List.take_sublist _ _)
theorem JK (T:dm P w base K mg ax aA aJ aB au aD av aL):da P w K mg base (cL P w) 3 "_law_pick_rows" ["_law_script","_law_at_here","_law_counted","_law_named"] (Gx K):=by
 have bV:=wj T;have fe:=GN T;have ij:=Dr T;refine T.mQ.dj (λ_ _ _ _ _ _=>vH λ_ _ _ _=>rfl) λf fd F=>F.dA gf (λvs H Q E h=>?_) (λcf A outer s H vs Q E hr h=>?_)
 ·obtain⟨_,_,_,_,rfl,_⟩:=uh h;rfl
 ·symm;obtain⟨a,k,c,d,rfl,ns,hS,k0,k1,cs,hc,c4,nm,hd,n1,Oi,kk⟩:=uh h;nofun;have nd:=gf.nd;refine⟨_,(ag (aH (i:=4) (bx ae))
  (ag (cH PassesOwn.never rfl (dn rfl T.z_range (aa (aw bC af (aw bu (ar bV (aa (pv 0) (aa (pv 1) ae))) af)) ae)) (aU (i:=5) nd rfl (Or.inl rfl)) (ag (aH (i:=6) (ar bV (aa (pv 0) (aa (aw bC (aw bC (pv 1) af) (pv 5)) ae))))
  (ag (aH (i:=7) eB)
  (ag (bp (PW.pt (pw_and (aM bF (aw bu (pv 6) af) af (aK _)) (pw_and1 (aM eI (aF aW (by rfl) T.z_len aaF (aa (pv 2) ae)) af (aK _))))) (ak (aH (i:=7) (aY (aa (aE aI (pv 2) (aw bu (aw bT (pv 6) af) (aF aW (by rfl) T.z_len aaF (aa (pv 2) ae)))) (aa (aE aI (bx (aa ao (aa ao ae))) (aw bu (aw bT (pv 6) af) af)) (aa (aw bu (aw bT (pv 6) af) af) ae))))))
   aT)
  (ag (aH (i:=8) (aE aI (pv 3) (aw bu (ar bV (aa (pv 0) (aa (aw bC (aw bC (pv 1) af) (pv 5)) ae))) (aF aW (by rfl) T.z_len aaF (aa (pv 3) ae)))))
  (ag (aH (i:=9) (aE aI (ar fe (aa (aw bT (ar bV (aa (pv 0) (aa (pv 1) ae))) af) ae)) (pv 5)))
  (ak (aX (cu aaV aaZ aa0 bY.r (pv 4) (aa (aY (aa (pv 9) (aa (pv 7) (aa (ar ij (aa (pv 0) (aa (aw bC (aw bC (pv 1) af) (aw cO af (pv 5))) (aa (pv 2) (aa kx ae))))) (aa (pv 8) ae))))) ae))))))))))
  (ak (aO (pv 4))))),?_⟩
  refine(?_:let bP:TS:=_;let bQ:TS:=_;let bR:TS:=_;tSeq bP (tSeq bQ bR) _ _ _);intro bP bQ bR;have sl:=sizeLine_eq;refine aP (λN=>∀H1 l,aq H H1->H l=none->H1 l=some (.lst [])->N [some (.ref a),some (.int k),some (.ref c),some (.ref d),some (.ref l),none,none,none,none,none] H1) (λN hN=>?_) ?_
  ·simp_all only[];exact⟨aaP _,λl nl=>hN _ l (ah nl) nl aj⟩
  rintro H1 l s1 nl hl;refine aP (λN=>∀H2 (rs:List ia) xs,aq H H2->H2 l=some (.lst xs)->1<=rs.length->rs.length<=4->(∀r∈rs,Gc cs nm r)->(rs.map (·.wd)).Nodup->cg (upd H l (.lst [])) H2 (rs.map Ct) xs->∀z5 z6 z7 z8 z9,N [some (.ref a),some (.int k),some (.ref c),some (.ref d),some (.ref l),z5,z6,z7,z8,z9] H2) (λN hN=>?_) ?_
  ·simp_all only[iz];refine⟨ns,s1.seq hS,k0,by omega,λn Ac=>?_⟩;have n1:=aaX n (show(4:Int)≠0 by decide);have n2:=aaY n (show(0:Int)<4 by decide);refine⟨by decide,by omega,by omega,b9 (src_range (Ok:=λ_=>True))
    (λi σ H2=>aq H H2/\∃(rs:List ia) (xs:List V),H2 l=some (.lst xs)/\rs.length=i/\(∀r∈rs,Gc cs nm r)/\rs.map (·.wd)=(om (n / 4)).take i/\cg (upd H l (.lst [])) H2 (rs.map Ct) xs/\∃z5 z6 z7 z8 z9,σ=[some (.ref a),some (.int k),some (.ref c),some (.ref d),some (.ref l),z5,z6,z7,z8,z9])
    ⟨s1,[],[],hl,rfl,(λr hr=>by cases hr),rfl,cN,_,_,_,_,_,rfl⟩ (λ_ _ _ _ _=>trivial) ?_ ?_⟩
   ·intro i x σ H2 H3 hi fG eL;symm;obtain⟨s3,rs,xs,hx,lr,gr,wr,rx,z5,z6,z7,z8,z9,rfl⟩:=fG;obtain⟨rfl,rfl⟩:=eL;nofun;have xl:xs.length=i:=by have:=bj.length rx;rw[aaA] at this;omega
    have DK:=s3.seq hS;have zu:=s3 _ _ hc;have GR:=s3 _ _ hd;have li:=fi s3 hx;simp only[gName,abm,abl,Int.zero_add];refine aP (λN=>∀m:Int,N [some (.ref a),some (.int k),some (.ref c),some (.ref d),some (.ref l),some (.int (i:Int)),some (.int m),z7,z8,z9] H3) (λN hN=>?_) ?_
    ·simp_all only[iz];exact⟨ns,DK,by omega,by omega,λm _=>hN m⟩
    intro m;refine aP (λN=>N [some (.ref a),some (.int k),some (.ref c),some (.ref d),some (.ref l),some (.int (i:Int)),some (.int m),some .c6,z8,z9] H3) (λN hN=>?_) ?_
    ·simp_all only[];exact hN
    refine aP (λN=>∀H4 wh u,aq H3 H4->LU cs wh->b5 (upd H l (.lst [])) H4 (lj wh) u->N [some (.ref a),some (.int k),some (.ref c),some (.ref d),some (.ref l),some (.int (i:Int)),some (.int m),some u,z8,z9] H4) (λN hN=>?_) ?_
    ·have nn:=hN H3 none .c6 (aq.refl _) (λc e=>by cases e) B7;simp_all only[];refine⟨by decide,dO (λ_=>⟨_,zu,?_⟩) (λ_=>?_)⟩
     ·rw[aaA]
      by_cases c0:0<cs.length
      ·rw[if_pos (by simpa using c0)];symm;obtain⟨y,ey,hy⟩:=lE c0 (m / 2);have q0:=aaX (m / 16) (show(1000:Int)≠0 by decide);have q1:=aaY (m / 16) (show(0:Int)<1000 by decide);obtain⟨ww,Qc,hw⟩:∃z,fQ [V.str (Str.ofString "below"),V.str (Str.ofString "from")] (m / 8 % 2)=some (.str z)/\(z=Str.ofString "from"\/z=Str.ofString "below"):=by
        have o:m / 8 % 2=0\/m / 8 % 2=1:=by omega
        rcases o with o | o
        ·rw[o];exact⟨_,rfl,.inr rfl⟩
        ·rw[o];exact⟨_,rfl,.inl rfl⟩
       nofun;refine⟨cQ.lit,_,zu,by rw[aaA];omega,_,zu,_,by rw[aaA];exact ey,by decide,λt nt=>⟨cQ.lit,by decide,_,aj,_,Qc,cQ.lit,by decide,by decide,λq H2 s2 nq e2=>?_⟩⟩;have s32:=(ah (o:=.lst [V.str (Str.ofString "below"),V.str (Str.ofString "from")]) nt).trans s2;exact hN _ (some (y,ww,m / 16 % 1000)) _ s32 (λc' e=>by cases e;exact⟨hy,hw,q0,(show m / 16 % 1000<=999 by omega)⟩) (condB (li.trans s32) e2)
      ·rw[if_neg (by simpa using c0)];exact nn
     ·first | exact nn | (rw[if_neg (by decide)];exact nn)
    rintro H4 wh u s4 okc ru;have s04:=s3.trans s4;refine aP (λN=>∀g,g∈nm->N [some (.ref a),some (.int k),some (.ref c),some (.ref d),some (.ref l),some (.int (i:Int)),some (.int m),some u,some (.str g),z9] H4) (λN hN=>?_) ?_
    ·simp_all only[iz];refine⟨ns,s4.seq DK,by omega,by omega,λm _=>?_⟩;symm;obtain⟨y,ey,hy⟩:=lE (ts:=nm) (by omega) m;nofun;refine⟨_,s4 _ _ GR,?_⟩;rw[aaA];exact⟨by omega,_,s4 _ _ GR,_,ey,hN _ hy⟩
    intro g hg;refine aP (λN=>∀H5 y,aq H4 H5->(om (n / 4))[i]?=some y->N [some (.ref a),some (.int k),some (.ref c),some (.ref d),some (.ref l),some (.int (i:Int)),some (.int m),some u,some (.str g),some (.str y)] H5) (λN hN=>?_) ?_
    ·simp_all only[iz,zp];refine⟨ns,s4.seq DK,k0,by omega,λn2 Qf=>?_⟩;rw[<-Ac.one Qf];refine⟨cQ.lit,λp H5 s5 np hp=>?_⟩;have l30:=zo (n / 4);symm;obtain⟨y,ey,hy⟩:=pickK (ts:=om (n / 4)) (k:=(i:Int)) (by omega) (by omega);nofun;exact⟨_,hp,_,ey,hN _ _ s5 hy⟩
    rintro H5 y s5 ey;have Qg:=s04.trans s5;have JH:=s4.trans s5;have hx5:=JH _ _ hx;have call:∀KK:V->Hp->Prop,(∀p (ds:List c8) H6,aq H5 H6->H5 p=none->b5 H5 H6 (.lst (ds.map dD)) (.ref p)->qJ cs ds->(∀d∈ds,xG d)->KK (.ref p) H6)->tCall (pW K) [] E0 (tCons (tVar 0) (tCons (tOp (rI0 λi j=>V.int (i+j)) (tOp (rI0 λi j=>V.int (i+j)) (tVar 1) (tC (V.int 9))) (tOp (rI IntMulOk λi j=>V.int (i*j)) (tC (V.int 6)) (tVar 5))) (tCons (tVar 2) (tCons (tC (V.bl false)) tNil)))) [some (.ref a),some (.int k),some (.ref c),some (.ref d),some (.ref l),some (.int (i:Int)),some (.int m),some u,some (.str g),some (.str y)] H5 KK:=λKK hK=>by
     show IntMulOk 6 (i:Int)/\pW K [V.ref a,V.int (k+9+6* (i:Int)),V.ref c,V.bl false] H5 KK E0;refine⟨eO,?_⟩;simp_all only[pW];exact⟨ns,Qg.seq hS,by omega,by omega,cs,Qg _ _ hc,c4,λp ds H4 s4 np rp dk fc=>hK p ds H4 s4 np rp dk (fc trivial)⟩
    refine xS rfl (.inl ⟨rfl,_,bG.of hx5⟩) (uA (cP (gC rfl (cP (gC rfl (cP (call _ λp ds H6 s6 np rp dk fc=>cP (gC rfl (xT ⟨(show 4<=sizeLine by omega),λq H7 s7 nq e7=>?_⟩)))))))));have DI:=s6.trans s7;refine⟨_,DI _ _ hx5,by omega,bL (Qg.trans DI) nl,rs++ [⟨y,wh,ds,g⟩],_,aj,by rw[aaE,lr];rfl,λr fh=>?_,?_,?_,?_⟩
    ·rcases List.mem_append.mp fh with h | h
     ·exact gr r h
     ·rw[List.mem_singleton.mp h];exact⟨xK _ _ (aaO ey),okc,dk,fc,hg⟩
    ·rw[aaM,wr,aa4,ey];rfl
    ·show bj (eZ _ (upd _ _ _)) _ _;rw[fC (ys:=[]) aj,aaM];exact jg (qE (li.trans (JH.trans DI)) e7 bK (ru.mono (s5.trans DI)) ((rp.mono s7).low (li.trans JH)) bK) (rx.mono (JH.trans DI))
    ·first | exact⟨_,_,_,_,_,rfl⟩ | exact⟨_,rfl⟩ | exact⟨_,_,rfl⟩ | exact⟨_,_,_,rfl⟩ | exact⟨_,_,_,_,_,rfl⟩
   ·intro σ H2 cZ;symm;obtain⟨s3,rs,xs,hx,lr,gr,wr,rx,z5,z6,z7,z8,z9,rfl⟩:=cZ;nofun;exact hN _ rs xs s3 hx (by omega) (by omega) gr (by rw[wr];exact uB (xJ _) _) rx _ _ _ _ _
  rintro H2 rs xs s2 hx r1 r4 gr nw rx z5 z6 z7 z8 z9;simp_all only[];exact kk _ rs H2 s2 nl (cY nl hx (rx.low (.of (ah nl)))) r1 r4 gr nw
theorem lS:aS ["_law_script","_law_at_here","_law_k","_law_counted","_law_named","_law_cell","_law_kind","_law_behind","_law_one","_law_rows"] ["_law_script","_law_at_here","_law_k","_law_counted","_law_named"] (ai (top 98)):=.mk
theorem JL (T:dm P w base K mg ax aA aJ aB au aD av aL):da P w K mg base (cL P w) 4 "_law_what" ["_law_script","_law_at_here","_law_k","_law_counted","_law_named"] (Gy K):=by
 have bV:=wj T;have lU:=JG T;have wk:=JI T;have lV:=JJ T;have nv:=JK T;refine T.vD.dj (λ_ _ _ _ _ _=>PC λ_ _ _ _ _=>rfl) λf fd F=>F.dA lS (λvs H Q E h=>?_) (λcf A outer s H vs Q E hr h=>?_)
 ·obtain⟨_,_,_,_,_,rfl,_⟩:=h;rfl
 ·symm;obtain⟨a,k,j,c,d,rfl,ns,hS,k0,k1,j0,cs,hc,c4,nm,hd,n1,Oi,kk⟩:=h;nofun;have nd:=lS.nd;refine⟨_,(ag (aH (i:=5) (ar bV (aa (pv 0) (aa (pv 1) ae))))
  (ag (aH (i:=6) (aw bu (pv 5) af))
  (ag (bp (PW.pt (pw_and (aM bF (pv 6) af (aK _)) (pw_and1 (aM eI (aF aW (by rfl) T.z_len aaF (aa (pv 3) ae)) af (aK _))))) (ak (aO (aY (aa ao (aa (aE aI (pv 3) (aw bu (aw bT (pv 5) af) (aF aW (by rfl) T.z_len aaF (aa (pv 3) ae)))) ae)))))
   aT)
  (ag (bp (PW.pt (pw_and (aM bF (pv 6) af (aK _)) (pw_and (aM eI (aF aW (by rfl) T.z_len aaF (aa (pv 3) ae)) af (aK _)) (pw_and1 (aM qW (aw bC (pv 2) af) (aF aW (by rfl) T.z_len aaF (aa (pv 4) ae)) (aK _)))))) (ag (aH (i:=7) (cA (cE (K:=K)) (pv 4) (cv (aw bC (pv 2) af)) dr))
  (ag (aH (i:=8) (aE aI (pv 7) (aw bu (aw bT (pv 5) af) (aF aW (by rfl) T.z_len aaF (aa (pv 7) ae)))))
  (ak (aO (aY (aa ao (aa (aE aI (pv 3) (aw bu (aw bT (pv 5) af) (aF aW (by rfl) T.z_len aaF (aa (pv 3) ae)))) (aa (aw bu (aw bT (pv 5) af) af) (aa (pv 8) (aa (aE aI (pv 7) (aw bu (aw bT (pv 5) af) (aF aW (by rfl) T.z_len aaF (aa (pv 7) ae)))) ae))))))))))
   aT)
  (ag (bp (aM bF (pv 6) af (aK _)) (ag (aH (i:=9) (ar lV (aa (pv 0) (aa (aw bC (pv 1) af) (aa (pv 3) (aa (pv 4) ae))))))
  (ak (aO (aY (aa ao (aa (ar wk (aa (aw bT (pv 5) af) ae)) (aa (ar lU (aa (aw bT (pv 5) af) ae)) (aa (pv 9) ae))))))))
   aT)
  (ag (bp (aM qW (pv 6) af (aK _)) (ak (aO (aY (aa ao (aa (aw bC af (aw bu (aw bT (pv 5) af) af)) (aa (ar nv (aa (pv 0) (aa (aw bC (pv 1) af) (aa (pv 3) (aa (pv 4) ae))))) ae))))))
   aT)
  (ak (aO (aY (aa ao (aa (ar lU (aa (aw bT (pv 5) af) ae)) ae))))))))))),?_⟩
  refine(?_:let bP:TS:=_;let bQ:TS:=_;let bR:TS:=_;let cm:TS:=_;let fH:TS:=_;let iX:TS:=_;let nO:TS:=_;tSeq bP (tSeq bQ (tSeq bR (tSeq cm (tSeq fH (tSeq iX nO))))) _ _ _);intro bP bQ bR cm fH iX nO;have sl:=sizeLine_eq;refine aP (λN=>∀n:Int,N [some (.ref a),some (.int k),some (.int j),some (.ref c),some (.ref d),some (.int n),none,none,none,none] H) (λN hN=>?_) ?_
  ·simp_all only[iz];exact⟨ns,hS,by omega,by omega,λm _=>hN m⟩
  intro n;refine aP (λN=>N [some (.ref a),some (.int k),some (.int j),some (.ref c),some (.ref d),some (.int n),some (.int (n % 5)),none,none,none] H) (λN hN=>?_) ?_
  ·simp_all only[];exact⟨by decide,hN⟩
  refine aP (λN=>N [some (.ref a),some (.int k),some (.int j),some (.ref c),some (.ref d),some (.int n),some (.int (n % 5)),none,none,none] H) (λN hN=>?_) ?_
  ·refine hV (λH'=>H'=H/\0<cs.length) (λH'=>H'=H) (λH' e=>?_) (λH' e=>by simp_all only[];rw[e];exact hN) (λY N hY pY=>?_)
   ·have c0:=e.2;have e:=e.1;subst e;symm;obtain⟨y,ey,hy⟩:=lE (ts:=cs) (by omega) (n / 5);nofun;simp_all only[];exact⟨cQ.lit,_,hc,by rw[aaA];omega,_,hc,_,by rw[aaA];exact ey,by decide,λq H2 s2 nq e2=>kk _ (.qG y) _ s2 (js (.of s2) e2 bK bK) hy⟩
   ·simp_all only[];refine dO (λ_=>⟨_,hc,?_⟩) (λ_=>?_)
    ·rw[aaA];exact dO (λc0=>hY _ ⟨rfl,by omega⟩) (λ_=>pY _ rfl)
    ·first | exact pY _ rfl | (rw[if_neg (by decide)];exact pY _ rfl)
  refine aP (λN=>N [some (.ref a),some (.int k),some (.int j),some (.ref c),some (.ref d),some (.int n),some (.int (n % 5)),none,none,none] H) (λN hN=>?_) ?_
  ·refine hV (λH'=>H'=H/\0<cs.length/\j.toNat+1<nm.length) (λH'=>H'=H) (λH' e=>?_) (λH' e=>by simp_all only[];rw[e];exact hN) (λY N hY pY=>?_)
   ·have c0:=e.2.1;have j1:=e.2.2;have e:=e.1;subst e;have lb:0< (nm.drop (j.toNat+1)).length:=by rw[List.length_drop];omega
    refine aP (λN=>∀H1 p,aq H' H1->H1 p=some (.lst (List.map V.str (nm.drop (j.toNat+1))))->N [some (.ref a),some (.int k),some (.int j),some (.ref c),some (.ref d),some (.int n),some (.int (n % 5)),some (.ref p),none,none] H1) (λN hN=>?_) ?_
    ·simp_all only[];refine⟨_,bG.of hd,λp np=>hN _ p (ah np) ?_⟩;rw[aj,gP (by omega),<-List.map_drop,show(j+1).toNat=j.toNat+1 by omega]
    rintro H1 p s1 hp;have GK:=s1 _ _ hc;refine aP (λN=>∀g,g∈nm.drop (j.toNat+1)->N [some (.ref a),some (.int k),some (.int j),some (.ref c),some (.ref d),some (.int n),some (.int (n % 5)),some (.ref p),some (.str g),none] H1) (λN hN=>?_) ?_
    ·symm;obtain⟨g1,eg1,Qh⟩:=lE lb (n / 5);nofun;simp_all only[];exact⟨cQ.lit,_,hp,by rw[aaA];omega,_,hp,_,by rw[aaA];exact eg1,hN _ Qh⟩
    rintro g1 Qh;have q0:=aaX (n / 9) (show(1000:Int)≠0 by decide);have q1:=aaY (n / 9) (show(0:Int)<1000 by decide);symm;obtain⟨g2,eg2,wg2⟩:=lE (ts:=cs) (by omega) (n / 50);obtain⟨g3,eg3,wg3⟩:=lE lb (n / 7);nofun;simp_all only[];exact⟨cQ.lit,_,GK,by rw[aaA];omega,_,GK,_,by rw[aaA];exact eg2,cQ.lit,by decide,cQ.lit,_,hp,by rw[aaA];omega,_,hp,_,by rw[aaA];exact eg3,by decide,λq H2 s2 nq e2=>kk _ (.ask g2 (n / 9 % 1000) g1 g3) _ (s1.trans s2) (pH (.of (s1.trans s2)) e2 (bA bK (bA bK (bA bH (bA bK (bA bK cN)))))) ⟨wg2,⟨q0,by omega⟩,Qh,wg3⟩⟩
   ·simp_all only[];refine dO (λ_=>⟨_,hc,?_⟩) (λ_=>?_)
    ·rw[aaA];refine dO (λc0=>⟨_,hd,?_⟩) (λ_=>?_)
     ·rw[aaA];exact dO (λj1=>hY _ ⟨rfl,by omega,by omega⟩) (λ_=>pY _ rfl)
     ·first | exact pY _ rfl | (rw[if_neg (by decide)];exact pY _ rfl)
    ·first | exact pY _ rfl | (rw[if_neg (by decide)];exact pY _ rfl)
  refine aP (λN=>N [some (.ref a),some (.int k),some (.int j),some (.ref c),some (.ref d),some (.int n),some (.int (n % 5)),none,none,none] H) (λN hN=>?_) ?_
  ·refine hV (λH'=>H'=H) (λH'=>H'=H) (λH' e=>?_) (λH' e=>by simp_all only[];rw[e];exact hN) (λY N hY pY=>by simp_all only[];exact dO (λ_=>hY _ rfl) (λ_=>pY _ rfl));subst e;refine aP (λN=>∀H1 p (rs:List eD),aq H' H1->b5 H' H1 (.lst (rs.map wz)) (.ref p)->1<=rs.length->rs.length<=4->(∀r∈rs,AO cs nm r)->(∀v:Int,0<=v->v<=998->(rs.filter λr=>decide (r.lo<=v) && decide (v<=r.hi)).length=1)->N [some (.ref a),some (.int k),some (.int j),some (.ref c),some (.ref d),some (.int n),some (.int (n % 5)),none,none,some (.ref p)] H1) (λN hN=>?_) ?_
   ·simp_all only[Gw];exact⟨ns,hS,by omega,by omega,cs,hc,c4,nm,hd,n1,Oi,λp rs H1 s1 np rp r1 r4 gr fr=>hN H1 p rs s1 rp r1 r4 gr fr⟩
   rintro H1 p rs s1 rp r1 r4 gr fr;simp_all only[Gv,CY];refine⟨cQ.lit,λv ps H2 s2 rv gp=>⟨cQ.lit,λq x y H3 s3 e3 sh=>⟨by decide,λr H4 s4 nr e4=>?_⟩⟩⟩;have t4:=s1.trans (s2.trans (s3.trans s4));exact kk _ (.eC ps x y rs) _ t4 (qE (.of t4) e4 bK (((rv.low (.of s1)).mono (s3.trans s4))) (js (.of t4) (s4 _ _ e3) bH bH) (rp.mono (s2.trans (s3.trans s4)))) ⟨gp,sh,r1,r4,gr,fr⟩
  refine aP (λN=>N [some (.ref a),some (.int k),some (.int j),some (.ref c),some (.ref d),some (.int n),some (.int (n % 5)),none,none,none] H) (λN hN=>?_) ?_
  ·refine hV (λH'=>H'=H) (λH'=>H'=H) (λH' e=>?_) (λH' e=>by simp_all only[];rw[e];exact hN) (λY N hY pY=>by simp_all only[];exact dO (λ_=>hY _ rfl) (λ_=>pY _ rfl));subst e;have m1:=aaX (n / 5) (show(2:Int)≠0 by decide);have m2:=aaY (n / 5) (show(0:Int)<2 by decide);simp_all only[Gx];exact⟨cQ.lit,by decide,ns,hS,by omega,by omega,cs,hc,c4,nm,hd,n1,Oi,λp rs H1 s1 np rp r1 r4 gr nw=>⟨by decide,λr H4 s4 nr e4=>kk _ (.jx (1+n / 5 % 2) rs) _ (s1.trans s4) (tQ (.of (s1.trans s4)) e4 bK bH (rp.mono s4)) ⟨by omega,r1,r4,gr,nw⟩⟩⟩
  simp_all only[CY];exact⟨cQ.lit,λq x y H3 s3 e3 sh=>⟨by decide,λr H4 s4 nr e4=>kk _ (.fin x y) _ (s3.trans s4) (js (.of (s3.trans s4)) e4 bK (js (.of (s3.trans s4)) (s4 _ _ e3) bH bH)) sh⟩⟩
theorem lX:aS ["_law_script","_law_first","_law_cell","_law_some","_law_counted","_law_many","_law_named","_law_counts"] ["_law_script","_law_first"] (ai (top 99)):=.mk
theorem kh {α:Type} {G H:Hp} {f:α->Dat}:∀{ys:List V} {P:Nat->α->Prop},(∀(i:Nat) y,ys[i]?=some y->∃x,P i x/\b5 G H (f x) y)->∃as:List α,as.length=ys.length/\(∀(i:Nat) x,as[i]?=some x->P i x)/\cg G H (as.map f) ys
 | [],P,h=>⟨[],rfl,λi x e=>by simp at e,cN⟩
 | y::ys,P,h=>by
  obtain⟨x,px,rx⟩:=h 0 y rfl;obtain⟨as,la,pa,ra⟩:=kh (ys:=ys) (P:=λi=>P (i+1)) λi z e=>h (i+1) z e;refine⟨x::as,by rw[aaL,aaL,la],λi z e=>?_,bA rx ra⟩;cases i with
  | zero=>cases e;exact px
  | succ i=>exact pa i z e
theorem map_take {α:Type} {as:List (Str×α)} {ts:List Str} (h:∀(i:Nat) x,as[i]?=some x->ts[i]?=some x.1) (l:as.length=ts.length):as.map (·.1)=ts:=by
 apply List.ext_getElem?;intro i;rw[aaG]
 by_cases hi:i<as.length
 ·rw[aaW hi,h i _ (aaW hi)];rfl
 ·rw[aby (by omega),aby (by omega)];rfl
theorem JM (T:dm P w base K mg ax aA aJ aB au aD av aL):da P w K mg base (cL P w) 5 "_law_game" ["_law_script","_law_first"] (CZ K):=by
 have bV:=wj T;have fe:=GN T;have wm:=JL T;refine T.vE.dj (λ_ _ _ _ _ _=>fB λ_ _=>rfl) λf fd F=>F.dA lX (λvs H Q E h=>?_) (λcf A outer s H vs Q E hr h=>?_)
 ·obtain⟨_,_,rfl,_⟩:=Ar h;rfl
 ·symm;obtain⟨a,k,rfl,ns,hS,k0,k1,kk⟩:=Ar h;nofun;clear G_;have nd:=lX.nd;refine⟨_,(ag (aH (i:=2) (ar bV (aa (pv 0) (aa (pv 1) ae))))
  (ag (aH (i:=3) (ar fe (aa (ar bV (aa (pv 0) (aa (aw bC (pv 1) af) ae))) ae)))
  (ag (aH (i:=4) (cA (cE (K:=K)) (pv 3) dr (cv (aw bu (pv 2) af))))
  (ag (aH (i:=5) (aw bC af (aw bu (aw bT (pv 2) af) af)))
  (ag (bp (aM bF (aw bu (aw bT (pv 2) af) af) af (aK _)) (ak (aH (i:=5) (aw bC af (aw bu (aw bT (pv 2) af) af))))
   aT)
  (ag (aH (i:=6) (cA (cE (K:=K)) (ar fe (aa (ar bV (aa (pv 0) (aa (aw bC (pv 1) af) ae))) ae)) dr (cv (pv 5))))
  (ag (g9 (i:=7) rfl nd rfl rfl (N:=["_law_script","_law_first","_law_cell","_law_some","_law_counted","_law_many","_law_named","_law_counts"]) (so:=ai (top 99)) (N':=["_law_k","_law_script","_law_first","_law_counted"]) (k:=1) (fr:=[0,1,4]) rfl rfl ⟨rfl,by ac_rfl,by ac_rfl,by ac_rfl,rfl,by ac_rfl,by ac_rfl⟩ (dn rfl T.z_range (aa (aF aW (by rfl) T.z_len aaF (aa (pv 4) ae)) ae)) (λ_ _ _ _ _=>(aU (i:=0) (show(["_law_k","_law_script","_law_first","_law_counted"]:List Str).Nodup by ac_rfl) rfl (Or.inl rfl))) (λ_ _ _ _ _=>b6)
   (λ_ _ _ _ _=>(aY (aa (aE aI (pv 3) (pv 0)) (aa (aw bC af (aw bu (ar bV (aa (pv 1) (aa (aw bC (aw bC (pv 2) af) (pv 0)) ae))) af)) ae)))))
  (ak (aO (aY (aa (pv 7) (aa (cw rfl (N:=["_law_script","_law_first","_law_cell","_law_some","_law_counted","_law_many","_law_named","_law_counts"]) (so:=ai (top 99)) (N':=["_law_k","_law_script","_law_first","_law_counted","_law_named"]) (k:=1) (fr:=[0,1,4,6]) rfl rfl ⟨rfl,by ac_rfl,by ac_rfl,by ac_rfl,rfl,by ac_rfl,by ac_rfl⟩ (dn rfl T.z_range (aa (pv 5) ae)) (λ_ _ _ _ _=>(aU (i:=0) (show(["_law_k","_law_script","_law_first","_law_counted","_law_named"]:List Str).Nodup by ac_rfl) rfl (Or.inl rfl))) (λ_ _ _ _ _=>b6)
   (λ_ _ _ _ _=>(aY (aa (aE aI (pv 4) (pv 0)) (aa (ar wm (aa (pv 1) (aa (aw bC (aw bC (pv 2) af) (aw cO af (pv 0))) (aa (pv 0) (aa (pv 3) (aa (pv 4) ae)))))) ae))))) ae)))))))))))),?_⟩
  refine(?_:let bP:TS:=_;let bQ:TS:=_;let bR:TS:=_;let cm:TS:=_;let fH:TS:=_;let iX:TS:=_;let nO:TS:=_;let GJ:TS:=_;tSeq bP (tSeq bQ (tSeq bR (tSeq cm (tSeq fH (tSeq iX (tSeq nO GJ)))))) _ _ _);intro bP bQ bR cm fH iX nO GJ;have sl:=sizeLine_eq;refine aP (λN=>∀n:Int,N [some (.ref a),some (.int k),some (.int n),none,none,none,none,none] H) (λN hN=>?_) ?_
  ·simp_all only[iz];exact⟨ns,hS,by omega,by omega,λm _=>hN m⟩
  intro n;refine aP (λN=>∀H1 p t,aq H H1->H1 p=some (.lst (List.map V.str (om t)))->N [some (.ref a),some (.int k),some (.int n),some (.ref p),none,none,none,none] H1) (λN hN=>?_) ?_
  ·simp_all only[iz,zp];exact⟨ns,hS,by omega,by omega,λm _ p H1 s1 np hp=>hN _ _ _ s1 hp⟩
  rintro H1 p t s1 hp;refine aP (λN=>∀H2 c cs,aq H H2->H2 c=some (.lst (List.map V.str cs))->cs.length<=4->cs.Nodup->(∀y∈cs,fW y)->N [some (.ref a),some (.int k),some (.int n),some (.ref p),some (.ref c),none,none,none] H2) (λN hN=>?_) ?_
  ·have n0:=aaX n (show(5:Int)≠0 by decide);have n1:=aaY n (show(0:Int)<5 by decide);simp_all only[];refine⟨by decide,_,bG.of hp,λc nc=>hN _ _ ((om t).take (n % 5).toNat) (s1.trans (ah nc)) ?_ (by rw[abc];omega) (uB (xJ t) _) λy hy=>xK t y (List.mem_of_mem_take hy)⟩;rw[aj,iN n0,List.map_take]
  rintro H2 c cs s2 hc c4 cd cn;refine aP (λN=>∀m:Int,1<=m->m<=30->N [some (.ref a),some (.int k),some (.int n),some (.ref p),some (.ref c),some (.int m),none,none] H2) (λN hN=>?_) ?_
  ·have n0:=aaX (n / 5) (show(7:Int)≠0 by decide);have n1:=aaY (n / 5) (show(0:Int)<7 by decide);simp_all only[];exact⟨cQ.lit,by decide,hN _ (by omega) (by omega)⟩
  intro m m0 m1;refine aP (λN=>∀m:Int,1<=m->m<=30->N [some (.ref a),some (.int k),some (.int n),some (.ref p),some (.ref c),some (.int m),none,none] H2) (λN hN=>?_) ?_
  ·have n0:=aaX (n / 320) (show(30:Int)≠0 by decide);have n1:=aaY (n / 320) (show(0:Int)<30 by decide);simp_all only[];exact⟨cQ.lit,by decide,dO (λ_=>⟨cQ.lit,by decide,hN _ (by omega) (by omega)⟩) (λ_=>hN m m0 m1)⟩
  clear m0 m1 m;intro m m0 m1;refine aP (λN=>∀H3 d nm,aq H2 H3->H3 d=some (.lst (List.map V.str nm))->(nm.length:Int)=m->nm.Nodup->(∀y∈nm,fW y)->N [some (.ref a),some (.int k),some (.int n),some (.ref p),some (.ref c),some (.int m),some (.ref d),none] H3) (λN hN=>?_) ?_
  ·simp_all only[iz,zp];refine⟨ns,s2.seq hS,by omega,by omega,λi _ q H3 s3 nq hq=>⟨_,bG.of hq,λd nd'=>hN _ _ ((om i).take m.toNat) (s3.trans (ah nd')) ?_ ?_ (uB (xJ i) _) λy hy=>xK i y (List.mem_of_mem_take hy)⟩⟩
   ·rw[aj,iN (by omega),List.map_take]
   ·rw[abc,zo];omega
  rintro H3 d nm s3 hd lm md mn;have JN:=s2.trans s3;have zu:=s3 _ _ hc;have DK:=JN.seq hS;refine aP (λN=>∀H4 l (ct:List (Str×Int)),aq H3 H4->H3 l=none->b5 H3 H4 (.lst (ct.map ju)) (.ref l)->ct.map (·.1)=cs->(∀c∈ct,1<=c.2/\c.2<=60)->N [some (.ref a),some (.int k),some (.int n),some (.ref p),some (.ref c),some (.int m),some (.ref d),some (.ref l)] H4) (λN hN=>?_) ?_
  ·simp_all only[];refine⟨_,zu,?_⟩;rw[aaA];refine⟨by omega,by omega,?_⟩;refine comp_map (src_range) (λ_ _ _ _ h=>by rw[h.1];exact aq.refl _) (by omega) (λi y H4=>∃x:Str×Int,(cs[i]?=some x.1/\1<=x.2/\x.2<=60)/\b5 H3 H4 (ju x) y) (λi y H4 H5 s5 ⟨x,g,r⟩=>⟨x,g,r.mono s5⟩) ?_ ?_
   ·rintro i x w0 H4 H5 Q2 hi s4 ⟨rfl,rfl⟩ kq;simp_all only[iz];symm;obtain⟨y,ey,wy⟩:=pickK (ts:=cs) (k:=0+ (i:Int)) (by omega) (by omega);nofun;refine⟨_,s4 _ _ zu,_,ey,ns,s4.seq DK,by omega,by omega,λz _=>?_⟩;have z0:=aaX z (show(60:Int)≠0 by decide);have z1:=aaY z (show(0:Int)<60 by decide);exact⟨by decide,by decide,λq H6 s6 nq e6=>kq _ _ s6 ⟨(y,1+z % 60),⟨by rwa [show(0+ (i:Int)).toNat=i by omega] at wy,(show 1<=1+z % 60 by omega),(show 1+z % 60<=60 by omega)⟩,js (.of (s4.trans s6)) e6 bK bH⟩⟩
   ·intro ys H5 s5 ly hy D n1 n2;symm;obtain⟨ct,lct,Ol,Om⟩:=kh (f:=ju) (P:=λi (x:Str×Int)=>cs[i]?=some x.1/\1<=x.2/\x.2<=60) λi y e=>hy i y e;nofun;exact hN _ D ct (s5.trans (ah n2)) (none_of s5 n2) (cY (none_of s5 n2) aj (Om.mono (ah n2))) (map_take (λi x e=>(Ol i x e).1) (by omega)) λx hx=>by obtain⟨i,hi,e⟩:=List.getElem_of_mem hx;exact(Ol i x (by rw[aaW hi,e])).2
  rintro H4 l ct s4 nl Om Oo Ol;have hS4:=s4.seq DK;have hc4:=s4 _ _ zu;have hd4:=s4 _ _ hd;simp_all only[];refine⟨by omega,by omega,?_⟩;refine comp_map (src_range) (λ_ _ _ _ h=>by rw[h.1];exact aq.refl _) (by omega) (λi y H5=>∃x:Str×cU,(nm[i]?=some x.1/\AG cs nm (nm.drop (i+1)) x.2)/\b5 H4 H5 (qH x) y) (λi y H4 H5 s5 ⟨x,g,r⟩=>⟨x,g,r.mono s5⟩) ?_ ?_
  ·rintro i x w0 H5 H6 Q2 hi s5 ⟨rfl,rfl⟩ kq;simp_all only[Gy];symm;obtain⟨y,ey,wy⟩:=pickK (ts:=nm) (k:=0+ (i:Int)) (by omega) (by omega);nofun;refine⟨_,s5 _ _ hd4,_,ey,eO (by omega) (by omega),ns,s5.seq hS4,by omega,by omega,by omega,cs,s5 _ _ hc4,c4,nm,s5 _ _ hd4,by omega,by omega,λv x H7 s7 rx gx=>⟨by decide,λq H8 s8 nq e8=>kq _ _ (s7.trans s8) ⟨(y,x),⟨?_,?_⟩,js (.of (s5.trans (s7.trans s8))) e8 bK ((rx.low (.of s5)).mono s8)⟩⟩⟩
   ·rwa [show(0+ (i:Int)).toNat=i by omega] at wy
   ·rwa [show(0+ (i:Int)).toNat=i by omega] at gx
  ·intro zs H5 s5 lz hz D n1 n2;symm;obtain⟨pl,lpl,gpl,rpl⟩:=kh (f:=qH) (P:=λi (x:Str×cU)=>nm[i]?=some x.1/\AG cs nm (nm.drop (i+1)) x.2) λi y e=>hz i y e;nofun;have Qi:pl.map (·.1)=nm:=map_take (λi x e=>(gpl i x e).1) (by omega);refine⟨by decide,λq H6 s6 nq e6=>?_⟩;have Qj:=s5.trans ((ah n2).trans s6);have J4:H4 D=none:=none_of s5 n2;have nDl:l≠D:=λz=>by
    symm;obtain⟨_,_,e,hl,_⟩:=bU.mp (show Rep H4 (.lst _) _ from Om.rep);nofun;cases e;rw[z,J4] at hl;cases hl
   refine kk q l D (ct,pl) H6 (JN.trans (s4.trans Qj)) (none_of JN nl) (none_of (JN.trans s4) J4) nDl e6 ?_ ⟨?_,?_,?_,?_,?_,?_,?_,?_⟩
   ·exact js (.of (JN.trans (s4.trans Qj))) e6 ((Om.low (.of JN)).mono Qj) ((cY J4 (s6 _ _ aj) (rpl.mono ((ah n2).trans s6))).low (.of (JN.trans s4)))
   ·have:=congrArg List.length Oo;rw[aaA] at this;show ct.length<=4;omega
   ·exact λx hx=>⟨cn _ (by rw[<-Oo];exact List.mem_map_of_mem hx),Ol x hx⟩
   ·show(ct.map (·.1)).Nodup;rw[Oo];exact cd
   ·show 1<=pl.length;omega
   ·show pl.length<=30;omega
   ·exact λx hx=>mn _ (by rw[<-Qi];exact List.mem_map_of_mem hx)
   ·show(pl.map (·.1)).Nodup;rw[Qi];exact md
   ·intro i x e;show AG (ct.map (·.1)) (pl.map (·.1)) ((pl.map (·.1)).drop (i+1)) x.2;rw[Oo,Qi];exact(gpl i x e).2
theorem fK:aS ["_law_one"] ["_law_one"] (ai (top 100)):=.mk
theorem JO (T:dm P w base K mg ax aA aJ aB au aD av aL):da P w K mg base (cL P w) 1 "_law_share_text" ["_law_one"] C4:=by
 refine T.kN.dj (λ_ _ _ _ _ _=>du λ_=>rfl) λf fd F=>F.dA fK (λvs H Q E h=>?_) (λcf A outer s H vs Q E hr h=>?_)
 ·obtain⟨_,rfl,_⟩:=jy h;rfl
 ·symm;obtain⟨p,rfl,a,b,hp,ga,gb,k⟩:=jy h;nofun;have nd:=fK.nd;refine⟨_,(ag (bp (aM bF (aE aN (pv 0) af) af (aK _)) (ak (aO (bM cD (by rfl) T.z_str rfl (aa (aE aN (pv 0) af) ae) (he:=se rfl) (hpl:=na rfl))))
   aT)
  (ak (aO (aw bf (aw bf (bM cD (by rfl) T.z_str rfl (aa (aE aN (pv 0) af) ae) (he:=se rfl) (hpl:=na rfl)) ao) (bM cD (by rfl) T.z_str rfl (aa (aE aN (pv 0) af) ae) (he:=se rfl) (hpl:=na rfl)))))),?_⟩
  have la:=dJ ga;have lb:=dJ gb;have l1:(Str.ofString "/").length=1:=by ac_rfl
  unfold bg at la lb;simp_all only[hp,strLen_append,sizeLine_eq];unfold iA bg at k
  by_cases c:b=1
  ·rw[if_pos c] at k ⊢;exact⟨c7 ga,k⟩
  ·rw[if_neg c] at k ⊢;exact⟨c7 ga,by omega,c7 gb,by omega,k⟩
theorem gh:aS ["_law_pool_here","_law_texts","_law_part","_law_dice"] ["_law_pool_here"] (ai (top 101)):=.mk
theorem JP (T:dm P w base K mg ax aA aJ aB au aD av aL):da P w K mg base (cL P w) 1 "_law_pool_text" ["_law_pool_here"] Gz:=by
 refine T.mR.dj (λ_ _ _ _ _ _=>du λ_=>rfl) λf fd F=>F.dA gh (λvs H Q E h=>?_) (λcf A outer s H vs Q E hr h=>?_)
 ·obtain⟨_,rfl,_⟩:=F2 h;rfl
 ·symm;obtain⟨v,rfl,ps,rp,hz,gp,kk⟩:=F2 h;nofun;have nd:=gh.nd;refine⟨_,(ag (aH (i:=1) (bx ae))
  (ag (cH PassesOwn.never rfl (bw (K:=K) (pv 0)) (aU (i:=2) nd rfl (Or.inl rfl)) (ag (aH (i:=3) (aw bf ao (bM cD (by rfl) T.z_str rfl (aa (aE aN (pv 2) (aw iF (aF gI (by rfl) T.z_len aaF (aa (pv 2) ae)) af)) ae) (he:=se rfl) (hpl:=na rfl))))
  (ag (bp (PW.pt (pw_and (aM eI (aF gI (by rfl) T.z_len aaF (aa (pv 2) ae)) af (aK _)) (pw_and (aM g5 (aE aN (pv 2) af) (aY (aa ao (aa ao ae))) rfl) (pw_and1 (aM eI (aE aN (pv 2) (aw iF (aF gI (by rfl) T.z_len aaF (aa (pv 2) ae)) af)) af (aK _)))))) (ak (aH (i:=3) (aw bf (bM cD (by rfl) T.z_str rfl (aa (aE aN (pv 2) (aw iF (aF gI (by rfl) T.z_len aaF (aa (pv 2) ae)) af)) ae) (he:=se rfl) (hpl:=na rfl)) (pv 3))))
   aT)
  (ak (bp (aM bF (aE aN (pv 2) af) ao (aK _)) (ak (aX (cu aaV aaZ aa0 bY.r (pv 1) (aa (bM cD (by rfl) T.z_str rfl (aa (aE aN (pv 2) af) ae) (he:=se rfl) (hpl:=na rfl)) ae))))
   (ak (bp (aM bF (aE aN (pv 2) af) ao (aK _)) (ak (aX (cu aaV aaZ aa0 bY.r (pv 1) (aa (pv 3) ae))))
   (ak (aX (cu aaV aaZ aa0 bY.r (pv 1) (aa (aw bf (aw bf (aw bf (aw bf (aE aN (pv 2) af) ao) (bM cD (by rfl) T.z_str rfl (aa (aE aN (pv 2) af) ae) (he:=se rfl) (hpl:=na rfl))) ao) (pv 3)) ae)))))))))))
  (ak (aO (cu abe PySem.F.slot_str_join PySem.F.type_str_join (gJ (K:=K)) ao (aa (pv 1) ae)))))),?_⟩
  refine(?_:let bP:TS:=_;let bQ:TS:=_;let bR:TS:=_;tSeq bP (tSeq bQ bR) _ _ _);intro bP bQ bR;symm;obtain⟨l,xs,rfl,hl,rl⟩:=bU.mp rp;nofun;have len:=rl.length;rw[aaA] at len;simp_all only[];refine⟨aaP _,λp np=>?_⟩;have npl:l≠p:=λz=>by rw[z,np] at hl;cases hl
  refine⟨⟨_,bG.of ((aV npl).trans hl)⟩,b9 (src_list (Ok:=aq H) (λH' s'=>s'.seq (bG.of hl)))
   (λi σ H'=>aq H H'/\H' p=some (.lst (List.map V.str ((ps.take i).map tY)))/\∃z1 z2,σ=[some (.ref l),some (.ref p),z1,z2])
   ⟨ah np,aj,_,_,rfl⟩ (λ_ _ _ _ h=>h.1) ?_ ?_⟩
  ·intro i x σ H' jB hi fG eL;symm;obtain⟨sm,hp,z1,z2,rfl⟩:=fG;obtain⟨rfl,hx⟩:=eL;obtain⟨dd,ed,rd⟩:=rl.get hx;rw[aaG] at ed;obtain⟨q,eq,rfl⟩:=Option.map_eq_some_iff.mp ed;nofun;have rd:=rd.mono sm;have gq:=gp q (aaO eq);have tk:ps.take (i+1)=ps.take i++ [q]:=by rw[aa4,eq];rfl
   have sz:(List.map V.str ((ps.take i).map tY)).length<sizeLine:=by
    rw[aaA,aaA,abc,sizeLine_eq];omega
   have ty:J0 K "list" (.ref p) jB:=.inl ⟨rfl,_,bG.of hp⟩;have fin:∀H1,aq jB H1->H1 p=some (.lst (List.map V.str ((ps.take i).map tY)))/\aq H (upd H1 p (.lst (List.map V.str ((ps.take i).map tY)++ [.str (tY q)])))/\upd H1 p (.lst (List.map V.str ((ps.take i).map tY)++ [.str (tY q)])) p=some (.lst (List.map V.str ((ps.take (i+1)).map tY))):=λH1 s1=>by
    refine⟨s1 _ _ hp,λb o eb=>?_,?_⟩
    ·rw[aV (λz=>by rw[z,np] at eb;cases eb)];exact s1 _ _ (sm _ _ eb)
    ·rw[aj,tk,aaM,aaM];rfl
   cases gq with
   | num a sa=>
    symm;obtain⟨r,rfl,fh⟩:=Cp.mp rd;nofun;have lL:=eP sa;have s1:Sm 1:=⟨by decide,by decide⟩
    change tSeq _ _ _ _ _;refine br (λσ' H2=>jB=H2/\σ'=[some (.ref l),some (.ref p),some (.ref r),some (.str (Str.ofString "d"++Str.ofString (toString a)))]) (λN hN=>?_) ?_
    ·simp_all only[fh];exact⟨_,bE (j:=1) rfl,_,rfl,h8 sa,by rw[Ke,sizeLine_eq];omega,hN _ _ ⟨rfl,rfl⟩⟩
    rintro _ _ ⟨rfl,rfl⟩;change tSeq _ _ _ _ _;refine br (λσ' H2=>aq jB H2/\σ'=[some (.ref l),some (.ref p),some (.ref r),some (.str (Str.ofString "d"++Str.ofString (toString a)))]) (λN hN=>?_) ?_
    ·simp_all only[fh,Bb];rw[if_neg (by decide),if_neg (by decide)];exact hN _ _ ⟨aq.refl _,rfl⟩
    rintro _ H2 ⟨s2,rfl⟩;have zv:=s2 _ _ fh;have sC:=s2 _ _ hp;symm;obtain⟨f1,f2,f3⟩:=fin _ s2;nofun;refine pX rfl zv rfl ?_;simp_all only[ck,zv];exact⟨.inl ⟨rfl,_,bG.of sC⟩,h8 sa,_,f1,sz,f2,f3,_,rfl⟩
   | cB a b sa a1 sb=>
    symm;obtain⟨r,rfl,fh⟩:=tZ.mp rd;nofun;have iv:HE (V.str (Str.ofString "dice")) [V.str (Str.ofString "again"),V.str (Str.ofString "burst")]=false:=by ac_rfl
    have lL:=eP sb;have s1:Sm 1:=⟨by decide,by decide⟩
    change tSeq _ _ _ _ _;refine br (λσ' H2=>jB=H2/\σ'=[some (.ref l),some (.ref p),some (.ref r),some (.str (Str.ofString "d"++Str.ofString (toString b)))]) (λN hN=>?_) ?_
    ·simp_all only[fh];exact⟨_,bE (j:=2) rfl,_,rfl,h8 sb,by rw[Ke,sizeLine_eq];omega,hN _ _ ⟨rfl,rfl⟩⟩
    rintro _ _ ⟨rfl,rfl⟩;change tSeq _ _ _ _ _;refine br (λσ' H2=>aq jB H2/\σ'=[some (.ref l),some (.ref p),some (.ref r),some (.str (oj a b))]) (λN hN=>?_) ?_
    ·simp_all only[fh,Bb];rw[if_pos (by decide)];refine⟨by decide,λt H2 s2 nt et=>⟨_,.inr (fM.of et),rfl,rfl,?_⟩⟩;rw[iv];rw[if_pos rfl];refine⟨_,s2 _ _ fh,_,s2 _ _ fh,_,bE (j:=1) rfl,_,rfl,?_⟩;have lB:=eP sa
     by_cases c1:1<a
     ·rw[if_pos (by simpa using c1)];refine⟨_,s2 _ _ fh,_,s2 _ _ fh,_,bE (j:=1) rfl,_,rfl,h8 sa,by rw[strLen_append,Ke,sizeLine_eq];omega,hN _ _ ⟨s2,?_⟩⟩;unfold oj;rw[if_neg (by omega),Str.append_assoc]
     ·rw[if_neg (by simpa using c1)];refine hN _ _ ⟨s2,?_⟩;unfold oj;rw[if_pos (by omega)]
    rintro _ H2 ⟨s2,rfl⟩;have zv:=s2 _ _ fh;have sC:=s2 _ _ hp;symm;obtain⟨f1,f2,f3⟩:=fin _ s2;nofun;rw[IW] at f2 f3;refine fF rfl zv (by ac_rfl) (pX rfl zv rfl ?_);simp_all only[ck,zv];exact⟨.inl ⟨rfl,_,bG.of sC⟩,_,f1,sz,f2,f3,_,rfl⟩
   | one x a b hw sa sb=>
    symm;obtain⟨r,rfl,fh⟩:=tZ.mp rd;nofun;have n1:x≠Str.ofString "number":=by rcases hw with rfl | rfl <;>ac_rfl
    have n2:x≠Str.ofString "dice":=by rcases hw with rfl | rfl <;>ac_rfl
    have lx:x.length<=5:=by rcases hw with rfl | rfl <;>ac_rfl
    have iv:HE (V.str x) [V.str (Str.ofString "again"),V.str (Str.ofString "burst")]=true:=by rcases hw with rfl | rfl <;>ac_rfl
    have lL:=eP sb;have s1:Sm 1:=⟨by decide,by decide⟩
    change tSeq _ _ _ _ _;refine br (λσ' H2=>jB=H2/\σ'=[some (.ref l),some (.ref p),some (.ref r),some (.str (Str.ofString "d"++Str.ofString (toString b)))]) (λN hN=>?_) ?_
    ·simp_all only[fh];exact⟨_,bE (j:=2) rfl,_,rfl,h8 sb,by rw[Ke,sizeLine_eq];omega,hN _ _ ⟨rfl,rfl⟩⟩
    rintro _ _ ⟨rfl,rfl⟩;change tSeq _ _ _ _ _;refine br (λσ' H2=>aq jB H2/\σ'=[some (.ref l),some (.ref p),some (.ref r),some (.str (oj 1 b))]) (λN hN=>?_) ?_
    ·simp_all only[fh,Bb];rw[if_pos (by decide)];refine⟨by decide,λt H2 s2 nt et=>⟨_,.inr (fM.of et),rfl,rfl,?_⟩⟩;rw[iv];rw[if_neg (by decide),if_neg (by decide)];exact hN _ _ ⟨s2,by unfold oj;rw[if_pos rfl]⟩
    rintro _ H2 ⟨s2,rfl⟩;have zv:=s2 _ _ fh;have sC:=s2 _ _ hp;symm;obtain⟨f1,f2,f3⟩:=fin _ s2;nofun;rw[IV _ _ n2] at f2 f3;have la:=eP sa;have ld:=kY s1 sb;rw[sizeLine_eq] at sz;refine fF rfl zv n1 (fF rfl zv n2 ?_);simp_all only[ck,zv,strLen_append,sizeLine_eq,LK,LL];exact⟨.inl ⟨rfl,_,bG.of sC⟩,by omega,h8 sa,by omega,by omega,by omega,_,f1,sz,f2,f3,_,rfl⟩
   | three x a b c hw sa sb b1 sc=>
    symm;obtain⟨r,rfl,fh⟩:=Cq.mp rd;nofun;have n1:x≠Str.ofString "number":=by rcases hw with rfl | rfl | rfl <;>ac_rfl
    have n2:x≠Str.ofString "dice":=by rcases hw with rfl | rfl | rfl <;>ac_rfl
    have lx:x.length<=5:=by rcases hw with rfl | rfl | rfl <;>ac_rfl
    have iv:HE (V.str x) [V.str (Str.ofString "again"),V.str (Str.ofString "burst")]=false:=by rcases hw with rfl | rfl | rfl <;>ac_rfl
    have lL:=eP sc;have s1:Sm 1:=⟨by decide,by decide⟩
    change tSeq _ _ _ _ _;refine br (λσ' H2=>jB=H2/\σ'=[some (.ref l),some (.ref p),some (.ref r),some (.str (Str.ofString "d"++Str.ofString (toString c)))]) (λN hN=>?_) ?_
    ·simp_all only[fh];exact⟨_,bE (j:=3) rfl,_,rfl,h8 sc,by rw[Ke,sizeLine_eq];omega,hN _ _ ⟨rfl,rfl⟩⟩
    rintro _ _ ⟨rfl,rfl⟩;change tSeq _ _ _ _ _;refine br (λσ' H2=>aq jB H2/\σ'=[some (.ref l),some (.ref p),some (.ref r),some (.str (oj b c))]) (λN hN=>?_) ?_
    ·simp_all only[fh,Bb];rw[if_pos (by decide)];refine⟨by decide,λt H2 s2 nt et=>⟨_,.inr (fM.of et),rfl,rfl,?_⟩⟩;rw[iv];rw[if_pos rfl];refine⟨_,s2 _ _ fh,_,s2 _ _ fh,_,bE (j:=2) rfl,_,rfl,?_⟩;have lB:=eP sb
     by_cases c1:1<b
     ·rw[if_pos (by simpa using c1)];refine⟨_,s2 _ _ fh,_,s2 _ _ fh,_,bE (j:=2) rfl,_,rfl,h8 sb,by rw[strLen_append,Ke,sizeLine_eq];omega,hN _ _ ⟨s2,?_⟩⟩;unfold oj;rw[if_neg (by omega),Str.append_assoc]
     ·rw[if_neg (by simpa using c1)];refine hN _ _ ⟨s2,?_⟩;unfold oj;rw[if_pos (by omega)]
    rintro _ H2 ⟨s2,rfl⟩;have zv:=s2 _ _ fh;have sC:=s2 _ _ hp;symm;obtain⟨f1,f2,f3⟩:=fin _ s2;nofun;rw[LJ] at f2 f3;have la:=eP sa;have ld:=kY sb sc;rw[sizeLine_eq] at sz;refine fF rfl zv n1 (fF rfl zv n2 ?_);simp_all only[ck,zv,strLen_append,sizeLine_eq,LK,LL];exact⟨.inl ⟨rfl,_,bG.of sC⟩,by omega,h8 sa,by omega,by omega,by omega,_,f1,sz,f2,f3,_,rfl⟩
  ·intro σ H' cZ;symm;obtain⟨sm,hp,z1,z2,rfl⟩:=cZ;nofun;rw[aaT (by omega)] at hp;simp_all only[];exact⟨rfl,_,bG.of hp,IX hz gp,kk _ sm⟩
theorem jU:aS ["_law_deeds_here","_law_goal","_law_words_here","_law_deed"] ["_law_deeds_here","_law_goal"] (ai (top 102)):=.mk
theorem JQ (T:dm P w base K mg ax aA aJ aB au aD av aL):da P w K mg base (cL P w) 1 "_law_words" ["_law_deeds_here","_law_goal"] C5:=by
 refine T.tO.dj (λ_ _ _ _ _ _=>fB λ_ _=>rfl) λf fd F=>F.dA jU (λvs H Q E h=>?_) (λcf A outer s H vs Q E hr h=>?_)
 ·obtain⟨_,_,rfl,_⟩:=Lk h;rfl
 ·symm;obtain⟨q,g,rfl,us,hq,ds,rl,gd,wg,kk⟩:=Lk h;nofun;have nd:=jU.nd;refine⟨_,(ag (aH (i:=2) (bx ae))
  (ag (cH PassesOwn.never rfl (bw (K:=K) (pv 0)) (aU (i:=3) nd rfl (Or.inl rfl)) (ak (aH (i:=2) (aw ft (pv 2) (cw rfl (N:=["_law_deeds_here","_law_goal","_law_words_here","_law_deed"]) (so:=ai (top 102)) (N':=["_law_one"]) (k:=1) (fr:=[]) rfl rfl ⟨rfl,by ac_rfl,by ac_rfl,by ac_rfl,rfl,by ac_rfl,by ac_rfl⟩ (yt (K:=K) (pv 3)) (λ_ _ _ _ _=>(aU (i:=0) (show(["_law_one"]:List Str).Nodup by ac_rfl) rfl (Or.inl rfl))) (λ_ _ _ _ _=>b6)
   (λ_ _ _ _ _=>(bM j7 (by rfl) T.z_str rfl (aa (pv 0) ae) (he:=se rfl) (hpl:=na rfl))))))))
  (ak (aO (cu abe PySem.F.slot_str_join PySem.F.type_str_join (gJ (K:=K)) ao (aa (aw ft (pv 2) (bx (aa ao (aa (pv 1) ae)))) ae)))))),?_⟩
  refine(?_:let bP:TS:=_;let bQ:TS:=_;let bR:TS:=_;tSeq bP (tSeq bQ bR) _ _ _);intro bP bQ bR;have sl:=sizeLine_eq;have lu:=rl.length;rw[aaA] at lu;have l6:=gd.1;refine aP (λN=>∀H1 l,aq H H1->H1 l=some (.lst [])->N [some (.ref q),some (.str g),some (.ref l),none] H1) (λN hN=>?_) ?_
  ·simp_all only[];exact⟨aaP _,λl nl=>hN _ l (ah nl) aj⟩
  rintro H1 l s1 hl;refine aP (λN=>∀H2 l z,aq H H2->H2 l=some (.lst (List.map V.str (fL ds)))->N [some (.ref q),some (.str g),some (.ref l),z] H2) (λN hN=>?_) ?_
  ·simp_all only[];refine⟨⟨_,bG.of (s1 _ _ hq)⟩,b9 (src_list (Ok:=aq H) (λH' s'=>s'.seq (bG.of hq)))
    (λi σ H2=>aq H H2/\∃l z,H2 l=some (.lst (List.map V.str (fL (ds.take i))))/\σ=[some (.ref q),some (.str g),some (.ref l),z])
    ⟨s1,l,_,hl,rfl⟩ (λ_ _ _ _ h=>h.1) ?_ ?_⟩
   ·intro i x σ H2 H3 hi fG eL;symm;obtain⟨s2,l,z,nF,rfl⟩:=fG;obtain⟨rfl,hx⟩:=eL;obtain⟨d0,Mo,rd⟩:=rl.get hx;rw[aaG] at Mo;obtain⟨d,ed,rfl⟩:=Option.map_eq_some_iff.mp Mo;obtain⟨r,rfl,fh⟩:=yZ.mp (rd.mono s2);nofun;have gi:=gd.2 d (aaO ed);have tk:ds.take (i+1)=ds.take i++ [d]:=by rw[aa4,ed];rfl
    have lp:=ji (ds.take i);rw[abc] at lp;have ld:=(ua d).2;simp only[gName,abm,abl];simp_all only[oV];refine⟨⟨_,fM.of fh⟩,?_⟩;refine dM (dV d) (λx=>(FY x).map V.str) (yn (K:=K) (λH2 s2=>fM.of (s2 _ _ fh))) (λ_ _ _ _ h=>h.1) (by have:=Cs d;omega) ?_ ?_
    ·rintro j c y ec ⟨_,ey⟩ Y N y1 _;rw[ec] at ey;cases ey;obtain⟨t,et⟩:=y4 gi c (aaO ec);simp_all only[jY];exact⟨t,et,y1 _ (by rw[et];rfl)⟩
    ·intro D n1 n2;rw[F4 gi];refine⟨_,ah n2 _ _ nF,_,aj,by rw[aaA,aaA];omega,λp np=>⟨s2.trans ((ah n2).trans (ah np)),p,?_,rfl,_,rfl⟩⟩;rw[aj,tk,vS,aaM]
   ·intro σ H2 cZ;symm;obtain⟨s2,l,z,nF,rfl⟩:=cZ;nofun;rw[aaT (by omega)] at nF;exact hN _ _ _ s2 nF
  rintro H2 l z s2 nF;have lp:=ji ds;have wgo:∀y∈fL ds++ [Str.ofString "go",g],y.length<=14:=λy hy=>by
   rcases List.mem_append.mp hy with h | h
   ·exact kZ gd.2 y h
   ·have l2:=N3;have l8:g.length<=8:=wg;simp only[aaD,aaH,or_false] at h;rcases h with rfl | rfl <;>omega
  simp_all only[oV];refine⟨rfl,by omega,λp np=>⟨_,ah np _ _ nF,_,aj,by rw[aaA,sl];show _+2<=_;omega,λp2 np2=>⟨fL ds++ [Str.ofString "go",g],?_,iQ wgo (by rw[aaE];show _+2<=_;omega) (by decide) (by ac_rfl),?_⟩⟩⟩
  ·rw[aaM];exact bG.of aj
  ·have e:=row_end [] ds g;rw[List.nil_append,show iw []=Str.empty from rfl,Str.empty_append] at e;rw[show Txt.join (Str.ofString " ") (fL ds++ [Str.ofString "go",g])=AE ds g from e];exact kk _ (s2.trans ((ah np).trans (ah np2)))
theorem gj:aS ["_law_what_here","_law_lines","_law_low","_law_high","_law_deeds_here","_law_goal","_law_line","_law_word","_law_when"] ["_law_what_here"] (ai (top 103)):=.mk
theorem JR (T:dm P w base K mg ax aA aJ aB au aD av aL):da P w K mg base (cL P w) 2 "_law_rows_text" ["_law_what_here"] GA:=by
 have lY:=JQ T;refine T.mS.dj (λ_ _ _ _ _ _=>du λ_=>rfl) λf fd F=>F.dA gj (λvs H Q E h=>?_) (λcf A outer s H vs Q E hr h=>?_)
 ·obtain⟨_,rfl,_⟩:=F2 h;rfl
 ·symm;obtain⟨v,rfl,x,rv,g,kk⟩:=F2 h;nofun;have nd:=gj.nd;refine⟨_,(ag (aH (i:=1) (bx ae))
  (ag (bp (aM bF (aE aN (pv 0) af) ao (aK _)) (ak (cH PassesOwn.never rfl (bw (K:=K) (aE aN (pv 0) af)) (dU (K:=K) (n:=4) rfl (bJ (aU (i:=2) nd rfl (Or.inl rfl)) (bJ (aU (i:=3) nd rfl (Or.inl rfl)) (bJ (aU (i:=4) nd rfl (Or.inl rfl)) (bJ (aU (i:=5) nd rfl (Or.inl rfl)) dR))))) (ag (aH (i:=6) (aw bf (aw bf (aw bf (aw bf ao (bM cD (by rfl) T.z_str rfl (aa (pv 2) ae) (he:=se rfl) (hpl:=na rfl))) ao) (bM cD (by rfl) T.z_str rfl (aa (pv 3) ae) (he:=se rfl) (hpl:=na rfl))) ao))
  (ak (aX (cu aaV aaZ aa0 bY.r (pv 1) (aa (aw bf (pv 6) (ar lY (aa (pv 4) (aa (pv 5) ae)))) ae)))))))
   aT)
  (ag (bp (aM bF (aE aN (pv 0) af) ao (aK _)) (ak (cH PassesOwn.never rfl (bw (K:=K) (aE aN (pv 0) af)) (dU (K:=K) (n:=4) rfl (bJ (aU (i:=7) nd rfl (Or.inl rfl)) (bJ (aU (i:=8) nd rfl (Or.inl rfl)) (bJ (aU (i:=4) nd rfl (Or.inl rfl)) (bJ (aU (i:=5) nd rfl (Or.inl rfl)) dR))))) (ag (aH (i:=6) (aw bf (aw bf ao (pv 7)) ao))
  (ag (bp (aM sf (pv 8) eB (aK _)) (ak (aH (i:=6) (aw bf (aw bf (aw bf (pv 6) ao) (cu abe PySem.F.slot_str_join PySem.F.type_str_join (gJ (K:=K)) ao (aa (cw rfl (N:=["_law_what_here","_law_lines","_law_low","_law_high","_law_deeds_here","_law_goal","_law_line","_law_word","_law_when"]) (so:=ai (top 103)) (N':=["_law_one"]) (k:=1) (fr:=[]) rfl rfl ⟨rfl,by ac_rfl,by ac_rfl,by ac_rfl,rfl,by ac_rfl,by ac_rfl⟩ (yt (K:=K) (pv 8)) (λ_ _ _ _ _=>(aU (i:=0) (show(["_law_one"]:List Str).Nodup by ac_rfl) rfl (Or.inl rfl))) (λ_ _ _ _ _=>b6)
   (λ_ _ _ _ _=>(bM j7 (by rfl) T.z_str rfl (aa (pv 0) ae) (he:=se rfl) (hpl:=na rfl)))) ae))) ao)))
   aT)
  (ak (aX (cu aaV aaZ aa0 bY.r (pv 1) (aa (aw bf (pv 6) (ar lY (aa (pv 4) (aa (pv 5) ae)))) ae))))))))
   aT)
  (ak (aO (pv 1)))))),?_⟩
  refine(?_:let bP:TS:=_;let bQ:TS:=_;let bR:TS:=_;let cm:TS:=_;tSeq bP (tSeq bQ (tSeq bR cm)) _ _ _);intro bP bQ bR cm;have sl:=sizeLine_eq;have ls:(Str.ofString " ").length=1:=xA;symm;obtain⟨GS,r0,rfl,hp⟩:=zc rv;nofun;change tSeq _ _ _ _ _;refine br (λσ' H1=>aq H H1/\∃l,H l=none/\H1 l=some (.lst [])/\σ'=[some (.ref GS),some (.ref l),none,none,none,none,none,none,none]) (λN hN=>?_) ?_
  ·simp_all only[];exact⟨aaP _,λl nl=>hN _ _ ⟨ah nl,l,nl,aj,rfl⟩⟩
  intro _ H1 cZ;symm;obtain⟨ko,l,nl,hl,rfl⟩:=cZ;nofun;have Kl:=ko _ _ hp;change tSeq _ _ _ _ _;refine br (λσ' H2=>aq H H2/\H2 l=some (.lst (List.map V.str (PL x)))/\∃z2 z3 z4 z5 z6 z7 z8,σ'=[some (.ref GS),some (.ref l),z2,z3,z4,z5,z6,z7,z8]) (λN hN=>?_) ?_
  ·simp_all only[Kl]
   by_cases k:wK x=Str.ofString "throw"
   ·rw[if_pos k];symm;obtain⟨ps,a,b,rs,rfl⟩:=Ja k;obtain⟨_,u,q,m,xs,e,i8,ru,hq,hm,rl⟩:=xE.mp rv;nofun;cases e;have lx:=rl.length;rw[aaA] at lx;have l5:=g.2.2.2.1;have Mp:=i8;rw[hp] at Mp;cases Mp;refine⟨_,bE (j:=3) rfl,m,rfl,⟨_,bG.of (ko _ _ hm)⟩,b9 (src_list (Ok:=aq H) (λH' s'=>s'.seq (bG.of hm)))
     (λi σ H'=>aq H H'/\H' l=some (.lst (List.map V.str ((rs.take i).map F5)))/\∃z2 z3 z4 z5 z6 z7 z8,σ=[some (.ref GS),some (.ref l),z2,z3,z4,z5,z6,z7,z8])
     ⟨ko,hl,_,_,_,_,_,_,_,rfl⟩ (λ_ _ _ _ h=>h.1) ?_ ?_⟩
    ·intro i y σ H' jB hi fG eL;symm;obtain⟨sm,wx,z2,z3,z4,z5,z6,z7,z8,rfl⟩:=fG;obtain⟨rfl,hx⟩:=eL;obtain⟨r,er,rr⟩:=vJ rl hx;obtain⟨ra,rq,us,rfl,ha,GU,Qk⟩:=PJ.mp (rr.mono sm);nofun;have gr:=g.2.2.2.2 r (aaO er);have tk:rs.take (i+1)=rs.take i++ [r]:=by rw[aa4,er];rfl
     have l1:=dJ gr.1;have l2:=dJ gr.2.1;unfold bg at l1 l2;have l3:(Str.ofString "from ").length=5:=by ac_rfl
     have l4:(Str.ofString " to ").length=4:=by ac_rfl
     have l7:=y8 gr.2.2.1 gr.2.2.2;refine⟨ra,_,rfl,fM.of ha,rfl,?_⟩;refine⟨_,_,rfl,_,_,rfl,_,_,rfl,_,_,rfl,rfl,?_⟩;refine aP (λN=>N [some (.ref GS),some (.ref l),some (.int r.lo),some (.int r.hi),some (.ref rq),some (.str r.go),some (.str (Str.ofString "from "++Str.ofString (toString r.lo)++Str.ofString " to "++Str.ofString (toString r.hi)++Str.ofString " ")),z7,z8] jB) (λN hN=>?_) ?_
     ·simp_all only[strLen_append,xA];exact⟨c7 gr.1,by omega,by omega,c7 gr.2.1,by omega,by omega,hN⟩
     simp_all only[C5,ck,strLen_append,xA];refine⟨.inl ⟨rfl,_,bG.of wx⟩,us,GU,r.ds,Qk,gr.2.2.1,gr.2.2.2,λH2 s2=>⟨by omega,_,s2 _ _ wx,by simp only[aaA,abc];omega,?_,?_,_,rfl⟩⟩
     ·intro b o eb;rw[aV (λz=>by rw[z,nl] at eb;cases eb)];exact s2 _ _ (sm _ _ eb)
     ·rw[aj,tk,aaM,aaM];have:=IZ r;unfold bg at this;rw[<-this];rfl
    ·intro σ H' cZ;symm;obtain⟨sm,wx,z2,z3,z4,z5,z6,z7,z8,rfl⟩:=cZ;nofun;rw[aaT (by omega)] at wx;exact hN _ _ ⟨sm,wx,_,_,_,_,_,_,_,rfl⟩
   ·rw[if_neg k];exact hN _ _ ⟨ko,by rw[Jc k];exact hl,_,_,_,_,_,_,_,rfl⟩
  intro _ H2 cZ;symm;obtain⟨mj,nF,z2,z3,z4,z5,z6,z7,z8,rfl⟩:=cZ;nofun;have sC:=mj _ _ hp;change tSeq _ _ _ _ _;refine br (λσ' H3=>aq H H3/\H3 l=some (.lst (List.map V.str (wR x)))/\∃z2 z3 z4 z5 z6 z7 z8,σ'=[some (.ref GS),some (.ref l),z2,z3,z4,z5,z6,z7,z8]) (λN hN=>?_) ?_
  ·simp_all only[sC]
   by_cases k:wK x=Str.ofString "pick"
   ·rw[if_pos k];symm;obtain⟨kn,rs,rfl⟩:=Jb k;obtain⟨_,m,xs,e,i8,hm,rl⟩:=xF.mp rv;nofun;cases e;have lx:=rl.length;rw[aaA] at lx;have l5:=g.2.1;have Mp:=i8;rw[hp] at Mp;cases Mp;refine⟨_,at2,m,rfl,⟨_,bG.of (mj _ _ hm)⟩,b9 (src_list (Ok:=aq H) (λH' s'=>s'.seq (bG.of hm)))
     (λi σ H'=>aq H H'/\H' l=some (.lst (List.map V.str ((rs.take i).map DG)))/\∃z2 z3 z4 z5 z6 z7 z8,σ=[some (.ref GS),some (.ref l),z2,z3,z4,z5,z6,z7,z8])
     ⟨mj,nF,_,_,_,_,_,_,_,rfl⟩ (λ_ _ _ _ h=>h.1) ?_ ?_⟩
    ·intro i y σ H' jB hi fG eL;symm;obtain⟨sm,wx,z2,z3,z4,z5,z6,z7,z8,rfl⟩:=fG;obtain⟨rfl,hx⟩:=eL;obtain⟨r,er,rr⟩:=vJ rl hx;obtain⟨ra,u,rq,us,rfl,ha,ru,GU,Qk⟩:=LO.mp (rr.mono sm);nofun;have gr:=g.2.2 r (aaO er);have tk:rs.take (i+1)=rs.take i++ [r]:=by rw[aa4,er];rfl
     have gw:r.wd.length<=8:=gr.1;have lw:(Str.ofString "way ").length=4:=by ac_rfl
     have li:(Str.ofString "if ").length=3:=by ac_rfl
     have eif:Str.ofString " if "=Str.ofString " "++Str.ofString "if ":=by ac_rfl
     have l7:=y8 gr.2.2.1 gr.2.2.2;refine⟨ra,_,rfl,fM.of ha,rfl,?_⟩;refine⟨_,_,rfl,_,_,rfl,_,_,rfl,_,_,rfl,rfl,?_⟩;change tSeq _ _ _ _ _;refine br (λσ' H2=>jB=H2/\σ'=[some (.ref GS),some (.ref l),z2,z3,some (.ref rq),some (.str r.go),some (.str (Str.ofString "way "++r.wd++Str.ofString " ")),some (.str r.wd),some u]) (λN hN=>?_) ?_
     ·simp_all only[strLen_append];exact⟨by omega,by omega,hN _ _ ⟨rfl,rfl⟩⟩
     rintro _ _ ⟨rfl,rfl⟩;change tSeq _ _ _ _ _;refine br (λσ' H2=>aq jB H2/\∃t:Str,t.length<=100/\DG r=t++AE r.ds r.go/\σ'=[some (.ref GS),some (.ref l),z2,z3,some (.ref rq),some (.str r.go),some (.str t),some (.str r.wd),some u]) (λN hN=>?_) ?_
     ·cases hw:r.wh with
      | none=>
       rw[hw] at ru;have ru:u=.c6:=by simpa [lj,Rep] using ru
       subst ru;simp_all only[];exact hN _ _ ⟨aq.refl _,_,by rw[strLen_append,strLen_append];omega,Fb hw,rfl⟩
      | some c=>
       rw[hw] at ru;symm;obtain⟨cp,rfl,hcp⟩:=LN.mp ru;nofun;have gc:=gr.2.1 c hw;have gi:GD (.st c.1 c.2.1 c.2.2):=gc;have ld:=(ua (.st c.1 c.2.1 c.2.2)).2;have jl:(Txt.join (Str.ofString " ") (dW (.st c.1 c.2.1 c.2.2))).length<=(dW (.st c.1 c.2.1 c.2.2)).length* (14+1):=eK (sep:=SP) (ub gi);have jl2:=abo (14+1) ld;have jl3:(Txt.join (Str.ofString " ") [c.1,c.2.1,bg c.2.2]).length<=(dW (.st c.1 c.2.1 c.2.2)).length* (14+1):=jl;simp_all only[];rw[if_pos (by simp)];refine⟨by rw[strLen_append,strLen_append];omega,rfl,⟨_,fM.of hcp⟩,?_⟩;refine dM (dV (.st c.1 c.2.1 c.2.2)) (λx=>(FY x).map V.str) (yn (K:=K) (λH2 s2=>fM.of (s2 _ _ hcp))) (λ_ _ _ _ h=>h.1) (by have:=Cs (.st c.1 c.2.1 c.2.2);omega) ?_ ?_
       ·rintro j c y ec ⟨_,ey⟩ Y N y1 _;rw[ec] at ey;cases ey;obtain⟨t,et⟩:=y4 gi c (aaO ec);simp_all only[jY];exact⟨t,et,y1 _ (by rw[et];rfl)⟩
       ·intro D n1 n2;rw[F4 gi];refine⟨dW (.st c.1 c.2.1 c.2.2),bG.of aj,iQ (ub gi) (by omega) (by decide) (by ac_rfl),by rw[strLen_append,strLen_append,strLen_append];omega,by rw[strLen_append,strLen_append,strLen_append,strLen_append];omega,hN _ _ ⟨ah n2,_,by rw[strLen_append,strLen_append,strLen_append,strLen_append,strLen_append];omega,by rw[Fc hw,eif];simp only[Str.append_assoc];rfl,rfl⟩⟩
     intro _ H2 cZ;symm;obtain⟨s2,t,lt,et,rfl⟩:=cZ;nofun;simp_all only[C5,ck,strLen_append];refine⟨.inl ⟨rfl,_,bG.of (s2 _ _ wx)⟩,us,s2 _ _ GU,r.ds,Qk.mono s2,gr.2.2.1,gr.2.2.2,λH3 s3=>⟨by omega,_,s3 _ _ (s2 _ _ wx),by simp only[aaA,abc];omega,?_,?_,_,rfl⟩⟩
     ·intro b o eb;rw[aV (λz=>by rw[z,nl] at eb;cases eb)];exact s3 _ _ (s2 _ _ (sm _ _ eb))
     ·rw[aj,tk,aaM,aaM,<-et];rfl
    ·intro σ H' cZ;symm;obtain⟨sm,wx,z2,z3,z4,z5,z6,z7,z8,rfl⟩:=cZ;nofun;rw[aaT (by omega)] at wx;exact hN _ _ ⟨sm,wx,_,_,_,_,_,_,_,rfl⟩
   ·rw[if_neg k];exact hN _ _ ⟨mj,by rw[LS k];exact nF,_,_,_,_,_,_,_,rfl⟩
  intro _ H3 cZ;symm;obtain⟨sm3,Dl,z2',z3',z4',z5',z6',z7',z8',rfl⟩:=cZ;nofun;simp_all only[];exact kk _ _ sm3 nl Dl
theorem lZ:aS ["_law_game_here","_law_lines","_law_name","_law_what_here","_law_line"] ["_law_game_here"] (ai (top 104)):=.mk
theorem JS (T:dm P w base K mg ax aA aJ aB au aD av aL):da P w K mg base (cL P w) 3 "_law_text" ["_law_game_here"] vX:=by
 have gu:=JO T;have ny:=JP T;have nA:=JR T;refine T.vF.dj (λ_ _ _ _ _ _=>du λ_=>rfl) λf fd F=>F.dA lZ (λvs H Q E h=>?_) (λcf A outer s H vs Q E hr h=>?_)
 ·obtain⟨_,rfl,_⟩:=F2 h;rfl
 ·symm;obtain⟨v,rfl,g,rv,gg,kk⟩:=F2 h;nofun;clear G_;have nd:=lZ.nd;refine⟨_,(ag (g9 (i:=1) rfl nd rfl rfl (N:=["_law_game_here","_law_lines","_law_name","_law_what_here","_law_line"]) (so:=ai (top 104)) (N':=["_law_name","_law_most"]) (k:=2) (fr:=[]) rfl rfl ⟨rfl,by ac_rfl,by ac_rfl,by ac_rfl,rfl,by ac_rfl,by ac_rfl⟩ (bw (K:=K) (aE aN (pv 0) af)) (λ_ _ _ _ _=>(dU (K:=K) (n:=2) rfl (bJ (aU (i:=0) (show(["_law_name","_law_most"]:List Str).Nodup by ac_rfl) rfl (Or.inl rfl)) (bJ (aU (i:=1) (show(["_law_name","_law_most"]:List Str).Nodup by ac_rfl) rfl (Or.inl rfl)) dR)))) (λ_ _ _ _ _=>b6)
   (λ_ _ _ _ _=>(aw bf (aw bf (aw bf ao (pv 0)) ao) (bM cD (by rfl) T.z_str rfl (aa (pv 1) ae) (he:=se rfl) (hpl:=na rfl)))))
  (ag (cH PassesOwn.never rfl (bw (K:=K) (aE aN (pv 0) af)) (dU (K:=K) (n:=2) rfl (bJ (aU (i:=2) nd rfl (Or.inl rfl)) (bJ (aU (i:=3) nd rfl (Or.inl rfl)) dR))) (ag (aH (i:=4) (aw bf (aw bf (aw bf (aw bf ao (pv 2)) ao) (aE aN (pv 3) af)) ao))
  (ag (bp (aM bF (aE aN (pv 3) af) ao (aK _)) (ak (aH (i:=4) (aw bf (pv 4) (ar gu (aa (aE aN (pv 3) af) ae)))))
   (ak (bp (aM bF (aE aN (pv 3) af) ao (aK _)) (ak (aH (i:=4) (aw bf (aw bf (aw bf (pv 4) (ar ny (aa (aE aN (pv 3) af) ae))) ao) (ar gu (aa (aE aN (pv 3) af) ae)))))
   (ak (bp (aM bF (aE aN (pv 3) af) ao (aK _)) (ak (aH (i:=4) (aw bf (pv 4) (cu abe PySem.F.slot_str_join PySem.F.type_str_join (gJ (K:=K)) ao (aa (bx (aa (aE aN (pv 3) af) (aa ao (aa (bM cD (by rfl) T.z_str rfl (aa (aE aN (pv 3) af) ae) (he:=se rfl) (hpl:=na rfl)) (aa ao (aa (aE aN (pv 3) af) (aa ao (aa (aE aN (pv 3) af) ae)))))))) ae)))))
   (ak (aH (i:=4) (aw bf (pv 4) (bM j7 (by rfl) T.z_str rfl (aa (aE aN (pv 3) af) ae) (he:=se rfl) (hpl:=na rfl))))))))))
  (ak (aH (i:=1) (aw ft (aw ft (pv 1) (bx (aa (pv 4) ae))) (ar nA (aa (pv 3) ae))))))))
  (ak (aO (cu abe PySem.F.slot_str_join PySem.F.type_str_join (gJ (K:=K)) ao (aa (pv 1) ae)))))),?_⟩
  refine(?_:let bP:TS:=_;let bQ:TS:=_;let bR:TS:=_;tSeq bP (tSeq bQ bR) _ _ _);intro bP bQ bR;have sl:=sizeLine_eq;have ls:(Str.ofString " ").length=1:=xA;symm;obtain⟨p,l,m,us,ws,rfl,hp,hl,rl,hm,rm⟩:=CF.mp rv;nofun;clear G_;have lu:=rl.length;rw[aaA] at lu;have lv:=rm.length;rw[aaA] at lv;have g4:=gg.1;have g30:=gg.2.2.1;refine aP (λN=>∀H2 q,aq H H2->H2 q=some (.lst (List.map V.str (g.1.map qI)))->N [some (.ref p),some (.ref q),none,none,none] H2) (λN hN=>?_) ?_
  ·simp_all only[hp];refine⟨⟨_,bG.of hl⟩,?_⟩;refine mF (K:=K) (src_list (λH2 s2=>bG.of (s2 _ _ hl))) (λi a b H2=>∃c,g.1[i]?=some c/\a=.str c.1/\b=.int c.2) ?_ (by omega) (λi y H2=>∀c,g.1[i]?=some c->y=.str (qI c)) (λi y H2 H3 s3 h c e=>h c e) ?_ ?_
   ·rintro i x H3 H4 hi s3 ⟨rfl,ex⟩;symm;obtain⟨d,ed,rd⟩:=rl.get ex;rw[aaG] at ed;obtain⟨c,ec,rfl⟩:=Option.map_eq_some_iff.mp ed;obtain⟨t,rfl,ht⟩:=CD.mp rd;nofun;exact⟨aq.refl _,t,_,_,rfl,fM.of (s3 _ _ ht),c,ec,rfl,rfl⟩
   ·intro i u v H3 Q2 hi s3 eL kq;symm;obtain⟨c,ec,rfl,rfl⟩:=eL;nofun;have gc:=gg.2.1 c (aaO ec);have g1:c.1.length<=8:=gc.1;have g2:=dJ gc.2;have lc:(Str.ofString "count ").length=6:=by ac_rfl
    unfold bg at g2;simp_all only[strLen_append];exact⟨by omega,by omega,c7 gc.2,by omega,kq _ _ (aq.refl _) λc' v3=>by rw[ec] at v3;cases v3;rfl⟩
   ·intro ys H5 s5 ly hy D n1 n2;have ez:ys=(g.1.map qI).map V.str:=by rw[abb];exact list_eq (by omega) hy
    rw[ez];exact hN _ D (s5.trans (ah n2)) aj
  rintro H2 q s2 Kh;have sC:=s2 _ _ hp;have wB:=s2 _ _ hm;refine aP (λN=>∀H3 q z2 z3 z4,aq H H3->H3 q=some (.lst (List.map V.str (iR g)))->N [some (.ref p),some (.ref q),z2,z3,z4] H3) (λN hN=>?_) ?_
  ·simp_all only[sC];refine⟨⟨_,bG.of wB⟩,b9 (src_list (Ok:=aq H) (λH' s'=>s'.seq (bG.of hm)))
    (λi σ H'=>aq H H'/\∃q z2 z3 z4,H' q=some (.lst (List.map V.str (g.1.map qI++ (g.2.take i).flatMap pQ)))/\σ=[some (.ref p),some (.ref q),z2,z3,z4])
    ⟨s2,q,_,_,_,by rw[Kh];simp,rfl⟩ (λ_ _ _ _ h=>h.1) ?_ ?_⟩
   ·intro i y σ H' jB hi fG eL;symm;obtain⟨sm,q,z2,z3,z4,GU,rfl⟩:=fG;obtain⟨rfl,hx⟩:=eL;obtain⟨d0,Mo,rc⟩:=rm.get hx;rw[aaG] at Mo;obtain⟨⟨n,x⟩,ec,rfl⟩:=Option.map_eq_some_iff.mp Mo;obtain⟨r,u,rfl,hr0,ru0⟩:=Ga.mp rc;have fh:=sm _ _ hr0;have ru:=ru0.mono sm;have gc:=gg.2.2.2 _ (aaO ec);have gn:n.length<=8:=gc.1;have gx:GW x:=gc.2;have ru:Rep jB (wD x) u:=ru;have tk:g.2.take (i+1)=g.2.take i++ [(n,x)]:=by rw[aa4,ec];rfl
    have lc:=(mZ gc).1;have lt:(g.2.take i).length<=30:=by rw[abc];omega
    have lf:=pR (ps:=g.2.take i) λx hx=>gg.2.2.2 x (List.mem_of_mem_take hx);obtain⟨ph,r0,rfl,hw⟩:=zc ru;nofun;clear G_;have lk:=CA x;have lp:(Str.ofString "place ").length=6:=by ac_rfl
    refine⟨r,_,rfl,fM.of fh,rfl,?_⟩;refine⟨_,_,rfl,_,_,rfl,rfl,?_⟩;refine aP (λN=>N [some (.ref p),some (.ref q),some (.str n),some (.ref ph),some (.str (Str.ofString "place "++n++Str.ofString " "++wK x++Str.ofString " "))] jB) (λN hN=>?_) ?_
    ·simp_all only[hw,strLen_append];exact⟨by omega,by omega,by omega,by omega,hN⟩
    have pt:=Fg n x;refine aP (λN=>∀H2,aq jB H2->N [some (.ref p),some (.ref q),some (.str n),some (.ref ph),some (.str (Txt.join SP (iy n x)))] H2) (λN hN=>?_) ?_
    ·have ll:(Str.ofString "place "++n++Str.ofString " "++wK x++Str.ofString " ").length<=30:=by
      rw[strLen_append,strLen_append,strLen_append,strLen_append];omega
     generalize Str.ofString "place "++n++Str.ofString " "++wK x++Str.ofString " "=pre at *;cases x with
     | fin a b=>
      symm;obtain⟨_,qs,e,i8,Ql⟩:=xD.mp ru;nofun;cases e;have l2:=lA gx.1 gx.2;have e2:Txt.join SP (wW (.fin a b))=iA a b:=join_one _ _;rw[e2] at pt;refine pX rfl i8 rfl ?_;simp_all only[i8,C4];exact⟨a,b,Ql,gx.1,gx.2,by omega,by rw[<-pt];exact hN _ (aq.refl _)⟩
     | qG c=>
      symm;obtain⟨_,e,i8⟩:=CG.mp ru;nofun;cases e;have l2:c.length<=8:=gx;have e2:Txt.join SP (wW (.qG c))=c:=join_one _ _;rw[e2] at pt;refine fF rfl i8 (by ac_rfl) (fF rfl i8 (by ac_rfl) (fF rfl i8 (by ac_rfl) ?_));simp_all only[i8];exact⟨c,rfl,by omega,by rw[<-pt];exact hN _ (aq.refl _)⟩
     | ask c m' g' e'=>
      symm;obtain⟨_,e,i8⟩:=CH.mp ru;nofun;cases e;have jl:(Txt.join (Str.ofString " ") (wW (.ask c m' g' e'))).length<=(wW (.ask c m' g' e')).length* (30+1):=eK (sep:=SP) (ue gx);have l25:=Cz gx;have jl2:=abo (30+1) l25;refine fF rfl i8 (by ac_rfl) (fF rfl i8 (by ac_rfl) (pX rfl i8 rfl ?_));simp_all only[i8];refine⟨rfl,c7 gx.2.1,_,bE (j:=3) rfl,_,bE (j:=4) rfl,by decide,λlq nlq=>⟨wW (.ask c m' g' e'),bG.of aj,iQ (ue gx) (by omega) (by decide) (by ac_rfl),by omega,by rw[<-pt];exact hN _ (ah nlq)⟩⟩
     | eC ps a b rs=>
      symm;obtain⟨_,u',qs,lr,xs,e,i8,ru',Ql,hlr,rlr⟩:=xE.mp ru;nofun;cases e;have l2:=lA gx.2.1 gx.2.2.1;have l3:=Fe gx.1;have l4:(Str.ofString " pay ").length=5:=by ac_rfl
      rw[Fh gx.1.1] at pt;have et:=Fd gx.1;refine fF rfl i8 (by ac_rfl) (pX rfl i8 rfl ?_);simp_all only[i8,C4,Gz,strLen_append];refine⟨ps.map F7,ru',by rw[aaA];exact gx.1.2.1,(λp hp=>by obtain⟨y,hy,rfl⟩:=List.mem_map.mp hp;exact F8 (gx.1.2.2 y hy)),λH2 s2=>?_⟩;rw[et];refine⟨by omega,by omega,_,s2 _ _ i8,_,at2,qs,rfl,a,b,s2 _ _ Ql,gx.2.1,gx.2.2.1,by omega,?_⟩;have h:=hN _ s2;rw[pt] at h;simp only[Str.append_assoc] at h ⊢;exact h
     | jx k' rs=>
      symm;obtain⟨_,lr,xs,e,i8,hlr,rlr⟩:=xF.mp ru;nofun;cases e;have l2:=dJ gx.1;have e2:Txt.join SP (wW (.jx k' rs))=bg k':=join_one _ _;rw[e2] at pt;refine fF rfl i8 (by ac_rfl) (fF rfl i8 (by ac_rfl) (fF rfl i8 (by ac_rfl) ?_));simp_all only[i8];exact⟨bg k',if_pos (c7 gx.1),by omega,by rw[<-pt];exact hN _ (aq.refl _)⟩
    rintro H2 s2;have Qm:=s2 _ _ GU;have lr:=(zb gx).1;simp_all only[GA,oV];refine⟨by omega,λt1 n1=>⟨_,ah n1 _ _ Qm,_,aj,by simp only[aaE,aaA,aaL,aa5];omega,λt2 n2=>?_⟩⟩;have Mn:=(ah (o:=.lst [V.str (Txt.join SP (iy n x))]) n1).trans (ah (o:=.lst (List.map V.str (g.1.map qI++ (g.2.take i).flatMap pQ)++ [V.str (Txt.join SP (iy n x))])) n2);refine⟨x,ru.mono (s2.trans Mn),gx,λt3 H4 s4 n4 e4=>⟨_,s4 _ _ aj,_,e4,by simp only[aaE,aaA,aaL,aa5];omega,λt5 n5=>⟨sm.trans (s2.trans (Mn.trans (s4.trans (ah n5)))),t5,?_,rfl,_,rfl⟩⟩⟩;rw[aj,tk];simp [pQ]
   ·intro σ H' cZ;symm;obtain⟨sm,q,z2,z3,z4,GU,rfl⟩:=cZ;nofun;rw[aaT (by omega)] at GU;exact hN _ _ _ _ _ sm GU
  rintro H3 q z2 z3 z4 s3 Oa;simp_all only[];exact⟨rfl,iR g,bG.of Oa,Ff gg,kk _ s3⟩
theorem gE:aS ["_law_found","_law_due","_law_k"] ["_law_found","_law_due"] (ai (top 105)):=.mk
noncomputable def wC:Nat->Dat->Prop
 | 0,_=>False
 | _+1,.int _=>True
 | _+1,.str _=>True
 | _+1,.c6=>True
 | _+1,.bl _=>False
 | m+1,.tup ds=>ds.length<=1000/\∀d∈ds,wC m d
 | m+1,.lst ds=>ds.length<=1000/\∀d∈ds,wC m d
noncomputable def uC (m:Nat):Sp:=λvs H Q _=>eA vs λu v=>∃d,wC m d/\Rep H d u/\Rep H d v/\∀H',aq H H'->Q (.bl true) H'
theorem Mq {K:PySem.W.Frag}:PySem.W.kitOne K (.type "str") (.type "int")=some false:=eF
theorem Mr {K:PySem.W.Frag}:PySem.W.kitOne K (.type "NoneType") (.type "int")=some false:=eF
theorem Ms {K:PySem.W.Frag}:PySem.W.kitOne K (.type "NoneType") (.type "str")=some false:=eF
theorem Mt {K:PySem.W.Frag}:PySem.W.kitOne K (.type "tuple") (.type "list")=some false:=eF
theorem Mu {K:PySem.W.Frag}:PySem.W.kitOne K (.type "list") (.type "tuple")=some false:=eF
theorem FA (T:dm P w base K mg ax aA aJ aB au aD av aL) {m:Nat} (cV:da P w K mg base (cL P w) (m+1) "_law_alike" ["_law_found","_law_due"] (uC m)):da P w K mg base (cL P w) (m+2) "_law_alike" ["_law_found","_law_due"] (uC (m+1)):=by
 refine T.kO.dj (λ_ _ _ _ _ _=>fB λ_ _=>rfl) λf fd F=>F.dA gE (λvs H Q E h=>?_) (λcf A outer s H vs Q E hr h=>?_)
 ·obtain⟨_,_,rfl,_⟩:=EH h;rfl
 ·symm;obtain⟨u,v,rfl,d,pd,ru,rv,kk⟩:=EH h;nofun;clear G_;have nd:=gE.nd;refine⟨_,(ag (bp (di (aF (cR (K:=K)) (by rfl) T.z_isinstance rfl (aa (pv 1) (aa (dH (v:=V.ty "int") rfl T.z_int rfl rfl) ae)))) (ak (aO (dP (aF (cR (K:=K)) (by rfl) T.z_isinstance rfl (aa (pv 0) (aa (dH (v:=V.ty "int") rfl T.z_int rfl rfl) ae))) (dP (Ho (aF (cR (K:=K)) (by rfl) T.z_isinstance rfl (aa (pv 0) (aa (dH (v:=V.ty "bool") rfl T.z_bool rfl rfl) ae)))) (fk (bD bF (pv 0) (pv 1) (aK _)))))))
   aT)
  (ag (bp (di (aF (cR (K:=K)) (by rfl) T.z_isinstance rfl (aa (pv 1) (aa (dH (v:=V.ty "str") rfl T.z_str rfl rfl) ae)))) (ak (aO (dP (aF (cR (K:=K)) (by rfl) T.z_isinstance rfl (aa (pv 0) (aa (dH (v:=V.ty "str") rfl T.z_str rfl rfl) ae))) (fk (bD bF (pv 0) (pv 1) (aK _))))))
   aT)
  (ag (bp (aM rZ (pv 1) eB (aK _)) (ak (aO (bD rZ (pv 0) eB (aK _))))
   aT)
  (ag (bp (PW.pt (pw_or (aM ik (aF (cR (K:=K)) (by rfl) T.z_isinstance rfl (aa (pv 1) (aa (dH (v:=V.ty "tuple") rfl T.z_tuple rfl rfl) ae))) (aF (cR (K:=K)) (by rfl) T.z_isinstance rfl (aa (pv 0) (aa (dH (v:=V.ty "tuple") rfl T.z_tuple rfl rfl) ae))) (aK _)) (pw_or1 (aM ik (aF (cR (K:=K)) (by rfl) T.z_isinstance rfl (aa (pv 1) (aa (dH (v:=V.ty "list") rfl T.z_list rfl rfl) ae))) (aF (cR (K:=K)) (by rfl) T.z_isinstance rfl (aa (pv 0) (aa (dH (v:=V.ty "list") rfl T.z_list rfl rfl) ae))) (aK _))))) (ak (aO kx))
   aT)
  (ag (bp (aM ik (aF mL (by rfl) T.z_len aaF (aa (pv 0) ae)) (aF mL (by rfl) T.z_len aaF (aa (pv 1) ae)) (aK _)) (ak (aO kx))
   aT)
  (ag (cH PassesOwn.never rfl (dn rfl T.z_range (aa (aF mL (by rfl) T.z_len aaF (aa (pv 1) ae)) ae)) (aU (i:=2) nd rfl (Or.inl rfl)) (ak (bp (gy (di (ar cV (hr:=hr.mono (aaC _)) (aa (aE yN (pv 0) (pv 2)) (aa (aE yN (pv 1) (pv 2)) ae))))) (ak (aO kx))
   aT)))
  (ak (aO kx)))))))),?_⟩
  refine(?_:let bP:TS:=_;let bQ:TS:=_;let bR:TS:=_;let cm:TS:=_;let fH:TS:=_;let iX:TS:=_;let nO:TS:=_;tSeq bP (tSeq bQ (tSeq bR (tSeq cm (tSeq fH (tSeq iX nO))))) _ _ _);intro bP bQ bR cm fH iX nO;have szl:=sizeLine_eq;have sp:(∃k,u=.int k/\v=.int k)\/(∃x,u=.str x/\v=.str x)\/(u=.c6/\v=.c6)\/∃(t:String) (l q:Bool) (ds:List Dat) (a b:Addr) (xs ys:List V),u=.ref a/\v=.ref b/\ds.length<=1000/\(∀d∈ds,wC m d)/\J9 H a xs/\J9 H b ys/\bj H ds xs/\bj H ds ys/\gZ K H (.ref a) (.type t)/\gZ K H (.ref b) (.type t)/\PySem.W.kitOne K (.type t) (.type "int")=some false/\PySem.W.kitOne K (.type t) (.type "str")=some false/\PySem.W.kitOne K (.type t) (.type "list")=some l/\PySem.W.kitOne K (.type t) (.type "tuple")=some q:=by
   cases d with
   | int k=>exact .inl ⟨k,kR.mp ru,kR.mp rv⟩
   | str x=>exact .inr (.inl ⟨x,fV.mp ru,fV.mp rv⟩)
   | c6=>exact .inr (.inr (.inl ⟨by simpa [Rep] using ru,by simpa [Rep] using rv⟩))
   | tup ds=>
    symm;obtain⟨a,xs,rfl,ha,rx⟩:=kP.mp ru;obtain⟨b,ys,rfl,hb,ry⟩:=kP.mp rv;nofun;exact .inr (.inr (.inr ⟨_,_,_,ds,a,b,xs,ys,rfl,rfl,pd.1,pd.2,.inr ha,.inr hb,rx,ry,.tup ha,.tup hb,eF,eF,Mt,HQ⟩))
   | lst ds=>
    symm;obtain⟨a,xs,rfl,ha,rx⟩:=bU.mp ru;obtain⟨b,ys,rfl,hb,ry⟩:=bU.mp rv;nofun;exact .inr (.inr (.inr ⟨_,_,_,ds,a,b,xs,ys,rfl,rfl,pd.1,pd.2,.inl ha,.inl hb,rx,ry,.lst ha,.lst hb,eF,eF,HR,Mu⟩))
   | bl b=>exact pd.elim
  clear pd ru rv;rcases sp with ⟨k,rfl,rfl⟩ | ⟨x,rfl,rfl⟩ | ⟨rfl,rfl⟩ | ⟨t,l,q,ds,a,b,xs,ys,rfl,rfl,l1,hd,sa,sb,rx,ry,ta,tb,ki,ks,kl,kt⟩
  ·refine aP (λ_=>True) (λN _=>?_) trivial;refine ke (λY N k=>by
    simp_all only[];exact⟨_,.int _,_,Bo,by rw[if_pos rfl];exact k⟩) ?_
   simp_all only[];refine⟨_,.int _,_,Bo,?_⟩;rw[if_pos rfl];refine⟨_,.int _,_,HS,?_⟩;rw[if_pos rfl];exact kk _ (aq.refl _)
  ·refine aP (λN=>N [some (.str x),some (.str x),none] H) (λN hN=>?_) ?_
   ·refine iq (λY N k=>by
     simp_all only[];exact⟨_,.str _,_,Mq,by rw[if_neg (by decide)];exact k⟩) ?_
    simp_all only[];exact hN
   refine aP (λ_=>True) (λN _=>?_) trivial;refine ke (λY N k=>by
    simp_all only[];exact⟨_,.str _,_,o4,by rw[if_pos rfl];exact k⟩) ?_
   simp_all only[];refine⟨_,.str _,_,o4,?_⟩;rw[if_pos rfl];exact kk _ (aq.refl _)
  ·refine aP (λN=>N [some .c6,some .c6,none] H) (λN hN=>?_) ?_
   ·refine iq (λY N k=>by
     simp_all only[];exact⟨_,.c6,_,Mr,by rw[if_neg (by decide)];exact k⟩) ?_
    simp_all only[];exact hN
   refine aP (λN=>N [some .c6,some .c6,none] H) (λN hN=>?_) ?_
   ·refine iq (λY N k=>by
     simp_all only[];exact⟨_,.c6,_,Ms,by rw[if_neg (by decide)];exact k⟩) ?_
    simp_all only[];exact hN
   refine aP (λ_=>True) (λN _=>?_) trivial;refine ke (λY N k=>by
    simp_all only[];exact k) ?_
   simp_all only[];exact kk _ (aq.refl _)
  ·have lx:=rx.length;have ly:=ry.length;refine aP (λN=>N [some (.ref a),some (.ref b),none] H) (λN hN=>?_) ?_
   ·refine iq (λY N k=>by
     simp_all only[];exact⟨_,tb,_,ki,by rw[if_neg (by decide)];exact k⟩) ?_
    simp_all only[];exact hN
   refine aP (λN=>N [some (.ref a),some (.ref b),none] H) (λN hN=>?_) ?_
   ·refine iq (λY N k=>by
     simp_all only[];exact⟨_,tb,_,ks,by rw[if_neg (by decide)];exact k⟩) ?_
    simp_all only[];exact hN
   refine aP (λN=>N [some (.ref a),some (.ref b),none] H) (λN hN=>?_) ?_
   ·refine iq (λY N k=>by
     simp_all only[];rw[if_neg (λz=>by cases z)];exact k) ?_
    simp_all only[];exact hN
   refine aP (λN=>N [some (.ref a),some (.ref b),none] H) (λN hN=>?_) ?_
   ·refine iq (λY N k=>by
     simp_all only[];refine⟨_,tb,_,kt,_,ta,_,kt,?_⟩;rw[if_neg (λz=>z rfl)];refine⟨_,tb,_,kl,_,ta,_,kl,?_⟩;rw[if_neg (λz=>z rfl)];exact k) ?_
    simp_all only[];exact hN
   refine aP (λN=>N [some (.ref a),some (.ref b),none] H) (λN hN=>?_) ?_
   ·refine iq (λY N k=>by
     simp_all only[];refine⟨xs,sa,ys,sb,?_⟩;rw[if_neg (by omega)];exact k) ?_
    simp_all only[];exact hN
   have su:∀{c zs H2},J9 H c zs->aq H H2->J9 H2 c zs:=λh s=>h.imp (s _ _) (s _ _);refine aP (λN=>∀H1 z,aq H H1->N [some (.ref a),some (.ref b),z] H1) (λN hN=>?_) ?_
   ·simp_all only[];refine⟨ys,sb,by omega,by omega,b9 (src_range (Ok:=λ_=>True)) (λi σ H1=>aq H H1/\∃z,σ=[some (.ref a),some (.ref b),z]) ⟨aq.refl _,_,rfl⟩ (λ_ _ _ _ _=>trivial) ?_ ?_⟩
    ·intro i x σ H1 H2 hi fG eL;symm;obtain⟨s1,z,rfl⟩:=fG;obtain⟨rfl,rfl⟩:=eL;nofun;obtain⟨d,ed⟩:∃d,ds[i]?=some d:=⟨_,aaW (by omega)⟩
     symm;obtain⟨x,ex,rdx⟩:=rx.at ed;obtain⟨y,ey,rdy⟩:=ry.at ed;nofun;simp only[gName,abm,abl,Int.zero_add];simp_all only[uC];refine⟨xs,su sa s1,_,bE ex,ys,su sb s1,_,bE ey,d,hd d (aaO ed),rdx.mono s1,rdy.mono s1,λH3 s3=>?_⟩;rw[if_neg (by decide)];exact⟨s1.trans s3,_,rfl⟩
    ·intro σ H1 cZ;symm;obtain⟨s1,z,rfl⟩:=cZ;nofun;exact hN _ _ s1
   rintro H1 z s1;simp_all only[];exact kk _ s1
theorem Dt (T:dm P w base K mg ax aA aJ aB au aD av aL):∀m:Nat,da P w K mg base (cL P w) (m+1) "_law_alike" ["_law_found","_law_due"] (uC m)
 | 0=>by
  have cV:da P w K mg base (cL P w) 1 "_law_alike" ["_law_found","_law_due"] (uC 0):=T.kO.dj (λ_ _ _ _ _ _=>fB λ_ _=>rfl) λf fd F=>F.dA gE (λvs H Q E h=>by obtain⟨_,_,_,d,h,_⟩:=EH h;cases d <;>exact h.elim) (λcf A outer s H vs Q E hr h=>by obtain⟨_,_,_,d,h,_⟩:=EH h;cases d <;>exact h.elim);exact cV
 | m+1=>FA T (Dt T m)
theorem Du:aS ["_law_script","_law_game_here","_law_other","_law_one","_law_found"] ["_law_script"] (ai (top 106)):=.mk
noncomputable def fN (m:Addr) (H:Hp):Hp:=λa=>if a=m then none else H a
theorem d7 {m a:Addr} {H:Hp} (h:a≠m):fN m H a=H a:=if_neg h
theorem dF {m a:Addr} {H:Hp} {o:HO} (h:fN m H a=some o):a≠m/\H a=some o:=by
 unfold fN at h
 by_cases c:a=m
 ·rw[if_pos c] at h;cases h
 ·rw[if_neg c] at h;exact⟨c,h⟩
theorem Dv {m:Addr} {H:Hp} {o:HO}:fN m (upd H m o)=fN m H:=by
 funext a
 by_cases c:a=m
 ·unfold fN;rw[if_pos c,if_pos c]
 ·rw[d7 c,d7 c,aV c]
theorem rT {m:Addr} {H H':Hp} (s:aq H H'):aq (fN m H) (fN m H'):=λa o e=>by
 obtain⟨c,h⟩:=dF e;rw[d7 c];exact s _ _ h
theorem Dw {m:Addr} {H:Hp}:aq (fN m H) H:=λa o e=>(dF e).2
structure GI (Hc:Hp) (p l m o:Addr) (g:eE):Prop where
 ok:uf g
 pp:Hc p=some (.tup [.ref l,.ref m])
 lm:l≠m
 mo:m≠o
 r:Rep (fN o Hc) (eV g) (.ref p)
theorem GI.rep {H:Hp} {p l m o:Addr} {g:eE} (h:GI H p l m o g):Rep H (eV g) (.ref p):=h.r.mono Dw
theorem GI.mono {H H':Hp} {p l m o:Addr} {g:eE} (s:aq H H') (h:GI H p l m o g):GI H' p l m o g:=⟨h.ok,s _ _ h.pp,h.lm,h.mo,h.r.mono (rT s)⟩
theorem GI.at {H:Hp} {p l m o:Addr} {g:eE} (h:GI H p l m o g):p≠o/\∃us vs,fN o H l=some (.lst us)/\bj (fN o H) (g.1.map ju) us/\fN o H m=some (.lst vs)/\bj (fN o H) (g.2.map qH) vs:=by
 obtain⟨_,l',m',us,vs,e,hp,hl,rl,hm,rm⟩:=CF.mp h.r;cases e;obtain⟨c,i8⟩:=dF hp;rw[h.pp] at i8;cases i8;exact⟨c,us,vs,hl,rl,hm,rm⟩
theorem GI.other {H:Hp} {p l m o:Addr} {g:eE} {x:HO} (h:GI H p l m o g):GI (upd H o x) p l m o g:=⟨h.ok,by rw[aV h.at.1];exact h.pp,h.lm,h.mo,by rw[Dv];exact h.r⟩
theorem qe {H:Hp} {m:Addr} {ys:List V} {x:HO} (hm:H m=some (.lst ys)):∀{cs:List (Str×Int)} {us:List V},bj H (cs.map ju) us->bj (upd H m x) (cs.map ju) us
 | [],us,h=>h
 | c::cs,us,h=>by
  obtain⟨v,r,rfl,hv,hr⟩:=bN.mp (show bj H (ju c::cs.map ju) us from h);obtain⟨q,rfl,hq⟩:=CD.mp hv;refine bN.mpr ⟨_,_,rfl,CD.mpr ⟨q,rfl,?_⟩,qe hm hr⟩;rw[aV (λz=>by rw[z,hm] at hq;cases hq)];exact hq
theorem rV {m o:Addr} {H:Hp} {x:HO} (h:m≠o):fN o (upd H m x)=upd (fN o H) m x:=by
 funext a
 by_cases c:a=m
 ·subst c;rw[d7 h,aj,aj]
 ·rw[aV c]
  by_cases d:a=o
  ·unfold fN;rw[if_pos d,if_pos d]
  ·rw[d7 d,d7 d,aV c]
noncomputable def aG (g:eE):eE:=(g.1,[(Str.ofString "a",.fin 3 4)])
theorem Mv {g:eE} (h:uf g):uf (aG g):=⟨h.c4,h.cn,h.cd,aaC _,(show 1<=30 by decide),(λp hp=>by rw[List.mem_singleton.mp hp];unfold fW;ac_rfl),by simp [aG],λi p e=>by
 cases i with
 | zero=>cases e;exact⟨by decide,by decide,by decide,by decide,by decide⟩
 | succ i=>simp [aG] at e⟩
theorem GI.set {H H':Hp} {p l m o t1 t2 t3:Addr} {g:eE} (h:GI H p l m o g) (ho:∃yo,H o=some (.lst yo)) (s:aq (upd H m (.lst [])) H') (e3:H' t3=some (.tup [.int 3,.int 4])) (e2:H' t2=some (.tup [.str (Str.ofString "end"),.ref t3])) (e1:H' t1=some (.tup [.str (Str.ofString "a"),.ref t2])):GI (upd H' m (.lst [.ref t1])) p l m o (aG g):=by
 obtain⟨po,us,vs,hl,rl,hm,rm⟩:=h.at;obtain⟨yo,ho⟩:=ho;have NZ:=(dF hm).2;have sm:H' m=some (.lst []):=s _ _ aj;have so:H' o=some (.lst yo):=s _ _ (by rw[aV (Ne.symm h.mo)];exact ho);have hp:p≠m:=λz=>by have:=h.pp;rw[z,NZ] at this;cases this
 have i8:H' p=some (.tup [.ref l,.ref m]):=s _ _ (by rw[aV hp];exact h.pp);have lo:=(dF hl).1;have wx:H' l=some (.lst us):=s _ _ (by rw[aV h.lm];exact(dF hl).2);have tm:∀{t xs},H' t=some (.tup xs)->t≠m/\t≠o:=λ{t xs} e=>⟨(λz=>by rw[z,sm] at e;cases e),(λz=>by rw[z,so] at e;cases e)⟩
 have hf:∀{a:Addr} {x:HO},H' a=some x->a≠m->a≠o->fN o (upd H' m (.lst [V.ref t1])) a=some x:=λe h1 h2=>by rw[d7 h2,aV h1];exact e
 have tf:∀{t xs},H' t=some (.tup xs)->fN o (upd H' m (.lst [V.ref t1])) t=some (.tup xs):=λe=>hf e (tm e).1 (tm e).2;have r1:=qe (x:=.lst []) hm rl;rw[<-rV h.mo] at r1;have r2:=qe (x:=.lst [V.ref t1]) (show fN o H' m=some (.lst []) by rw[d7 h.mo];exact sm) (r1.mono (rT s));rw[<-rV h.mo] at r2;refine⟨Mv h.ok,by rw[aV hp];exact i8,h.lm,h.mo,CF.mpr ⟨p,l,m,us,[.ref t1],rfl,tf i8,hf wx h.lm lo,r2,by rw[d7 h.mo,aj],?_⟩⟩;exact bN.mpr ⟨_,_,rfl,Ga.mpr ⟨t1,_,rfl,tf e1,xD.mpr ⟨t2,t3,rfl,tf e2,tf e3⟩⟩,cM.mpr rfl⟩
theorem kj {α:Type} {m n:Nat} {f:α->Dat} {as:List α} (l:as.length<=n) (n1:n<=1000) (h:∀a∈as,wC m (f a)):wC (m+1) (.lst (as.map f)):=⟨by rw[aaA];omega,λd hd=>by obtain⟨a,ha,rfl⟩:=List.mem_map.mp hd;exact h a ha⟩
theorem dqD (m:Nat) (d:c8):wC (m+2) (dD d):=by
 cases d <;>exact⟨by simp,λd hd=>by simp only[aaD,aaH,or_false] at hd;rcases hd with rfl | rfl | rfl <;>trivial⟩
theorem dqC (m:Nat) (o:Option jt):wC (m+2) (lj o):=by
 cases o with
 | none=>trivial
 | some c=>exact⟨(show 3<=1000 by decide),λd hd=>by simp only[aaD,aaH,or_false] at hd;rcases hd with rfl | rfl | rfl <;>trivial⟩
theorem dqT (m:Nat) {r:eD} (g:GT r):wC (m+4) (wz r):=⟨(show 4<=1000 by decide),λd hd=>by
 simp only[aaD,aaH,or_false] at hd;rcases hd with rfl | rfl | rfl | rfl
 ·trivial
 ·trivial
 ·exact kj g.2.2.1.1 (by decide) λd _=>dqD m d
 ·trivial⟩
theorem dqP (m:Nat) {r:ia} (g:GP r):wC (m+4) (Ct r):=⟨(show 4<=1000 by decide),λd hd=>by
 simp only[aaD,aaH,or_false] at hd;rcases hd with rfl | rfl | rfl | rfl
 ·trivial
 ·exact dqC (m+1) _
 ·exact kj g.2.2.1.1 (by decide) λd _=>dqD m d
 ·trivial⟩
theorem Qn (m:Nat) {p:Pe} (g:tX p):wC (m+2) (E3 p):=by
 have l:p.2.length<=3:=by cases g <;>simp
 refine⟨by show(p.2.map Dat.int).length+1<=1000;rw[aaA];omega,λd hd=>?_⟩;rcases List.mem_cons.mp hd with rfl | hd
 ·trivial
 ·obtain⟨i,_,rfl⟩:=List.mem_map.mp hd
  trivial
theorem dqS (m:Nat) (a b:Int):wC (m+2) (LR a b):=⟨(show 2<=1000 by decide),λd hd=>by simp only[aaD,aaH,or_false] at hd;rcases hd with rfl | rfl <;>trivial⟩
theorem dqW (m:Nat) {x:cU} (g:GW x):wC (m+6) (wD x):=by
 cases x with
 | fin a b=>exact⟨(show 2<=1000 by decide),λd hd=>by
   simp only[aaD,aaH,or_false] at hd;rcases hd with rfl | rfl
   ·trivial
   ·exact dqS (m+3) a b⟩
 | qG c=>exact⟨(show 2<=1000 by decide),λd hd=>by simp only[aaD,aaH,or_false] at hd;rcases hd with rfl | rfl <;>trivial⟩
 | ask c n a b=>exact⟨(show 5<=1000 by decide),λd hd=>by simp only[aaD,aaH,or_false] at hd;rcases hd with rfl | rfl | rfl | rfl | rfl <;>trivial⟩
 | eC ps a b rs=>exact⟨(show 4<=1000 by decide),λd hd=>by
   simp only[aaD,aaH,or_false] at hd;rcases hd with rfl | rfl | rfl | rfl
   ·trivial
   ·exact kj (m:=m+4) (n:=4) (by rw[aaA];exact g.1.2.1) (by decide) λp hp=>by obtain⟨y,hy,rfl⟩:=List.mem_map.mp hp;exact Qn (m+2) (F8 (g.1.2.2 y hy))
   ·exact dqS (m+3) a b
   ·exact kj (m:=m+4) g.2.2.2.1 (by decide) λr hr=>dqT m (g.2.2.2.2 r hr)⟩
 | jx k rs=>exact⟨(show 3<=1000 by decide),λd hd=>by
   simp only[aaD,aaH,or_false] at hd;rcases hd with rfl | rfl | rfl
   ·trivial
   ·trivial
   ·exact kj (m:=m+4) g.2.1 (by decide) λr hr=>dqP m (g.2.2 r hr)⟩
theorem dqG {g:eE} (h:GG g):wC 9 (eV g):=⟨(show 2<=1000 by decide),λd hd=>by
 simp only[aaD,aaH,or_false] at hd;rcases hd with rfl | rfl
 ·exact kj (m:=7) h.1 (by decide) λc _=>⟨(show 2<=1000 by decide),λd hd=>by simp only[aaD,aaH,or_false] at hd;rcases hd with rfl | rfl <;>trivial⟩
 ·exact kj (m:=7) h.2.2.1 (by decide) λp hp=>⟨(show 2<=1000 by decide),λd hd=>by
   simp only[aaD,aaH,or_false] at hd;rcases hd with rfl | rfl
   ·trivial
   ·exact dqW 0 (h.2.2.2 p hp).2⟩⟩
theorem JT (T:dm P w base K mg ax aA aJ aB au aD av aL) {f:Addr} {fd:FuncData} (F:yf K "law" "law" (top 106) f fd):iu P w K mg base (cL P w) 20 f fd ["_law_script"] (zq K):=by
 have nU:=JM T;have gv:=JS T;have i9:=JF T;have cV:da P w K mg base (cL P w) 10 "_law_alike" ["_law_found","_law_due"] (uC 9):=Dt T 9;refine F.dA Du (λvs H Q E h=>?_) (λcf A outer s H vs Q E hr h=>?_)
 ·obtain⟨_,_,rfl,_⟩:=h;rfl
 ·symm;obtain⟨sa,ns,rfl,hS,hlen,kk⟩:=h;nofun;clear G_;have nd:=Du.nd;refine⟨_,(ag (aH (i:=1) (ar nU (aa (pv 0) (aa af ae))))
  (ag (aH (i:=2) (ar nU (aa (pv 0) (aa af ae))))
  (ag (cH PassesOwn.never rfl (bw (K:=K) (bx (aa (pv 1) (aa (pv 2) ae)))) (aU (i:=3) nd rfl (Or.inl rfl)) (ak (bp (aM eI (aF mI (by rfl) T.z_len aaF (aa (ar gv (aa (pv 3) ae)) ae)) af (aK _)) (ag (aX (wQ aaV PySem.F.slot_list_clear PySem.F.type_list_clear Be.r (aE aN (pv 3) af)))
  (ak (aX (cu aaV aaZ aa0 bY.r (aE aN (pv 3) af) (aa (aY (aa ao (aa (aY (aa ao (aa (aY (aa af (aa af ae))) ae))) ae))) ae)))))
   aT)))
  (ag (aH (i:=4) (ar i9 (aa (ar gv (aa (pv 1) ae)) ae)))
  (ag (bp (PW.pt (pw_or (gy (di (ar cV (aa (pv 4) (aa (pv 1) ae))))) (pw_or1 (gy (di (ar cV (aa (ar i9 (aa (ar gv (aa (pv 2) ae)) ae)) (aa (pv 2) ae)))))))) (ak (aO kx))
   aT)
  (ag (bp (gy (di (ar cV (aa (pv 4) (aa (pv 1) ae))))) (ak (aO kx))
   aT)
  (ag (aX (wQ aaV PySem.F.slot_list_reverse PySem.F.type_list_reverse oU.r (aE aN (pv 4) af)))
  (ag (aX (cu aaV aaZ aa0 bY.r (aE aN (pv 4) af) (aa (aY (aa ao (aa af ae))) ae)))
  (ak (aO (ar cV (aa (ar i9 (aa (ar gv (aa (pv 1) ae)) ae)) (aa (pv 1) ae))))))))))))),?_⟩
  refine(?_:let bP:TS:=_;let bQ:TS:=_;let bR:TS:=_;let cm:TS:=_;let fH:TS:=_;let iX:TS:=_;let nO:TS:=_;let GJ:TS:=_;let Mh:TS:=_;tSeq bP (tSeq bQ (tSeq bR (tSeq cm (tSeq fH (tSeq iX (tSeq nO (tSeq GJ Mh))))))) _ _ _);intro bP bQ bR cm fH iX nO GJ Mh;have szl:=sizeLine_eq;refine aP (λN=>∀H1 p l m g,aq H H1->H l=none->H m=none->l≠m->H1 p=some (.tup [.ref l,.ref m])->b5 H H1 (eV g) (.ref p)->uf g->N [some (.ref sa),some (.ref p),none,none,none] H1) (λN hN=>?_) ?_
  ·simp_all only[CZ];exact⟨ns,hS,by decide,by decide,λp l m g H1 s1 nl nm lm hp rg og=>hN H1 p l m g s1 nl nm lm hp rg og⟩
  rintro H1 p l m g s1 nl nm lm hp rg og;refine aP (λN=>∀H2 p' l' m' g',aq H1 H2->H1 l'=none->H1 m'=none->l'≠m'->H2 p'=some (.tup [.ref l',.ref m'])->b5 H1 H2 (eV g') (.ref p')->uf g'->N [some (.ref sa),some (.ref p),some (.ref p'),none,none] H2) (λN hN=>?_) ?_
  ·simp_all only[CZ];exact⟨ns,s1.seq hS,by decide,by decide,λp l m g H1 s1 nl nm lm hp rg og=>hN H1 p l m g s1 nl nm lm hp rg og⟩
  rintro H2 p' l' m' g' s2 nl' Qo lm' i8 Mw Mx;have Km:∃ys,H1 m=some (.lst ys):=by
   symm;obtain⟨_,_,_,us,vs,e,Kl,_,_,hm,_⟩:=CF.mp (show Rep _ (eV g) (.ref p) from rg);nofun;cases e;have:=(gL Kl).2;rw[hp] at this;cases this;exact⟨_,(gL hm).2⟩
  obtain⟨ym,Km⟩:=Km;have mm:m≠m':=λz=>by rw[z,Qo] at Km;cases Km
  have ga:GI H2 p l m m' g:=⟨og,s2 _ _ hp,lm,mm,Rep.mono (show aq H1 (fN m' H2) from λa o e=>by
   rw[d7 (λz=>by rw[z,Qo] at e;cases e)];exact s2 _ _ e) rg.rep⟩
  have gb:GI H2 p' l' m' m g':=⟨Mx,i8,lm',Ne.symm mm,Rep.mono (show aq (eZ H1 H2) (fN m H2) from λa o e=>by
   obtain⟨c,h⟩:=gL e;rw[d7 (λz=>c ym (by rw[z];exact Km))];exact h) Mw⟩
  clear rg Mw og Mx hp i8 lm lm' nl nm nl' Qo Km mm;refine aP (λN=>∀H3 z g g',Rep H3 (eV g) (.ref p)->uf g->Rep H3 (eV g') (.ref p')->uf g'->N [some (.ref sa),some (.ref p),some (.ref p'),z,none] H3) (λN hN=>?_) ?_
  ·symm;obtain⟨_,_,ym1,_,_,wB,_⟩:=ga.at;obtain⟨_,_,ym2,_,_,JU,_⟩:=gb.at;nofun;clear G_;have wB:=(dF wB).2;have JU:=(dF JU).2;simp_all only[];refine⟨by omega,λD nD=>⟨⟨_,bG.of aj⟩,?_⟩⟩;have Dm:D≠m:=λz=>by rw[z,wB] at nD;cases nD
   have Dm':D≠m':=λz=>by rw[z,JU] at nD;cases nD
   refine b9 (src_list (Ok:=λH'=>H' D=some (.lst [V.ref p,V.ref p'])) (λH' s'=>bG.of s')) (λi σ H3=>H3 D=some (.lst [V.ref p,V.ref p'])/\(∃g g',GI H3 p l m m' g/\GI H3 p' l' m' m g')/\∃z,σ=[some (.ref sa),some (.ref p),some (.ref p'),z,none]) ⟨aj,⟨g,g',ga.mono (ah nD),gb.mono (ah nD)⟩,_,rfl⟩ (λ_ _ _ _ h=>h.1) ?_ ?_
   ·intro i x σ H3 H4 hi fG eL;symm;obtain⟨hD,⟨g1,g2,A0,B0⟩,z,rfl⟩:=fG;obtain⟨rfl,ex⟩:=eL;obtain⟨pa,la,ma,oa,po,lo,g1,g2,rfl,A,B,Dma,close⟩:∃pa la ma oa po lo g1 g2,x=.ref pa/\GI H4 pa la ma oa g1/\GI H4 po lo oa ma g2/\D≠ma/\∀Hf ga gb,GI Hf pa la ma oa ga->GI Hf po lo oa ma gb->∃g,GI Hf p l m m' g/\∃x,GI Hf p' l' m' m x:=by
     rcases i with _ | _ | i
     ·cases ex;exact⟨p,l,m,m',p',l',g1,g2,rfl,A0,B0,Dm,λHf ga gb a b=>⟨ga,a,gb,b⟩⟩
     ·cases ex;exact⟨p',l',m',m,p,l,g2,g1,rfl,B0,A0,Dm',λHf ga gb a b=>⟨gb,b,ga,a⟩⟩
     ·simp at hi;omega
    nofun;clear G_;clear A0 B0 ex ga gb;simp only[gName,abm,abl];refine hV (aq H4) (aq H4) (λH5 s5=>?_) (λH5 s5=>?_) (λY N hY hN=>?_)
    ·have A5:=A.mono s5;have B5:=B.mono s5;have Ml:=s5 _ _ hD;symm;obtain⟨_,_,ya,_,_,My,_⟩:=A5.at;obtain⟨_,_,yb,_,_,Qp,_⟩:=B5.at;nofun;have My:=(dF My).2;have Qp:=(dF Qp).2;refine aP (λN=>N [some (.ref sa),some (.ref p),some (.ref p'),some (.ref pa),none] (upd H5 ma (.lst []))) (λN hN=>?_) ?_
     ·simp_all only[D2,Bd];exact⟨_,A5.pp,_,at1,.inl ⟨rfl,_,bG.of My⟩,ma,rfl,_,My,hN⟩
     have pma:pa≠ma:=λz=>by have:=A5.pp;rw[z,My] at this;cases this
     have hpa:upd H5 ma (.lst []) pa=some (.tup [.ref la,.ref ma]):=by rw[aV pma];exact A5.pp
     simp_all only[ck];refine⟨_,hpa,_,at1,.inl ⟨rfl,_,bG.of aj⟩,by omega,λt3 H6 s6 n6 e6=>⟨by omega,λt2 H7 s7 n7 e7=>⟨by omega,λt1 H8 s8 n8 e8=>?_⟩⟩⟩;have Oq:=s6.trans (s7.trans s8);refine⟨ma,rfl,[],Oq _ _ aj,by rw[szl];decide,?_,?_,_,rfl⟩
     ·rw[aV Dma];exact Oq _ _ (by rw[aV Dma];exact Ml)
     ·exact close _ _ _ (A5.set ⟨_,Qp⟩ Oq ((s7.trans s8) _ _ e6) (s8 _ _ e7) e8) (GI.other (GI.mono Oq (GI.other B5)))
    ·simp_all only[];exact⟨s5 _ _ hD,close _ _ _ (A.mono s5) (B.mono s5),_,rfl⟩
    ·simp_all only[vX];have gg:=A.ok.gg;have tl:(iS g1).length<=sizeLine:=by
      have h:=ib gg;have j:(iS g1).length<=(iR g1).length* (1330+ (Str.ofString "\n").length):=eK h.2;have e:(Str.ofString "\n").length=1:=by ac_rfl
      rw[e] at j;have:=abo (1330+1) h.1;omega
     exact⟨g1,A.rep,gg,λH' s'=>⟨tl,dO (λ_=>hY _ s') (λ_=>hN _ s')⟩⟩
   ·intro σ H3 cZ;symm;obtain⟨hD,⟨g,g',A,B⟩,z,rfl⟩:=cZ;nofun;exact hN _ _ g g' A.rep A.ok B.rep B.ok
  clear ga gb g g';rintro H3 z g g' rg og Mw Mx;have gg:=og.gg;have gg':=Mx.gg;have tg:wC 9 (eV g):=dqG gg;have tg':wC 9 (eV g'):=dqG gg';refine aP (λN=>∀H4 pf lf mf,aq H3 H4->H3 lf=none->H3 mf=none->lf≠mf->H4 pf=some (.tup [.ref lf,.ref mf])->Rep H4 (eV g) (.ref pf)->N [some (.ref sa),some (.ref p),some (.ref p'),z,some (.ref pf)] H4) (λN hN=>?_) ?_
  ·simp_all only[vX,zm];exact⟨g,rg,gg,λH' s'=>⟨g,rfl,og,λpf l m H4 s4 nl nm lm hp rf=>hN H4 pf l m (s'.trans s4) (none_of s' nl) (none_of s' nm) lm hp rf.rep⟩⟩
  rintro H4 pf lf mf s4 nlf nmf lmf hpf rf;obtain⟨us,vs,hlf,hmf,l4⟩:∃us vs,H4 lf=some (.lst us)/\H4 mf=some (.lst vs)/\us.length<=4:=by
   symm;obtain⟨_,_,_,us,vs,e,Kl,hl,rl,hm,_⟩:=CF.mp rf;nofun;cases e;rw[hpf] at Kl;cases Kl;have:=rl.length;rw[aaA] at this;have:=gg.1;exact⟨us,vs,hl,hm,by omega⟩
  refine aP (λN=>∀H5,aq H4 H5->N [some (.ref sa),some (.ref p),some (.ref p'),z,some (.ref pf)] H5) (λN hN=>?_) ?_
  ·refine lF (aq H4) (λH' s'=>by simp_all only[];exact hN _ s') λN pY Y=>?_;simp_all only[vX,zm,uC];refine⟨_,tg,rf,rg.mono s4,λHa s1=>?_⟩;rw[if_neg (by decide)];refine⟨g',Mw.mono (s4.trans s1),gg',λHb s2=>⟨g',rfl,Mx,λp2 l2 m2 Hc s3 _ _ _ _ r2=>⟨_,tg',r2.rep,Mw.mono (s4.trans (s1.trans (s2.trans s3))),λHd s5=>?_⟩⟩⟩;rw[if_neg (by decide)];exact pY _ (s1.trans (s2.trans (s3.trans s5)))
  rintro H5 s5;refine aP (λN=>∀H6,aq H4 H6->N [some (.ref sa),some (.ref p),some (.ref p'),z,some (.ref pf)] H6) (λN hN=>?_) ?_
  ·refine lF (aq H4) (λH' s'=>by simp_all only[];exact hN _ s') λN pY Y=>?_;simp_all only[uC];refine⟨_,tg,rf.mono s5,rg.mono (s4.trans s5),λHa s1=>?_⟩;rw[if_neg (by decide)];exact pY _ (s5.trans s1)
  rintro H6 s6;refine aP (λN=>∀H7,aq H3 H7->H7 pf=some (.tup [.ref lf,.ref mf])->(∃ys:List V,H7 lf=some (.lst ys)/\ys.length<=4)->N [some (.ref sa),some (.ref p),some (.ref p'),z,some (.ref pf)] H7) (λN hN=>?_) ?_
  ·simp_all only[D2,oS];have AS:=s6 _ _ hmf;have Ot:=s6 _ _ hpf;exact⟨_,Ot,_,at1,.inl ⟨rfl,_,bG.of AS⟩,mf,rfl,vs,AS,hN _ (bL (s4.trans s6) nmf) (by rw[aV (λz=>by rw[z,AS] at Ot;cases Ot)];exact Ot) ⟨us,by rw[aV lmf];exact s6 _ _ hlf,l4⟩⟩
  intro H7 s7 Qq P1;symm;obtain⟨ylf,Mz,l4⟩:=P1;nofun;refine aP (λN=>∀H8,aq H3 H8->N [some (.ref sa),some (.ref p),some (.ref p'),z,some (.ref pf)] H8) (λN hN=>?_) ?_
  ·simp_all only[ck];exact⟨_,Qq,_,at0,.inl ⟨rfl,_,bG.of Mz⟩,by omega,λt H' s' nt et=>⟨lf,rfl,ylf,s' _ _ Mz,by omega,hN _ (bL (s7.trans s') nlf)⟩⟩
  rintro H8 s8;simp_all only[vX,zm,uC];exact⟨g,rg.mono s8,gg,λHa s1=>⟨g,rfl,og,λpf l m Hb s2 _ _ _ _ r=>⟨_,tg,r.rep,rg.mono (s8.trans (s1.trans s2)),λHc _=>kk Hc⟩⟩⟩
end
theorem all_mk {l:PySem.W.OpenLaw} {w:World} {K:PySem.W.Frag} {h:Heap} {mg:Str->Option Value} {fa:Addr} (X:K.In h) (G:h.Ns mainGlobals mg) (hfa:mg "law"=some (.ref fa))
  {f0:Addr} {od0 an0:Option Addr} {sl0:Array (Option Value)} {oc0 kV0 dc0 pm0 cd0 ct0:Value} {f1:Addr} {od1 an1:Option Addr} {HW:Array (Option Value)} {oc1 kV1 dc1 pm1 cd1 ct1:Value} {f2:Addr} {od2 an2:Option Addr} {zP:Array (Option Value)} {oc2 kV2 dc2 pm2 cd2 ct2:Value} {f3:Addr} {od3 an3:Option Addr} {sl3:Array (Option Value)} {oc3 kV3 dc3 pm3 cd3 ct3:Value} {f4:Addr} {od4 an4:Option Addr} {sl4:Array (Option Value)} {oc4 kV4 dc4 pm4 cd4 ct4:Value} {f5:Addr} {od5 an5:Option Addr} {sl5:Array (Option Value)} {oc5 kV5 dc5 pm5 cd5 ct5:Value} {f6:Addr} {od6 an6:Option Addr} {sl6:Array (Option Value)} {oc6 kV6 dc6 pm6 cd6 ct6:Value} {f7:Addr} {od7 an7:Option Addr} {sl7:Array (Option Value)} {oc7 kV7 dc7 pm7 cd7 ct7:Value} {f8:Addr} {od8 an8:Option Addr} {sl8:Array (Option Value)} {oc8 kV8 dc8 pm8 cd8 ct8:Value} {f9:Addr} {od9 an9:Option Addr} {sl9:Array (Option Value)} {oc9 kV9 dc9 pm9 cd9 ct9:Value} {Qr:Addr} {Qs Qt:Option Addr} {Qu:Array (Option Value)} {Qv Qw Qx Qy MA Qz:Value} {QA:Addr} {QB QC:Option Addr} {QD:Array (Option Value)} {QE QF QG QH MB QI:Value} {QJ:Addr} {QK QL:Option Addr} {QM:Array (Option Value)} {QN QO QP QQ MC QR:Value} {QS:Addr} {QT QU:Option Addr} {QV:Array (Option Value)} {QW QX QY QZ MD Q0:Value} {Q3:Addr} {Q4 Q5:Option Addr} {Q6:Array (Option Value)} {Q7 Q8 Q9 Ra ME Rb:Value} {Rc:Addr} {Rf Rg:Option Addr} {Rh:Array (Option Value)} {Ri Rj Rk Rl MF Rm:Value} {Rn:Addr} {Ro Rp:Option Addr} {Rq:Array (Option Value)} {Rr Rt Ru Rv MG Rw:Value} {Rx:Addr} {Ry Rz:Option Addr} {RA:Array (Option Value)} {RB RC RD RE MH RF:Value} {RG:Addr} {RH RI:Option Addr} {RJ:Array (Option Value)} {RK RL RM RN MI RO:Value} {RP:Addr} {RQ RS:Option Addr} {RT:Array (Option Value)} {RU RV RW RX MJ RY:Value} {RZ:Addr} {R1 R3:Option Addr} {R4:Array (Option Value)} {R5 R6 R7 R8 MK R9:Value} {Sa:Addr} {Sb Sd:Option Addr} {Se:Array (Option Value)} {Sf Sg Sh Si ML Sj:Value} {Sk:Addr} {Sl Sn:Option Addr} {So:Array (Option Value)} {Sq Sr Ss Su MM Sv:Value} {Sw:Addr} {Sx Sy:Option Addr} {Sz:Array (Option Value)} {SA SD SE SG MN SH:Value} {SI:Addr} {SJ SK:Option Addr} {SM:Array (Option Value)} {SN SO SQ SR MO SS:Value} {SU:Addr} {SV SW:Option Addr} {SX:Array (Option Value)} {SY S0 S1 S2 MP S3:Value} {S4:Addr} {S5 S6:Option Addr} {S7:Array (Option Value)} {S8 S9 Ta Tb MQ Tc:Value} {Td:Addr} {Tf Tg:Option Addr} {Th:Array (Option Value)} {Ti Tj Tn To MR Tp:Value} {Tq:Addr} {Tr Ts:Option Addr} {Tt:Array (Option Value)} {Tu Tv Tw Tx MS Tz:Value} {TB:Addr} {TC TF:Option Addr} {TH:Array (Option Value)} {TK TL TM TN MT TQ:Value} {TU:Addr} {TV TX:Option Addr} {TY:Array (Option Value)} {TZ T2 T3 T4 MU T5:Value} {T6:Addr} {T7 T8:Option Addr} {T9:Array (Option Value)} {Ua Ub Uc Ud MV Ue:Value} {Ug:Addr} {Uh Ui:Option Addr} {Uj:Array (Option Value)} {Uk Ul Um Uo MW Up:Value} {Uq:Addr} {Ur Us:Option Addr} {Ut:Array (Option Value)} {Uu Uv Uw Ux MX Uy:Value} {Uz:Addr} {UA UB:Option Addr} {UC:Array (Option Value)} {UD UE UG UH MY UI:Value} {UJ:Addr} {UK UM:Option Addr} {UN:Array (Option Value)} {UO UP UQ UR MZ US:Value} {UT:Addr} {UU UW:Option Addr} {UX:Array (Option Value)} {UY UZ U0 U1 M0 U2:Value} {U3:Addr} {U4 U6:Option Addr} {U7:Array (Option Value)} {U8 U9 Va Vb M3 Vc:Value} {Vd:Addr} {Ve Vf:Option Addr} {Vg:Array (Option Value)} {Vh Vi Vj Vk M4 Vl:Value} {Vm:Addr} {Vn Vo:Option Addr} {Vp:Array (Option Value)} {Vq Vr Vs Vt M5 Vu:Value} {Vv:Addr} {Vw Vx:Option Addr} {Vy:Array (Option Value)} {Vz VA VB VC M6 VD:Value} {VE:Addr} {VF VG:Option Addr} {VH:Array (Option Value)} {VI VJ VL VM M7 VN:Value} {VO:Addr} {VP VQ:Option Addr} {VR:Array (Option Value)} {VS VT VU VW M8 VX:Value} {VY:Addr} {VZ V0:Option Addr} {V1:Array (Option Value)} {V2 V3 V4 V5 M9 V6:Value} {V7:Addr} {V8 V9:Option Addr} {Wa:Array (Option Value)} {Wb Wc We Wf Na Wg:Value} {Wh:Addr} {Wi Wj:Option Addr} {Wk:Array (Option Value)} {Wl Wm Wn Wp Nc Wq:Value} {Wr:Addr} {Wt Wu:Option Addr} {Wv:Array (Option Value)} {Ww Wx Wy Wz Nd WA:Value} {WB:Addr} {WC WD:Option Addr} {WE:Array (Option Value)} {WG WH WI WJ Nf WK:Value} {WL:Addr} {WM WN:Option Addr} {WO:Array (Option Value)} {WQ WR WS WT Ng WU:Value} {WV:Addr} {WW WX:Option Addr} {WY:Array (Option Value)} {WZ W0 W1 W2 Nh W3:Value} {W4:Addr} {W5 W6:Option Addr} {W7:Array (Option Value)} {W8 W9 Xa Xb Ni Xc:Value} {Xd:Addr} {Xe Xf:Option Addr} {Xg:Array (Option Value)} {Xh Xi Xj Xk Nj Xl:Value} {Xm:Addr} {Xn Xo:Option Addr} {Xp:Array (Option Value)} {Xq Xr Xs Xu Nk Xv:Value} {Xw:Addr} {Xx Xy:Option Addr} {Xz:Array (Option Value)} {XA XB XC XD Nl XF:Value} {XG:Addr} {XH XI:Option Addr} {XJ:Array (Option Value)} {XM XN XO XQ Np XR:Value} {XS:Addr} {XT XU:Option Addr} {XW:Array (Option Value)} {XX XY XZ X0 Nq X1:Value} {X2:Addr} {X3 X4:Option Addr} {X5:Array (Option Value)} {X6 X7 X8 X9 Nr Yb:Value} {Yc:Addr} {Yd Ye:Option Addr} {Yg:Array (Option Value)} {Yh Yi Yj Yk Nt Yl:Value} {Ym:Addr} {Yn Yo:Option Addr} {Yp:Array (Option Value)} {Yq Yr Ys Yt Nu Yu:Value} {Yv:Addr} {Yw Yx:Option Addr} {Yy:Array (Option Value)} {Yz YA YB YC Nv YD:Value} {YE:Addr} {YF YG:Option Addr} {YH:Array (Option Value)} {YI YJ YK YL Nw YM:Value} {YN:Addr} {YO YQ:Option Addr} {YR:Array (Option Value)} {YS YT YU YV Nx YW:Value} {YX:Addr} {YY YZ:Option Addr} {Y0:Array (Option Value)} {Y1 Y2 Y3 Y4 Ny Y5:Value} {Y6:Addr} {Y7 Y8:Option Addr} {Y9:Array (Option Value)} {Za Zb Zc Zd Nz Ze:Value} {Zf:Addr} {Zg Zh:Option Addr} {Zi:Array (Option Value)} {Zj Zk Zl Zm NA Zn:Value} {Zo:Addr} {Zp Zq:Option Addr} {Zr:Array (Option Value)} {Zs Zt Zu Zv NB Zw:Value} {Zx:Addr} {Zy Zz:Option Addr} {ZA:Array (Option Value)} {ZC ZD ZE ZF NC ZG:Value} {ZH:Addr} {ZI ZJ:Option Addr} {ZK:Array (Option Value)} {ZL ZM ZN ZO ND ZP:Value} {ZQ:Addr} {ZR ZS:Option Addr} {ZT:Array (Option Value)} {ZU ZV ZW ZX NF ZY:Value} {ZZ:Addr} {Z0 Z1:Option Addr} {Z2:Array (Option Value)} {Z3 Z4 Z5 Z6 NG Z7:Value} {xU:Tok} {ox:Tok} {qg:Tok} {ja:Tok} {qR:Tok} {gF:Tok} {uD:Tok} {qS:Tok} {xV:Tok} {oy:Tok} {qh:Tok} {nB:Tok} {qi:Tok} {km:Tok} {mh:Tok} {qT:Tok} {jb:Tok} {jc:Tok} {ax aA aJ aB au aD av aL:Addr}
  (a0:PySem.W.nsIn K mainGlobals "common_divisor"=some (some (.ref f0))) (l0:K.lookup f0=some ⟨oc0,od0,.func (PySem.W.fnOf "common_divisor" "common_divisor" (aR (top 10)) (aQ (top 10)) (ai (top 10)) .none kV0 dc0 pm0 an0 cd0 ct0),sl0⟩) (e0:PySem.W.codeIn K cd0 "common_divisor"=true) (k0:PySem.W.keepIn K (.ref f0)=true)
  (a1:PySem.W.nsIn K mainGlobals "share"=some (some (.ref f1))) (l1:K.lookup f1=some ⟨oc1,od1,.func (PySem.W.fnOf "share" "share" (aR (top 11)) (aQ (top 11)) (ai (top 11)) .none kV1 dc1 pm1 an1 cd1 ct1),HW⟩) (e1:PySem.W.codeIn K cd1 "share"=true) (k1:PySem.W.keepIn K (.ref f1)=true)
  (a2:PySem.W.nsIn K mainGlobals "show_share"=some (some (.ref f2))) (l2:K.lookup f2=some ⟨oc2,od2,.func (PySem.W.fnOf "show_share" "show_share" (aR (top 12)) (aQ (top 12)) (ai (top 12)) .none kV2 dc2 pm2 an2 cd2 ct2),zP⟩) (e2:PySem.W.codeIn K cd2 "show_share"=true) (k2:PySem.W.keepIn K (.ref f2)=true)
  (a3:PySem.W.nsIn K mainGlobals "is_figures"=some (some (.ref f3))) (l3:K.lookup f3=some ⟨oc3,od3,.func (PySem.W.fnOf "is_figures" "is_figures" (aR (top 13)) (aQ (top 13)) (ai (top 13)) .none kV3 dc3 pm3 an3 cd3 ct3),sl3⟩) (e3:PySem.W.codeIn K cd3 "is_figures"=true) (k3:PySem.W.keepIn K (.ref f3)=true)
  (a4:PySem.W.nsIn K mainGlobals "whole_in"=some (some (.ref f4))) (l4:K.lookup f4=some ⟨oc4,od4,.func (PySem.W.fnOf "whole_in" "whole_in" (aR (top 14)) (aQ (top 14)) (ai (top 14)) .none kV4 dc4 pm4 an4 cd4 ct4),sl4⟩) (e4:PySem.W.codeIn K cd4 "whole_in"=true) (k4:PySem.W.keepIn K (.ref f4)=true)
  (a5:PySem.W.nsIn K mainGlobals "read_share"=some (some (.ref f5))) (l5:K.lookup f5=some ⟨oc5,od5,.func (PySem.W.fnOf "read_share" "read_share" (aR (top 15)) (aQ (top 15)) (ai (top 15)) .none kV5 dc5 pm5 an5 cd5 ct5),sl5⟩) (e5:PySem.W.codeIn K cd5 "read_share"=true) (k5:PySem.W.keepIn K (.ref f5)=true)
  (a6:PySem.W.nsIn K mainGlobals "table_by_weights"=some (some (.ref f6))) (l6:K.lookup f6=some ⟨oc6,od6,.func (PySem.W.fnOf "table_by_weights" "table_by_weights" (aR (top 17)) (aQ (top 17)) (ai (top 17)) .none kV6 dc6 pm6 an6 cd6 ct6),sl6⟩) (e6:PySem.W.codeIn K cd6 "table_by_weights"=true) (k6:PySem.W.keepIn K (.ref f6)=true)
  (a7:PySem.W.nsIn K mainGlobals "table_of"=some (some (.ref f7))) (l7:K.lookup f7=some ⟨oc7,od7,.func (PySem.W.fnOf "table_of" "table_of" (aR (top 18)) (aQ (top 18)) (ai (top 18)) .none kV7 dc7 pm7 an7 cd7 ct7),sl7⟩) (e7:PySem.W.codeIn K cd7 "table_of"=true) (k7:PySem.W.keepIn K (.ref f7)=true)
  (a8:PySem.W.nsIn K mainGlobals "power"=some (some (.ref f8))) (l8:K.lookup f8=some ⟨oc8,od8,.func (PySem.W.fnOf "power" "power" (aR (top 22)) (aQ (top 22)) (ai (top 22)) .none kV8 dc8 pm8 an8 cd8 ct8),sl8⟩) (e8:PySem.W.codeIn K cd8 "power"=true) (k8:PySem.W.keepIn K (.ref f8)=true)
  (a9:PySem.W.nsIn K mainGlobals "most_faces"=some (some (.ref f9))) (l9:K.lookup f9=some ⟨oc9,od9,.func (PySem.W.fnOf "most_faces" "most_faces" (aR (top 23)) (aQ (top 23)) (ai (top 23)) .none kV9 dc9 pm9 an9 cd9 ct9),sl9⟩) (e9:PySem.W.codeIn K cd9 "most_faces"=true) (k9:PySem.W.keepIn K (.ref f9)=true)
  (a10:PySem.W.nsIn K mainGlobals "part_bottom"=some (some (.ref Qr))) (l10:K.lookup Qr=some ⟨Qv,Qs,.func (PySem.W.fnOf "part_bottom" "part_bottom" (aR (top 24)) (aQ (top 24)) (ai (top 24)) .none Qw Qx Qy Qt MA Qz),Qu⟩) (e10:PySem.W.codeIn K MA "part_bottom"=true) (k10:PySem.W.keepIn K (.ref Qr)=true)
  (a11:PySem.W.nsIn K mainGlobals "part_count"=some (some (.ref QA))) (l11:K.lookup QA=some ⟨QE,QB,.func (PySem.W.fnOf "part_count" "part_count" (aR (top 25)) (aQ (top 25)) (ai (top 25)) .none QF QG QH QC MB QI),QD⟩) (e11:PySem.W.codeIn K MB "part_count"=true) (k11:PySem.W.keepIn K (.ref QA)=true)
  (a12:PySem.W.nsIn K mainGlobals "check_size"=some (some (.ref QJ))) (l12:K.lookup QJ=some ⟨QN,QK,.func (PySem.W.fnOf "check_size" "check_size" (aR (top 26)) (aQ (top 26)) (ai (top 26)) .none QO QP QQ QL MC QR),QM⟩) (e12:PySem.W.codeIn K MC "check_size"=true) (k12:PySem.W.keepIn K (.ref QJ)=true)
  (a13:PySem.W.nsIn K mainGlobals "dice_faces"=some (some (.ref QS))) (l13:K.lookup QS=some ⟨QW,QT,.func (PySem.W.fnOf "dice_faces" "dice_faces" (aR (top 27)) (aQ (top 27)) (ai (top 27)) .none QX QY QZ QU MD Q0),QV⟩) (e13:PySem.W.codeIn K MD "dice_faces"=true) (k13:PySem.W.keepIn K (.ref QS)=true)
  (a14:PySem.W.nsIn K mainGlobals "again_faces"=some (some (.ref Q3))) (l14:K.lookup Q3=some ⟨Q7,Q4,.func (PySem.W.fnOf "again_faces" "again_faces" (aR (top 28)) (aQ (top 28)) (ai (top 28)) .none Q8 Q9 Ra Q5 ME Rb),Q6⟩) (e14:PySem.W.codeIn K ME "again_faces"=true) (k14:PySem.W.keepIn K (.ref Q3)=true)
  (a15:PySem.W.nsIn K mainGlobals "burst_faces"=some (some (.ref Rc))) (l15:K.lookup Rc=some ⟨Ri,Rf,.func (PySem.W.fnOf "burst_faces" "burst_faces" (aR (top 29)) (aQ (top 29)) (ai (top 29)) .none Rj Rk Rl Rg MF Rm),Rh⟩) (e15:PySem.W.codeIn K MF "burst_faces"=true) (k15:PySem.W.keepIn K (.ref Rc)=true)
  (a16:PySem.W.nsIn K mainGlobals "part_faces"=some (some (.ref Rn))) (l16:K.lookup Rn=some ⟨Rr,Ro,.func (PySem.W.fnOf "part_faces" "part_faces" (aR (top 30)) (aQ (top 30)) (ai (top 30)) .none Rt Ru Rv Rp MG Rw),Rq⟩) (e16:PySem.W.codeIn K MG "part_faces"=true) (k16:PySem.W.keepIn K (.ref Rn)=true)
  (a17:PySem.W.nsIn K mainGlobals "value_of"=some (some (.ref Rx))) (l17:K.lookup Rx=some ⟨RB,Ry,.func (PySem.W.fnOf "value_of" "value_of" (aR (top 31)) (aQ (top 31)) (ai (top 31)) .none RC RD RE Rz MH RF),RA⟩) (e17:PySem.W.codeIn K MH "value_of"=true) (k17:PySem.W.keepIn K (.ref Rx)=true)
  (a18:PySem.W.nsIn K mainGlobals "sides_product"=some (some (.ref RG))) (l18:K.lookup RG=some ⟨RK,RH,.func (PySem.W.fnOf "sides_product" "sides_product" (aR (top 32)) (aQ (top 32)) (ai (top 32)) .none RL RM RN RI MI RO),RJ⟩) (e18:PySem.W.codeIn K MI "sides_product"=true) (k18:PySem.W.keepIn K (.ref RG)=true)
  (a19:PySem.W.nsIn K mainGlobals "part_throws"=some (some (.ref RP))) (l19:K.lookup RP=some ⟨RU,RQ,.func (PySem.W.fnOf "part_throws" "part_throws" (aR (top 33)) (aQ (top 33)) (ai (top 33)) .none RV RW RX RS MJ RY),RT⟩) (e19:PySem.W.codeIn K MJ "part_throws"=true) (k19:PySem.W.keepIn K (.ref RP)=true)
  (a20:PySem.W.nsIn K mainGlobals "throws_by_bottom"=some (some (.ref RZ))) (l20:K.lookup RZ=some ⟨R5,R1,.func (PySem.W.fnOf "throws_by_bottom" "throws_by_bottom" (aR (top 34)) (aQ (top 34)) (ai (top 34)) .none R6 R7 R8 R3 MK R9),R4⟩) (e20:PySem.W.codeIn K MK "throws_by_bottom"=true) (k20:PySem.W.keepIn K (.ref RZ)=true)
  (a21:PySem.W.nsIn K mainGlobals "pool_table"=some (some (.ref Sa))) (l21:K.lookup Sa=some ⟨Sf,Sb,.func (PySem.W.fnOf "pool_table" "pool_table" (aR (top 35)) (aQ (top 35)) (ai (top 35)) .none Sg Sh Si Sd ML Sj),Se⟩) (e21:PySem.W.codeIn K ML "pool_table"=true) (k21:PySem.W.keepIn K (.ref Sa)=true)
  (a22:PySem.W.nsIn K mainGlobals "read_number_pooltexts"=some (some (.ref Sk))) (l22:K.lookup Sk=some ⟨Sq,Sl,.func (PySem.W.fnOf "read_number" "read_number" (aR (top 43)) (aQ (top 43)) (ai (top 43)) .none Sr Ss Su Sn MM Sv),So⟩) (e22:PySem.W.codeIn K MM "read_number"=true) (k22:PySem.W.keepIn K (.ref Sk)=true)
  (a23:PySem.W.nsIn K mainGlobals "read_dice"=some (some (.ref Sw))) (l23:K.lookup Sw=some ⟨SA,Sx,.func (PySem.W.fnOf "read_dice" "read_dice" (aR (top 45)) (aQ (top 45)) (ai (top 45)) .none SD SE SG Sy MN SH),Sz⟩) (e23:PySem.W.codeIn K MN "read_dice"=true) (k23:PySem.W.keepIn K (.ref Sw)=true)
  (a24:PySem.W.nsIn K mainGlobals "read_worded"=some (some (.ref SI))) (l24:K.lookup SI=some ⟨SN,SJ,.func (PySem.W.fnOf "read_worded" "read_worded" (aR (top 46)) (aQ (top 46)) (ai (top 46)) .none SO SQ SR SK MO SS),SM⟩) (e24:PySem.W.codeIn K MO "read_worded"=true) (k24:PySem.W.keepIn K (.ref SI)=true)
  (a25:PySem.W.nsIn K mainGlobals "read_part"=some (some (.ref SU))) (l25:K.lookup SU=some ⟨SY,SV,.func (PySem.W.fnOf "read_part" "read_part" (aR (top 47)) (aQ (top 47)) (ai (top 47)) .none S0 S1 S2 SW MP S3),SX⟩) (e25:PySem.W.codeIn K MP "read_part"=true) (k25:PySem.W.keepIn K (.ref SU)=true)
  (a26:PySem.W.nsIn K mainGlobals "read_pool"=some (some (.ref S4))) (l26:K.lookup S4=some ⟨S8,S5,.func (PySem.W.fnOf "read_pool" "read_pool" (aR (top 48)) (aQ (top 48)) (ai (top 48)) .none S9 Ta Tb S6 MQ Tc),S7⟩) (e26:PySem.W.codeIn K MQ "read_pool"=true) (k26:PySem.W.keepIn K (.ref S4)=true)
  (a27:PySem.W.nsIn K mainGlobals "is_name"=some (some (.ref Td))) (l27:K.lookup Td=some ⟨Ti,Tf,.func (PySem.W.fnOf "is_name" "is_name" (aR (top 62)) (aQ (top 62)) (ai (top 62)) .none Tj Tn To Tg MR Tp),Th⟩) (e27:PySem.W.codeIn K MR "is_name"=true) (k27:PySem.W.keepIn K (.ref Td)=true)
  (a28:PySem.W.nsIn K mainGlobals "when_of"=some (some (.ref Tq))) (l28:K.lookup Tq=some ⟨Tu,Tr,.func (PySem.W.fnOf "when_of" "when_of" (aR (top 63)) (aQ (top 63)) (ai (top 63)) .none Tv Tw Tx Ts MS Tz),Tt⟩) (e28:PySem.W.codeIn K MS "when_of"=true) (k28:PySem.W.keepIn K (.ref Tq)=true)
  (a29:PySem.W.nsIn K mainGlobals "demand"=some (some (.ref TB))) (l29:K.lookup TB=some ⟨TK,TC,.func (PySem.W.fnOf "demand" "demand" (aR (top 64)) (aQ (top 64)) (ai (top 64)) .none TL TM TN TF MT TQ),TH⟩) (e29:PySem.W.codeIn K MT "demand"=true) (k29:PySem.W.keepIn K (.ref TB)=true)
  (a30:PySem.W.nsIn K mainGlobals "read_number_games"=some (some (.ref TU))) (l30:K.lookup TU=some ⟨TZ,TV,.func (PySem.W.fnOf "read_number" "read_number" (aR (top 65)) (aQ (top 65)) (ai (top 65)) .none T2 T3 T4 TX MU T5),TY⟩) (e30:PySem.W.codeIn K MU "read_number"=true) (k30:PySem.W.keepIn K (.ref TU)=true)
  (a31:PySem.W.nsIn K mainGlobals "read_name"=some (some (.ref T6))) (l31:K.lookup T6=some ⟨Ua,T7,.func (PySem.W.fnOf "read_name" "read_name" (aR (top 67)) (aQ (top 67)) (ai (top 67)) .none Ub Uc Ud T8 MV Ue),T9⟩) (e31:PySem.W.codeIn K MV "read_name"=true) (k31:PySem.W.keepIn K (.ref T6)=true)
  (a32:PySem.W.nsIn K mainGlobals "read_known"=some (some (.ref Ug))) (l32:K.lookup Ug=some ⟨Uk,Uh,.func (PySem.W.fnOf "read_known" "read_known" (aR (top 68)) (aQ (top 68)) (ai (top 68)) .none Ul Um Uo Ui MW Up),Uj⟩) (e32:PySem.W.codeIn K MW "read_known"=true) (k32:PySem.W.keepIn K (.ref Ug)=true)
  (a33:PySem.W.nsIn K mainGlobals "demand_unlike"=some (some (.ref Uq))) (l33:K.lookup Uq=some ⟨Uu,Ur,.func (PySem.W.fnOf "demand_unlike" "demand_unlike" (aR (top 69)) (aQ (top 69)) (ai (top 69)) .none Uv Uw Ux Us MX Uy),Ut⟩) (e33:PySem.W.codeIn K MX "demand_unlike"=true) (k33:PySem.W.keepIn K (.ref Uq)=true)
  (a34:PySem.W.nsIn K mainGlobals "read_worth"=some (some (.ref Uz))) (l34:K.lookup Uz=some ⟨UD,UA,.func (PySem.W.fnOf "read_worth" "read_worth" (aR (top 70)) (aQ (top 70)) (ai (top 70)) .none UE UG UH UB MY UI),UC⟩) (e34:PySem.W.codeIn K MY "read_worth"=true) (k34:PySem.W.keepIn K (.ref Uz)=true)
  (a35:PySem.W.nsIn K mainGlobals "read_game_pool"=some (some (.ref UJ))) (l35:K.lookup UJ=some ⟨UO,UK,.func (PySem.W.fnOf "read_game_pool" "read_game_pool" (aR (top 71)) (aQ (top 71)) (ai (top 71)) .none UP UQ UR UM MZ US),UN⟩) (e35:PySem.W.codeIn K MZ "read_game_pool"=true) (k35:PySem.W.keepIn K (.ref UJ)=true)
  (a36:PySem.W.nsIn K mainGlobals "table_in_game"=some (some (.ref UT))) (l36:K.lookup UT=some ⟨UY,UU,.func (PySem.W.fnOf "table_in_game" "table_in_game" (aR (top 72)) (aQ (top 72)) (ai (top 72)) .none UZ U0 U1 UW M0 U2),UX⟩) (e36:PySem.W.codeIn K M0 "table_in_game"=true) (k36:PySem.W.keepIn K (.ref UT)=true)
  (a37:PySem.W.nsIn K mainGlobals "read_count"=some (some (.ref U3))) (l37:K.lookup U3=some ⟨U8,U4,.func (PySem.W.fnOf "read_count" "read_count" (aR (top 73)) (aQ (top 73)) (ai (top 73)) .none U9 Va Vb U6 M3 Vc),U7⟩) (e37:PySem.W.codeIn K M3 "read_count"=true) (k37:PySem.W.keepIn K (.ref U3)=true)
  (a38:PySem.W.nsIn K mainGlobals "read_counts"=some (some (.ref Vd))) (l38:K.lookup Vd=some ⟨Vh,Ve,.func (PySem.W.fnOf "read_counts" "read_counts" (aR (top 74)) (aQ (top 74)) (ai (top 74)) .none Vi Vj Vk Vf M4 Vl),Vg⟩) (e38:PySem.W.codeIn K M4 "read_counts"=true) (k38:PySem.W.keepIn K (.ref Vd)=true)
  (a39:PySem.W.nsIn K mainGlobals "read_deed"=some (some (.ref Vm))) (l39:K.lookup Vm=some ⟨Vq,Vn,.func (PySem.W.fnOf "read_deed" "read_deed" (aR (top 75)) (aQ (top 75)) (ai (top 75)) .none Vr Vs Vt Vo M5 Vu),Vp⟩) (e39:PySem.W.codeIn K M5 "read_deed"=true) (k39:PySem.W.keepIn K (.ref Vm)=true)
  (a40:PySem.W.nsIn K mainGlobals "read_deeds"=some (some (.ref Vv))) (l40:K.lookup Vv=some ⟨Vz,Vw,.func (PySem.W.fnOf "read_deeds" "read_deeds" (aR (top 76)) (aQ (top 76)) (ai (top 76)) .none VA VB VC Vx M6 VD),Vy⟩) (e40:PySem.W.codeIn K M6 "read_deeds"=true) (k40:PySem.W.keepIn K (.ref Vv)=true)
  (a41:PySem.W.nsIn K mainGlobals "read_goal"=some (some (.ref VE))) (l41:K.lookup VE=some ⟨VI,VF,.func (PySem.W.fnOf "read_goal" "read_goal" (aR (top 77)) (aQ (top 77)) (ai (top 77)) .none VJ VL VM VG M7 VN),VH⟩) (e41:PySem.W.codeIn K M7 "read_goal"=true) (k41:PySem.W.keepIn K (.ref VE)=true)
  (a42:PySem.W.nsIn K mainGlobals "read_throw_row"=some (some (.ref VO))) (l42:K.lookup VO=some ⟨VS,VP,.func (PySem.W.fnOf "read_throw_row" "read_throw_row" (aR (top 78)) (aQ (top 78)) (ai (top 78)) .none VT VU VW VQ M8 VX),VR⟩) (e42:PySem.W.codeIn K M8 "read_throw_row"=true) (k42:PySem.W.keepIn K (.ref VO)=true)
  (a43:PySem.W.nsIn K mainGlobals "read_when"=some (some (.ref VY))) (l43:K.lookup VY=some ⟨V2,VZ,.func (PySem.W.fnOf "read_when" "read_when" (aR (top 79)) (aQ (top 79)) (ai (top 79)) .none V3 V4 V5 V0 M9 V6),V1⟩) (e43:PySem.W.codeIn K M9 "read_when"=true) (k43:PySem.W.keepIn K (.ref VY)=true)
  (a44:PySem.W.nsIn K mainGlobals "read_pick_row"=some (some (.ref V7))) (l44:K.lookup V7=some ⟨Wb,V8,.func (PySem.W.fnOf "read_pick_row" "read_pick_row" (aR (top 80)) (aQ (top 80)) (ai (top 80)) .none Wc We Wf V9 Na Wg),Wa⟩) (e44:PySem.W.codeIn K Na "read_pick_row"=true) (k44:PySem.W.keepIn K (.ref V7)=true)
  (a45:PySem.W.nsIn K mainGlobals "demand_each_in_one_row"=some (some (.ref Wh))) (l45:K.lookup Wh=some ⟨Wl,Wi,.func (PySem.W.fnOf "demand_each_in_one_row" "demand_each_in_one_row" (aR (top 81)) (aQ (top 81)) (ai (top 81)) .none Wm Wn Wp Wj Nc Wq),Wk⟩) (e45:PySem.W.codeIn K Nc "demand_each_in_one_row"=true) (k45:PySem.W.keepIn K (.ref Wh)=true)
  (a46:PySem.W.nsIn K mainGlobals "read_throw"=some (some (.ref Wr))) (l46:K.lookup Wr=some ⟨Ww,Wt,.func (PySem.W.fnOf "read_throw" "read_throw" (aR (top 82)) (aQ (top 82)) (ai (top 82)) .none Wx Wy Wz Wu Nd WA),Wv⟩) (e46:PySem.W.codeIn K Nd "read_throw"=true) (k46:PySem.W.keepIn K (.ref Wr)=true)
  (a47:PySem.W.nsIn K mainGlobals "read_pick"=some (some (.ref WB))) (l47:K.lookup WB=some ⟨WG,WC,.func (PySem.W.fnOf "read_pick" "read_pick" (aR (top 83)) (aQ (top 83)) (ai (top 83)) .none WH WI WJ WD Nf WK),WE⟩) (e47:PySem.W.codeIn K Nf "read_pick"=true) (k47:PySem.W.keepIn K (.ref WB)=true)
  (a48:PySem.W.nsIn K mainGlobals "read_ask"=some (some (.ref WL))) (l48:K.lookup WL=some ⟨WQ,WM,.func (PySem.W.fnOf "read_ask" "read_ask" (aR (top 84)) (aQ (top 84)) (ai (top 84)) .none WR WS WT WN Ng WU),WO⟩) (e48:PySem.W.codeIn K Ng "read_ask"=true) (k48:PySem.W.keepIn K (.ref WL)=true)
  (a49:PySem.W.nsIn K mainGlobals "read_plain"=some (some (.ref WV))) (l49:K.lookup WV=some ⟨WZ,WW,.func (PySem.W.fnOf "read_plain" "read_plain" (aR (top 85)) (aQ (top 85)) (ai (top 85)) .none W0 W1 W2 WX Nh W3),WY⟩) (e49:PySem.W.codeIn K Nh "read_plain"=true) (k49:PySem.W.keepIn K (.ref WV)=true)
  (a50:PySem.W.nsIn K mainGlobals "read_what"=some (some (.ref W4))) (l50:K.lookup W4=some ⟨W8,W5,.func (PySem.W.fnOf "read_what" "read_what" (aR (top 86)) (aQ (top 86)) (ai (top 86)) .none W9 Xa Xb W6 Ni Xc),W7⟩) (e50:PySem.W.codeIn K Ni "read_what"=true) (k50:PySem.W.keepIn K (.ref W4)=true)
  (a51:PySem.W.nsIn K mainGlobals "grouped"=some (some (.ref Xd))) (l51:K.lookup Xd=some ⟨Xh,Xe,.func (PySem.W.fnOf "grouped" "grouped" (aR (top 87)) (aQ (top 87)) (ai (top 87)) .none Xi Xj Xk Xf Nj Xl),Xg⟩) (e51:PySem.W.codeIn K Nj "grouped"=true) (k51:PySem.W.keepIn K (.ref Xd)=true)
  (a52:PySem.W.nsIn K mainGlobals "read_places"=some (some (.ref Xm))) (l52:K.lookup Xm=some ⟨Xq,Xn,.func (PySem.W.fnOf "read_places" "read_places" (aR (top 88)) (aQ (top 88)) (ai (top 88)) .none Xr Xs Xu Xo Nk Xv),Xp⟩) (e52:PySem.W.codeIn K Nk "read_places"=true) (k52:PySem.W.keepIn K (.ref Xm)=true)
  (a53:PySem.W.nsIn K mainGlobals "read_game"=some (some (.ref Xw))) (l53:K.lookup Xw=some ⟨XA,Xx,.func (PySem.W.fnOf "read_game" "read_game" (aR (top 89)) (aQ (top 89)) (ai (top 89)) .none XB XC XD Xy Nl XF),Xz⟩) (e53:PySem.W.codeIn K Nl "read_game"=true) (k53:PySem.W.keepIn K (.ref Xw)=true)
  (a54:PySem.W.nsIn K mainGlobals "_law_at"=some (some (.ref XG))) (l54:K.lookup XG=some ⟨XM,XH,.func (PySem.W.fnOf "_law_at" "_law_at" (aR (top 91)) (aQ (top 91)) (ai (top 91)) .none XN XO XQ XI Np XR),XJ⟩) (e54:PySem.W.codeIn K Np "_law_at"=true) (k54:PySem.W.keepIn K (.ref XG)=true)
  (a55:PySem.W.nsIn K mainGlobals "_law_names"=some (some (.ref XS))) (l55:K.lookup XS=some ⟨XX,XT,.func (PySem.W.fnOf "_law_names" "_law_names" (aR (top 92)) (aQ (top 92)) (ai (top 92)) .none XY XZ X0 XU Nq X1),XW⟩) (e55:PySem.W.codeIn K Nq "_law_names"=true) (k55:PySem.W.keepIn K (.ref XS)=true)
  (a56:PySem.W.nsIn K mainGlobals "_law_share"=some (some (.ref X2))) (l56:K.lookup X2=some ⟨X6,X3,.func (PySem.W.fnOf "_law_share" "_law_share" (aR (top 93)) (aQ (top 93)) (ai (top 93)) .none X7 X8 X9 X4 Nr Yb),X5⟩) (e56:PySem.W.codeIn K Nr "_law_share"=true) (k56:PySem.W.keepIn K (.ref X2)=true)
  (a57:PySem.W.nsIn K mainGlobals "_law_deeds"=some (some (.ref Yc))) (l57:K.lookup Yc=some ⟨Yh,Yd,.func (PySem.W.fnOf "_law_deeds" "_law_deeds" (aR (top 94)) (aQ (top 94)) (ai (top 94)) .none Yi Yj Yk Ye Nt Yl),Yg⟩) (e57:PySem.W.codeIn K Nt "_law_deeds"=true) (k57:PySem.W.keepIn K (.ref Yc)=true)
  (a58:PySem.W.nsIn K mainGlobals "_law_pool"=some (some (.ref Ym))) (l58:K.lookup Ym=some ⟨Yq,Yn,.func (PySem.W.fnOf "_law_pool" "_law_pool" (aR (top 95)) (aQ (top 95)) (ai (top 95)) .none Yr Ys Yt Yo Nu Yu),Yp⟩) (e58:PySem.W.codeIn K Nu "_law_pool"=true) (k58:PySem.W.keepIn K (.ref Ym)=true)
  (a59:PySem.W.nsIn K mainGlobals "_law_throw_rows"=some (some (.ref Yv))) (l59:K.lookup Yv=some ⟨Yz,Yw,.func (PySem.W.fnOf "_law_throw_rows" "_law_throw_rows" (aR (top 96)) (aQ (top 96)) (ai (top 96)) .none YA YB YC Yx Nv YD),Yy⟩) (e59:PySem.W.codeIn K Nv "_law_throw_rows"=true) (k59:PySem.W.keepIn K (.ref Yv)=true)
  (a60:PySem.W.nsIn K mainGlobals "_law_pick_rows"=some (some (.ref YE))) (l60:K.lookup YE=some ⟨YI,YF,.func (PySem.W.fnOf "_law_pick_rows" "_law_pick_rows" (aR (top 97)) (aQ (top 97)) (ai (top 97)) .none YJ YK YL YG Nw YM),YH⟩) (e60:PySem.W.codeIn K Nw "_law_pick_rows"=true) (k60:PySem.W.keepIn K (.ref YE)=true)
  (a61:PySem.W.nsIn K mainGlobals "_law_what"=some (some (.ref YN))) (l61:K.lookup YN=some ⟨YS,YO,.func (PySem.W.fnOf "_law_what" "_law_what" (aR (top 98)) (aQ (top 98)) (ai (top 98)) .none YT YU YV YQ Nx YW),YR⟩) (e61:PySem.W.codeIn K Nx "_law_what"=true) (k61:PySem.W.keepIn K (.ref YN)=true)
  (a62:PySem.W.nsIn K mainGlobals "_law_game"=some (some (.ref YX))) (l62:K.lookup YX=some ⟨Y1,YY,.func (PySem.W.fnOf "_law_game" "_law_game" (aR (top 99)) (aQ (top 99)) (ai (top 99)) .none Y2 Y3 Y4 YZ Ny Y5),Y0⟩) (e62:PySem.W.codeIn K Ny "_law_game"=true) (k62:PySem.W.keepIn K (.ref YX)=true)
  (a63:PySem.W.nsIn K mainGlobals "_law_share_text"=some (some (.ref Y6))) (l63:K.lookup Y6=some ⟨Za,Y7,.func (PySem.W.fnOf "_law_share_text" "_law_share_text" (aR (top 100)) (aQ (top 100)) (ai (top 100)) .none Zb Zc Zd Y8 Nz Ze),Y9⟩) (e63:PySem.W.codeIn K Nz "_law_share_text"=true) (k63:PySem.W.keepIn K (.ref Y6)=true)
  (a64:PySem.W.nsIn K mainGlobals "_law_pool_text"=some (some (.ref Zf))) (l64:K.lookup Zf=some ⟨Zj,Zg,.func (PySem.W.fnOf "_law_pool_text" "_law_pool_text" (aR (top 101)) (aQ (top 101)) (ai (top 101)) .none Zk Zl Zm Zh NA Zn),Zi⟩) (e64:PySem.W.codeIn K NA "_law_pool_text"=true) (k64:PySem.W.keepIn K (.ref Zf)=true)
  (a65:PySem.W.nsIn K mainGlobals "_law_words"=some (some (.ref Zo))) (l65:K.lookup Zo=some ⟨Zs,Zp,.func (PySem.W.fnOf "_law_words" "_law_words" (aR (top 102)) (aQ (top 102)) (ai (top 102)) .none Zt Zu Zv Zq NB Zw),Zr⟩) (e65:PySem.W.codeIn K NB "_law_words"=true) (k65:PySem.W.keepIn K (.ref Zo)=true)
  (a66:PySem.W.nsIn K mainGlobals "_law_rows_text"=some (some (.ref Zx))) (l66:K.lookup Zx=some ⟨ZC,Zy,.func (PySem.W.fnOf "_law_rows_text" "_law_rows_text" (aR (top 103)) (aQ (top 103)) (ai (top 103)) .none ZD ZE ZF Zz NC ZG),ZA⟩) (e66:PySem.W.codeIn K NC "_law_rows_text"=true) (k66:PySem.W.keepIn K (.ref Zx)=true)
  (a67:PySem.W.nsIn K mainGlobals "_law_text"=some (some (.ref ZH))) (l67:K.lookup ZH=some ⟨ZL,ZI,.func (PySem.W.fnOf "_law_text" "_law_text" (aR (top 104)) (aQ (top 104)) (ai (top 104)) .none ZM ZN ZO ZJ ND ZP),ZK⟩) (e67:PySem.W.codeIn K ND "_law_text"=true) (k67:PySem.W.keepIn K (.ref ZH)=true)
  (a68:PySem.W.nsIn K mainGlobals "_law_alike"=some (some (.ref ZQ))) (l68:K.lookup ZQ=some ⟨ZU,ZR,.func (PySem.W.fnOf "_law_alike" "_law_alike" (aR (top 105)) (aQ (top 105)) (ai (top 105)) .none ZV ZW ZX ZS NF ZY),ZT⟩) (e68:PySem.W.codeIn K NF "_law_alike"=true) (k68:PySem.W.keepIn K (.ref ZQ)=true)
  (a69:PySem.W.nsIn K mainGlobals "law"=some (some (.ref ZZ))) (l69:K.lookup ZZ=some ⟨Z3,Z0,.func (PySem.W.fnOf "law" "law" (aR (top 106)) (aQ (top 106)) (ai (top 106)) .none Z4 Z5 Z6 Z1 NG Z7),Z2⟩) (e69:PySem.W.codeIn K NG "law"=true) (k69:PySem.W.keepIn K (.ref ZZ)=true)
  (z_abs:PySem.W.nsIn K mainGlobals "abs"=some none)
  (z_all:PySem.W.nsIn K mainGlobals "all"=some none)
  (z_bool:PySem.W.nsIn K mainGlobals "bool"=some none)
  (z_enumerate:PySem.W.nsIn K mainGlobals "enumerate"=some none)
  (z_int:PySem.W.nsIn K mainGlobals "int"=some none)
  (z_isinstance:PySem.W.nsIn K mainGlobals "isinstance"=some none)
  (z_len:PySem.W.nsIn K mainGlobals "len"=some none)
  (z_list:PySem.W.nsIn K mainGlobals "list"=some none)
  (z_max:PySem.W.nsIn K mainGlobals "max"=some none)
  (z_min:PySem.W.nsIn K mainGlobals "min"=some none)
  (z_range:PySem.W.nsIn K mainGlobals "range"=some none)
  (z_set:PySem.W.nsIn K mainGlobals "set"=some none)
  (z_sorted:PySem.W.nsIn K mainGlobals "sorted"=some none)
  (z_str:PySem.W.nsIn K mainGlobals "str"=some none)
  (z_sum:PySem.W.nsIn K mainGlobals "sum"=some none)
  (z_tuple:PySem.W.nsIn K mainGlobals "tuple"=some none)
  (c_FIGURES:PySem.W.nsIn K mainGlobals "FIGURES"=some (some (.str "0123456789" xU)))
  (c_MOST_FIGURES:PySem.W.nsIn K mainGlobals "MOST_FIGURES"=some (some (.int 12 ox)))
  (c_MOST_THROWS:PySem.W.nsIn K mainGlobals "MOST_THROWS"=some (some (.int 1296 qg)))
  (c_MOST_BOTTOM_pools:PySem.W.nsIn K mainGlobals "MOST_BOTTOM_pools"=some (some (.int 1000000 ja)))
  (c_MOST_PARTS:PySem.W.nsIn K mainGlobals "MOST_PARTS"=some (some (.int 4 qR)))
  (c_MOST_NUMBER_pooltexts:PySem.W.nsIn K mainGlobals "MOST_NUMBER_pooltexts"=some (some (.int 99 gF)))
  (c_MOST_DICE:PySem.W.nsIn K mainGlobals "MOST_DICE"=some (some (.int 6 uD)))
  (c_MOST_SIDES:PySem.W.nsIn K mainGlobals "MOST_SIDES"=some (some (.int 20 qS)))
  (c_LETTERS:PySem.W.nsIn K mainGlobals "LETTERS"=some (some (.str "abcdefghijklmnopqrstuvwxyz" xV)))
  (c_MOST_LETTERS:PySem.W.nsIn K mainGlobals "MOST_LETTERS"=some (some (.int 8 oy)))
  (c_MOST_COUNTS:PySem.W.nsIn K mainGlobals "MOST_COUNTS"=some (some (.int 4 qh)))
  (c_MOST_OF_COUNT:PySem.W.nsIn K mainGlobals "MOST_OF_COUNT"=some (some (.int 60 nB)))
  (c_MOST_PLACES:PySem.W.nsIn K mainGlobals "MOST_PLACES"=some (some (.int 30 qi)))
  (c_MOST_THROW_ROWS:PySem.W.nsIn K mainGlobals "MOST_THROW_ROWS"=some (some (.int 60 km)))
  (c_MOST_PICK_ROWS:PySem.W.nsIn K mainGlobals "MOST_PICK_ROWS"=some (some (.int 4 mh)))
  (c_MOST_DEEDS:PySem.W.nsIn K mainGlobals "MOST_DEEDS"=some (some (.int 6 qT)))
  (c_MOST_NUMBER_games:PySem.W.nsIn K mainGlobals "MOST_NUMBER_games"=some (some (.int 999 jb)))
  (c_MOST_BOTTOM_games:PySem.W.nsIn K mainGlobals "MOST_BOTTOM_games"=some (some (.int 1000000 jc)))
  (k_NoShare:PySem.W.nsIn K mainGlobals "NoShare"=some (some (.ref ax)))
  (k_NoTable:PySem.W.nsIn K mainGlobals "NoTable"=some (some (.ref aA)))
  (k_NoPool:PySem.W.nsIn K mainGlobals "NoPool"=some (some (.ref aJ)))
  (k_TooMany:PySem.W.nsIn K mainGlobals "TooMany"=some (some (.ref aB)))
  (x_NoShare:PySem.W.excIn K ax wY o5=true)
  (x_NoTable:PySem.W.excIn K aA wY o5=true)
  (x_TooMany:PySem.W.excIn K aB wY o5=true)
  (nodig:PySem.W.nsIn K cStatics "sys.int_max_str_digits"=some none)
  (g_OF_MANY:PySem.W.nsIn K mainGlobals "OF_MANY"=some (some (.ref au)))
  (g_OF_ONE:PySem.W.nsIn K mainGlobals "OF_ONE"=some (some (.ref aD)))
  (g_PERSONS:PySem.W.nsIn K mainGlobals "PERSONS"=some (some (.ref av)))
  (g_DEEDS:PySem.W.nsIn K mainGlobals "DEEDS"=some (some (.ref aL)))
  (r_OF_MANY_best:iP K au "best" 1 6)
  (r_OF_MANY_hits:iP K au "hits" 1 20)
  (r_OF_MANY_worst:iP K au "worst" 1 6)
  (r_OF_ONE_again:iP K aD "again" 0 20)
  (r_OF_ONE_burst:iP K aD "burst" 0 6)
  (v_PERSONS_1:jq K av "1" 1)
  (v_PERSONS_2:jq K av "2" 2)
  (v_DEEDS_set:jq K aL "set" 3)
  (v_DEEDS_plus:jq K aL "plus" 3)
  (v_DEEDS_face:jq K aL "face" 2)
  (v_DEEDS_move:jq K aL "move" 3)
  (m_OF_MANY:dN K w.params au ["best","worst","hits"])
  (m_OF_ONE:dN K w.params aD ["again","burst"])
  (m_PERSONS:dN K w.params av ["1","2"])
  (m_DEEDS:dN K w.params aL ["set","plus","face","move"])
  :∃fd:FuncData,(∀(s:Shared) (v:Value),BindsTo s fd ⟨[v],[]⟩ [("_law_script",v)])/\∀base:Heap,K.In base->base.Ns mainGlobals mg->iu l.prog w K mg base (cL l.prog w) 30 fa fd ["_law_script"] (zq K):=by
 have e:=hfa.symm.trans (aaB X G a69);cases e;have T:Txt K mg w.params ax aA aJ aB au aD av aL:=⟨aa7 X G z_abs,aa7 X G z_all,aa7 X G z_bool,aa7 X G z_enumerate,aa7 X G z_int,aa7 X G z_isinstance,aa7 X G z_len,aa7 X G z_list,aa7 X G z_max,aa7 X G z_min,aa7 X G z_range,aa7 X G z_set,aa7 X G z_sorted,aa7 X G z_str,aa7 X G z_sum,aa7 X G z_tuple,⟨_,_,bc l0 e0 k0,aaB X G a0⟩,⟨_,_,bc l1 e1 k1,aaB X G a1⟩,⟨_,_,bc l2 e2 k2,aaB X G a2⟩,⟨_,_,bc l3 e3 k3,aaB X G a3⟩,⟨_,_,bc l4 e4 k4,aaB X G a4⟩,⟨_,_,bc l5 e5 k5,aaB X G a5⟩,⟨_,_,bc l6 e6 k6,aaB X G a6⟩,⟨_,_,bc l7 e7 k7,aaB X G a7⟩,⟨_,_,bc l8 e8 k8,aaB X G a8⟩,⟨_,_,bc l9 e9 k9,aaB X G a9⟩,⟨_,_,bc l10 e10 k10,aaB X G a10⟩,⟨_,_,bc l11 e11 k11,aaB X G a11⟩,⟨_,_,bc l12 e12 k12,aaB X G a12⟩,⟨_,_,bc l13 e13 k13,aaB X G a13⟩,⟨_,_,bc l14 e14 k14,aaB X G a14⟩,⟨_,_,bc l15 e15 k15,aaB X G a15⟩,⟨_,_,bc l16 e16 k16,aaB X G a16⟩,⟨_,_,bc l17 e17 k17,aaB X G a17⟩,⟨_,_,bc l18 e18 k18,aaB X G a18⟩,⟨_,_,bc l19 e19 k19,aaB X G a19⟩,⟨_,_,bc l20 e20 k20,aaB X G a20⟩,⟨_,_,bc l21 e21 k21,aaB X G a21⟩,⟨_,_,bc l22 e22 k22,aaB X G a22⟩,⟨_,_,bc l23 e23 k23,aaB X G a23⟩,⟨_,_,bc l24 e24 k24,aaB X G a24⟩,⟨_,_,bc l25 e25 k25,aaB X G a25⟩,⟨_,_,bc l26 e26 k26,aaB X G a26⟩,⟨_,_,bc l27 e27 k27,aaB X G a27⟩,⟨_,_,bc l28 e28 k28,aaB X G a28⟩,⟨_,_,bc l29 e29 k29,aaB X G a29⟩,⟨_,_,bc l30 e30 k30,aaB X G a30⟩,⟨_,_,bc l31 e31 k31,aaB X G a31⟩,⟨_,_,bc l32 e32 k32,aaB X G a32⟩,⟨_,_,bc l33 e33 k33,aaB X G a33⟩,⟨_,_,bc l34 e34 k34,aaB X G a34⟩,⟨_,_,bc l35 e35 k35,aaB X G a35⟩,⟨_,_,bc l36 e36 k36,aaB X G a36⟩,⟨_,_,bc l37 e37 k37,aaB X G a37⟩,⟨_,_,bc l38 e38 k38,aaB X G a38⟩,⟨_,_,bc l39 e39 k39,aaB X G a39⟩,⟨_,_,bc l40 e40 k40,aaB X G a40⟩,⟨_,_,bc l41 e41 k41,aaB X G a41⟩,⟨_,_,bc l42 e42 k42,aaB X G a42⟩,⟨_,_,bc l43 e43 k43,aaB X G a43⟩,⟨_,_,bc l44 e44 k44,aaB X G a44⟩,⟨_,_,bc l45 e45 k45,aaB X G a45⟩,⟨_,_,bc l46 e46 k46,aaB X G a46⟩,⟨_,_,bc l47 e47 k47,aaB X G a47⟩,⟨_,_,bc l48 e48 k48,aaB X G a48⟩,⟨_,_,bc l49 e49 k49,aaB X G a49⟩,⟨_,_,bc l50 e50 k50,aaB X G a50⟩,⟨_,_,bc l51 e51 k51,aaB X G a51⟩,⟨_,_,bc l52 e52 k52,aaB X G a52⟩,⟨_,_,bc l53 e53 k53,aaB X G a53⟩,⟨_,_,bc l54 e54 k54,aaB X G a54⟩,⟨_,_,bc l55 e55 k55,aaB X G a55⟩,⟨_,_,bc l56 e56 k56,aaB X G a56⟩,⟨_,_,bc l57 e57 k57,aaB X G a57⟩,⟨_,_,bc l58 e58 k58,aaB X G a58⟩,⟨_,_,bc l59 e59 k59,aaB X G a59⟩,⟨_,_,bc l60 e60 k60,aaB X G a60⟩,⟨_,_,bc l61 e61 k61,aaB X G a61⟩,⟨_,_,bc l62 e62 k62,aaB X G a62⟩,⟨_,_,bc l63 e63 k63,aaB X G a63⟩,⟨_,_,bc l64 e64 k64,aaB X G a64⟩,⟨_,_,bc l65 e65 k65,aaB X G a65⟩,⟨_,_,bc l66 e66 k66,aaB X G a66⟩,⟨_,_,bc l67 e67 k67,aaB X G a67⟩,⟨_,_,bc l68 e68 k68,aaB X G a68⟩,⟨_,aaB X G c_FIGURES⟩,⟨_,aaB X G c_MOST_FIGURES⟩,⟨_,aaB X G c_MOST_THROWS⟩,⟨_,aaB X G c_MOST_BOTTOM_pools⟩,⟨_,aaB X G c_MOST_PARTS⟩,⟨_,aaB X G c_MOST_NUMBER_pooltexts⟩,⟨_,aaB X G c_MOST_DICE⟩,⟨_,aaB X G c_MOST_SIDES⟩,⟨_,aaB X G c_LETTERS⟩,⟨_,aaB X G c_MOST_LETTERS⟩,⟨_,aaB X G c_MOST_COUNTS⟩,⟨_,aaB X G c_MOST_OF_COUNT⟩,⟨_,aaB X G c_MOST_PLACES⟩,⟨_,aaB X G c_MOST_THROW_ROWS⟩,⟨_,aaB X G c_MOST_PICK_ROWS⟩,⟨_,aaB X G c_MOST_DEEDS⟩,⟨_,aaB X G c_MOST_NUMBER_games⟩,⟨_,aaB X G c_MOST_BOTTOM_games⟩,aaB X G k_NoShare,aaB X G k_NoTable,aaB X G k_NoPool,aaB X G k_TooMany,x_NoShare,x_NoTable,x_TooMany,nodig,aaB X G g_OF_MANY,aaB X G g_OF_ONE,aaB X G g_PERSONS,aaB X G g_DEEDS,r_OF_MANY_best,r_OF_MANY_hits,r_OF_MANY_worst,r_OF_ONE_again,r_OF_ONE_burst,v_PERSONS_1,v_PERSONS_2,v_DEEDS_set,v_DEEDS_plus,v_DEEDS_face,v_DEEDS_move,m_OF_MANY,m_OF_ONE,m_PERSONS,m_DEEDS⟩
 exact⟨_,λs v=>.of_eq rfl,λbase _ _=>(JT T (bc l69 e69 k69)).mono (by decide)⟩
theorem walk {l:PySem.W.OpenLaw} {q:Program} {loose:List Str} {XP:(Str->Option Value)->Heap->Prop} {YP:World->Heap->Prop} {d:DefRec} {K:Params->PySem.W.Frag} (hn:l.most=some 63) (KY:d.params.defaults=[])
  (hY:∀(w:World) (h:Heap),YP w h->(K w.params).In h)
  (F:∀(w:World) (mg:Str->Option Value) (fa:Addr) (h:Heap),(K w.params).In h->h.Ns mainGlobals mg->mg d.name=some (.ref fa)->
   ∃fd:FuncData,(∀(s:Shared) (u:Value),BindsTo s fd ⟨[u],[]⟩ [("_law_script",u)])/\∀base:Heap,(K w.params).In base->base.Ns mainGlobals mg->iu l.prog w (K w.params) mg base (cL l.prog w) 30 fa fd ["_law_script"] (zq (K w.params))):
  PySem.W.WalkO q loose XP YP l.row.toRowW d [] (λf vs=>PySem.call f vs):=
 L2.D8 (n:=63) (k:=30) (x:="_law_script") (CX:=λw=>cL l.prog w) (sp:=λw=>zq (K w.params)) hn (by decide) KY ⟨rfl,by decide,by decide⟩ hY F (λ_ _ a ns hl _ hS=>⟨a,ns,rfl,hS,hl,λ_=>rfl⟩) λ_ _ _ _ _ z=>(yj _ _) _ _ _ _ _ z
end K51
open PySem PySem.W PyProof.Rows
set_option maxRecDepth 100000 in
set_option maxHeartbeats 0 in
theorem PySem.Challenge.cw_pressluck_k51_games_read_holds : PySem.Challenge.rw_pressluck_k51_games_read.Holds := by
  w_on; refine holds_law K51.Ko fun Ko => ?_
  refine holds_open (q := K51.vw) (loose := ["OF_MANY", "OF_ONE", "read_number_pooltexts", "PERSONS", "DEEDS", "read_number_games"]) (Xt := (fun s => xlAt K51.vw [] s && recOk (RowW.records (OpenRow.toRowW (PySem.W.OpenLaw.row PySem.Challenge.rw_pressluck_k51_games_read))) s)) (XP := XL K51.vw []) (Yf := Hook.obs (kHook K51.pre.heap_1 K51.AL K51.AW)) (Ya := Hook.val (kHook K51.pre.heap_1 K51.AL K51.AW)) (YP := Hook.says (kHook K51.pre.heap_1 K51.AL K51.AW)) (N := 7716) (Hd.zx (by kernel_rfl) (by decide) (fun s => by kernel_rfl) K51.run) (Hook.of (kHook K51.pre.heap_1 K51.AL K51.AW)) (Hook.keeps (kHook K51.pre.heap_1 K51.AL K51.AW)) (fun s e => xl_of s (Bool.and_eq_true_iff.mp e).1) XL.keeps (by rfl) (by rfl) (by rfl) (fun s e => recFacts_of (Bool.and_eq_true_iff.mp e).2) (by rfl) (by first | assumption | decide +kernel) (by decide +kernel) ⟨rfl, rfl, rfl, rfl, rfl, by decide +kernel⟩ ?hw ?hc
  (case hw => w_witness2)
  k_fill
  refine K51.walk (l := PySem.Challenge.rw_pressluck_k51_games_read) rfl rfl (fun w h Y => PySem.W.kIn_of Y) ?F
  case F =>
    intro w mg fa h KX G KZ;refine' K51.all_mk KX G KZ ?a0 ?l0 ?e0 ?k0 ?a1 ?l1 ?e1 ?k1 ?a2 ?l2 ?e2 ?k2 ?a3 ?l3 ?e3 ?k3 ?a4 ?l4 ?e4 ?k4 ?a5 ?l5 ?e5 ?k5 ?a6 ?l6 ?e6 ?k6 ?a7 ?l7 ?e7 ?k7 ?a8 ?l8 ?e8 ?k8 ?a9 ?l9 ?e9 ?k9 ?a10 ?l10 ?e10 ?k10 ?a11 ?l11 ?e11 ?k11 ?a12 ?l12 ?e12 ?k12 ?a13 ?l13 ?e13 ?k13 ?a14 ?l14 ?e14 ?k14 ?a15 ?l15 ?e15 ?k15 ?a16 ?l16 ?e16 ?k16 ?a17 ?l17 ?e17 ?k17 ?a18 ?l18 ?e18 ?k18 ?a19 ?l19 ?e19 ?k19 ?a20 ?l20 ?e20 ?k20 ?a21 ?l21 ?e21 ?k21 ?a22 ?l22 ?e22 ?k22 ?a23 ?l23 ?e23 ?k23 ?a24 ?l24 ?e24 ?k24 ?a25 ?l25 ?e25 ?k25 ?a26 ?l26 ?e26 ?k26 ?a27 ?l27 ?e27 ?k27 ?a28 ?l28 ?e28 ?k28 ?a29 ?l29 ?e29 ?k29 ?a30 ?l30 ?e30 ?k30 ?a31 ?l31 ?e31 ?k31 ?a32 ?l32 ?e32 ?k32 ?a33 ?l33 ?e33 ?k33 ?a34 ?l34 ?e34 ?k34 ?a35 ?l35 ?e35 ?k35 ?a36 ?l36 ?e36 ?k36 ?a37 ?l37 ?e37 ?k37 ?a38 ?l38 ?e38 ?k38 ?a39 ?l39 ?e39 ?k39 ?a40 ?l40 ?e40 ?k40 ?a41 ?l41 ?e41 ?k41 ?a42 ?l42 ?e42 ?k42 ?a43 ?l43 ?e43 ?k43 ?a44 ?l44 ?e44 ?k44 ?a45 ?l45 ?e45 ?k45 ?a46 ?l46 ?e46 ?k46 ?a47 ?l47 ?e47 ?k47 ?a48 ?l48 ?e48 ?k48 ?a49 ?l49 ?e49 ?k49 ?a50 ?l50 ?e50 ?k50 ?a51 ?l51 ?e51 ?k51 ?a52 ?l52 ?e52 ?k52 ?a53 ?l53 ?e53 ?k53 ?a54 ?l54 ?e54 ?k54 ?a55 ?l55 ?e55 ?k55 ?a56 ?l56 ?e56 ?k56 ?a57 ?l57 ?e57 ?k57 ?a58 ?l58 ?e58 ?k58 ?a59 ?l59 ?e59 ?k59 ?a60 ?l60 ?e60 ?k60 ?a61 ?l61 ?e61 ?k61 ?a62 ?l62 ?e62 ?k62 ?a63 ?l63 ?e63 ?k63 ?a64 ?l64 ?e64 ?k64 ?a65 ?l65 ?e65 ?k65 ?a66 ?l66 ?e66 ?k66 ?a67 ?l67 ?e67 ?k67 ?a68 ?l68 ?e68 ?k68 ?a69 ?l69 ?e69 ?k69 ?z_abs ?z_all ?z_bool ?z_enumerate ?z_int ?z_isinstance ?z_len ?z_list ?z_max ?z_min ?z_range ?z_set ?z_sorted ?z_str ?z_sum ?z_tuple ?c_FIGURES ?c_MOST_FIGURES ?c_MOST_THROWS ?c_MOST_BOTTOM_pools ?c_MOST_PARTS ?c_MOST_NUMBER_pooltexts ?c_MOST_DICE ?c_MOST_SIDES ?c_LETTERS ?c_MOST_LETTERS ?c_MOST_COUNTS ?c_MOST_OF_COUNT ?c_MOST_PLACES ?c_MOST_THROW_ROWS ?c_MOST_PICK_ROWS ?c_MOST_DEEDS ?c_MOST_NUMBER_games ?c_MOST_BOTTOM_games ?k_NoShare ?k_NoTable ?k_NoPool ?k_TooMany ?x_NoShare ?x_NoTable ?x_TooMany ?nodig ?g_OF_MANY ?g_OF_ONE ?g_PERSONS ?g_DEEDS ?r_OF_MANY_best ?r_OF_MANY_hits ?r_OF_MANY_worst ?r_OF_ONE_again ?r_OF_ONE_burst ?v_PERSONS_1 ?v_PERSONS_2 ?v_DEEDS_set ?v_DEEDS_plus ?v_DEEDS_face ?v_DEEDS_move ?m_OF_MANY ?m_OF_ONE ?m_PERSONS ?m_DEEDS
    (case a0 => k_is)
    (case l0 => k_is)
    (case e0 => k_is)
    (case k0 => k_is)
    (case a1 => k_is)
    (case l1 => k_is)
    (case e1 => k_is)
    (case k1 => k_is)
    (case a2 => k_is)
    (case l2 => k_is)
    (case e2 => k_is)
    (case k2 => k_is)
    (case a3 => k_is)
    (case l3 => k_is)
    (case e3 => k_is)
    (case k3 => k_is)
    (case a4 => k_is)
    (case l4 => k_is)
    (case e4 => k_is)
    (case k4 => k_is)
    (case a5 => k_is)
    (case l5 => k_is)
    (case e5 => k_is)
    (case k5 => k_is)
    (case a6 => k_is)
    (case l6 => k_is)
    (case e6 => k_is)
    (case k6 => k_is)
    (case a7 => k_is)
    (case l7 => k_is)
    (case e7 => k_is)
    (case k7 => k_is)
    (case a8 => k_is)
    (case l8 => k_is)
    (case e8 => k_is)
    (case k8 => k_is)
    (case a9 => k_is)
    (case l9 => k_is)
    (case e9 => k_is)
    (case k9 => k_is)
    (case a10 => k_is)
    (case l10 => k_is)
    (case e10 => k_is)
    (case k10 => k_is)
    (case a11 => k_is)
    (case l11 => k_is)
    (case e11 => k_is)
    (case k11 => k_is)
    (case a12 => k_is)
    (case l12 => k_is)
    (case e12 => k_is)
    (case k12 => k_is)
    (case a13 => k_is)
    (case l13 => k_is)
    (case e13 => k_is)
    (case k13 => k_is)
    (case a14 => k_is)
    (case l14 => k_is)
    (case e14 => k_is)
    (case k14 => k_is)
    (case a15 => k_is)
    (case l15 => k_is)
    (case e15 => k_is)
    (case k15 => k_is)
    (case a16 => k_is)
    (case l16 => k_is)
    (case e16 => k_is)
    (case k16 => k_is)
    (case a17 => k_is)
    (case l17 => k_is)
    (case e17 => k_is)
    (case k17 => k_is)
    (case a18 => k_is)
    (case l18 => k_is)
    (case e18 => k_is)
    (case k18 => k_is)
    (case a19 => k_is)
    (case l19 => k_is)
    (case e19 => k_is)
    (case k19 => k_is)
    (case a20 => k_is)
    (case l20 => k_is)
    (case e20 => k_is)
    (case k20 => k_is)
    (case a21 => k_is)
    (case l21 => k_is)
    (case e21 => k_is)
    (case k21 => k_is)
    (case a22 => k_is)
    (case l22 => k_is)
    (case e22 => k_is)
    (case k22 => k_is)
    (case a23 => k_is)
    (case l23 => k_is)
    (case e23 => k_is)
    (case k23 => k_is)
    (case a24 => k_is)
    (case l24 => k_is)
    (case e24 => k_is)
    (case k24 => k_is)
    (case a25 => k_is)
    (case l25 => k_is)
    (case e25 => k_is)
    (case k25 => k_is)
    (case a26 => k_is)
    (case l26 => k_is)
    (case e26 => k_is)
    (case k26 => k_is)
    (case a27 => k_is)
    (case l27 => k_is)
    (case e27 => k_is)
    (case k27 => k_is)
    (case a28 => k_is)
    (case l28 => k_is)
    (case e28 => k_is)
    (case k28 => k_is)
    (case a29 => k_is)
    (case l29 => k_is)
    (case e29 => k_is)
    (case k29 => k_is)
    (case a30 => k_is)
    (case l30 => k_is)
    (case e30 => k_is)
    (case k30 => k_is)
    (case a31 => k_is)
    (case l31 => k_is)
    (case e31 => k_is)
    (case k31 => k_is)
    (case a32 => k_is)
    (case l32 => k_is)
    (case e32 => k_is)
    (case k32 => k_is)
    (case a33 => k_is)
    (case l33 => k_is)
    (case e33 => k_is)
    (case k33 => k_is)
    (case a34 => k_is)
    (case l34 => k_is)
    (case e34 => k_is)
    (case k34 => k_is)
    (case a35 => k_is)
    (case l35 => k_is)
    (case e35 => k_is)
    (case k35 => k_is)
    (case a36 => k_is)
    (case l36 => k_is)
    (case e36 => k_is)
    (case k36 => k_is)
    (case a37 => k_is)
    (case l37 => k_is)
    (case e37 => k_is)
    (case k37 => k_is)
    (case a38 => k_is)
    (case l38 => k_is)
    (case e38 => k_is)
    (case k38 => k_is)
    (case a39 => k_is)
    (case l39 => k_is)
    (case e39 => k_is)
    (case k39 => k_is)
    (case a40 => k_is)
    (case l40 => k_is)
    (case e40 => k_is)
    (case k40 => k_is)
    (case a41 => k_is)
    (case l41 => k_is)
    (case e41 => k_is)
    (case k41 => k_is)
    (case a42 => k_is)
    (case l42 => k_is)
    (case e42 => k_is)
    (case k42 => k_is)
    (case a43 => k_is)
    (case l43 => k_is)
    (case e43 => k_is)
    (case k43 => k_is)
    (case a44 => k_is)
    (case l44 => k_is)
    (case e44 => k_is)
    (case k44 => k_is)
    (case a45 => k_is)
    (case l45 => k_is)
    (case e45 => k_is)
    (case k45 => k_is)
    (case a46 => k_is)
    (case l46 => k_is)
    (case e46 => k_is)
    (case k46 => k_is)
    (case a47 => k_is)
    (case l47 => k_is)
    (case e47 => k_is)
    (case k47 => k_is)
    (case a48 => k_is)
    (case l48 => k_is)
    (case e48 => k_is)
    (case k48 => k_is)
    (case a49 => k_is)
    (case l49 => k_is)
    (case e49 => k_is)
    (case k49 => k_is)
    (case a50 => k_is)
    (case l50 => k_is)
    (case e50 => k_is)
    (case k50 => k_is)
    (case a51 => k_is)
    (case l51 => k_is)
    (case e51 => k_is)
    (case k51 => k_is)
    (case a52 => k_is)
    (case l52 => k_is)
    (case e52 => k_is)
    (case k52 => k_is)
    (case a53 => k_is)
    (case l53 => k_is)
    (case e53 => k_is)
    (case k53 => k_is)
    (case a54 => k_is)
    (case l54 => k_is)
    (case e54 => k_is)
    (case k54 => k_is)
    (case a55 => k_is)
    (case l55 => k_is)
    (case e55 => k_is)
    (case k55 => k_is)
    (case a56 => k_is)
    (case l56 => k_is)
    (case e56 => k_is)
    (case k56 => k_is)
    (case a57 => k_is)
    (case l57 => k_is)
    (case e57 => k_is)
    (case k57 => k_is)
    (case a58 => k_is)
    (case l58 => k_is)
    (case e58 => k_is)
    (case k58 => k_is)
    (case a59 => k_is)
    (case l59 => k_is)
    (case e59 => k_is)
    (case k59 => k_is)
    (case a60 => k_is)
    (case l60 => k_is)
    (case e60 => k_is)
    (case k60 => k_is)
    (case a61 => k_is)
    (case l61 => k_is)
    (case e61 => k_is)
    (case k61 => k_is)
    (case a62 => k_is)
    (case l62 => k_is)
    (case e62 => k_is)
    (case k62 => k_is)
    (case a63 => k_is)
    (case l63 => k_is)
    (case e63 => k_is)
    (case k63 => k_is)
    (case a64 => k_is)
    (case l64 => k_is)
    (case e64 => k_is)
    (case k64 => k_is)
    (case a65 => k_is)
    (case l65 => k_is)
    (case e65 => k_is)
    (case k65 => k_is)
    (case a66 => k_is)
    (case l66 => k_is)
    (case e66 => k_is)
    (case k66 => k_is)
    (case a67 => k_is)
    (case l67 => k_is)
    (case e67 => k_is)
    (case k67 => k_is)
    (case a68 => k_is)
    (case l68 => k_is)
    (case e68 => k_is)
    (case k68 => k_is)
    (case a69 => k_is)
    (case l69 => k_is)
    (case e69 => k_is)
    (case k69 => k_is)
    (case z_abs => k_is)
    (case z_all => k_is)
    (case z_bool => k_is)
    (case z_enumerate => k_is)
    (case z_int => k_is)
    (case z_isinstance => k_is)
    (case z_len => k_is)
    (case z_list => k_is)
    (case z_max => k_is)
    (case z_min => k_is)
    (case z_range => k_is)
    (case z_set => k_is)
    (case z_sorted => k_is)
    (case z_str => k_is)
    (case z_sum => k_is)
    (case z_tuple => k_is)
    (case c_FIGURES => k_is)
    (case c_MOST_FIGURES => k_is)
    (case c_MOST_THROWS => k_is)
    (case c_MOST_BOTTOM_pools => k_is)
    (case c_MOST_PARTS => k_is)
    (case c_MOST_NUMBER_pooltexts => k_is)
    (case c_MOST_DICE => k_is)
    (case c_MOST_SIDES => k_is)
    (case c_LETTERS => k_is)
    (case c_MOST_LETTERS => k_is)
    (case c_MOST_COUNTS => k_is)
    (case c_MOST_OF_COUNT => k_is)
    (case c_MOST_PLACES => k_is)
    (case c_MOST_THROW_ROWS => k_is)
    (case c_MOST_PICK_ROWS => k_is)
    (case c_MOST_DEEDS => k_is)
    (case c_MOST_NUMBER_games => k_is)
    (case c_MOST_BOTTOM_games => k_is)
    (case k_NoShare => k_is)
    (case k_NoTable => k_is)
    (case k_NoPool => k_is)
    (case k_TooMany => k_is)
    (case x_NoShare => first | k_is | kit_is | kernel_rfl)
    (case x_NoTable => first | k_is | kit_is | kernel_rfl)
    (case x_TooMany => first | k_is | kit_is | kernel_rfl)
    (case nodig => k_is)
    (case g_OF_MANY => k_is)
    (case g_OF_ONE => k_is)
    (case g_PERSONS => k_is)
    (case g_DEEDS => k_is)
    (case r_OF_MANY_best => exact ⟨_, by k_is, _, _, _, _, _, by k_is⟩)
    (case r_OF_MANY_hits => exact ⟨_, by k_is, _, _, _, _, _, by k_is⟩)
    (case r_OF_MANY_worst => exact ⟨_, by k_is, _, _, _, _, _, by k_is⟩)
    (case r_OF_ONE_again => exact ⟨_, by k_is, _, _, _, _, _, by k_is⟩)
    (case r_OF_ONE_burst => exact ⟨_, by k_is, _, _, _, _, _, by k_is⟩)
    (case v_PERSONS_1 => exact ⟨_, by k_is⟩)
    (case v_PERSONS_2 => exact ⟨_, by k_is⟩)
    (case v_DEEDS_set => exact ⟨_, by k_is⟩)
    (case v_DEEDS_plus => exact ⟨_, by k_is⟩)
    (case v_DEEDS_face => exact ⟨_, by k_is⟩)
    (case v_DEEDS_move => exact ⟨_, by k_is⟩)
    (case m_OF_MANY => exact ⟨_, _, by k_is, by (repeat (first | exact trivial | refine ⟨⟨_, _, rfl, rfl⟩, ?_⟩)), rfl, rfl⟩)
    (case m_OF_ONE => exact ⟨_, _, by k_is, by (repeat (first | exact trivial | refine ⟨⟨_, _, rfl, rfl⟩, ?_⟩)), rfl, rfl⟩)
    (case m_PERSONS => exact ⟨_, _, by k_is, by (repeat (first | exact trivial | refine ⟨⟨_, _, rfl, rfl⟩, ?_⟩)), rfl, rfl⟩)
    (case m_DEEDS => exact ⟨_, _, by k_is, by (repeat (first | exact trivial | refine ⟨⟨_, _, rfl, rfl⟩, ?_⟩)), rfl, rfl⟩)
