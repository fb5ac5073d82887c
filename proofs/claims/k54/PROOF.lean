import PyProof.Rows.All
import Wide.All
import OpenK.AllK
import Wide.FinOn
import Lean
import PyProof.EqAt
import PyProof.EqKinds
import PyProof.TupleCall
import PyProof.NeKinds
import PySem.Challenge.RW_pressluck_k54_deeds_done
set_option Elab.async false
set_option linter.all false
set_option maxRecDepth 100000
local macro_rules | `(tactic| omega) => `(tactic| lia)
namespace Hd
open PySem PySem.W PyProof.Rows
noncomputable def runBy (ok:Thread→Bool) (st:SharedT→Thread→Option (SharedT×Thread)) (n:Nat):SharedT→Thread→Option SharedT:=
 @Nat.rec (fun _=>SharedT→Thread→Option SharedT) (fun _ _=>none)
  (fun _ ih s t=>@Bool.rec (fun _=>Option SharedT) (@Bool.rec (fun _=>Option SharedT) none (@Option.rec (SharedT×Thread) (fun _=>Option SharedT) none (fun r=>@Prod.rec _ _ (fun _=>Option SharedT) (fun a b=>ih a b) r) (st s t)) (ok t)) (some s) (through t)) n
theorem runBy_spec {tb:String→Option Builtin} {p:Program} {w:World} {n₀:Nat} {ann:Option Value}:∀(n:Nat) (s:SharedT) (t:Thread) (s':SharedT),runBy (stepOk n₀ ann) (stepT (denote tb) p w) n s t=some s'→topRun tb p w n₀ ann n s.abs t=some s'.abs
 | 0,_,_,_,h=>by cases h
 | n+1,s,t,s',h=>by
  unfold topRun
  replace h:@Bool.rec (fun _=>Option SharedT) (@Bool.rec (fun _=>Option SharedT) none (@Option.rec (SharedT×Thread) (fun _=>Option SharedT) none (fun r=>@Prod.rec _ _ (fun _=>Option SharedT) (fun a b=>runBy (stepOk n₀ ann) (stepT (denote tb) p w) n a b) r) (stepT (denote tb) p w s t)) (stepOk n₀ ann t)) (some s) (through t)=some s':=h
  cases ht:through t with
  | true=>rw[ht] at h;cases h;rfl
  | false=>
   rw[ht] at h
   cases hk:stepOk n₀ ann t with
   | false=>rw[hk] at h;cases h
   | true=>
    rw[hk] at h
    cases hs:stepT (denote tb) p w s t with
    | none=>rw[hs] at h;cases h
    | some r=>obtain⟨s₂,t₂⟩:=r;rw[hs] at h;rw[stepT_spec hs];exact runBy_spec n s₂ t₂ s' h
noncomputable def bt (P:Params):BT:=((boot_heap P).objs.toList.foldl (fun(x:BT×Nat) o=>(x.1.ins x.2 o,x.2+1)) (.nil,0)).1
noncomputable def bootT (w:World) (os:OsState):SharedT:=⟨bt w.params,11,{},Array.mk [],boot_drawn,boot_toks,os⟩
theorem bootT_abs (w:World) (os:OsState):(bootT w os).abs=⟨boot_heap w.params,Array.mk [],boot_drawn,boot_toks,os⟩:=by kernel_rfl
theorem bootT_size (w:World):((boot_heap w.params).isNs mainGlobals && (Array.mk []:Array GenState).size==0,(boot_heap w.params).objs.size,(boot_heap w.params).nsMap mainGlobals "__annotations__")=(true,11,some (.ref 6)):=by kernel_rfl
theorem left_run {p q:Program} {loose:List Str} {Xt:Shared→Bool} {α:Type} {Yf:Shared→α} {Ya:World→α} {N:Nat} {g0:Bool}
  (open_:∀w:World,(fencedOpening treeTable p w N).map (fun s=>(s.heap,s.gens,s.drawn,s.toks))=some (boot_heap w.params,Array.mk [],boot_drawn,boot_toks))
  (run:∀(w:World) (os:OsState),(runBy (stepOk 11 (some (.ref 6))) (stepT (denote treeTable) p w) N (bootT w os) (topStub p)).map (fun s=>((staticsOk (importedModules p.main.body) (boot_heap w.params) s.abs.heap && namesBound p s.abs.heap && gensDone s.abs && laidKept (boot_heap w.params) s.abs.heap),openSeen q loose (importedModules p.main.body) Xt g0 s.abs,Yf s.abs))=some (true,openGood q loose,Ya w)):
  LeftO p q loose Xt Yf Ya N g0:=fun w=>by
 obtain⟨⟨h,gs,d,k,os⟩,e,e'⟩:=Option.map_eq_some_iff.mp (open_ w)
 obtain⟨rfl,rfl,rfl,rfl⟩:h=boot_heap w.params∧gs=Array.mk []∧d=boot_drawn∧k=boot_toks:=by simpa using e'
 obtain⟨z1,z2,z3⟩:_∧_∧_:=by simpa only[Prod.mk.injEq] using bootT_size w
 obtain⟨s,r,l⟩:=Option.map_eq_some_iff.mp (run w os)
 obtain⟨l1,l2,l3⟩:_∧_∧_:=by simpa only[Prod.mk.injEq] using l
 have r:=runBy_spec _ _ _ _ r
 rw[bootT_abs] at r
 have t:topFrom treeTable p w N ⟨boot_heap w.params,Array.mk [],boot_drawn,boot_toks,os⟩=some s.abs:=by
  unfold topFrom
  dsimp only
  rw[z1,z2,z3,r]
  show(match staticsOk (importedModules p.main.body) (boot_heap w.params) s.abs.heap && namesBound p s.abs.heap && gensDone s.abs && laidKept (boot_heap w.params) s.abs.heap with | true=>_ | false=>_)=_
  rw[l1]
 unfold openEnds
 rw[e]
 show((topFrom treeTable p w N ⟨boot_heap w.params,Array.mk [],boot_drawn,boot_toks,os⟩)).map _=_
 rw[t]
 show some (_,_)=_
 rw[l2,l3]
noncomputable def Runs (p q:Program) (loose:List Str) (Xt:Shared→Bool) {α:Type} (Yf:Shared→α) (Ya:World→α) (N:Nat) (g0:Bool) (w:World):Prop:=
 ∀os:OsState,(runBy (PySem.W.Fast.tw6613529449190102663 11 (some (.ref 6))) (PySem.W.Fast.tw10156331382660048174 (PySem.W.Fast.tw11892475500146522536 PySem.W.Fast.tw14364793385576792824) p w) N (bootT w os) (topStub p)).map (fun s=>((staticsOk (importedModules p.main.body) (boot_heap w.params) s.abs.heap && namesBound p s.abs.heap && gensDone s.abs && laidKept (boot_heap w.params) s.abs.heap),PySem.W.Fast.tw4187177175401517315 q loose (importedModules p.main.body) Xt g0 s.abs,Yf s.abs))=some (true,openGood q loose,Ya w)
theorem left_runQ {p q:Program} {loose:List Str} {Xt:Shared→Bool} {α:Type} {Yf:Shared→α} {Ya:World→α} {N:Nat} {g0:Bool}
  (e:opening p=plainProg p.main.scope.names) (hN:Nat.ble 600 N=true) (f:∀s,fenceModules? p s=some s)
  (run:∀w:World,Runs p q loose Xt Yf Ya N g0 w):
  LeftO p q loose Xt Yf Ya N g0:=by
 refine left_run (boot_open e hN f) ?_
 unfold Runs at run
 rw[PySem.W.Fast.te6613529449190102663,PySem.W.Fast.te10156331382660048174,PySem.W.Fast.te11892475500146522536,PySem.W.Fast.te14364793385576792824,PySem.W.Fast.te4187177175401517315]
 exact run
end Hd
namespace K54
open PySem PySem.Spec PyProof.Rows
noncomputable def top (i:Nat):Stmt:=PySem.Challenge.pw_pressluck_k54_deeds_done.main.body.getD i (.Pass ⟨0,0,0,0⟩)
end K54
section Frnt
open PySem PySem.W PyProof.Rows
local macro_rules | `(tactic| o_head $H) => `(tactic| (refine (fun (_ : PySem.W.Hook) => ?_) $H; assumption))
theorem K54.pre (h:PySem.W.OpenRow.Holds (PySem.W.OpenLaw.row PySem.Challenge.rw_pressluck_k54_deeds_done)):PySem.W.OpenRow.Holds (PySem.W.OpenLaw.row PySem.Challenge.rw_pressluck_k54_deeds_done):=by
 k_head
noncomputable def K54.hka:List Addr:=[2,3,15,22,23,24,25,28,35,36,37,40,47,48,49,52,59,60,61,64,71,72,73,76,78,79,81,82,83,85,86,88,89,90,92,93,95,96,97,100,101,102,104,105,107,108,109,112,113,114,117,118,119,121,122,124,125,126,128,129,131,132,133,135,136,138,139,140,142,143,145,146,147,149,150,152,153,154,157,158,159,162,163,164,167,168,169,171,172,174,175,176,179,180,181,183,184,186,187,188,191,192,193,196,197,198,201,202,203,206,207,208,210,211,213,214,222,224,225,227,228,229,231,232,234,235,236,238,239,241,242,243,245,246,248,249,250,252,253,255,256,257,259,260,262,263,264,266,267,269,270,271,274,275,276,278,279,281,282,283,285,286,288,289,290,293,294,295,298,299,300,302,303,305,306,307,308,309,310,311,321,323,324,326,327,328,330,331,333,334,335,336,337,338,339,342,344,345,347,348,349,352,353,354,356,357,359,360,361,364,365,366,368,369,371,372,373,375,376,378,379,380,383,384,385,387,388,390,391,392,395,396,397,400,401]
theorem K54.hkp (P:PySem.Params):K54.hka=(K54.pre.heap_1 P).map (·.1):=by kernel_rfl
noncomputable def K54.vw:PySem.Program:={PySem.Challenge.pw_pressluck_k54_deeds_done with main:={PySem.Challenge.pw_pressluck_k54_deeds_done.main with body:=[K54.top 1,K54.top 2,K54.top 3,K54.top 4,K54.top 5,K54.top 7,K54.top 8,K54.top 9,K54.top 11,K54.top 12,K54.top 13,K54.top 14,K54.top 16,K54.top 17,K54.top 18,K54.top 19,K54.top 20,K54.top 21,K54.top 22,K54.top 23,K54.top 24,K54.top 25,K54.top 26,K54.top 27,K54.top 28,K54.top 29,K54.top 30,K54.top 31,K54.top 33,K54.top 34,K54.top 35,K54.top 36,K54.top 37,K54.top 38,K54.top 39,K54.top 40,K54.top 41,K54.top 43,K54.top 44,K54.top 45,K54.top 46,K54.top 47,K54.top 48]}}
theorem K54.run (w:World):Hd.Runs (RowW.prog (OpenRow.toRowW (PySem.W.OpenLaw.row PySem.Challenge.rw_pressluck_k54_deeds_done))) K54.vw [] (fun s=>xlAt K54.vw [] s && recOk (RowW.records (OpenRow.toRowW (PySem.W.OpenLaw.row PySem.Challenge.rw_pressluck_k54_deeds_done))) s) (Hook.obs (kHook K54.pre.heap_1 K54.hka K54.hkp)) (Hook.val (kHook K54.pre.heap_1 K54.hka K54.hkp)) 6024 true w:=fun os=>by kernel_rfl
end Frnt
namespace L2
open PySem PySem.Spec PyProof.Rows
abbrev Key:=Sum Int Str
noncomputable def keyIs:Key→Value→Bool
 | .inl k,v=>Value.isInt k v
 | .inr x,v=>Value.isStrOf x v
noncomputable def keyH (w:World):Key→Int
 | .inl k=>hashInt k
 | .inr x=>hashStr w x
theorem keyIs_shape:∀{k:Key} {v:Value},keyIs k v=true→(∃i t,k=Sum.inl i∧v=Value.int i t)∨(∃x t,k=Sum.inr x∧v=Value.str x t)
 | .inl i,v,h=>by
  obtain⟨t,e⟩:=Value.isInt_shape (k:=i) (v:=v) h
  exact .inl ⟨i,t,rfl,e⟩
 | .inr x,v,h=>by
  obtain⟨t,e⟩:=Value.isStrOf_shape (x:=x) (v:=v) h
  exact .inr ⟨x,t,rfl,e⟩
theorem keyIs_int (i:Int) (t:Tok):keyIs (.inl i) (.int i t)=true:=by simp [keyIs,Value.isInt]
theorem keyIs_str (x:Str) (t:Tok):keyIs (.inr x) (.str x t)=true:=by simp [keyIs,Value.isStrOf]
theorem key_ll (a b:Int):decide ((Sum.inl a:Key)=Sum.inl b)=(a==b):=by
 by_cases e:a=b
 ·subst e;simp
 ·have h:¬(Sum.inl a:Key)=Sum.inl b:=fun q=>e (Sum.inl.inj q)
  rw[decide_eq_false h]
  exact(beq_eq_false_iff_ne.mpr e).symm
theorem key_rr (a b:Str):decide ((Sum.inr a:Key)=Sum.inr b)=decide (a=b):=by
 by_cases e:a=b
 ·subst e;simp
 ·have h:¬(Sum.inr a:Key)=Sum.inr b:=fun q=>e (Sum.inr.inj q)
  rw[decide_eq_false h,decide_eq_false e]
theorem key_lr (a:Int) (b:Str):decide ((Sum.inl a:Key)=Sum.inr b)=false:=decide_eq_false (fun q=>nomatch q)
theorem key_rl (a:Str) (b:Int):decide ((Sum.inr a:Key)=Sum.inl b)=false:=decide_eq_false (fun q=>nomatch q)
noncomputable def mixKind (prog:Program) (w:World):PySem.KeyKind prog w Key where
 is:=keyIs
 hash:=keyH w
 inj:=fun v a b ha hb=>by
  rcases keyIs_shape ha with ⟨i,t,rfl,rfl⟩ | ⟨x,t,rfl,rfl⟩
  ·rcases keyIs_shape hb with ⟨j,u,rfl,e⟩ | ⟨y,u,rfl,e⟩
   ·injection e with e1 _;rw[e1]
   ·exact nomatch e
  ·rcases keyIs_shape hb with ⟨j,u,rfl,e⟩ | ⟨y,u,rfl,e⟩
   ·exact nomatch e
   ·injection e with e1 _;rw[e1]
 byValue:=fun k v h=>by
  rcases keyIs_shape h with ⟨i,t,rfl,rfl⟩ | ⟨x,t,rfl,rfl⟩ <;>rfl
 pyHash:=fun hv h=>by
  rcases keyIs_shape hv with ⟨i,t,rfl,rfl⟩ | ⟨x,t,rfl,rfl⟩
  ·exact wpAny_pyHash_int h
  ·exact wpAny_pyHash_str h
 eqBool:=fun hu hv h=>by
  rcases keyIs_shape hu with ⟨i,t,rfl,rfl⟩ | ⟨x,t,rfl,rfl⟩
  ·rcases keyIs_shape hv with ⟨j,u,rfl,rfl⟩ | ⟨y,u,rfl,rfl⟩
   ·rw[key_ll] at h;exact wpAny_eqBool_int h
   ·rw[key_lr] at h;exact SeqAt.EqAt.int_str i t y u _ _ _ _ h
  ·rcases keyIs_shape hv with ⟨j,u,rfl,rfl⟩ | ⟨y,u,rfl,rfl⟩
   ·rw[key_rl] at h;exact SeqAt.EqAt.str_int x t j u _ _ _ _ h
   ·rw[key_rr] at h;exact wpAny_eqBool_str h
 «strs»:=fun k x t v h=>by
  rcases keyIs_shape h with ⟨i,u,rfl,e⟩ | ⟨y,u,rfl,e⟩
  ·exact nomatch e
  ·injection e with e1 _
   subst e1
   cases v <;>rfl
theorem mixKind_int (prog:Program) (w:World) (i:Int) (t:Tok):(mixKind prog w).is (.inl i) (.int i t)=true:=keyIs_int i t
theorem mixKind_str (prog:Program) (w:World) (x:Str) (t:Tok):(mixKind prog w).is (.inr x) (.str x t)=true:=keyIs_str x t
end L2
namespace L2
open PySem PySem.Spec PyProof.Rows
inductive V where
 | non | bl (b:Bool) | int (i:Int) | str (x:Str) | byt (b:Array UInt8) | flt (b:UInt64) | ref (a:Addr) | ty (n:String)
 deriving DecidableEq
noncomputable def RelV:V→Value→Prop
 | .non,u=>u=Value.none
 | .bl b,u=>u=Value.bool b
 | .int i,u=>∃t,u=Value.int i t
 | .str x,u=>∃t,u=Value.str x t
 | .byt b,u=>∃t,u=Value.bytes b t
 | .flt b,u=>∃t,u=Value.float b t
 | .ref a,u=>u=Value.ref a
 | .ty n,u=>u=Value.type n
abbrev Vals:List V→List Value→Prop:=Paired RelV
theorem Vals.length {xs:List V} {us:List Value} (r:Vals xs us):xs.length=us.length:=Paired.length r
theorem Vals.get:∀{xs:List V} {us:List Value} {i:Nat} {x:V},Vals xs us→xs[i]?=some x→∃u,us[i]?=some u∧RelV x u
 | _,_,_,_,.nil,e=>by simp at e
 | _,_,0,_,.cons r _,e=>by simp at e;subst e;exact⟨_,rfl,r⟩
 | _,_,i+1,x,.cons _ t,e=>by
  obtain⟨u,h1,h2⟩:=Vals.get (i:=i) (x:=x) t (by simpa using e)
  exact⟨u,by simpa using h1,h2⟩
theorem Vals.set {x:V} {u:Value} (r:RelV x u):∀{xs:List V} {us:List Value} (i:Nat),Vals xs us→Vals (xs.set i x) (us.set i u)
 | _,_,_,.nil=>.nil
 | _,_,0,.cons _ t=>.cons r t
 | _,_,i+1,.cons q t=>.cons q (Vals.set r i t)
theorem Vals.append:∀{xs ys:List V} {us ws:List Value},Vals xs us→Vals ys ws→Vals (xs++ys) (us++ws)
 | _,_,_,_,.nil,s=>s
 | _,_,_,_,.cons r t,s=>.cons r (Vals.append t s)
theorem Vals.take:∀{xs:List V} {us:List Value} (n:Nat),Vals xs us→Vals (xs.take n) (us.take n)
 | _,_,0,_=>.nil
 | _,_,_+1,.nil=>.nil
 | _,_,n+1,.cons r t=>.cons r (Vals.take n t)
theorem Vals.drop:∀{xs:List V} {us:List Value} (n:Nat),Vals xs us→Vals (xs.drop n) (us.drop n)
 | _,_,0,r=>r
 | _,_,_+1,.nil=>.nil
 | _,_,n+1,.cons _ t=>Vals.drop n t
noncomputable def RelO:Option V→Option Value→Prop
 | some v,some u=>RelV v u
 | none,none=>True
 | _,_=>False
noncomputable def KV {κ:Type}:List (κ×V)→List (κ×Value)→Prop:=Paired fun(p:κ×V) (q:κ×Value)=>p.1=q.1∧RelV p.2 q.2
noncomputable def kV:Key→V
 | .inl i=>.int i
 | .inr x=>.str x
inductive HO where
 | lst (xs:List V)
 | tup (xs:List V)
 | dK (kvs:List (Key×V)) | dT (kvs:List (List Key×V))
 | set (S:Int→Bool) (n:Nat)
 | ins (C dx:Addr) (fs:List (Str×V))
 | own (x:Addr)
 | xd (fs:List (Str×V))
 | met (f x:Addr)
 | rng (lo hi:Int)
 | frz (o:Obj) (u:HO)
 | tbl (ps:Array Value)
 | ext (φ:Heap→Prop)
abbrev Hp:=Addr→Option HO
noncomputable def upd (H:Hp) (a:Addr) (o:HO):Hp:=fun b=>if b=a then some o else H b
theorem upd_same {H:Hp} {a:Addr} {o:HO}:upd H a o a=some o:=by unfold upd;rw[if_pos rfl]
theorem upd_ne {H:Hp} {a b:Addr} {o:HO} (h:b≠a):upd H a o b=H b:=by unfold upd;rw[if_neg h]
theorem upd_upd {H:Hp} {a:Addr} {o u:HO}:upd (upd H a o) a u=upd H a u:=by
 funext b;unfold upd;split <;>rfl
theorem ne_of {H:Hp} {a b:Addr} {o u:HO} (h:H a=some o) (h':H b=some u) (d:o≠u):a≠b:=by
 intro e;subst e;rw[h] at h';exact d (Option.some.inj h')
theorem ne_of_none {H:Hp} {a b:Addr} {o:HO} (h:H a=some o) (h':H b=none):a≠b:=by
 intro e;subst e;rw[h] at h';cases h'
noncomputable def TabAt (H:Hp) (h:Heap) (a:Addr) (ps:Array Value):Prop:=∃mo:Array Value,h.get? a=some {cls:=.none,data:=.fields mo}∧
 (mo=#[]∨∃(l c:Value) (c1:Addr) (q:Str) (t:Tok),ps=#[l,c,.str q t]∧mo=#[l,c,.ref c1]∧H c1=some (.own a)∧h.CodeRec (.ref c1) q)
section
variable (P : Program) (w : World)
noncomputable def ObjOk (H:Hp) (h:Heap) (a:Addr):HO→Prop
 | .lst xs=>xs.length≤sizeLine∧∃(its:List Value) (n:Nat),Vals xs its∧h.get? a=some {cls:=.type "list",data:=.seq its.toArray n}
 | .tup xs=>xs.length≤sizeLine∧∃its:List Value,Vals xs its∧IsTup h a its.toArray
 | .dK kvs=>kvs.length≤sizeLine∧(a==sysModules)=false∧∃vs,KV kvs vs∧h.DictOf (mixKind P w) a vs
 | .dT kvs=>kvs.length≤sizeLine∧(a==sysModules)=false∧∃xs:List (List Key×Addr×Value),
   Paired (fun(p:List Key×V) (q:List Key×Addr×Value)=>p.1=q.1∧H q.2.1=some (.tup (p.1.map kV))∧RelV p.2 q.2.2) kvs xs∧
   ∃o es ep,h.get? a=some o∧o.ExactDict∧o.data=.dict es ep∧es.toList=xs.map (entryOfKey (tupleKind (mixKind P w)))∧(xs.map (·.1)).Nodup
 | .set S n=>h.SetOf (intKind P w) a S n
 | .ins C dx fs=>H dx=some (.own a)∧fs.length≤1000∧dx≠a∧h.get? a=some (PySem.W.instObj C dx)∧
   ∃mA,h.Ns1 dx mA∧(∀f,RelO (fs.lookup f) (mA f))∧PySem.Within mA (fs.map (·.1))
 | .own _=>∃o,h.get? a=some o
 | .xd fs=>∃mA,h.Ns1 a mA∧∀f,RelO (fs.lookup f) (mA f)
 | .rng lo hi=>∃t u v,h.get? a=some {cls:=.type "range",data:=.fields #[.int lo t,.int hi u,.int 1 v]}
 | .frz o u=>h.get? a=some o∧ObjOk H h a u
 | .tbl ps=>TabAt H h a ps
 | .met f x=>h.get? a=some (PySem.W.methodObj (.ref f) (.ref x))
 | .ext φ=>φ h∧(∃o,h.get? a=some o)∧∀h1 h2:Heap,φ h1→(∀o,h1.get? a=some o→h2.get? a=some o)→φ h2
noncomputable def HOk (H:Hp) (h:Heap):Prop:=∀a o,H a=some o→ObjOk P w H h a o
end
section
variable {P : Program} {w : World} {H H' : Hp} {h h' : Heap} {a : Addr} {o : HO}
theorem ObjOk.lt (x:ObjOk P w H h a o):a<h.objs.size:=by
 cases o with
 | lst xs=>obtain⟨_,_,_,_,e⟩:=x;exact Heap.lt_size e
 | tup xs=>obtain⟨_,_,_,p⟩:=x;exact p.lt
 | dK kvs=>obtain⟨_,_,_,_,o,_,_,e,_⟩:=x;exact Heap.lt_size e
 | dT kvs=>obtain⟨_,_,_,_,o,_,_,e,_⟩:=x;exact Heap.lt_size e
 | set S n=>obtain⟨o,_,_,_,e,_⟩:=x;exact Heap.lt_size e
 | ins C dx fs=>obtain⟨_,_,_,e,_⟩:=x;exact Heap.lt_size e
 | own y=>obtain⟨_,e⟩:=x;exact Heap.lt_size e
 | xd fs=>obtain⟨_,⟨_,_,_,e,_⟩,_⟩:=x;exact Heap.lt_size e
 | rng lo hi=>obtain⟨_,_,_,e⟩:=x;exact Heap.lt_size e
 | frz ob u=>obtain⟨e,_⟩:=x;exact Heap.lt_size e
 | tbl ps=>obtain⟨_,e,_⟩:=x;exact Heap.lt_size e
 | met f y=>exact Heap.lt_size (show h.get? a=some _ from x)
 | ext φ=>obtain⟨_,⟨_,e⟩,_⟩:=x;exact Heap.lt_size e
theorem Paired.mapP {α β:Type} {F G:α→β→Prop}:∀{l₁:List α} {l₂:List β},Paired F l₁ l₂→(∀a b,F a b→G a b)→Paired G l₁ l₂
 | _,_,.nil,_=>.nil
 | _,_,.cons r t,f=>.cons (f _ _ r) (Paired.mapP t f)
theorem ObjOk.stay (x:ObjOk P w H h a o) (k:∀b u,(b=a∨H b=some (.own a))→h.get? b=some u→h'.get? b=some u)
  (ho:∀b,H b=some (.own a)→H' b=some (.own a)) (ht:∀b xs,H b=some (.tup xs)→H' b=some (.tup xs)):ObjOk P w H' h' a o:=by
 induction o with
 | lst xs=>obtain⟨z,its,n,r,e⟩:=x;exact⟨z,its,n,r,k _ _ (.inl rfl) e⟩
 | tup xs=>obtain⟨z,its,r,ob,e,c⟩:=x;exact⟨z,its,r,ob,k _ _ (.inl rfl) e,c⟩
 | dK kvs=>obtain⟨z,y,vs,r,ob,es,ep,e,c⟩:=x;exact⟨z,y,vs,r,ob,es,ep,k _ _ (.inl rfl) e,c⟩
 | dT kvs=>
  obtain⟨z,y,xs,r,ob,es,ep,e,c⟩:=x
  exact⟨z,y,xs,Paired.mapP r fun p q z=>⟨z.1,ht _ _ z.2.1,z.2.2⟩,ob,es,ep,k _ _ (.inl rfl) e,c⟩
 | set S n=>obtain⟨ob,es,ep,t,e,c⟩:=x;exact⟨ob,es,ep,t,k _ _ (.inl rfl) e,c⟩
 | ins C dx fs=>
  obtain⟨d,z,ne,e,mA,⟨od,es,ep,e2,c⟩,r⟩:=x
  exact⟨ho _ d,z,ne,k _ _ (.inl rfl) e,mA,⟨od,es,ep,k _ _ (.inr d) e2,c⟩,r⟩
 | own y=>obtain⟨ob,e⟩:=x;exact⟨ob,k _ _ (.inl rfl) e⟩
 | xd fs=>obtain⟨mA,⟨od,es,ep,e,c⟩,r⟩:=x;exact⟨mA,⟨od,es,ep,k _ _ (.inl rfl) e,c⟩,r⟩
 | rng lo hi=>obtain⟨t,u,v,e⟩:=x;exact⟨t,u,v,k _ _ (.inl rfl) e⟩
 | frz ob u ih=>obtain⟨e,q⟩:=x;exact⟨k _ _ (.inl rfl) e,ih q⟩
 | tbl ps=>
  obtain⟨mo,e,q⟩:=x
  refine⟨mo,k _ _ (.inl rfl) e,?_⟩
  rcases q with q | ⟨l,c,c1,qn,t,e1,e2,e3,c2,o2,vs2,t2,f1,f2,f3,f4⟩
  ·exact .inl q
  ·cases f1
   exact .inr ⟨l,c,c1,qn,t,e1,e2,ho _ e3,c1,o2,vs2,t2,rfl,k _ _ (.inr e3) f2,f3,f4⟩
 | met f y=>
  have e:h.get? a=some (PySem.W.methodObj (.ref f) (.ref y)):=x
  show h'.get? a=some (PySem.W.methodObj (.ref f) (.ref y))
  exact k a _ (.inl rfl) e
 | ext φ=>obtain⟨p,⟨o,e⟩,st⟩:=x;exact⟨st _ _ p fun o q=>k _ _ (.inl rfl) q,⟨o,k _ _ (.inl rfl) e⟩,st⟩
theorem HOk.lt (x:HOk P w H h) (e:H a=some o):a<h.objs.size:=(x a o e).lt
theorem HOk.fresh (x:HOk P w H h) (e:h.objs.size≤a):H a=none:=by
 cases q:H a with
 | none=>rfl
 | some u=>exact absurd (Nat.lt_of_lt_of_le (x.lt q) e) (Nat.lt_irrefl _)
theorem HOk.kept (x:HOk P w H h) (k:∀b u,h.get? b=some u→h'.get? b=some u):HOk P w H h':=fun a o e=>
 (x a o e).stay (fun b u _ q=>k b u q) (fun _ q=>q) fun _ _ q=>q
theorem HOk.laid (x:HOk P w H h) (k:∀b u,h.get? b=some u→h'.get? b=some u) (hp:h.objs.size≤a) (new:ObjOk P w (upd H a o) h' a o):HOk P w (upd H a o) h':=fun b u e=>by
 have hn:=x.fresh hp
 by_cases hb:b=a
 ·subst hb;rw[upd_same] at e;cases e;exact new
 ·rw[upd_ne hb] at e
  exact(x b u e).stay (fun c v _ q=>k c v q) (fun c q=>by rw[upd_ne (ne_of_none q hn)];exact q) fun c xs q=>by rw[upd_ne (ne_of_none q hn)];exact q
end
noncomputable def Rd (H:Hp) (a:Addr) (u:HO):Prop:=H a=some u∨∃o,H a=some (.frz o u)
theorem Rd.ok {P:Program} {w:World} {H:Hp} {h:Heap} {a:Addr} {u:HO} (r:Rd H a u) (x:HOk P w H h):ObjOk P w H h a u:=by
 rcases r with r | ⟨o,r⟩
 ·exact x a u r
 ·obtain⟨_,q⟩:=x a _ r
  exact q
noncomputable def Mut:Option HO→Prop
 | some (.lst _)=>True
 | some (.dK _)=>True
 | some (.dT _)=>True
 | some (.set _ _)=>True
 | some (.ins _ _ _)=>True
 | some (.ext _)=>True
 | _=>False
section
variable {P : Program} {w : World} {H : Hp} {h h' : Heap} {x e : Addr} {o' : HO}
theorem HOk.write (ok:HOk P w H h) (mu:Mut (H x)) (he:e=x∨H e=some (.own x)) (k:∀b u,b≠e→h.get? b=some u→h'.get? b=some u) (heo:∃u,h'.get? e=some u)
  (new:ObjOk P w (upd H x o') h' x o'):HOk P w (upd H x o') h':=fun b u q=>by
 have nown:∀c y,H c=some (.own y)→c≠x:=fun c y r z=>by subst z;rw[r] at mu;exact mu
 have ntup:∀c xs,H c=some (.tup xs)→c≠x:=fun c xs r z=>by subst z;rw[r] at mu;exact mu
 by_cases hb:b=x
 ·subst hb;rw[upd_same] at q;cases q;exact new
 ·rw[upd_ne hb] at q
  by_cases hbe:b=e
  ·have q':H b=some (.own x):=by
    rcases he with z | z
    ·exact absurd (hbe.trans z) hb
    ·rw[hbe];exact z
   rw[q] at q';cases q'
   obtain⟨v,hv⟩:=heo
   exact⟨v,by rw[hbe];exact hv⟩
  ·refine(ok b u q).stay (fun c v hc r=>k c v ?_ r) (fun c r=>by rw[upd_ne (nown c b r)];exact r) fun c xs r=>by rw[upd_ne (ntup c xs r)];exact r
   rcases hc with rfl | hc
   ·exact hbe
   ·rintro rfl
    rcases he with z | z
    ·exact nown c b hc z
    ·rw[hc] at z;cases z;exact hb rfl
end
structure Un (fs ex:List Addr) (H H':Hp) (h h':Heap):Prop where
 keep:∀b o,h.get? b=some o→H b=none→b∉fs→b∉ex→h'.get? b=some o
 slot:∀b o,h.get? b=some o→H b=none→b∈fs→b∉ex→∃sl,h'.get? b=some {o with slots:=sl}
 free:∀b o,h.get? b=some o→H b=none→b∉ex→H' b=none
 there:∀b o,h.get? b=some o→b∉ex→∃o',h'.get? b=some o'
 tups:∀b xs,H b=some (.tup xs)→H' b=some (.tup xs)
 frzs:∀b o u,H b=some (.frz o u)→H' b=some (.frz o u)
 tbls:∀b ps,H b=some (.tbl ps)→∃more,H' b=some (.tbl (ps++more))
section
variable {fs fs' ex ex' : List Addr} {H H1 H2 : Hp} {h h1 h2 h' : Heap} {a x e : Addr} {o : HO}
theorem Un.any (u:Un fs ex H H1 h h1) {b:Addr} {ob:Obj} (q:h.get? b=some ob) (n:H b=none) (hx:b∉ex):∃sl,h1.get? b=some {ob with slots:=sl}:=by
 by_cases hb:b∈fs
 ·exact u.slot b ob q n hb hx
 ·exact⟨ob.slots,u.keep b ob q n hb hx⟩
theorem Un.kept (k:∀b u,h.get? b=some u→h'.get? b=some u):Un fs ex H H h h':=
 ⟨fun b ob q _ _ _=>k b ob q,fun b ob q _ _ _=>⟨ob.slots,k b ob q⟩,fun _ _ _ n _=>n,fun b ob q _=>⟨ob,k b ob q⟩,fun _ _ q=>q,fun _ _ _ q=>q,fun _ ps q=>⟨#[],by rw[q];simp⟩⟩
theorem Un.refl:Un fs ex H H h h:=Un.kept fun _ _ q=>q
theorem Un.laid (k:∀b u,h.get? b=some u→h'.get? b=some u) (hp:h.objs.size≤a) (hn:H a=none):Un fs ex H (upd H a o) h h' where
 keep:=fun b u q _ _ _=>k b u q
 slot:=fun b u q _ _ _=>⟨u.slots,k b u q⟩
 free:=fun b u q n _=>by rw[upd_ne (Nat.ne_of_lt (Nat.lt_of_lt_of_le (Heap.lt_size q) hp))];exact n
 there:=fun b u q _=>⟨u,k b u q⟩
 tups:=fun b xs q=>by rw[upd_ne (ne_of_none q hn)];exact q
 frzs:=fun b u xs q=>by rw[upd_ne (ne_of_none q hn)];exact q
 tbls:=fun b ps q=>⟨#[],by rw[upd_ne (ne_of_none q hn),q];simp⟩
theorem Un.write (mu:Mut (H x)) (he:e=x∨H e=some (.own x)) (k:∀b u,b≠e→h.get? b=some u→h'.get? b=some u) (heo:∃u,h'.get? e=some u):Un fs ex H (upd H x o) h h':=by
 have hx:∀b,H b=none→b≠x:=fun b n z=>by subst z;rw[n] at mu;exact mu
 have hb:∀b,H b=none→b≠e:=fun b n z=>by
  subst z
  rcases he with r | r
  ·exact hx b n r
  ·rw[n] at r;cases r
 have hm:∀b u,H b=some u→¬Mut (some u)→b≠x:=fun b u q nm z=>by subst z;rw[q] at mu;exact nm mu
 refine⟨fun b u q n _ _=>k b u (hb b n) q,fun b u q n _ _=>⟨u.slots,k b u (hb b n) q⟩,fun b u q n _=>by rw[upd_ne (hx b n)];exact n,fun b u q _=>?_,
  fun b xs q=>by rw[upd_ne (hm b _ q fun z=>z)];exact q,fun b u xs q=>by rw[upd_ne (hm b _ q fun z=>z)];exact q,fun b ps q=>⟨#[],by rw[upd_ne (hm b _ q fun z=>z),q];simp⟩⟩
 by_cases hbe:b=e
 ·subst hbe;exact heo
 ·exact⟨u,k b u hbe q⟩
end
noncomputable def trk (h:Heap) (H:Hp):List Addr:=(List.range h.objs.size).filter fun a=>(H a).isSome
noncomputable def hidT (h:Heap) (H:Hp):Heap:=PySem.W.hideAll h (trk h H)
theorem hidT_size (h:Heap) (H:Hp):(hidT h H).objs.size=h.objs.size:=PySem.W.hideAll_size _ _
theorem hidT_get {h:Heap} {H:Hp} {b:Addr} {o:Obj} (e:h.get? b=some o) (n:H b=none):(hidT h H).get? b=some o:=
 PySem.W.hideAll_get _ e fun hm=>by
  have q:(H b).isSome=true:=(List.mem_filter.mp hm).2
  rw[n] at q;simp at q
theorem of_hidT {h:Heap} {H:Hp} {b:Addr} {o:Obj} (e:(hidT h H).get? b=some o):h.get? b=some o∧H b=none:=by
 have e':h.get? b=some o:=PySem.W.of_hideAll (trk h H) e
 refine⟨e',?_⟩
 cases q:H b with
 | none=>rfl
 | some x=>
  have hm:b∈trk h H:=List.mem_filter.mpr ⟨List.mem_range.mpr (Heap.lt_size e'),by simp [q]⟩
  have z:(hidT h H).get? b=none:=PySem.W.hideAll_none (trk h H) hm
  rw[z] at e;cases e
noncomputable def allNews (g h:Heap) (L:Addr):List (Addr×Obj):=(List.range h.objs.size).filterMap fun a=>if a=L∨(g.get? a).isSome=true then none else (h.get? a).map fun o=>(a,o)
noncomputable def rest (g h:Heap) (L d:Addr):List (Addr×Obj):=(allNews g h L).filter fun p=>decide (p.1≠d)
end L2
namespace L2
open PySem PySem.Spec PyProof.Rows
structure Mod (K:PySem.W.Frag) (mg:Str→Option Value) (base:Heap):Prop where
 kin:K.In base
 glob:base.Ns mainGlobals mg
 blt:∃mb,base.Ns builtinsNs mb∧∀x:Str,x≠"__name__"→mb x=bootBuiltins x
 nolimit:base.NoLimit
structure Cx where
 prog:Program
 w:World
 K:PySem.W.Frag
 mg:Str→Option Value
 base:Heap
 A:Around
 N:List Str
 s₀:Shared
 H₀:Hp
 env:Env
 outer:List Env
 stack:List Env
 ex:List Addr
 fn:Str→Bool
 calm:Bool
 pn:List (Addr×Obj)
 xe:Value→Shared→Prop
def frs (l:List Env):List Addr:=l.filterMap (·.frame)
abbrev Cx.fs (X:Cx):List Addr:=frs X.outer
noncomputable def Vis (sc:Scope) (x:Str):Prop:=sc.names.lookup x=some .local∨sc.names.lookup x=some .cell∨sc.names.lookup x=some .free
noncomputable def Loc (sc:Scope) (x:Str):Prop:=sc.names.lookup x=some .local∨sc.names.lookup x=some .cell
noncomputable def Look (env:Env) (h:Heap) (m:Str→Option Value) (x:Str) (u:Value):Prop:=
 (env.kindOf x=some .local∧m x=some u)∨((env.kindOf x=some .cell∨env.kindOf x=some .free)∧∃c,env.cells.lookup x=some c∧h.IsCell c (some u))
structure Cx.Ok (X:Cx):Prop where
 mod:Mod X.K X.mg X.base
 kind:X.env.scope.kind=.function
 glob:X.env.globals=mainGlobals
 blt:X.env.builtins=builtinsNs
 above:X.s₀.heap.objs.size≤X.env.locals
 inj:∀x y c,X.env.cells.lookup x=some c→X.env.cells.lookup y=some c→x=y
 has:∀x,(X.env.kindOf x=some .cell∨X.env.kindOf x=some .free)→∃c,X.env.cells.lookup x=some c
 cab:∀x c,X.fn x=true→X.env.cells.lookup x=some c→X.s₀.heap.objs.size≤c
 hd:X.calm=true→X.A.handled=none
 frames:X.A.frames=some X.stack
 stk:X.stack=X.outer∨(X.stack=X.env::X.outer∧X.env.frame=some X.env.locals)
 exf:∀b∈X.ex,b≠X.env.locals∧∀x c,X.env.cells.lookup x=some c→c≠b
 bs:∀b o,X.base.get? b=some o→X.s₀.heap.get? b=some o∧X.H₀ b=none
 bsz:X.base.objs.size≤X.s₀.heap.objs.size
 noex:∀b o,X.base.get? b=some o→b∉X.ex
 exfs:∀b∈X.ex,b∉X.fs
 funs:X.s₀.heap.FunFrames X.base X.outer
 frf:∀b∈X.fs,X.H₀ b=none
structure Inv (X:Cx) (pins:List (Addr×Obj)) (σ:List (Option V)) (H:Hp) (s:Shared):Prop where
 ok:X.Ok
 os:s.os=X.s₀.os
 bare:AllBare s.gens
 base:Un X.fs X.ex X.H₀ H X.s₀.heap s.heap
 loc:∃m,s.heap.Ns X.env.locals m∧∀(i:Nat) (x:Str) (v:V),X.N[i]?=some x→σ[i]?=some (some v)→Vis X.env.scope x→∃u,RelV v u∧Look X.env s.heap m x u
 cell:∀x c,X.env.cells.lookup x=some c→∃v,s.heap.IsCell c v
 free:H X.env.locals=none
 freeC:∀x c,X.env.cells.lookup x=some c→H c=none
 pin:∀p∈X.pn++pins,s.heap.get? p.1=some p.2∧H p.1=none∧p.1≠X.env.locals∧p.1∉X.fs∧∀v,p.2.data≠.cell v
 hok:HOk X.prog X.w H s.heap
 len:σ.length=X.N.length
section
variable {X : Cx} {pins : List (Addr × Obj)} {σ : List (Option V)} {H H' : Hp} {s : Shared} {h' : Heap}
theorem Cx.Ok.nofr (ok:X.Ok) {b:Addr} {o:Obj} (e:X.base.get? b=some o):b∉X.fs:=fun hb=>by
 have:=(ok.funs.mem hb).1
 rw[e] at this;cases this
theorem Inv.bs (I:Inv X pins σ H s):∀b o,X.base.get? b=some o→s.heap.get? b=some o∧H b=none:=fun b o e=>
 ⟨I.base.keep b o (I.ok.bs b o e).1 (I.ok.bs b o e).2 (I.ok.nofr e) (I.ok.noex b o e),I.base.free b o (I.ok.bs b o e).1 (I.ok.bs b o e).2 (I.ok.noex b o e)⟩
theorem Inv.bk (I:Inv X pins σ H s):∀b o,X.base.get? b=some o→s.heap.get? b=some o:=fun b o e=>(I.bs b o e).1
theorem Inv.mod (I:Inv X pins σ H s):Mod X.K X.mg X.base:=I.ok.mod
theorem Inv.kIn (I:Inv X pins σ H s):X.K.In s.heap:=I.ok.mod.kin.keeps I.bk
theorem Inv.lt (I:Inv X pins σ H s):X.env.locals<s.heap.objs.size:=let ⟨_,hn,_⟩:=I.loc;hn.lt
theorem Inv.sz (I:Inv X pins σ H s):X.s₀.heap.objs.size≤s.heap.objs.size:=Nat.le_trans I.ok.above (Nat.le_of_lt I.lt)
theorem Inv.nofs (I:Inv X pins σ H s) {a:Addr} (h:s.heap.objs.size≤a):a∉X.fs:=fun hb=>by
 obtain⟨_,o,ho,_⟩:=I.ok.funs.mem hb
 exact absurd (Nat.lt_of_lt_of_le (Heap.lt_size ho) (Nat.le_trans I.sz h)) (Nat.lt_irrefl _)
theorem Inv.cne (I:Inv X pins σ H s):∀x c,X.env.cells.lookup x=some c→c≠X.env.locals:=fun x c e z=>by
 obtain⟨v,o,ho,hd⟩:=I.cell x c e
 obtain⟨m,⟨o',es,ep,ho',hd',_⟩,_⟩:=I.loc
 rw[z,ho'] at ho;cases ho;rw[hd'] at hd;cases hd
theorem Inv.funs (I:Inv X pins σ H s):s.heap.FunFrames X.base X.outer:=by
 have all:∀(l:List Env),(∀b∈frs l,b∈X.fs)→X.s₀.heap.FunFrames X.base l→s.heap.FunFrames X.base l:=by
  intro l
  induction l with
  | nil=>intro _ _;trivial
  | cons env r ih=>
   intro hs hl
   obtain⟨hk,⟨L,o,hf,hn,ho,hd⟩,hr⟩:=hl
   have hL:L∈X.fs:=hs L (by unfold frs;rw[List.filterMap_cons,hf];exact List.mem_cons_self)
   obtain⟨sl,e⟩:=I.base.slot L o ho (I.ok.frf L hL) hL fun z=>I.ok.exfs L z hL
   exact⟨hk,⟨L,_,hf,hn,e,hd⟩,ih (fun b hb=>hs b (by unfold frs;rw[List.filterMap_cons,hf];exact List.mem_cons_of_mem _ hb)) hr⟩
 exact all X.outer (fun _ hb=>hb) I.ok.funs
theorem Inv.stack (I:Inv X pins σ H s):s.heap.FunFrames X.base X.stack:=by
 rcases I.ok.stk with e | ⟨e,hf⟩
 ·rw[e];exact I.funs
 ·rw[e]
  obtain⟨m,hn,_⟩:=I.loc
  refine .cons (by rw[I.ok.kind];decide) hf hn ?_ I.funs
  exact Heap.get?_none_of_le (Nat.le_trans I.ok.bsz I.ok.above)
theorem Inv.stkSub (I:Inv X pins σ H s):∀b∈frs X.stack,b∈X.env.locals::X.fs:=fun b hb=>by
 rcases I.ok.stk with e | ⟨e,hf⟩
 ·rw[e] at hb;exact List.mem_cons_of_mem _ hb
 ·rw[e] at hb
  unfold frs at hb
  rw[List.filterMap_cons,hf] at hb
  exact hb
theorem Inv.stkFree (I:Inv X pins σ H s):∀b∈frs X.stack,H b=none:=fun b hb=>by
 rcases List.mem_cons.mp (I.stkSub b hb) with e | hb
 ·rw[e];exact I.free
 ·obtain⟨_,o,ho,_⟩:=I.ok.funs.mem hb
  exact I.base.free b o ho (I.ok.frf b hb) fun z=>I.ok.exfs b z hb
theorem Inv.step {g':Array GenState} {t':Nat} {d':Drawn} {ch:List Addr} (I:Inv X pins σ H s)
  (hch:∀b∈ch,(b∈X.ex∨X.s₀.heap.objs.size≤b)∧b≠X.env.locals∧(∀x c,X.env.cells.lookup x=some c→c≠b)∧∀p∈X.pn++pins,p.1≠b)
  (keep:∀b o,b≠X.env.locals→b∉X.fs→b∉ch→s.heap.get? b=some o→H b=none→h'.get? b=some o)
  (slot:∀b o,b≠X.env.locals→b∈X.fs→b∉ch→s.heap.get? b=some o→H b=none→∃sl,h'.get? b=some {o with slots:=sl}) (free:∀b o,b∉ch→s.heap.get? b=some o→H b=none→H' b=none)
  (there:∀b o,b∉ch→s.heap.get? b=some o→∃o',h'.get? b=some o')
  (tups:∀b xs,H b=some (.tup xs)→H' b=some (.tup xs)) (frzs:∀b o u,H b=some (.frz o u)→H' b=some (.frz o u)) (tbls:∀b ps,H b=some (.tbl ps)→∃more,H' b=some (.tbl (ps++more)))
  (ns:∀m,s.heap.Ns X.env.locals m→h'.Ns X.env.locals m) (hok:HOk X.prog X.w H' h') (hg:AllBare g'):
  Inv X pins σ H' {s with heap:=h',gens:=g',drawn:=d',toks:=t'}:=by
 have neL:∀b o,X.s₀.heap.get? b=some o→b≠X.env.locals:=fun b o e=>Nat.ne_of_lt (Nat.lt_of_lt_of_le (Heap.lt_size e) I.ok.above)
 have neC:∀b o,X.s₀.heap.get? b=some o→b∉X.ex→b∉ch:=fun b o e hx hb=>by
  rcases(hch b hb).1 with z | z
  ·exact hx z
  ·exact absurd (Nat.lt_of_lt_of_le (Heap.lt_size e) z) (Nat.lt_irrefl _)
 have cellK:∀x c,X.env.cells.lookup x=some c→∀v,s.heap.IsCell c v→h'.IsCell c v:=fun x c e v ⟨o,ho,hd⟩=>by
  have nch:c∉ch:=fun z=>(hch c z).2.2.1 x c e rfl
  by_cases hc:c∈X.fs
  ·obtain⟨sl,q⟩:=slot c o (I.cne x c e) hc nch ho (I.freeC x c e)
   exact⟨_,q,hd⟩
  ·exact⟨o,keep c o (I.cne x c e) hc nch ho (I.freeC x c e),hd⟩
 refine⟨I.ok,I.os,hg,⟨fun b o e n hb hx=>?_,fun b o e n hb hx=>?_,fun b o e n hx=>?_,fun b o e hx=>?_,fun b xs e=>tups b xs (I.base.tups b xs e),fun b o xs e=>frzs b o xs (I.base.frzs b o xs e),fun b ps e=>?_⟩,?_,fun x c e=>?_,?_,fun x c e=>?_,fun p hp=>?_,hok,I.len⟩
 ·exact keep b o (neL b o e) hb (neC b o e hx) (I.base.keep b o e n hb hx) (I.base.free b o e n hx)
 ·obtain⟨sl,e1⟩:=I.base.slot b o e n hb hx
  obtain⟨sl',e2⟩:=slot b _ (neL b o e) hb (neC b o e hx) e1 (I.base.free b o e n hx)
  exact⟨sl',e2⟩
 ·obtain⟨o',e1⟩:=I.base.there b o e hx
  exact free b o' (neC b o e hx) e1 (I.base.free b o e n hx)
 ·obtain⟨o',e1⟩:=I.base.there b o e hx
  exact there b o' (neC b o e hx) e1
 ·obtain⟨m1,e1⟩:=I.base.tbls b ps e
  obtain⟨m2,e2⟩:=tbls b _ e1
  exact⟨m1++m2,by rw[e2,Array.append_assoc]⟩
 ·obtain⟨m,hn,hl⟩:=I.loc
  refine⟨m,ns m hn,fun i x v e1 e2 e3=>?_⟩
  obtain⟨u,r,l⟩:=hl i x v e1 e2 e3
  refine⟨u,r,?_⟩
  rcases l with l | ⟨k,c,e,z⟩
  ·exact .inl l
  ·exact .inr ⟨k,c,e,cellK x c e _ z⟩
 ·obtain⟨v,z⟩:=I.cell x c e
  exact⟨v,cellK x c e v z⟩
 ·obtain⟨m,⟨o,_,_,ho,_⟩,_⟩:=I.loc
  exact free _ o (fun z=>(hch _ z).2.1 rfl) ho I.free
 ·obtain⟨v,o,ho,hd⟩:=I.cell x c e
  exact free c o (fun z=>(hch c z).2.2.1 x c e rfl) ho (I.freeC x c e)
 ·obtain⟨e,n,ne,nf,d⟩:=I.pin p hp
  have nch:p.1∉ch:=fun z=>(hch p.1 z).2.2.2 p hp rfl
  exact⟨keep p.1 p.2 ne nf nch e n,free p.1 p.2 nch e n,ne,nf,d⟩
theorem Inv.un {t':Nat} (I:Inv X pins σ H s) (u:Un X.fs [] H H' s.heap h') (hok:HOk X.prog X.w H' h'):Inv X pins σ H' {s with heap:=h',toks:=t'}:=by
 obtain⟨m,⟨o,es,ep,ho,r⟩,_⟩:=id I.loc
 obtain⟨sl,hL⟩:=u.any ho I.free (by simp)
 exact I.step (g':=s.gens) (d':=s.drawn) (ch:=[]) (fun _ z=>nomatch z) (fun b o _ hb _ e n=>u.keep b o e n hb (by simp)) (fun b o _ hb _ e n=>u.slot b o e n hb (by simp)) (fun b o _ e n=>u.free b o e n (by simp)) (fun b o _ e=>u.there b o e (by simp)) u.tups u.frzs u.tbls (fun m' hm=>by
  obtain⟨o',es',ep',ho',r'⟩:=hm
  rw[ho] at ho';cases ho'
  exact⟨_,es',ep',hL,r'⟩) hok I.bare
theorem Inv.call {g':Array GenState} {t':Nat} {d':Drawn} {ch:List Addr} (I:Inv X pins σ H s) (u:Un (frs X.stack) ch H H' s.heap h') (hok:HOk X.prog X.w H' h') (hg:AllBare g')
  (hch:∀b∈ch,(b∈X.ex∨X.s₀.heap.objs.size≤b)∧b≠X.env.locals∧(∀x c,X.env.cells.lookup x=some c→c≠b)∧∀p∈X.pn++pins,p.1≠b):
  Inv X pins σ H' {s with heap:=h',gens:=g',drawn:=d',toks:=t'}:=by
 obtain⟨m,⟨o,es,ep,ho,r⟩,_⟩:=id I.loc
 obtain⟨sl,hL⟩:=u.any ho I.free fun z=>(hch _ z).2.1 rfl
 exact I.step (ch:=ch) hch (fun b o hL hb hc e n=>u.keep b o e n (fun z=>(List.mem_cons.mp (I.stkSub b z)).elim hL hb) hc) (fun b o _ _ hc e n=>u.any e n hc) (fun b o hc e n=>u.free b o e n hc) (fun b o hc e=>u.there b o e hc) u.tups u.frzs u.tbls (fun m' hm=>by
  obtain⟨o',es',ep',ho',r'⟩:=hm
  rw[ho] at ho';cases ho'
  exact⟨_,es',ep',hL,r'⟩) hok hg
theorem Inv.turned {t':Nat} {it:Addr} (I:Inv X pins σ H s) (k:∀b o,b≠it→s.heap.get? b=some o→h'.get? b=some o) (hn:H it=none) (hL:it≠X.env.locals)
  (h1:it∈X.ex∨X.s₀.heap.objs.size≤it) (h2:∀x c,X.env.cells.lookup x=some c→c≠it) (h3:∀p∈X.pn++pins,p.1≠it):Inv X pins σ H {s with heap:=h',toks:=t'}:=by
 have nit:∀b u,H b=some u→b≠it:=fun b u e z=>by rw[z,hn] at e;cases e
 refine I.step (g':=s.gens) (d':=s.drawn) (ch:=[it]) (fun b hb=>?_) (fun b o _ _ hc e _=>k b o (fun z=>hc (by simp [z])) e) (fun b o _ _ hc e _=>⟨o.slots,k b o (fun z=>hc (by simp [z])) e⟩) (fun _ _ _ _ n=>n)
  (fun b o hc e=>⟨o,k b o (fun z=>hc (by simp [z])) e⟩) (fun _ _ e=>e) (fun _ _ _ e=>e) (fun b ps e=>⟨#[],by rw[e];simp⟩) (fun m hm=>?_) (fun b u e=>?_) I.bare
 ·have e:b=it:=by simpa using hb
  subst e
  exact⟨h1,hL,h2,h3⟩
 ·obtain⟨o,es,ep,ho,r⟩:=hm
  exact⟨o,es,ep,k _ o (Ne.symm hL) ho,r⟩
 ·refine(I.hok b u e).stay (fun c v hc q=>k c v ?_ q) (fun _ q=>q) fun _ _ q=>q
  rcases hc with z | z
  ·rw[z];exact nit b u e
  ·exact nit c _ z
theorem Inv.tok (I:Inv X pins σ H s) (t:Nat):Inv X pins σ H {s with toks:=t}:=I.un (h':=s.heap) (t':=t) Un.refl I.hok
theorem Inv.kept {t':Nat} (I:Inv X pins σ H s) (k:∀b u,s.heap.get? b=some u→h'.get? b=some u):Inv X pins σ H {s with heap:=h',toks:=t'}:=I.un (Un.kept k) (I.hok.kept k)
theorem Inv.laid {a:Addr} {o:HO} {t':Nat} (I:Inv X pins σ H s) (k:∀b u,s.heap.get? b=some u→h'.get? b=some u) (hp:s.heap.objs.size≤a) (new:ObjOk X.prog X.w (upd H a o) h' a o):
  Inv X pins σ (upd H a o) {s with heap:=h',toks:=t'}:=I.un (Un.laid k hp (I.hok.fresh hp)) (I.hok.laid k hp new)
theorem Inv.write {x e:Addr} {o:HO} {t':Nat} (I:Inv X pins σ H s) (mu:Mut (H x)) (he:e=x∨H e=some (.own x)) (k:∀b u,b≠e→s.heap.get? b=some u→h'.get? b=some u) (heo:∃u,h'.get? e=some u)
  (new:ObjOk X.prog X.w (upd H x o) h' x o):Inv X pins σ (upd H x o) {s with heap:=h',toks:=t'}:=I.un (Un.write mu he k heo) (I.hok.write mu he k heo new)
theorem Inv.pins_of {pins':List (Addr×Obj)} (I:Inv X pins σ H s) (h:∀p∈pins',s.heap.get? p.1=some p.2∧H p.1=none∧p.1≠X.env.locals∧p.1∉X.fs∧∀v,p.2.data≠.cell v):Inv X pins' σ H s:=
 ⟨I.ok,I.os,I.bare,I.base,I.loc,I.cell,I.free,I.freeC,fun p hp=>(List.mem_append.mp hp).elim (fun z=>I.pin p (List.mem_append_left _ z)) (h p),I.hok,I.len⟩
theorem nodup_ix {N:List Str} (hN:N.Nodup) {i j:Nat} {x:Str} (a:N[i]?=some x) (b:N[j]?=some x):i=j:=by
 obtain⟨h1,e1⟩:=List.getElem?_eq_some_iff.mp a
 obtain⟨h2,e2⟩:=List.getElem?_eq_some_iff.mp b
 exact(List.getElem_inj hN).mp (e1.trans e2.symm)
theorem store_ok2 {M:Model} {A:Around} {E:Value→Shared→Prop} {i:Nat} {x:Str} {v:V} {u:Value} {Q:Unit→Shared→Prop} (I:Inv X pins σ H s) (hN:X.N.Nodup) (hi:X.N[i]?=some x) (hx:Loc X.env.scope x) (r:RelV v u)
  (h:∀s',Inv X pins (σ.set i (some v)) H s'→(∃a,Heap.SameBut a s.heap s'.heap∧(a=X.env.locals∨X.env.cells.lookup x=some a))→Q () s') (hf:X.fn x=true∨X.env.scope.names.lookup x=some .local:=by first | exact .inl rfl | exact .inr rfl | assumption):wpAny M A (storeName X.env x u) Q E s:=by
 obtain⟨m,hn,hl⟩:=id I.loc
 have hcls:(X.env.scope.kind==.class || (X.env.scope.kind==.module && X.env.locals !=X.env.globals))=false:=by rw[I.ok.kind];rfl
 have hiσ:i<σ.length:=by rw[I.len];exact(List.getElem?_eq_some_iff.mp hi).1
 have cne:=I.cne
 have tracked:∀{a:Addr} {h':Heap},(∃o,s.heap.get? a=some o∧H a=none)→Heap.SameBut a s.heap h'→HOk X.prog X.w H h':=fun {a h'} ha hs b ob e=>by
  obtain⟨_,_,hfree⟩:=ha
  refine(I.hok b ob e).stay (fun c w' hc q=>(hs.2 c ?_).trans q) (fun _ q=>q) fun _ _ q=>q
  rintro rfl
  rcases hc with rfl | hc
  ·rw[hfree] at e;cases e
  ·rw[hfree] at hc;cases hc
 rcases hx with hk | hk
 ·refine wpAny_storeName_local hk hn (fun h' hn' hs=>?_) hcls
  obtain⟨oL,_,_,hoL,_⟩:=id hn
  refine h _ ⟨I.ok,I.os,I.bare,⟨fun b o e n hb hx=>?_,fun b o e n hb hx=>?_,I.base.free,fun b o e hx=>?_,I.base.tups,I.base.frzs,I.base.tbls⟩,⟨_,hn',fun j y v' e1 e2 e3=>?_⟩,fun y c e=>?_,I.free,I.freeC,fun p hp=>?_,tracked ⟨oL,hoL,I.free⟩ hs,by simpa using I.len⟩ ⟨_,hs,.inl rfl⟩
  ·exact(hs.2 b (Nat.ne_of_lt (Nat.lt_of_lt_of_le (Heap.lt_size e) I.ok.above))).trans (I.base.keep b o e n hb hx)
  ·obtain⟨sl,e1⟩:=I.base.slot b o e n hb hx
   exact⟨sl,(hs.2 b (Nat.ne_of_lt (Nat.lt_of_lt_of_le (Heap.lt_size e) I.ok.above))).trans e1⟩
  ·obtain⟨o',e1⟩:=I.base.there b o e hx
   exact⟨o',(hs.2 b (Nat.ne_of_lt (Nat.lt_of_lt_of_le (Heap.lt_size e) I.ok.above))).trans e1⟩
  ·by_cases hj:j=i
   ·subst hj
    rw[hi] at e1;cases e1
    rw[List.getElem?_set_self hiσ] at e2
    cases e2
    exact⟨u,r,.inl ⟨hk,by simp⟩⟩
   ·rw[List.getElem?_set_ne (Ne.symm hj)] at e2
    obtain⟨u',r',q⟩:=hl j y v' e1 e2 e3
    refine⟨u',r',?_⟩
    rcases q with ⟨k,e⟩ | ⟨k,c,e,z⟩
    ·refine .inl ⟨k,?_⟩
     have:y≠x:=fun e=>hj (nodup_ix hN e1 (e▸hi))
     simp [this,e]
    ·exact .inr ⟨k,c,e,z.sameBut hs (cne y c e)⟩
  ·obtain⟨w',z⟩:=I.cell y c e
   exact⟨w',z.sameBut hs (cne y c e)⟩
  ·obtain⟨e,n,ne,nf,d⟩:=I.pin p hp
   exact⟨(hs.2 p.1 ne).trans e,n,ne,nf,d⟩
 ·have hfn:X.fn x=true:=by
   rcases hf with z | z
   ·exact z
   ·rw[z] at hk;cases hk
  obtain⟨c,hc⟩:=I.ok.has x (.inl hk)
  obtain⟨w',z⟩:=I.cell x c hc
  refine wpAny_storeName_cell I.ok.kind hk hc z (fun h' hc' hs=>?_)
  obtain⟨oc,hoc,hocd⟩:=id z
  refine h {s with heap:=h'} ⟨I.ok,I.os,I.bare,⟨fun b o e n hb hx=>?_,fun b o e n hb hx=>?_,I.base.free,fun b o e hx=>?_,I.base.tups,I.base.frzs,I.base.tbls⟩,⟨m,hn.sameBut hs (Ne.symm (cne x c hc)),fun j y v' e1 e2 e3=>?_⟩,fun y c' e=>?_,I.free,I.freeC,fun p hp=>?_,tracked ⟨oc,hoc,I.freeC x c hc⟩ hs,by simpa using I.len⟩ ⟨c,hs,.inr hc⟩
  ·exact(hs.2 b (Nat.ne_of_lt (Nat.lt_of_lt_of_le (Heap.lt_size e) (I.ok.cab x c hfn hc)))).trans (I.base.keep b o e n hb hx)
  ·obtain⟨sl,e1⟩:=I.base.slot b o e n hb hx
   exact⟨sl,(hs.2 b (Nat.ne_of_lt (Nat.lt_of_lt_of_le (Heap.lt_size e) (I.ok.cab x c hfn hc)))).trans e1⟩
  ·obtain⟨o',e1⟩:=I.base.there b o e hx
   exact⟨o',(hs.2 b (Nat.ne_of_lt (Nat.lt_of_lt_of_le (Heap.lt_size e) (I.ok.cab x c hfn hc)))).trans e1⟩
  ·by_cases hj:j=i
   ·subst hj
    rw[hi] at e1;cases e1
    rw[List.getElem?_set_self hiσ] at e2
    cases e2
    exact⟨u,r,.inr ⟨.inl hk,c,hc,hc'⟩⟩
   ·rw[List.getElem?_set_ne (Ne.symm hj)] at e2
    obtain⟨u',r',q⟩:=hl j y v' e1 e2 e3
    refine⟨u',r',?_⟩
    rcases q with q | ⟨k,c',e,z'⟩
    ·exact .inl q
    ·refine .inr ⟨k,c',e,z'.sameBut hs ?_⟩
     rintro rfl
     exact hj (nodup_ix hN e1 (I.ok.inj _ _ _ e hc▸hi))
  ·by_cases hcc:c'=c
   ·subst hcc;exact⟨_,hc'⟩
   ·obtain⟨w2,z2⟩:=I.cell y c' e
    exact⟨w2,z2.sameBut hs hcc⟩
  ·obtain⟨e,n,ne,nf,d⟩:=I.pin p hp
   refine⟨(hs.2 p.1 ?_).trans e,n,ne,nf,d⟩
   intro q
   rw[q,hoc] at e
   have q':oc=p.2:=Option.some.inj e
   exact d w' (by rw[←q'];exact hocd)
theorem store_ok {M:Model} {A:Around} {E:Value→Shared→Prop} {i:Nat} {x:Str} {v:V} {u:Value} {Q:Unit→Shared→Prop} (I:Inv X pins σ H s) (hN:X.N.Nodup) (hi:X.N[i]?=some x) (hx:Loc X.env.scope x) (r:RelV v u)
  (h:∀s',Inv X pins (σ.set i (some v)) H s'→Q () s') (hf:X.fn x=true∨X.env.scope.names.lookup x=some .local:=by first | exact .inl rfl | exact .inr rfl | assumption):wpAny M A (storeName X.env x u) Q E s:=
 store_ok2 I hN hi hx r (fun s' I' _=>h s' I') hf
theorem Inv.call' {s':Shared} {ch:List Addr} (I:Inv X pins σ H s) (ho:s'.os=s.os) (u:Un (frs X.stack) ch H H' s.heap s'.heap) (hok:HOk X.prog X.w H' s'.heap) (hg:AllBare s'.gens)
  (hch:∀b∈ch,(b∈X.ex∨X.s₀.heap.objs.size≤b)∧b≠X.env.locals∧(∀x c,X.env.cells.lookup x=some c→c≠b)∧∀p∈X.pn++pins,p.1≠b):Inv X pins σ H' s':=by
 obtain⟨h',g',d',t',o'⟩:=s'
 have e:o'=s.os:=ho
 subst e
 exact I.call (g':=g') (t':=t') (d':=d') u hok hg hch
end
abbrev XK:=Value→Option Addr→Hp→Prop
abbrev St:=List (Option V)
abbrev VK:=V→Hp→Prop
abbrev TE:=St→Hp→VK→Prop
abbrev TT:=St→Hp→(Bool→Hp→Prop)→Prop
abbrev TA:=St→Hp→(List V→Hp→Prop)→Prop
structure Ends where
 nx:St→Hp→Prop
 rt:VK
 bk:St→Hp→Prop:=fun _ _=>False
 ct:St→Hp→Prop:=fun _ _=>False
abbrev TS:=Ends→St→Hp→Prop
noncomputable def EP (X:Cx) (pins:List (Addr×Obj)) (σ:St) (Q:VK) (u:Value) (s':Shared):Prop:=∃v H',Inv X pins σ H' s'∧RelV v u∧Q v H'
noncomputable def TP (X:Cx) (pins:List (Addr×Obj)) (σ:St) (Q:Bool→Hp→Prop) (b:Bool) (s':Shared):Prop:=∃H',Inv X pins σ H' s'∧Q b H'
noncomputable def AP (X:Cx) (pins:List (Addr×Obj)) (σ:St) (Q:List V→Hp→Prop) (us:List Value) (s':Shared):Prop:=∃vs H',Inv X pins σ H' s'∧Vals vs us∧Q vs H'
noncomputable def SP (X:Cx) (pins:List (Addr×Obj)) (D:Ends) (f:Flow) (s':Shared):Prop:=
 match f with
 | .next=>∃σ' H',Inv X pins σ' H' s'∧D.nx σ' H'
 | .brk=>∃σ' H',Inv X pins σ' H' s'∧D.bk σ' H'
 | .cont=>∃σ' H',Inv X pins σ' H' s'∧D.ct σ' H'
 | .ret u=>∃v σ' H',Inv X pins σ' H' s'∧RelV v u∧D.rt v H'
noncomputable def PE (X:Cx) (e:Expr) (t:TE):Prop:=
 ∀(pins:List (Addr×Obj)) (s:Shared) (σ:St) (H:Hp) (Q:VK),Inv X pins σ H s→t σ H Q→wpAny (model X.prog X.w) X.A (eval e X.env) (EP X pins σ Q) X.xe s
noncomputable def PT (X:Cx) (e:Expr) (t:TT):Prop:=
 ∀(pins:List (Addr×Obj)) (s:Shared) (σ:St) (H:Hp) (Q:Bool→Hp→Prop),Inv X pins σ H s→t σ H Q→wpAny (model X.prog X.w) X.A (isTrue e X.env (eval e X.env)) (TP X pins σ Q) X.xe s
noncomputable def PW (X:Cx) (e:Expr) (t:TT):Prop:=
 ∀(whole:Sem Value) (pins:List (Addr×Obj)) (s:Shared) (σ:St) (H:Hp) (Q:Bool→Hp→Prop),Inv X pins σ H s→t σ H Q→wpAny (model X.prog X.w) X.A (isTrue e X.env whole) (TP X pins σ Q) X.xe s
theorem PW.pt {X:Cx} {e:Expr} {t:TT} (h:PW X e t):PT X e t:=h _
noncomputable def PA (X:Cx) (es:List Expr) (t:TA):Prop:=
 ∀(pos:Pos) (pins:List (Addr×Obj)) (s:Shared) (σ:St) (H:Hp) (Q:List V→Hp→Prop),Inv X pins σ H s→t σ H Q→wpAny (model X.prog X.w) X.A (spliced (backTo pos (starEach es X.env))) (AP X pins σ Q) X.xe s
noncomputable def PS (X:Cx) (st:Stmt) (t:TS):Prop:=
 ∀(pins:List (Addr×Obj)) (s:Shared) (σ:St) (H:Hp) (D:Ends),Inv X pins σ H s→t D σ H→wpAny (model X.prog X.w) X.A (exec st X.env) (SP X pins D) X.xe s
noncomputable def PSs (X:Cx) (st:List Stmt) (t:TS):Prop:=
 ∀(pins:List (Addr×Obj)) (s:Shared) (σ:St) (H:Hp) (D:Ends),Inv X pins σ H s→t D σ H→wpAny (model X.prog X.w) X.A (execs st X.env) (SP X pins D) X.xe s
theorem thn {α:Type} {t:Sem α} {Q Q':α→Shared→Prop} {M:Model} {A:Around} {E:Value→Shared→Prop} {s:Shared} (h:wpAny M A t Q E s) (hQ:∀a s,Q a s→Q' a s):wpAny M A t Q' E s:=wpAny_mono h hQ fun _ _ x=>x
end L2
namespace L2
open PySem PySem.Spec PyProof.Rows
section
variable {X : Cx}
noncomputable def tVar (i:Nat):TE:=fun σ H Q=>∃v,σ[i]?=some (some v)∧Q v H
noncomputable def tC (v:V):TE:=fun _ H Q=>Q v H
theorem pe_var {i:Nat} {x:Str} {pos:Pos} (hN:X.N[i]?=some x) (hv:Vis X.env.scope x) (hd:(x==("__debug__":Str))=false:=by decide) (hcd:(x==("__classdict__":Str))=false:=by decide):PE X (.Name x pos) (tVar i):=by
 intro pins s σ H Q I h
 obtain⟨v,e,h⟩:=h
 obtain⟨m,hn,hl⟩:=I.loc
 obtain⟨u,r,l⟩:=hl i x v hN e hv
 have fin:EP X pins σ Q u s:=⟨v,H,I,r,h⟩
 rcases l with ⟨hk,hm⟩ | ⟨hk,c,hc,hcell⟩
 ·exact wpAny_Name (wpAny_loadName_local I.ok.kind hk hn hm fin) hd
 ·rcases hk with hk | hk
  ·exact wpAny_Name (wpAny_loadName_cell I.ok.kind hk hc hcell fin) hd
  ·exact wpAny_Name (wpAny_loadName_free I.ok.kind hk hc hcell fin hcd) hd
theorem pe_int {i j pos}:PE X (.Constant (.int i) j pos) (tC (.int i)):=fun _ _ _ H _ I h=>wpAny_Constant_int ⟨.int i,H,I.tok _,⟨_,rfl⟩,h⟩
theorem pe_bl {b j pos}:PE X (.Constant (.bool b) j pos) (tC (.bl b)):=fun _ _ _ H _ I h=>Constant_bool ⟨.bl b,H,I,rfl,h⟩
theorem pe_non {j pos}:PE X (.Constant .none j pos) (tC .non):=fun _ _ _ H _ I h=>Constant_none ⟨.non,H,I,rfl,h⟩
theorem pe_str {x j pos}:PE X (.Constant (.str x) j pos) (tC (.str x)):=fun _ _ _ H _ I h=>Calls.Constant_str ⟨.str x,H,I.tok _,⟨_,rfl⟩,h⟩
noncomputable def Gl (X:Cx) (x:Str):Prop:=X.env.kindOf x=some .globalImplicit
theorem ld_glob {E:Value→Shared→Prop} {pins:List (Addr×Obj)} {s:Shared} {σ:St} {H:Hp} {x:Str} {u:Value} {pos:Pos} {Q:Value→Shared→Prop} (I:Inv X pins σ H s) (hg:Gl X x) (hm:X.mg x=some u) (h:Q u s)
  (hd:(x==("__debug__":Str))=false:=by decide):wpAny (model X.prog X.w) X.A (eval (.Name x pos) X.env) Q E s:=
 Calls.Name_function_global I.ok.kind hg (Calls.loadGlobal_global (by rw[I.ok.glob];exact I.mod.glob.keeps I.bk) hm h) hd
theorem ld_blt {E:Value→Shared→Prop} {pins:List (Addr×Obj)} {s:Shared} {σ:St} {H:Hp} {x:Str} {u:Value} {pos:Pos} {Q:Value→Shared→Prop} (I:Inv X pins σ H s) (hg:Gl X x) (hm:X.mg x=none) (hv:bootBuiltins x=some u) (h:Q u s)
  (hn:x≠"__name__":=by decide) (hd:(x==("__debug__":Str))=false:=by decide):wpAny (model X.prog X.w) X.A (eval (.Name x pos) X.env) Q E s:=by
 obtain⟨mb,h1,h2⟩:=I.mod.blt
 exact Calls.Name_function_global I.ok.kind hg (Calls.loadGlobal_builtin (by rw[I.ok.glob];exact I.mod.glob.keeps I.bk) hm (by rw[I.ok.blt];exact h1.keeps I.bk) ((h2 x hn).trans hv) h) hd
theorem pe_glob {x:Str} {v:V} {u:Value} {pos:Pos} (hg:Gl X x) (hm:X.mg x=some u) (r:RelV v u) (hd:(x==("__debug__":Str))=false:=by decide):PE X (.Name x pos) (tC v):=
 fun _ _ _ H _ I h=>ld_glob I hg hm ⟨v,H,I,r,h⟩ hd
theorem pe_bltn {x:Str} {v:V} {u:Value} {pos:Pos} (hg:Gl X x) (hm:X.mg x=none) (hv:bootBuiltins x=some u) (r:RelV v u) (hn:x≠"__name__":=by decide) (hd:(x==("__debug__":Str))=false:=by decide):PE X (.Name x pos) (tC v):=
 fun _ _ _ H _ I h=>ld_blt I hg hm hv ⟨v,H,I,r,h⟩ hn hd
noncomputable def t2I (ta tb:TE) (k:Int→Int→Hp→Prop):St→Hp→Prop:=fun σ H=>ta σ H fun x H1=>tb σ H1 fun y H2=>∃i j,x=.int i∧y=.int j∧k i j H2
variable {a b : Expr} {ta tb : TE} {pos : Pos}
noncomputable def PC (X:Cx) (op:CmpOp) (a b:Expr) (t:TE):Prop:=
 ∀(pins:List (Addr×Obj)) (s:Shared) (σ:St) (H:Hp) (Q:VK),Inv X pins σ H s→t σ H Q→
  wpAny (model X.prog X.w) X.A (eval a X.env) (fun v s₁=>wpAny (model X.prog X.w) X.A (eval b X.env) (fun u s₂=>wpAny (model X.prog X.w) X.A (compareOp op v u) (EP X pins σ Q) X.xe s₂) X.xe s₁) X.xe s
theorem nobehind (b:Expr) {op:CmpOp} (h:op≠.In) (h2:op≠.NotIn):behindInMarks op b=false:=by
 have e1:(op==CmpOp.In)=false:=by cases op <;>first | rfl | exact absurd rfl h
 have e2:(op==CmpOp.NotIn)=false:=by cases op <;>first | rfl | exact absurd rfl h2
 cases b <;>simp [behindInMarks,e1,e2]
noncomputable def tCmp (p:Int→Int→Bool) (ta tb:TE):TE:=fun σ H Q=>t2I ta tb (fun i j H2=>Q (.bl (p i j)) H2) σ H
abbrev tLt:TE→TE→TE:=tCmp fun i j=>decide (i<j)
abbrev tLe:TE→TE→TE:=tCmp fun i j=>decide (i≤j)
abbrev tGt:TE→TE→TE:=tCmp fun i j=>decide (j<i)
abbrev tGe:TE→TE→TE:=tCmp fun i j=>decide (j≤i)
abbrev tEqI:TE→TE→TE:=tCmp fun i j=>decide (i=j)
abbrev tNeI:TE→TE→TE:=tCmp fun i j=>!decide (i=j)
noncomputable def tB (t:TE):TT:=fun σ H Q=>t σ H fun x H1=>∃c,x=.bl c∧Q c H1
theorem pt_cmp {op:CmpOp} {t:TE} (h:PC X op a b t) (h1:behindInMarks op b=false:=by first | exact nobehind _ (by decide) (by decide) | rfl):PT X (.Compare a [op] [b] pos) (tB t):=by
 intro pins s σ H Q I hw
 refine wpAny_isTrue_Compare1 (thn (h pins s σ H _ I hw) fun v s1 h1=>thn h1 fun u s2 h2=>thn h2 fun c s3 ⟨x,H1,I1,r1,q1⟩=>?_) h1
 obtain⟨d,rfl,q⟩:=q1
 cases r1
 exact wpAny_truthy_bool ⟨H1,I1,q⟩
theorem pt_val {e:Expr} {t:TE} (h:PE X e t) (he:∀whole,isTrue e X.env whole=(do let v ←whole;standAt e.pos;holding [v] (truthy v)):=by intro _;rfl):PT X e (tB t):=by
 intro pins s σ H Q I hw
 refine isTrue_plain (thn (h pins s σ H _ I hw) fun v s1 ⟨x,H1,I1,r1,q1⟩=>?_) (he _)
 obtain⟨d,rfl,q⟩:=q1
 cases r1
 exact wpAny_truthy_bool ⟨H1,I1,q⟩
variable {tA tB' : TT} {rest : List Expr}
noncomputable def tAnd (t u:TT):TT:=fun σ H Q=>t σ H fun c H1=>if c=true then u σ H1 Q else Q false H1
noncomputable def tOr (t u:TT):TT:=fun σ H Q=>t σ H fun c H1=>if c=true then Q true H1 else u σ H1 Q
noncomputable def tNot (t:TT):TT:=fun σ H Q=>t σ H fun c H1=>Q (!c) H1
theorem pw_and1 (ha:PT X a tA):PW X (.BoolOp .And [a] pos) tA:=by
 intro wh pins s σ H Q I h
 refine isTrue_and (thn (ha pins s σ H Q I h) fun c s1 e=>?_)
 cases c with
 | true=>exact isTrue_and_nil e
 | false=>exact e
theorem pw_or1 (ha:PT X a tA):PW X (.BoolOp .Or [a] pos) tA:=by
 intro wh pins s σ H Q I h
 refine isTrue_or (thn (ha pins s σ H Q I h) fun c s1 e=>?_)
 cases c with
 | false=>exact isTrue_or_nil e
 | true=>exact e
theorem pw_and (ha:PT X a tA) (hb:PW X (.BoolOp .And (b::rest) pos) tB'):PW X (.BoolOp .And (a::b::rest) pos) (tAnd tA tB'):=by
 intro wh pins s σ H Q I h
 refine isTrue_and (thn (ha pins s σ H _ I h) fun c s1 ⟨H1,I1,q1⟩=>?_)
 cases c with
 | true=>exact hb wh pins s1 σ H1 Q I1 q1
 | false=>exact⟨H1,I1,q1⟩
theorem pw_or (ha:PT X a tA) (hb:PW X (.BoolOp .Or (b::rest) pos) tB'):PW X (.BoolOp .Or (a::b::rest) pos) (tOr tA tB'):=by
 intro wh pins s σ H Q I h
 refine isTrue_or (thn (ha pins s σ H _ I h) fun c s1 ⟨H1,I1,q1⟩=>?_)
 cases c with
 | true=>exact⟨H1,I1,q1⟩
 | false=>exact hb wh pins s1 σ H1 Q I1 q1
theorem pt_not (ha:PT X a tA):PT X (.UnaryOp .Not a pos) (tNot tA):=by
 intro pins s σ H Q I h
 exact isTrue_not (ha pins s σ H (fun c H1=>Q (!c) H1) I h)
noncomputable def tAndV (ta tb:TE):TE:=fun σ H Q=>ta σ H fun x H1=>∃c,x=.bl c∧if c=true then tb σ H1 Q else Q (.bl false) H1
noncomputable def tOrV (ta tb:TE):TE:=fun σ H Q=>ta σ H fun x H1=>∃c,x=.bl c∧if c=true then Q (.bl true) H1 else tb σ H1 Q
noncomputable def tNotV (ta:TE):TE:=fun σ H Q=>ta σ H fun x H1=>∃c,x=.bl c∧Q (.bl (!c)) H1
theorem pe_one {op} {t:TE} (h:PE X a t):PE X (.BoolOp op [a] pos) t:=fun pins s σ H Q I hw=>BoolOp_one (h pins s σ H Q I hw)
theorem pe_or (ha:PE X a ta) (hb:PE X (.BoolOp .Or (b::rest) pos) tb):PE X (.BoolOp .Or (a::b::rest) pos) (tOrV ta tb):=by
 intro pins s σ H Q I h
 refine BoolOp_or (thn (ha pins s σ H _ I h) fun v s1 ⟨x,H1,I1,r1,q1⟩=>?_)
 obtain⟨c,rfl,q1⟩:=q1
 cases r1
 refine wpAny_truthy_bool ?_
 cases c with
 | false=>exact hb pins s1 σ H1 Q I1 q1
 | true=>exact⟨.bl true,H1,I1,rfl,q1⟩
theorem pe_not (ha:PE X a ta):PE X (.UnaryOp .Not a pos) (tNotV ta):=by
 intro pins s σ H Q I h
 refine UnaryOp_ (thn (ha pins s σ H _ I h) fun v s1 ⟨x,H1,I1,r1,q1⟩=>?_)
 obtain⟨c,rfl,q1⟩:=q1
 cases r1
 exact not_of (wpAny_truthy_bool ⟨.bl (!c),H1,I1,rfl,q1⟩)
noncomputable def tIf (t:TT) (ta tb:TE):TE:=fun σ H Q=>t σ H fun c H1=>if c=true then ta σ H1 Q else tb σ H1 Q
theorem pe_ifExp {c:Expr} (hc:PT X c tA) (ha:PE X a ta) (hb:PE X b tb):PE X (.IfExp c a b pos) (tIf tA ta tb):=by
 intro pins s σ H Q I h
 refine wpAny_IfExp (thn (hc pins s σ H _ I h) fun d s1 ⟨H1,I1,q1⟩=>?_)
 cases d with
 | true=>exact ha pins s1 σ H1 Q I1 q1
 | false=>exact hb pins s1 σ H1 Q I1 q1
end
end L2
namespace L2
open PySem PySem.Spec PyProof.Rows
noncomputable def SqL (K:PySem.W.Frag) (H:Hp) (a:Addr) (xs:List V):Prop:=
 Rd H a (.lst xs)∨
  ∃(o:Obj) (its:Array Value) (n:Nat),K.lookup a=some o∧o.cls=.type "list"∧o.dict=none∧o.data=.seq its n∧its.size≤sizeLine∧Vals xs its.toList
noncomputable def SqT (K:PySem.W.Frag) (H:Hp) (a:Addr) (xs:List V):Prop:=
 Rd H a (.tup xs)∨
  ∃(o:Obj) (its:Array Value) (n:Nat),K.lookup a=some o∧o.cls=.type "tuple"∧o.data=.seq its n∧its.size≤sizeLine∧Vals xs its.toList
noncomputable def absV:Value→Option V
 | .none=>some .non
 | .bool b=>some (.bl b)
 | .int i _=>some (.int i)
 | .str x _=>some (.str x)
 | .bytes b _=>some (.byt b)
 | .float b _=>some (.flt b)
 | .ref a=>some (.ref a)
 | .type n=>some (.ty n)
 | _=>none
theorem RelV.abs {x:V} {u:Value} (r:RelV x u):absV u=some x:=by
 cases x with
 | non=>cases r;rfl
 | bl _=>cases r;rfl
 | int _=>obtain⟨t,rfl⟩:=r;rfl
 | str _=>obtain⟨t,rfl⟩:=r;rfl
 | byt _=>obtain⟨t,rfl⟩:=r;rfl
 | flt _=>obtain⟨t,rfl⟩:=r;rfl
 | ref _=>cases r;rfl
 | ty _=>cases r;rfl
theorem RelV.inj {x y:V} {u:Value} (r:RelV x u) (q:RelV y u):x=y:=Option.some.inj (r.abs.symm.trans q.abs)
theorem Vals.inj:∀{xs ys:List V} {us:List Value},Vals xs us→Vals ys us→xs=ys
 | _,_,_,.nil,.nil=>rfl
 | _,_,_,.cons r t,.cons r' t'=>by rw[r.inj r',Vals.inj t t']
section
variable {X : Cx} {pins : List (Addr × Obj)} {σ : St} {H : Hp} {s : Shared} {a : Addr} {xs ys : List V}
theorem SqL.of {K:PySem.W.Frag} (h:H a=some (.lst xs)):SqL K H a xs:=.inl (.inl h)
theorem SqT.of {K:PySem.W.Frag} (h:H a=some (.tup xs)):SqT K H a xs:=.inl (.inl h)
theorem Inv.list (I:Inv X pins σ H s) (h:SqL X.K H a xs):∃its:List Value,Vals xs its∧PlainL s.heap a its.toArray∧xs.length≤sizeLine:=by
 rcases h with h | ⟨o,its,n,hk,hc,hd,hs,hz,r⟩
 ·obtain⟨z,its,n,r,e⟩:=h.ok I.hok
  exact⟨its,r,⟨_,n,e,rfl,rfl,rfl⟩,z⟩
 ·refine⟨its.toList,r,⟨o,n,I.kIn a o hk,hc,hd,by simpa using hs⟩,?_⟩
  have e:=r.length
  simp only[Array.length_toList] at e
  omega
theorem Inv.tuple (I:Inv X pins σ H s) (h:SqT X.K H a xs):∃its:List Value,Vals xs its∧IsTup s.heap a its.toArray∧xs.length≤sizeLine:=by
 rcases h with h | ⟨o,its,n,hk,hc,hs,hz,r⟩
 ·obtain⟨z,its,r,p⟩:=h.ok I.hok
  exact⟨its,r,p,z⟩
 ·refine⟨its.toList,r,⟨o,I.kIn a o hk,hc,n,by simpa using hs⟩,?_⟩
  have e:=r.length
  simp only[Array.length_toList] at e
  omega
theorem Inv.list_inj (I:Inv X pins σ H s) (h:SqL X.K H a xs) (h':SqL X.K H a ys):xs=ys:=by
 obtain⟨its,r,⟨o,n,e,_,_,d⟩,_⟩:=I.list h
 obtain⟨its',r',⟨o',n',e',_,_,d'⟩,_⟩:=I.list h'
 rw[e] at e';cases e'
 rw[d] at d'
 injection d' with d1 _
 have:its=its':=by simpa using congrArg Array.toList d1
 subst this
 exact r.inj r'
end
abbrev Cx.wish (X:Cx) (E:Value→Shared→Prop):Cx:={X with xe:=E}
abbrev Cx.nox (X:Cx):Cx:=X.wish fun _ _=>False
theorem Cx.Ok.wish {X:Cx} (ok:X.Ok) (E:Value→Shared→Prop):(X.wish E).Ok:=
 ⟨ok.mod,ok.kind,ok.glob,ok.blt,ok.above,ok.inj,ok.has,ok.cab,ok.hd,ok.frames,ok.stk,ok.exf,ok.bs,ok.bsz,ok.noex,ok.exfs,ok.funs,ok.frf⟩
theorem Cx.Ok.unwish {X:Cx} {E:Value→Shared→Prop} (ok:(X.wish E).Ok):X.Ok:=
 ⟨ok.mod,ok.kind,ok.glob,ok.blt,ok.above,ok.inj,ok.has,ok.cab,ok.hd,ok.frames,ok.stk,ok.exf,ok.bs,ok.bsz,ok.noex,ok.exfs,ok.funs,ok.frf⟩
section
variable {X : Cx} {pins : List (Addr × Obj)} {σ : St} {H : Hp} {s : Shared} {E : Value → Shared → Prop}
theorem Inv.wish (I:Inv X pins σ H s) (E:Value→Shared→Prop):Inv (X.wish E) pins σ H s:=⟨I.ok.wish E,I.os,I.bare,I.base,I.loc,I.cell,I.free,I.freeC,I.pin,I.hok,I.len⟩
theorem Inv.unwish (I:Inv (X.wish E) pins σ H s):Inv X pins σ H s:=⟨I.ok.unwish,I.os,I.bare,I.base,I.loc,I.cell,I.free,I.freeC,I.pin,I.hok,I.len⟩
theorem SP.unwish {D:Ends} {f:Flow} {s':Shared} (h:SP (X.wish E) pins D f s'):SP X pins D f s':=by
 cases f with
 | next=>obtain⟨σ',H',I,q⟩:=h;exact⟨σ',H',I.unwish,q⟩
 | brk=>obtain⟨σ',H',I,q⟩:=h;exact⟨σ',H',I.unwish,q⟩
 | cont=>obtain⟨σ',H',I,q⟩:=h;exact⟨σ',H',I.unwish,q⟩
 | ret u=>obtain⟨v,σ',H',I,r,q⟩:=h;exact⟨v,σ',H',I.unwish,r,q⟩
theorem PSs.nox {st:List Stmt} {t:TS} (h:PSs X.nox st t):PSs X st t:=fun pins s σ H D I hw=>
 wpAny_mono (h pins s σ H D (I.wish _) hw) (fun _ _ q=>q.unwish) fun _ _ z=>False.elim z
end
section
variable {X : Cx} {st : Stmt} {rest : List Stmt} {t u : TS} {e : Expr} {te : TE} {pos : Pos}
noncomputable def tNext:TS:=fun D σ H=>D.nx σ H
noncomputable def tSeq (t u:TS):TS:=fun D σ H=>t {D with nx:=u D} σ H
theorem pss_nil:PSs X [] tNext:=fun _ _ σ H _ I h=>wpAny_execs_nil ⟨σ,H,I,h⟩
theorem pss_cons (h1:PS X st t) (h2:PSs X rest u):PSs X (st::rest) (tSeq t u):=by
 intro pins s σ H D I h
 refine wpAny_execs_cons (thn (h1 pins s σ H {D with nx:=u D} I h) fun f s1 q=>?_)
 cases f with
 | next=>
  obtain⟨σ',H',I',q⟩:=q
  exact h2 pins s1 σ' H' D I' q
 | ret v=>exact q
 | brk=>exact q
 | cont=>exact q
theorem pss_one (h1:PS X st t):PSs X [st] t:=by
 intro pins s σ H D I h
 refine wpAny_execs_cons (thn (h1 pins s σ H D I h) fun f s1 q=>?_)
 cases f with
 | next=>exact wpAny_execs_nil q
 | ret v=>exact q
 | brk=>exact q
 | cont=>exact q
noncomputable def tBreak:TS:=fun D σ H=>D.bk σ H
theorem ps_break:PS X (.Break pos) tBreak:=fun _ _ σ H _ I h=>wpAny_Break ⟨σ,H,I,h⟩
theorem Inv.quiet {pins:List (Addr×Obj)} {σ:St} {H:Hp} {s:Shared} (I:Inv X pins σ H s):interactive X.env=false:=by simp [interactive,I.ok.kind]
noncomputable def tDrop (te:TE):TS:=fun D σ H=>te σ H fun _ H1=>D.nx σ H1
theorem ps_expr (he:PE X e te) (hs:swapsWith e none pos.line X.env=pure false:=by rfl):PS X (.Expr e pos) (tDrop te):=by
 intro pins s σ H D I h
 exact wpAny_Expr_any (thn (he pins s σ H _ I h) fun v s1 ⟨x,H1,I1,r1,q1⟩=>⟨σ,H1,I1,q1⟩) I.quiet hs
noncomputable def tRet (te:TE):TS:=fun D σ H=>te σ H D.rt
theorem ps_ret (he:PE X e te):PS X (.Return (some e) pos) (tRet te):=by
 intro pins s σ H D I h
 exact wpAny_Return_some (thn (he pins s σ H _ I h) fun v s1 ⟨x,H1,I1,r1,q1⟩=>⟨x,σ,H1,I1,r1,q1⟩)
noncomputable def tRetN:TS:=fun D _ H=>D.rt .non H
noncomputable def tIfS (c:TT) (t u:TS):TS:=fun D σ H=>c σ H fun b H1=>if b=true then t D σ H1 else u D σ H1
theorem ps_if {c:Expr} {a b:List Stmt} {tc:TT} (hc:PT X c tc) (ha:PSs X a t) (hb:PSs X b u):PS X (.If c a b pos) (tIfS tc t u):=by
 intro pins s σ H D I h
 refine wpAny_If (thn (hc pins s σ H _ I h) fun d s1 ⟨H1,I1,q1⟩=>?_)
 cases d with
 | true=>exact ha pins s1 σ H1 D I1 q1
 | false=>exact hb pins s1 σ H1 D I1 q1
noncomputable def tNever:TS:=fun _ _ _=>False
theorem ps_never:PS X st tNever:=fun _ _ _ _ _ _ h=>h.elim
end
abbrev TG:=V→St→Hp→(St→Hp→Prop)→Prop
abbrev TGs:=List V→St→Hp→(St→Hp→Prop)→Prop
noncomputable def PG (X:Cx) (target:Expr) (t:TG):Prop:=
 ∀(pins:List (Addr×Obj)) (s:Shared) (σ:St) (H:Hp) (v:V) (u:Value) (Q:St→Hp→Prop),Inv X pins σ H s→RelV v u→t v σ H Q→
  wpAny (model X.prog X.w) X.A (assign target X.env u) (fun _ s'=>∃σ' H',Inv X pins σ' H' s'∧Q σ' H') X.xe s
noncomputable def PGs (X:Cx) (ts:List Expr) (t:TGs):Prop:=
 ∀(pins:List (Addr×Obj)) (s:Shared) (σ:St) (H:Hp) (vs:List V) (us:List Value) (Q:St→Hp→Prop),Inv X pins σ H s→Vals vs us→t vs σ H Q→
  wpAny (model X.prog X.w) X.A (assignInOrder ((assignEach ts X.env).map (·.2)) us) (fun _ s'=>∃σ' H',Inv X pins σ' H' s'∧Q σ' H') X.xe s
abbrev TSet:=V→V→V→Hp→(Hp→Prop)→Prop
noncomputable def PSet (X:Cx) (t:TSet):Prop:=
 ∀(pins:List (Addr×Obj)) (s:Shared) (σ:St) (H:Hp) (o i v:V) (ov iv u:Value) (Q:Hp→Prop),Inv X pins σ H s→RelV o ov→RelV i iv→RelV v u→t o i v H Q→
  wpAny (model X.prog X.w) X.A (setItem ov iv u) (fun _ s'=>∃H',Inv X pins σ H' s'∧Q H') X.xe s
abbrev TIp:=V→V→Hp→VK→Prop
section
variable {X : Cx} {pos : Pos}
noncomputable def gName (i:Nat):TG:=fun v σ H Q=>Q (σ.set i (some v)) H
theorem pg_name {i:Nat} {x:Str} (hN:X.N.Nodup) (hi:X.N[i]?=some x) (hx:Loc X.env.scope x) (hf:X.fn x=true∨X.env.scope.names.lookup x=some .local:=by first | exact .inl rfl | exact .inr rfl | assumption):PG X (.Name x pos) (gName i):=by
 intro pins s σ H v u Q I r h
 exact wpAny_assign_Name (store_ok I hN hi hx r (fun s' I'=>⟨_,H,I',h⟩) hf)
noncomputable def gNil:TGs:=fun vs σ H Q=>vs=[]∧Q σ H
noncomputable def gCons (t:TG) (u:TGs):TGs:=fun vs σ H Q=>∃v r,vs=v::r∧t v σ H fun σ' H'=>u r σ' H' Q
theorem pgs_nil:PGs X [] gNil:=by
 intro pins s σ H vs us Q I r h
 obtain⟨e,h⟩:=h
 subst e
 cases r
 exact assignInOrder_nil ⟨σ,H,I,h⟩
theorem pgs_cons {e:Expr} {es:List Expr} {t:TG} {u:TGs} (h1:PG X e t) (h2:PGs X es u)
  (hs:(assignEach (e::es) X.env).map (·.2)=assign e X.env::(assignEach es X.env).map (·.2):=by rfl):PGs X (e::es) (gCons t u):=by
 intro pins s σ H vs us Q I r h
 obtain⟨v,vr,e1,h⟩:=h
 subst e1
 cases r with
 | cons r rr=>
  rw[hs]
  refine assignInOrder_cons (thn (h1 pins s σ H _ _ _ I r h) fun _ s1 ⟨σ1,H1,I1,q1⟩=>?_)
  exact h2 pins s1 σ1 H1 _ _ Q I1 rr q1
noncomputable def gTup (K:PySem.W.Frag) (n:Nat) (t:TGs):TG:=fun v σ H Q=>∃a xs,v=.ref a∧SqT K H a xs∧xs.length=n∧t xs σ H Q
theorem pg_tup {es:List Expr} {k:Nat} {t:TGs} {n:Nat} (hc:X.calm=true) (h:PGs X es t)
  (hn:(assignEach es X.env).length=n:=by rfl) (hst:(assignEach es X.env).findIdx? (·.1)=none:=by rfl):PG X (.Tuple es k pos) (gTup X.K n t):=by
 intro pins s σ H v u Q I r hw
 obtain⟨a,xs,e1,hq,hl,hw⟩:=hw
 subst e1
 cases r
 obtain⟨its,rv,ht,hz⟩:=I.tuple hq
 refine assign_Tuple_tuple (I.ok.hd hc) ht (by simp [hn,←hl,rv.length]) hst fun h' hx=>?_
 have I1:Inv X pins σ H {s with heap:=h'}:=I.kept (t':=s.toks) fun b o e=>hx b o (Nat.ne_of_lt (Heap.lt_size e)) e
 exact h pins _ σ H xs _ Q I1 (by simpa using rv) hw
noncomputable def gSub (to ti:TE) (t:TSet):TG:=fun v σ H Q=>to σ H fun o H1=>ti σ H1 fun i H2=>t o i v H2 fun H3=>Q σ H3
theorem pg_sub {o i:Expr} {to ti:TE} {t:TSet} (ho:PE X o to) (hi:PE X i ti) (hs:PSet X t)
  (ha:∀v,assign (.Subscript o i pos) X.env v=(do
   let ov ←holding [v] (eval o X.env)
   let iv ←holding [v,ov] (eval i X.env)
   standAt pos
   holding [v,ov,iv] (setItem ov iv v)
   release [v,ov,iv] []):=by intro _;rfl):PG X (.Subscript o i pos) (gSub to ti t):=by
 intro pins s σ H v u Q I r h
 rw[ha]
 refine wpAny_bind (wpAny_holding (thn (ho pins s σ H _ I h) fun ov s1 ⟨x,H1,I1,r1,q1⟩=>?_))
 refine wpAny_bind (wpAny_holding (thn (hi pins s1 σ H1 _ I1 q1) fun iv s2 ⟨y,H2,I2,r2,q2⟩=>?_))
 refine wpAny_bind (wpAny_standAt (wpAny_bind (wpAny_holding (thn (hs pins s2 σ H2 x y v ov iv u _ I2 r1 r2 r q2) fun _ s3 ⟨H3,I3,q3⟩=>?_))))
 exact wpAny_release ⟨σ,H3,I3,q3⟩
noncomputable def tAsg (te:TE) (g:TG):TS:=fun D σ H=>te σ H fun x H1=>g x σ H1 D.nx
theorem ps_asg {tg e:Expr} {te:TE} {g:TG} (he:PE X e te) (hg:PG X tg g) (hs:swapsWithSole [tg] e pos.line X.env=pure false:=by rfl) (hw:swappedStores [tg] e X.env=pure none:=by rfl)
  (h1:(assignEach [tg] X.env).map (·.2)=[assign tg X.env]:=by rfl):PS X (.Assign [tg] e pos) (tAsg te g):=by
 intro pins s σ H D I h
 refine wpAny_Assign_stores (thn (he pins s σ H _ I h) fun v s1 ⟨x,H1,I1,r1,q1⟩=>?_) hs hw
 rw[h1]
 exact thn (hg pins s1 σ H1 x v _ I1 r1 q1) fun _ s2 q=>q
theorem ps_set {i:Nat} {x:Str} {e:Expr} {te:TE} {pos':Pos} (hN:X.N.Nodup) (hi:X.N[i]?=some x) (hx:Loc X.env.scope x) (he:PE X e te) (hs:swapsWith e (some (.Name x pos')) pos.line X.env=pure false:=by rfl) (hf:X.fn x=true∨X.env.scope.names.lookup x=some .local:=by first | exact .inl rfl | exact .inr rfl | assumption):
  PS X (.Assign [.Name x pos'] e pos) (tAsg te (gName i)):=by
 intro pins s σ H D I h
 refine wpAny_Assign_Name (thn (he pins s σ H _ I h) fun v s1 ⟨y,H1,I1,r1,q1⟩=>?_) hs
 exact store_ok I1 hN hi hx r1 (fun s2 I2=>⟨_,H1,I2,q1⟩) hf
noncomputable def tPar (i j:Nat) (ta:TA):TS:=fun D σ H=>ta σ H fun vs H1=>∃v w,vs=[v,w]∧D.nx ((σ.set i (some v)).set j (some w)) H1
end
section
variable {X : Cx} {pos : Pos}
noncomputable def tWhile (c:TT) (tb:TS):TS:=fun D σ H=>∃W:Nat→St→Hp→Prop,(∃m,W m σ H)∧∀m σ H,W m σ H→
 c σ H fun b H1=>if b=true then ∃N:St→Hp→Prop,(∀σ' H',N σ' H'→∃m',m'<m∧W m' σ' H')∧tb {D with nx:=N,ct:=N,bk:=D.nx} σ H1 else D.nx σ H1
theorem ps_while {c:Expr} {body:List Stmt} {tc:TT} {tb:TS} (hp:PassesOwn (model X.prog X.w) X.A X.env X.xe) (hc:PT X c tc) (hb:PSs X body tb):PS X (.While c body [] pos) (tWhile tc tb):=by
 intro pins s σ H D I h
 obtain⟨W,⟨m0,w0⟩,turn⟩:=h
 refine wpAny_While (codeAny_whileLoop (fun n s'=>∃σ' H',Inv X pins σ' H' s'∧W n σ' H') ?_ m0 ⟨σ,H,I,w0⟩)
 rintro n s1 ⟨σ1,H1,I1,w1⟩
 refine wpAny_passesOwn hp (thn (hc pins s1 σ1 H1 _ I1 (turn n σ1 H1 w1)) fun b s2 ⟨H2,I2,q2⟩=>?_)
 cases b with
 | true=>
  obtain⟨N,hN,q2⟩:=q2
  rw[if_pos rfl]
  refine wpAny_passesOwn hp (thn (hb pins s2 σ1 H2 _ I2 q2) fun f s3 q3=>?_)
  cases f with
  | next=>
   obtain⟨σ3,H3,I3,n3⟩:=q3
   obtain⟨m',hm,w3⟩:=hN σ3 H3 n3
   exact⟨m',hm,σ3,H3,I3,w3⟩
  | cont=>
   obtain⟨σ3,H3,I3,n3⟩:=q3
   obtain⟨m',hm,w3⟩:=hN σ3 H3 n3
   exact⟨m',hm,σ3,H3,I3,w3⟩
  | brk=>exact q3
  | ret v=>exact q3
 | false=>
  rw[if_neg Bool.false_ne_true]
  exact wpAny_execs_nil ⟨σ1,H2,I2,q2⟩
end
structure It where
 go:Nat→Hp→Prop
 yld:Nat→Hp→V→Hp→Prop
 stop:Nat→Hp→Prop
noncomputable def FpOk (X:Cx) (pins:List (Addr×Obj)) (H:Hp) (b:Addr):Prop:=
 H b=none∧b≠X.env.locals∧b∉X.fs∧(b∈X.ex∨X.s₀.heap.objs.size≤b)∧(∀x c,X.env.cells.lookup x=some c→c≠b)∧∀p∈X.pn++pins,p.1≠b
theorem Inv.fpOk {X:Cx} {pins:List (Addr×Obj)} {σ:St} {H H':Hp} {s:Shared} {b:Addr} (I:Inv X pins σ H s) (hb:s.heap.objs.size≤b) (hn:H' b=none):FpOk X pins H' b:=by
 refine⟨hn,Nat.ne_of_gt (Nat.lt_of_lt_of_le I.lt hb),I.nofs hb,.inr (Nat.le_trans I.sz hb),fun x c e z=>?_,fun p hp z=>?_⟩
 ·obtain⟨v,q⟩:=I.cell x c e
  exact absurd (Nat.lt_of_lt_of_le q.lt (by rw[z];exact hb)) (Nat.lt_irrefl _)
 ·exact absurd (Nat.lt_of_lt_of_le (Heap.lt_size (I.pin p hp).1) (by rw[z];exact hb)) (Nat.lt_irrefl _)
structure Turn (P:Program) (w:World) (K:PySem.W.Frag) (tg:Expr) (J:It) (fp:List Addr) (it:Addr) (tn:Nat→Heap→Prop):Prop where
 mem:it∈fp
 obj:∀i h,tn i h→∀b∈fp,∃o,h.get? b=some o∧∀v,o.data≠.cell v
 keep:∀i h h',tn i h→(∀b∈fp,∀o,h.get? b=some o→h'.get? b=some o)→tn i h'
 item:∀(X:Cx),X.prog=P→X.w=w→X.K=K→X.calm=true→∀(i:Nat) (pins:List (Addr×Obj)) (s:Shared) (σ:St) (H:Hp) (E:Value→Shared→Prop),Inv X pins σ H s→(∀b∈fp,FpOk X pins H b)→tn i s.heap→J.go i H→
  wpAny (model P w) X.A (pyNext (.ref it)) (fun r s1=>∃u,r=some u∧
   wpAny (model P w) X.A (letOwnedTupleGo tg (.ref it) u) (fun _ s2=>∃x H',Inv X pins σ H' s2∧RelV x u∧J.yld i H x H'∧tn (i+1) s2.heap∧∀b∈fp,H' b=none) E s1) E s
 done:∀(X:Cx),X.prog=P→X.w=w→X.K=K→X.calm=true→∀(i:Nat) (pins:List (Addr×Obj)) (s:Shared) (σ:St) (H:Hp) (E:Value→Shared→Prop),Inv X pins σ H s→(∀b∈fp,FpOk X pins H b)→tn i s.heap→J.stop i H→
  wpAny (model P w) X.A (pyNext (.ref it)) (fun r s1=>r=none∧Inv X pins σ H s1) E s
 self:∀(A:Around) (i:Nat) (s:Shared) (Q:Value→Shared→Prop) (E:Value→Shared→Prop),tn i s.heap→Q (.ref it) s→wpAny (model P w) A (pyIter (.ref it)) Q E s
abbrev TI:=St→Hp→(It→Hp→Prop)→Prop
noncomputable def PIE (X:Cx) (pins:List (Addr×Obj)) (σ:St) (tg:Expr) (R:It→Hp→Prop) (itv:Value) (s2:Shared):Prop:=
 ∃(it:Addr) (fp:List Addr) (tn:Nat→Heap→Prop) (J:It) (H':Hp),itv=.ref it∧Inv X pins σ H' s2∧Turn X.prog X.w X.K tg J fp it tn∧tn 0 s2.heap∧(∀b∈fp,FpOk X pins H' b)∧R J H'
noncomputable def PI (X:Cx) (tg iter:Expr) (wi:TI):Prop:=
 ∀(pins:List (Addr×Obj)) (s:Shared) (σ:St) (H:Hp) (R:It→Hp→Prop),Inv X pins σ H s→wi σ H R→
  wpAny (model X.prog X.w) X.A (eval iter X.env) (fun v s1=>wpAny (model X.prog X.w) X.A (pyIter v) (PIE X pins σ tg R) X.xe s1) X.xe s
theorem go_of {M:Model} {A:Around} {E:Value→Shared→Prop} {s:Shared} {tg:Expr} {it:Addr} {u:Value} {o:Obj} {n:String} {vs:Array Value} {Q:Unit→Shared→Prop} (ho:s.heap.get? it=some o) (hc:o.cls=.type n) (hd:o.data=.fields vs)
  (hn:["enumerate","zip","dict_itemiterator","dict_reverseitemiterator","odict_iterator","itertools.zip_longest","itertools.pairwise"].contains n=false) (hQ:Q () s):wpAny M A (letOwnedTupleGo tg (.ref it) u) Q E s:=by
 unfold letOwnedTupleGo
 cases tg <;>first
  | exact wpAny_pure hQ
  | (cases u <;>first
    | exact wpAny_pure hQ
    | (refine wpAny_bind (wpAny_load ho ?_)
       rw[hc,hd]
       show wpAny M A (if (["enumerate","zip","dict_itemiterator","dict_reverseitemiterator","odict_iterator","itertools.zip_longest","itertools.pairwise"].contains n && vs[0]?==some (rawInt _))=true then _ else _) Q E s
       rw[if_neg (by intro h;rw[hn,Bool.false_and] at h;cases h)]
       exact wpAny_pure hQ))
noncomputable def Itl (K:PySem.W.Frag) (a:Addr):It:=
 ⟨fun i H=>∃xs x,SqL K H a xs∧xs[i]?=some x,fun i H x H'=>H'=H∧∀xs,SqL K H a xs→xs[i]?=some x,fun i H=>∃xs,SqL K H a xs∧xs.length≤i⟩
noncomputable def Itt (K:PySem.W.Frag) (a:Addr):It:=
 ⟨fun i H=>∃xs x,SqT K H a xs∧xs[i]?=some x,fun i H x H'=>H'=H∧∀xs,SqT K H a xs→xs[i]?=some x,fun i H=>∃xs,SqT K H a xs∧xs.length≤i⟩
noncomputable def Itr (lo:Int) (n:Nat):It:=⟨fun i _=>i<n,fun i H x H'=>H'=H∧x=.int (lo+i),fun i _=>n≤i⟩
theorem turn_list {P:Program} {w:World} {K:PySem.W.Frag} {tg:Expr} (a it:Addr):Turn P w K tg (Itl K a) [it] it (fun i h=>h.IsListIter it a i) where
 mem:=by simp
 obj:=fun i h st b hb=>by
  have e:b=it:=by simpa using hb
  subst e
  obtain⟨o,e,c,d⟩:=st
  exact⟨o,e,fun v z=>by rw[d] at z;cases z⟩
 keep:=fun i h h' st k=>st.at fun o e=>k it (by simp) o e
 item:=by
  intro X hP hw hK hc i pins s σ H E I hf st hg
  subst hP hw hK
  obtain⟨xs,x,hq,hx⟩:=hg
  obtain⟨its,rv,p,hz⟩:=I.list hq
  obtain⟨u,hu,ru⟩:=rv.get hx
  obtain⟨f0,f1,f2,f3,f4,f5⟩:=hf it (by simp)
  refine wpAny_pyNext_list_item st p.isList (x:=u) (by simpa using hu) fun h' st' sb=>?_
  have I1:Inv X pins σ H {s with heap:=h'}:=I.turned (t':=s.toks) (fun b o hb e=>(sb.2 b hb).trans e) f0 f1 f3 f4 f5
  obtain⟨o,e,c,d⟩:=id st'
  exact⟨u,rfl,go_of (s:={s with heap:=h'}) e c d (by decide) ⟨x,H,I1,ru,⟨rfl,fun ys hy=>by rw[I.list_inj hy hq];exact hx⟩,st',fun b hb=>(hf b hb).1⟩⟩
 done:=by
  intro X hP hw hK hc i pins s σ H E I hf st hg
  subst hP hw hK
  obtain⟨xs,hq,hx⟩:=hg
  obtain⟨its,rv,p,hz⟩:=I.list hq
  obtain⟨f0,f1,f2,f3,f4,f5⟩:=hf it (by simp)
  have hl:=rv.length
  exact wpAny_pyNext_list_end (I.ok.hd hc) st p.isList (by simp;omega) fun h' eb=>⟨rfl,I.turned (t':=s.toks) (fun b o hb e=>eb b o hb e) f0 f1 f3 f4 f5⟩
 self:=fun _ _ _ _ _ st h=>wpAny_pyIter_listiter st h
theorem turn_range {P:Program} {w:World} {K:PySem.W.Frag} {tg:Expr} (it:Addr) (lo:Int) (n:Nat):Turn P w K tg (Itr lo n) [it] it (fun i h=>IsRangeIter h it (lo+ (i:Nat)*1) ((n:Int) - (i:Nat)) 1) where
 mem:=by simp
 obj:=fun i h st b hb=>by
  have e:b=it:=by simpa using hb
  subst e
  exact⟨_,st,fun v z=>by
   have z':Data.fields _=Data.cell v:=z
   cases z'⟩
 keep:=fun i h h' st k=>k it (by simp) _ st
 item:=by
  intro X hP hw hK hc i pins s σ H E I hf st hg
  subst hP hw hK
  obtain⟨f0,f1,f2,f3,f4,f5⟩:=hf it (by simp)
  have W:=Walks.range (prog:=X.prog) (w:=X.w) (I.ok.hd hc) it lo 1 n
  refine W.item i s _ _ hg st fun v h' tk hv st' kk=>?_
  obtain⟨t,rfl⟩:=hv
  have I1:Inv X pins σ H {s with heap:=h',toks:=tk}:=I.turned (fun b o hb e=>kk b o (by simpa using hb) e) f0 f1 f3 f4 f5
  refine⟨_,rfl,go_of (s:={s with heap:=h',toks:=tk}) (n:="range_iterator") st' rfl rfl (by decide) ⟨.int (lo+i),H,I1,⟨t,?_⟩,⟨rfl,rfl⟩,st',fun b hb=>(hf b hb).1⟩⟩
  rw[Int.mul_one]
 done:=by
  intro X hP hw hK hc i pins s σ H E I hf st hg
  subst hP hw hK
  obtain⟨f0,f1,f2,f3,f4,f5⟩:=hf it (by simp)
  exact wpAny_pyNext_range_end (I.ok.hd hc) st (by have:n≤i:=hg;omega) fun h' eb=>⟨rfl,I.turned (t':=s.toks) (fun b o hb e=>eb b o hb e) f0 f1 f3 f4 f5⟩
 self:=fun _ _ _ _ _ st h=>wpAny_pyIter_rangeiter st h
end L2
namespace L2
open PySem PySem.Spec PyProof.Rows
section
variable {X : Cx} {tg : Expr}
noncomputable def iList (K:PySem.W.Frag) (tl:TE):TI:=fun σ H R=>tl σ H fun x H1=>∃a,x=.ref a∧(∃xs,SqL K H1 a xs)∧R (Itl K a) H1
noncomputable def iTup (K:PySem.W.Frag) (tl:TE):TI:=fun σ H R=>tl σ H fun x H1=>∃a,x=.ref a∧(∃xs,SqT K H1 a xs)∧R (Itt K a) H1
theorem pi_list {l:Expr} {tl:TE} (hl:PE X l tl):PI X tg l (iList X.K tl):=by
 intro pins s σ H R I h
 refine thn (hl pins s σ H _ I h) fun v s1 ⟨x,H1,I1,r1,q1⟩=>?_
 obtain⟨a,e,⟨xs,hq⟩,q⟩:=q1
 subst e
 cases r1
 obtain⟨its,rv,p,hz⟩:=I1.list hq
 refine wpAny_pyIter_list p.isList ?_
 refine⟨s1.heap.objs.size,[s1.heap.objs.size],_,_,H1,rfl,I1.kept (t':=s1.toks) fun b o e=>Heap.get?_push_of_some _ e,turn_list a _,⟨_,Heap.get?_push_size _ rfl,rfl,rfl⟩,fun b hb=>?_,q⟩
 have e:b=s1.heap.objs.size:=by simpa using hb
 subst e
 exact I1.fpOk (Nat.le_refl _) (I1.hok.fresh (Nat.le_refl _))
theorem range_it {pins:List (Addr×Obj)} {σ:St} {H:Hp} {s:Shared} {R:It→Hp→Prop} {E:Value→Shared→Prop} {lo hi:Int} {t u v:Tok} {tk:Nat} (I:Inv X pins σ H s) (h1:-(2^62)≤lo) (h2:lo<2^62) (h3:-(2^62)≤hi) (h4:hi<2^62)
  (q:R (Itr lo (hi - lo).toNat) H):wpAny (model X.prog X.w) X.A (pyIter (.ref s.heap.objs.size)) (PIE X pins σ tg R) E {s with heap:=s.heap.push {cls:=.type "range",data:=.fields #[.int lo t,.int hi u,.int 1 v]},toks:=tk}:=by
 refine wpAny_pyIter_range (IsRange.new ..) (small_one h1 h2 h3 h4) ?_
 have I1:Inv X pins σ H {s with heap:=s.heap.push {cls:=.type "range",data:=.fields #[.int lo t,.int hi u,.int 1 v]},toks:=tk}:=I.kept fun b o e=>Heap.get?_push_of_some _ e
 refine⟨(s.heap.push {cls:=.type "range",data:=.fields #[.int lo t,.int hi u,.int 1 v]}).objs.size,[(s.heap.push {cls:=.type "range",data:=.fields #[.int lo t,.int hi u,.int 1 v]}).objs.size],_,_,H,rfl,
  I1.kept (t':=tk) fun b o e=>Heap.get?_push_of_some _ e,turn_range _ lo (hi - lo).toNat,?_,fun b hb=>?_,q⟩
 ·have e1:lo+ ((0:Nat):Int)*1=lo:=by simp
  have e2:(((hi - lo).toNat:Nat):Int) - ((0:Nat):Int)=Builtin.Range.rangeSize lo hi 1:=by rw[rangeSize_one];split <;>omega
  show IsRangeIter _ _ (lo+ ((0:Nat):Int)*1) ((((hi - lo).toNat:Nat):Int) - ((0:Nat):Int)) 1
  rw[e1,e2]
  exact Heap.get?_push_size _ rfl
 ·have e:b=(s.heap.push {cls:=.type "range",data:=.fields #[.int lo t,.int hi u,.int 1 v]}).objs.size:=by simpa using hb
  subst e
  exact I1.fpOk (Nat.le_refl _) (I1.hok.fresh (Nat.le_refl _))
noncomputable def iRng1 (ta:TA):TI:=fun σ H R=>ta σ H fun vs H1=>∃j:Int,vs=[.int j]∧-(2^62)≤j∧j<2^62∧R (Itr 0 j.toNat) H1
noncomputable def iRng2 (ta:TA):TI:=fun σ H R=>ta σ H fun vs H1=>∃i j:Int,vs=[.int i,.int j]∧(-(2^62)≤i∧i<2^62∧-(2^62)≤j∧j<2^62)∧R (Itr i (j - i).toNat) H1
theorem pi_range1 {a:Expr} {ta:TA} {p pos:Pos} (hg:Gl X "range") (hm:X.mg "range"=none) (ha:PA X [a] ta) (hs:starEach [a] X.env=[(false,eval a X.env)]:=by rfl):PI X tg (.Call (.Name "range" p) [a] [] pos) (iRng1 ta):=by
 intro pins s σ H R I h
 refine Call_ (ld_blt I hg hm boot_range (PyProof.Rows.callWith_type1 (thn (ha pos pins s σ H _ I h) fun us s1 ⟨vs,H1,I1,r1,q1⟩=>?_) hs rfl))
 obtain⟨j,e,q1,q2,q⟩:=q1
 subst e
 cases r1 with
 | cons r rr=>
  cases rr
  obtain⟨t,rfl⟩:=r
  exact call_range_1 (range_it I1 (by omega) (by omega) q1 q2 (by simpa using q))
noncomputable def tFor (wi:TI) (g:TG) (tb:TS):TS:=fun D σ H=>wi σ H fun J H1=>∃W:Nat→Nat→St→Hp→Prop,(∃m,W 0 m σ H1)∧∀i m σ H,W i m σ H→
 (J.stop i H∧D.nx σ H)∨(J.go i H∧∃N:St→Hp→Prop,(∀σ' H',N σ' H'→∃m',m'<m∧W (i+1) m' σ' H')∧∀x H',J.yld i H x H'→g x σ H' fun σ2 H2=>tb {D with nx:=N,ct:=N,bk:=D.nx} σ2 H2)
noncomputable def pinsAt (fp:List Addr) (h:Heap):List (Addr×Obj):=fp.filterMap fun b=>(h.get? b).map fun o=>(b,o)
theorem mem_pinsAt {fp:List Addr} {h:Heap} {b:Addr} {o:Obj} (hb:b∈fp) (e:h.get? b=some o):(b,o)∈pinsAt fp h:=List.mem_filterMap.mpr ⟨b,hb,by rw[e];rfl⟩
theorem of_pinsAt {fp:List Addr} {h:Heap} {p:Addr×Obj} (hp:p∈pinsAt fp h):p.1∈fp∧h.get? p.1=some p.2:=by
 obtain⟨b,hb,e⟩:=List.mem_filterMap.mp hp
 cases q:h.get? b with
 | none=>rw[q] at e;cases e
 | some o=>
  rw[q] at e
  have e':(b,o)=p:=Option.some.inj e
  subst e'
  exact⟨hb,q⟩
theorem Inv.pinned {pins:List (Addr×Obj)} {σ:St} {H:Hp} {s:Shared} {fp:List Addr} (I:Inv X pins σ H s) (hf:∀b∈fp,FpOk X pins H b) (ho:∀b∈fp,∃o,s.heap.get? b=some o∧∀v,o.data≠.cell v):Inv X (pins++pinsAt fp s.heap) σ H s:=
 I.pins_of fun p hp=>(List.mem_append.mp hp).elim (fun z=>I.pin p (List.mem_append_right _ z)) fun z=>by
  obtain⟨hb,e⟩:=of_pinsAt z
  obtain⟨f0,f1,f2,_⟩:=hf p.1 hb
  obtain⟨o,e',d⟩:=ho p.1 hb
  rw[e] at e';cases e'
  exact⟨e,f0,f1,f2,d⟩
theorem Inv.unpinned {pins pl:List (Addr×Obj)} {σ:St} {H:Hp} {s:Shared} (I:Inv X (pins++pl) σ H s):Inv X pins σ H s:=I.pins_of fun p hp=>I.pin p (List.mem_append_right _ (List.mem_append_left _ hp))
theorem ps_for {iter:Expr} {body:List Stmt} {wi:TI} {g:TG} {tb:TS} {pos:Pos} (hp:PassesOwn (model X.prog X.w) X.A X.env X.xe) (hc:X.calm=true) (hi:PI X tg iter wi) (hg:PG X tg g) (hb:PSs X body tb)
  (hs:∀x,foldedSetIterable iter X.env x=pure x:=by intro _;rfl):PS X (.For tg iter body [] pos) (tFor wi g tb):=by
 intro pins s σ H D I h
 refine wpAny_For (thn (hi pins s σ H _ I h) fun v s1 h1=>thn h1 fun itv s2 h2=>?_) hs
 obtain⟨it,fp,tn,J,H2,e,I2,T,st2,f2,W,⟨m0,w0⟩,turn⟩:=h2
 subst e
 have stat:∀{H':Hp},(∀b∈fp,H' b=none)→∀b∈fp,FpOk X pins H' b:=fun hn b hb=>⟨hn b hb,(f2 b hb).2⟩
 refine codeAny_forLoop_any (fun n s'=>∃i σ' H',Inv X pins σ' H' s'∧tn i s'.heap∧(∀b∈fp,H' b=none)∧W i n σ' H') ?_ m0 ⟨0,σ,H2,I2,st2,fun b hb=>(f2 b hb).1,w0⟩
 rintro n s3 ⟨i,σ3,H3,I3,st3,fr3,w3⟩
 rcases turn i n σ3 H3 w3 with ⟨stop,qn⟩ | ⟨go,N,hN,step⟩
 ·refine wpAny_passesOwn hp (thn (T.done X rfl rfl rfl hc i pins s3 σ3 H3 X.xe I3 (stat fr3) st3 stop) fun r s4 ⟨hr,I4⟩=>?_)
  subst hr
  exact wpAny_execs_nil ⟨σ3,H3,I4,qn⟩
 ·refine wpAny_passesOwn hp (thn (T.item X rfl rfl rfl hc i pins s3 σ3 H3 X.xe I3 (stat fr3) st3 go) fun r s4 ⟨u,hr,h4⟩=>?_)
  subst hr
  refine wpAny_passesOwn hp (thn h4 fun _ s5 ⟨x,H5,I5,r5,y5,st5,fr5⟩=>?_)
  have I5':=I5.pinned (stat fr5) (T.obj _ _ st5)
  refine wpAny_passesOwn hp (thn (hg _ s5 σ3 H5 x u _ I5' r5 (step x H5 y5)) fun _ s6 ⟨σ6,H6,I6,q6⟩=>?_)
  refine wpAny_passesOwn hp (thn (hb _ s6 σ6 H6 _ I6 q6) fun f s7 q7=>?_)
  have again:∀{σ7:St} {H7:Hp},Inv X (pins++pinsAt fp s5.heap) σ7 H7 s7→N σ7 H7→∃m,m<n∧∃i σ' H',Inv X pins σ' H' s7∧tn i s7.heap∧(∀b∈fp,H' b=none)∧W i m σ' H':=fun {σ7 H7} I7 n7=>by
   obtain⟨m',hm,w7⟩:=hN σ7 H7 n7
   refine⟨m',hm,i+1,σ7,H7,I7.unpinned,T.keep _ _ _ st5 fun b hb o e=>(I7.pin (b,o) (List.mem_append_right _ (List.mem_append_right _ (mem_pinsAt hb e)))).1,fun b hb=>?_,w7⟩
   obtain⟨o,e,d⟩:=T.obj _ _ st5 b hb
   exact(I7.pin (b,o) (List.mem_append_right _ (List.mem_append_right _ (mem_pinsAt hb e)))).2.1
  cases f with
  | next=>obtain⟨σ7,H7,I7,n7⟩:=q7;exact again I7 n7
  | cont=>obtain⟨σ7,H7,I7,n7⟩:=q7;exact again I7 n7
  | brk=>obtain⟨σ7,H7,I7,q7⟩:=q7;exact⟨σ7,H7,I7.unpinned,q7⟩
  | ret v=>obtain⟨x7,σ7,H7,I7,r7,q7⟩:=q7;exact⟨x7,σ7,H7,I7.unpinned,r7,q7⟩
end
theorem while_by {c:TT} {tb:TS} {D:Ends} {σ:St} {H:Hp} (Pv:St→Hp→Prop) (μ:St→Hp→Nat) (h0:Pv σ H)
  (hs:∀σ H,Pv σ H→c σ H fun b H1=>if b=true then tb {D with nx:=fun σ' H'=>Pv σ' H'∧μ σ' H'<μ σ H,ct:=fun σ' H'=>Pv σ' H'∧μ σ' H'<μ σ H,bk:=D.nx} σ H1 else D.nx σ H1)
  (mono:∀σ H Q Q',(∀b H1,Q b H1→Q' b H1)→c σ H Q→c σ H Q'):tWhile c tb D σ H:=by
 refine⟨fun m σ H=>m=μ σ H∧Pv σ H,⟨_,rfl,h0⟩,?_⟩
 rintro m σ H ⟨rfl,p⟩
 refine mono σ H _ _ (fun b H1 q=>?_) (hs σ H p)
 cases b with
 | true=>exact⟨_,fun σ' H' ⟨p',l⟩=>⟨_,l,rfl,p'⟩,q⟩
 | false=>exact q
end L2
namespace L2
open PySem PySem.Spec PyProof.Rows
abbrev R2:=V→V→Hp→VK→Prop
noncomputable def OpR (X:Cx) (f:Value→Value→Sem Value) (r:R2):Prop:=
 ∀(pins:List (Addr×Obj)) (s:Shared) (σ:St) (H:Hp) (x y:V) (v u:Value) (Q:VK),Inv X pins σ H s→RelV x v→RelV y u→r x y H Q→
  wpAny (model X.prog X.w) X.A (f v u) (EP X pins σ Q) X.xe s
noncomputable def UnR (X:Cx) (f:Value→Sem Value) (r:V→Hp→VK→Prop):Prop:=
 ∀(pins:List (Addr×Obj)) (s:Shared) (σ:St) (H:Hp) (x:V) (v:Value) (Q:VK),Inv X pins σ H s→RelV x v→r x H Q→
  wpAny (model X.prog X.w) X.A (f v) (EP X pins σ Q) X.xe s
noncomputable def CallR (X:Cx) (f:Value) (r:List V→Hp→VK→Prop):Prop:=
 ∀(pins:List (Addr×Obj)) (s:Shared) (σ:St) (H:Hp) (xs:List V) (us:List Value) (Q:VK),Inv X pins σ H s→Vals xs us→r xs H Q→
  wpAny (model X.prog X.w) X.A (call f us) (EP X pins σ Q) X.xe s
noncomputable def tOp (r:R2) (ta tb:TE):TE:=fun σ H Q=>ta σ H fun x H1=>tb σ H1 fun y H2=>r x y H2 Q
noncomputable def tUn (r:V→Hp→VK→Prop) (ta:TE):TE:=fun σ H Q=>ta σ H fun x H1=>r x H1 Q
noncomputable def rI (C:Int→Int→Prop) (g:Int→Int→V):R2:=fun x y H Q=>∃i j,x=.int i∧y=.int j∧C i j∧Q (g i j) H
noncomputable def rI0 (g:Int→Int→V):R2:=fun x y H Q=>∃i j,x=.int i∧y=.int j∧Q (g i j) H
noncomputable def rU (g:Int→V):V→Hp→VK→Prop:=fun x H Q=>∃i,x=.int i∧Q (g i) H
section
variable {X : Cx} {a b c : Expr} {ta tb tc : TE} {pos : Pos}
theorem binT (ha:PE X a ta) (hb:PE X b tb) {pins:List (Addr×Obj)} {s:Shared} {σ:St} {H:Hp} {R:V→V→Hp→Prop} (I:Inv X pins σ H s)
  (h:ta σ H fun x H1=>tb σ H1 fun y H2=>R x y H2) {Q:Value→Shared→Prop} {f:Value→Value→Sem Value}
  (hf:∀v u s2 x y H2,Inv X pins σ H2 s2→RelV x v→RelV y u→R x y H2→wpAny (model X.prog X.w) X.A (f v u) Q X.xe s2):
  wpAny (model X.prog X.w) X.A (eval a X.env) (fun v s₁=>wpAny (model X.prog X.w) X.A (eval b X.env) (fun u s₂=>wpAny (model X.prog X.w) X.A (f v u) Q X.xe s₂) X.xe s₁) X.xe s:=by
 refine thn (ha pins s σ H _ I h) fun v s1 ⟨x,H1,I1,r1,q1⟩=>?_
 refine thn (hb pins s1 σ H1 _ I1 q1) fun u s2 ⟨y,H2,I2,r2,q2⟩=>?_
 exact hf v u s2 x y H2 I2 r1 r2 q2
theorem pe_op {op:Operator} {r:R2} (ho:OpR X (binaryOp op) r) (ha:PE X a ta) (hb:PE X b tb):PE X (.BinOp a op b pos) (tOp r ta tb):=by
 intro pins s σ H Q I h
 exact wpAny_BinOp (binT ha hb I h fun v u s2 x y H2 I2 rx ry q=>ho pins s2 σ H2 x y v u Q I2 rx ry q)
theorem pe_un {op:UnaryOp} {r:V→Hp→VK→Prop} (ho:UnR X (unaryOp op) r) (ha:PE X a ta):PE X (.UnaryOp op a pos) (tUn r ta):=by
 intro pins s σ H Q I h
 exact UnaryOp_ (thn (ha pins s σ H _ I h) fun v s1 ⟨x,H1,I1,r1,q1⟩=>ho pins s1 σ H1 x v Q I1 r1 q1)
theorem opI {f:Value→Value→Sem Value} {C:Int→Int→Prop} {g:Int→Int→Int}
  (rule:∀(i j:Int) (t u:Tok) (s:Shared) (Q:Value→Shared→Prop) (E:Value→Shared→Prop),C i j→Q (.int (g i j) s.toks) {s with toks:=s.toks+1}→wpAny (model X.prog X.w) X.A (f (.int i t) (.int j u)) Q E s):
  OpR X f (rI C fun i j=>.int (g i j)):=by
 intro pins s σ H x y v u Q I rx ry h
 obtain⟨i,j,rfl,rfl,hc,q⟩:=h
 obtain⟨t,rfl⟩:=rx
 obtain⟨t',rfl⟩:=ry
 exact rule i j t t' s _ _ hc ⟨.int (g i j),H,I.tok _,⟨_,rfl⟩,q⟩
theorem opI0 {f:Value→Value→Sem Value} {g:Int→Int→Int}
  (rule:∀(i j:Int) (t u:Tok) (s:Shared) (Q:Value→Shared→Prop) (E:Value→Shared→Prop),Q (.int (g i j) s.toks) {s with toks:=s.toks+1}→wpAny (model X.prog X.w) X.A (f (.int i t) (.int j u)) Q E s):
  OpR X f (rI0 fun i j=>.int (g i j)):=by
 intro pins s σ H x y v u Q I rx ry h
 obtain⟨i,j,rfl,rfl,q⟩:=h
 obtain⟨t,rfl⟩:=rx
 obtain⟨t',rfl⟩:=ry
 exact rule i j t t' s _ _ ⟨.int (g i j),H,I.tok _,⟨_,rfl⟩,q⟩
theorem opB0 {f:Value→Value→Sem Value} {g:Int→Int→Bool}
  (rule:∀(i j:Int) (t u:Tok) (s:Shared) (Q:Value→Shared→Prop) (E:Value→Shared→Prop),Q (.bool (g i j)) s→wpAny (model X.prog X.w) X.A (f (.int i t) (.int j u)) Q E s):
  OpR X f (rI0 fun i j=>.bl (g i j)):=by
 intro pins s σ H x y v u Q I rx ry h
 obtain⟨i,j,rfl,rfl,q⟩:=h
 obtain⟨t,rfl⟩:=rx
 obtain⟨t',rfl⟩:=ry
 exact rule i j t t' s _ _ ⟨.bl (g i j),H,I,rfl,q⟩
noncomputable def CPow (i j:Int):Prop:=0≤j∧j≤1000000∧i.natAbs<2^64
theorem op_add:OpR X (binaryOp .Add) (rI0 fun i j=>.int (i+j)):=opI0 fun _ _ _ _ _ _ _ q=>add_int q
theorem op_sub:OpR X (binaryOp .Sub) (rI0 fun i j=>.int (i - j)):=opI0 fun _ _ _ _ _ _ _ q=>sub_int q
theorem op_mod:OpR X (binaryOp .Mod) (rI (fun _ j=>0<j) fun i j=>.int (i % j)):=opI fun i j _ _ _ _ _ hc q=>by
 have h1:(0:Int)<j:=hc
 exact mod_int' (by omega) (by rw[Int.fmod_eq_emod_of_nonneg i (by omega)];exact q)
theorem unI {f:Value→Sem Value} {g:Int→Int}
  (rule:∀(i:Int) (t:Tok) (s:Shared) (Q:Value→Shared→Prop) (E:Value→Shared→Prop),Q (.int (g i) s.toks) {s with toks:=s.toks+1}→wpAny (model X.prog X.w) X.A (f (.int i t)) Q E s):
  UnR X f (rU fun i=>.int (g i)):=by
 intro pins s σ H x v Q I rx h
 obtain⟨i,rfl,q⟩:=h
 obtain⟨t,rfl⟩:=rx
 exact rule i t s _ _ ⟨.int (g i),H,I.tok _,⟨_,rfl⟩,q⟩
theorem un_neg:UnR X (unaryOp .USub) (rU fun i=>.int (-i)):=unI fun _ _ _ _ _ q=>neg_int q
end
noncomputable def scal:V→V→Bool
 | .non,.non=>true | .non,.int _=>true | .int _,.non=>true | .non,.bl _=>true | .bl _,.non=>true | .non,.str _=>true | .str _,.non=>true
 | .int _,.int _=>true | .bl _,.bl _=>true | .str _,.str _=>true | .byt _,.byt _=>true
 | .int _,.str _=>true | .str _,.int _=>true | .bl _,.str _=>true | .str _,.bl _=>true
 | _,_=>false
noncomputable def rEq:R2:=fun x y H Q=>scal x y=true∧Q (.bl (decide (x=y))) H
noncomputable def rNe:R2:=fun x y H Q=>scal x y=true∧Q (.bl (!decide (x=y))) H
theorem dec_int {i j:Int}:decide (V.int i=V.int j)=(i==j):=by
 rw[Bool.eq_iff_iff]
 simp
theorem dec_bl {i j:Bool}:decide (V.bl i=V.bl j)=(i==j):=by
 rw[Bool.eq_iff_iff]
 simp
theorem dec_str {i j:Str}:decide (V.str i=V.str j)=(i==j):=by
 rw[Bool.eq_iff_iff]
 simp
theorem dec_byt {i j:Array UInt8}:decide (V.byt i=V.byt j)=(i.toList==j.toList):=by
 rw[Bool.eq_iff_iff]
 cases i
 cases j
 simp
section
variable {X : Cx} {a b c : Expr} {ta tb tc : TE} {pos : Pos}
theorem fin_bl {pins:List (Addr×Obj)} {σ:St} {H:Hp} {s:Shared} {Q:VK} {k k':Bool} (I:Inv X pins σ H s) (q:Q (.bl k) H) (e:k=k'):EP X pins σ Q (.bool k') s:=by
 subst e
 exact⟨.bl k,H,I,rfl,q⟩
theorem op_eq:OpR X (compareOp .Eq) rEq:=by
 intro pins s σ H x y v u Q I rx ry h
 obtain⟨hs,q⟩:=h
 cases x with
 | non=>
  cases rx
  cases y with
  | non=>cases ry;exact PySem.EqNone.eq_none_none (fin_bl I q (by simp))
  | bl j=>cases ry;exact PySem.EqNone.eq_none_bool (fin_bl I q (by simp))
  | int j=>obtain⟨t',rfl⟩:=ry;exact PySem.EqNone.eq_none_int (fin_bl I q (by simp))
  | str j=>obtain⟨t',rfl⟩:=ry;exact PySem.EqNone.eq_none_str (fin_bl I q (by simp))
  | _=>exact absurd (show false=true from hs) Bool.false_ne_true
 | bl i=>
  cases rx
  cases y with
  | non=>cases ry;exact PySem.EqNone.eq_bool_none (fin_bl I q (by simp))
  | bl j=>cases ry;exact eq_bool (fin_bl I q dec_bl)
  | str j=>obtain⟨t',rfl⟩:=ry;exact PySem.EqMixed.eq_bool_str (fin_bl I q (by simp))
  | _=>exact absurd (show false=true from hs) Bool.false_ne_true
 | int i=>
  obtain⟨t,rfl⟩:=rx
  cases y with
  | non=>cases ry;exact PySem.EqNone.eq_int_none (fin_bl I q (by simp))
  | int j=>obtain⟨t',rfl⟩:=ry;exact eq_int (fin_bl I q dec_int)
  | str j=>obtain⟨t',rfl⟩:=ry;exact PySem.EqMixed.eq_int_str (fin_bl I q (by simp))
  | _=>exact absurd (show false=true from hs) Bool.false_ne_true
 | str i=>
  obtain⟨t,rfl⟩:=rx
  cases y with
  | non=>cases ry;exact PySem.EqNone.eq_str_none (fin_bl I q (by simp))
  | bl j=>cases ry;exact PySem.EqMixed.eq_str_bool (fin_bl I q (by simp))
  | int j=>obtain⟨t',rfl⟩:=ry;exact PySem.EqMixed.eq_str_int (fin_bl I q (by simp))
  | str j=>obtain⟨t',rfl⟩:=ry;exact eq_str (fin_bl I q dec_str)
  | _=>exact absurd (show false=true from hs) Bool.false_ne_true
 | byt i=>
  obtain⟨t,rfl⟩:=rx
  cases y with
  | byt j=>obtain⟨t',rfl⟩:=ry;exact PySem.W.eq_bytes (fin_bl I q dec_byt)
  | _=>exact absurd (show false=true from hs) Bool.false_ne_true
 | _=>cases y <;>exact absurd (show false=true from hs) Bool.false_ne_true
theorem op_ne:OpR X (compareOp .NotEq) rNe:=by
 intro pins s σ H x y v u Q I rx ry h
 obtain⟨hs,q⟩:=h
 cases x with
 | non=>
  cases rx
  cases y with
  | non=>cases ry;exact PySem.EqNone.ne_none_none (fin_bl I q (by simp))
  | bl j=>cases ry;exact PySem.EqNone.ne_none_bool (fin_bl I q (by simp))
  | int j=>obtain⟨t',rfl⟩:=ry;exact PySem.EqNone.ne_none_int (fin_bl I q (by simp))
  | str j=>obtain⟨t',rfl⟩:=ry;exact PySem.EqNone.ne_none_str (fin_bl I q (by simp))
  | _=>exact absurd (show false=true from hs) Bool.false_ne_true
 | bl i=>
  cases rx
  cases y with
  | non=>cases ry;exact PySem.EqNone.ne_bool_none (fin_bl I q (by simp))
  | bl j=>cases ry;exact ne_bool (fin_bl I q (congrArg not dec_bl))
  | str j=>obtain⟨t',rfl⟩:=ry;exact PySem.EqMixed.ne_bool_str (fin_bl I q (by simp))
  | _=>exact absurd (show false=true from hs) Bool.false_ne_true
 | int i=>
  obtain⟨t,rfl⟩:=rx
  cases y with
  | non=>cases ry;exact PySem.EqNone.ne_int_none (fin_bl I q (by simp))
  | int j=>obtain⟨t',rfl⟩:=ry;exact ne_int (fin_bl I q (congrArg not dec_int))
  | str j=>obtain⟨t',rfl⟩:=ry;exact PySem.EqMixed.ne_int_str (fin_bl I q (by simp))
  | _=>exact absurd (show false=true from hs) Bool.false_ne_true
 | str i=>
  obtain⟨t,rfl⟩:=rx
  cases y with
  | non=>cases ry;exact PySem.EqNone.ne_str_none (fin_bl I q (by simp))
  | bl j=>cases ry;exact PySem.EqMixed.ne_str_bool (fin_bl I q (by simp))
  | int j=>obtain⟨t',rfl⟩:=ry;exact PySem.EqMixed.ne_str_int (fin_bl I q (by simp))
  | str j=>obtain⟨t',rfl⟩:=ry;exact ne_str (fin_bl I q (congrArg not dec_str))
  | _=>exact absurd (show false=true from hs) Bool.false_ne_true
 | byt i=>
  obtain⟨t,rfl⟩:=rx
  cases y with
  | byt j=>obtain⟨t',rfl⟩:=ry;exact PySem.W.ne_bytes (fin_bl I q (congrArg not dec_byt))
  | _=>exact absurd (show false=true from hs) Bool.false_ne_true
 | _=>cases y <;>exact absurd (show false=true from hs) Bool.false_ne_true
theorem op_lt:OpR X (compareOp .Lt) (rI0 fun i j=>.bl (decide (i<j))):=opB0 fun _ _ _ _ _ _ _ q=>lt_int q
theorem op_le:OpR X (compareOp .LtE) (rI0 fun i j=>.bl (decide (i≤j))):=opB0 fun _ _ _ _ _ _ _ q=>le_int q
theorem op_gt:OpR X (compareOp .Gt) (rI0 fun i j=>.bl (decide (j<i))):=opB0 fun _ _ _ _ _ _ _ q=>gt_int q
theorem op_ge:OpR X (compareOp .GtE) (rI0 fun i j=>.bl (decide (j≤i))):=opB0 fun _ _ _ _ _ _ _ q=>ge_int q
theorem op_isN:OpR X (compareOp .Is) (fun x y H Q=>y=.non∧Q (.bl (decide (x=.non))) H):=by
 intro pins s σ H x y v u Q I rx ry h
 obtain⟨rfl,q⟩:=h
 cases ry
 refine is_none_gen (fin_bl I q ?_)
 cases x <;>first
  | (cases rx;rfl)
  | (obtain⟨t,rfl⟩:=rx;rfl)
theorem nomark (b:Expr) {op:CmpOp} (h:op≠.In:=by decide) (h2:op≠.NotIn:=by decide):behindInMarks op b=false:=by
 have e1:(op==CmpOp.In)=false:=by cases op <;>first | rfl | exact absurd rfl h
 have e2:(op==CmpOp.NotIn)=false:=by cases op <;>first | rfl | exact absurd rfl h2
 cases b <;>simp [behindInMarks,e1,e2]
theorem pe_cmpR {op:CmpOp} {r:R2} (ho:OpR X (compareOp op) r) (ha:PE X a ta) (hb:PE X b tb) (hm:behindInMarks op b=false):PE X (.Compare a [op] [b] pos) (tOp r ta tb):=by
 intro pins s σ H Q I h
 exact wpAny_Compare1 (binT ha hb I h fun v u s2 x y H2 I2 rx ry q=>ho pins s2 σ H2 x y v u Q I2 rx ry q) hm
noncomputable def tTest (t:TE):TT:=fun σ H Q=>t σ H fun x H'=>∃k,x=.bl k∧Q k H'
theorem pt_cmpR {op:CmpOp} {r:R2} (ho:OpR X (compareOp op) r) (ha:PE X a ta) (hb:PE X b tb) (hm:behindInMarks op b=false):PT X (.Compare a [op] [b] pos) (tTest (tOp r ta tb)):=by
 intro pins s σ H Q I h
 refine wpAny_isTrue_Compare1 (thn (ha pins s σ H _ I h) fun v s1 ⟨x,H1,I1,r1,q1⟩=>thn (hb pins s1 σ H1 _ I1 q1) fun u s2 ⟨y,H2,I2,r2,q2⟩=>
  thn (ho pins s2 σ H2 x y v u _ I2 r1 r2 q2) fun c s3 ⟨z,H3,I3,r3,k,e,q3⟩=>?_) hm
 subst e
 cases r3
 exact wpAny_truthy_bool ⟨H3,I3,q3⟩
noncomputable def tChain (r r':R2) (ta tb tc:TE):TE:=fun σ H Q=>ta σ H fun x H1=>tb σ H1 fun y H2=>r x y H2 fun z H3=>∃k,z=.bl k∧
 (if k=true then tc σ H3 fun w' H4=>r' y w' H4 Q else Q (.bl false) H3)
theorem pt_chain {op op':CmpOp} {r r':R2} (ho:OpR X (compareOp op) r) (ho':OpR X (compareOp op') r') (ha:PE X a ta) (hb:PE X b tb) (hc:PE X c tc)
  (hm:lastMarks [op,op'] [b,c]=false:=by with_unfolding_all rfl):PT X (.Compare a [op,op'] [b,c] pos) (tTest (tChain r r' ta tb tc)):=by
 intro pins s σ H Q I h
 refine isTrue_chain (thn (ha pins s σ H _ I h) fun v s1 ⟨x,H1,I1,r1,q1⟩=>test_link (thn (hb pins s1 σ H1 _ I1 q1) fun u s2 ⟨y,H2,I2,r2,q2⟩=>
  thn (ho pins s2 σ H2 x y v u _ I2 r1 r2 q2) fun d s3 ⟨z,H3,I3,r3,k,e,q3⟩=>?_)) hm
 subst e
 cases r3
 refine wpAny_truthy_bool ?_
 cases k with
 | false=>
  obtain⟨k',e',q'⟩:=q3
  cases e'
  exact ite_ff ⟨H3,I3,q'⟩
 | true=>
  refine ite_tt (test_last (thn (hc pins s3 σ H3 _ I3 q3) fun w' s4 ⟨z',H4,I4,r4,q4⟩=>thn (ho' pins s4 σ H4 y z' u w' _ I4 r2 r4 q4) fun d' s5 ⟨z2,H5,I5,r5,k2,e2,q5⟩=>?_))
  subst e2
  cases r5
  exact wpAny_truthy_bool ⟨H5,I5,q5⟩
theorem line63:(sizeLine:Nat)<2^63:=by rw[sizeLine_eq];decide
theorem vals1 {x:V} {us:List Value} (r:Vals [x] us):∃u,us=[u]∧RelV x u:=by
 cases r with
 | cons r1 r2=>cases r2;exact⟨_,rfl,r1⟩
theorem vals2 {x y:V} {us:List Value} (r:Vals [x,y] us):∃u w',us=[u,w']∧RelV x u∧RelV y w':=by
 cases r with
 | cons r1 r2=>
  cases r2 with
  | cons r3 r4=>cases r4;exact⟨_,_,rfl,r1,r3⟩
theorem call_abs:CallR X (.builtin "abs") (fun xs H Q=>∃i,xs=[.int i]∧Q (.int (if i<0 then -i else i)) H):=by
 intro pins s σ H xs us Q I r h
 obtain⟨i,rfl,q⟩:=h
 obtain⟨u,rfl,t,rfl⟩:=vals1 r
 exact call_abs_int fun u tk=>⟨.int (if i<0 then -i else i),H,I.tok _,⟨_,rfl⟩,q⟩
theorem call_max2 (hc:X.calm=true):CallR X (.builtin "max") (fun xs H Q=>∃i j,xs=[.int i,.int j]∧Q (.int (if j >i then j else i)) H):=by
 intro pins s σ H xs us Q I r h
 obtain⟨i,j,rfl,q⟩:=h
 obtain⟨u,w',rfl,⟨t,rfl⟩,⟨t',rfl⟩⟩:=vals2 r
 refine max_two_ints (I.ok.hd hc) fun h' tk k=>⟨_,H,I.kept k,?_,q⟩
 by_cases hj:j >i
 ·rw[if_pos hj,if_pos hj];exact⟨_,rfl⟩
 ·rw[if_neg hj,if_neg hj];exact⟨_,rfl⟩
theorem call_min2 (hc:X.calm=true):CallR X (.builtin "min") (fun xs H Q=>∃i j,xs=[.int i,.int j]∧Q (.int (if j<i then j else i)) H):=by
 intro pins s σ H xs us Q I r h
 obtain⟨i,j,rfl,q⟩:=h
 obtain⟨u,w',rfl,⟨t,rfl⟩,⟨t',rfl⟩⟩:=vals2 r
 refine min_two_ints (I.ok.hd hc) fun h' tk k=>⟨_,H,I.kept k,?_,q⟩
 by_cases hj:j<i
 ·rw[if_pos hj,if_pos hj];exact⟨_,rfl⟩
 ·rw[if_neg hj,if_neg hj];exact⟨_,rfl⟩
theorem call_int1:CallR X (.type "int") (fun xs H Q=>(∃i,xs=[.int i]∧Q (.int i) H)∨∃k,xs=[.bl k]∧Q (.int (if k then 1 else 0)) H):=by
 intro pins s σ H xs us Q I r h
 rcases h with ⟨i,rfl,q⟩ | ⟨k,rfl,q⟩
 ·obtain⟨u,rfl,t,rfl⟩:=vals1 r
  exact call_int_int ⟨.int i,H,I,⟨_,rfl⟩,q⟩
 ·obtain⟨u,rfl,r1⟩:=vals1 r
  cases r1
  exact call_int_bool ⟨.int (if k then 1 else 0),H,I.tok _,⟨_,rfl⟩,q⟩
end
end L2
namespace L2
open PySem PySem.Spec PyProof.Rows
structure ObjM (h:Heap) (x dx C:Addr) (mA:Str→Option Value):Prop where
 obj:h.get? x=some (PySem.W.instObj C dx)
 ns:h.Ns1 dx mA
 ne:dx≠x
theorem lookIn_ns {h:Heap} {dx:Addr} {mA:Str→Option Value} (n:h.Ns1 dx mA):∃od,h.get? dx=some od∧∀name,PySem.W.lookIn name od=some (mA name):=by
 obtain⟨o,es,ep,ho,hd,hk,_,hm⟩:=n
 refine⟨o,ho,fun name=>?_⟩
 have e:=hm name
 unfold nsFind findBy at e
 rw[←Array.find?_toList] at e
 unfold PySem.W.lookIn
 rw[hd]
 dsimp only
 split
 ·rename_i y q
  rw[q] at e
  exact congrArg some e
 ·rename_i q
  rw[q] at e
  have a:es.toList.any (·.refKey)=false:=by
   rw[List.any_eq_false]
   intro y hy
   obtain⟨z,t,hkey⟩:=hk y (Array.mem_toList_iff.mp hy)
   simp [DictEntry.refKey,hkey]
  have a':¬es.toList.any (·.refKey)=true:=by rw[a];exact Bool.false_ne_true
  rw[if_neg a']
  exact congrArg some e
theorem ObjM.look {h:Heap} {x dx C:Addr} {mA:Str→Option Value} (I:ObjM h x dx C mA):∃od,PySem.W.InstAt h x (PySem.W.instObj C dx) C (some od)∧∀name,PySem.W.lookIn name od=some (mA name):=
 let ⟨od,ho,hl⟩:=lookIn_ns I.ns
 ⟨od,⟨I.obj,rfl,rfl,ho⟩,hl⟩
section
variable {prog : Program} {w : World} {A : Around} {E : Value → Shared → Prop} {s : Shared} {K : PySem.W.Frag} {x dx C f : Addr} {mA : Str → Option Value} {name : Str} {v : Value}
theorem get_map {expr:Bool} {Q:Value→Shared→Prop} (X:K.In s.heap) (I:ObjM s.heap x dx C mA) (hg:PySem.W.plainGet K C name=true) (hh:PySem.W.hasDictIn K C=true)
  (ha:PySem.W.findIn K (.ref C) name=some none) (hv:mA name=some v) (hv':PySem.W.handedIn v=true) (h:Q v {s with toks:=s.toks+1}):
  wpAny (model prog w) A (getAttr (.ref x) name expr) Q E s:=by
 obtain⟨od,J,hl⟩:=I.look
 exact PySem.W.get_value X J (PySem.W.plainGet_of hg).1 (PySem.W.findObj_own hh ha rfl (by rw[hl,hv])) hv' h
theorem get_meth {pl:Sem Bool} {Q:Value×List Value→Shared→Prop} (X:K.In s.heap) (I:ObjM s.heap x dx C mA) (hg:PySem.W.plainGet K C name=true)
  (hf:PySem.W.findIn K (.ref C) name=some (some (.ref f))) (ht:PySem.W.isFn K (.ref f)=true) (hv:mA name=none) (h:Q (.ref f,[.ref x]) s):
  wpAny (model prog w) A (getMethod (.ref x) name pl) Q E s:=by
 obtain⟨od,J,hl⟩:=I.look
 exact PySem.W.method_fn X J (PySem.W.plainGet_of hg).1 (PySem.W.plainGet_of hg).2 hf (beq_iff_eq.mp ht) (by show(PySem.W.lookIn name od).map (·.isSome)=some false;rw[hl,hv];rfl) h
theorem set_map {ns:List Str} {Q:Unit→Shared→Prop} (X:K.In s.heap) (I:ObjM s.heap x dx C mA)
  (hs:PySem.W.findIn K (.ref C) "__setattr__"=some (some (.builtin "object.__setattr__"))) (hp:PySem.W.plainOver K C=true) (ht:PySem.W.takerIn K C name=some none) (hh:PySem.W.hasDictIn K C=true)
  (hw:PySem.Within mA ns) (hsz:ns.length≤sizeLine)
  (h:∀h',ObjM h' x dx C (fun y=>if y=name then some v else mA y)→Heap.SameBut dx s.heap h'→Q () {s with heap:=h',toks:=s.toks+2}):
  wpAny (model prog w) A (setAttr (.ref x) name v) Q E s:=by
 obtain⟨od,J,hl⟩:=I.look
 refine PySem.W.set_plain X J hs (PySem.W.osa_open (s:={s with toks:=s.toks+1}) (r:=none) X J hp ht fun b=>?_)
 obtain⟨cd,hc,hd'⟩:=PySem.W.any_some hh
 have hx:s.heap.get? x=some ⟨.ref C,some dx,.plain,#[]⟩:=I.obj
 refine wpAny_bind (wpAny_pure (wpAny_bind (wpAny_bind (wpAny_loadPart hx (wpAny_bind (PySem.W.Looks.here (s:={s with toks:=s.toks+1}) (PySem.W.looks_clsIn X hc) ?_))))))
 rw[hd']
 refine wpAny_pure (a:=some dx) (wpAny_bind (wpAny_pure (wpAny_bind ?_)))
 refine wpAny_nsSet1 (s:={s with toks:=s.toks+1}) I.ns fun h' hn2 hs2=>?_
 obtain⟨oD,esD,epD,hoD,hdD,hcD⟩:=hn2.count (PySem.Within.cons name v hw)
 refine wpAny_bind (wpAny_lookBehind hoD (by rw[hdD];exact pastItsLine_dict (Nat.le_trans hcD (by rw[List.length_cons];omega))) ?_)
 exact wpAny_pure (h _ ⟨(hs2.2 _ (Ne.symm I.ne)).trans I.obj,hn2,I.ne⟩ hs2)
theorem make_map {R:Result→Shared→Prop} {vs:List Value} {kw:List (Str×Value)} (X:K.In s.heap) (hm:PySem.W.makesIn K C=true)
  (hi:PySem.W.findIn K (.ref C) "__init__"=some (some (.ref f))) (hf:PySem.W.typeIn K (.ref f)=some (.type "function"))
  (h:codeAny (model prog w) (A.under (.builtin "type.__call__" ⟨.ref C::vs,kw⟩)) (.call (.ref f) ⟨.ref (s.heap.objs.size+1)::vs,kw⟩) (PySem.W.InitBack (s.heap.objs.size+1) R)
   {s with heap:=(s.heap.push PySem.W.emptyDict).push (PySem.W.instObj C s.heap.objs.size)}):
  codeAny (model prog w) A (.call (.ref C) ⟨vs,kw⟩) R s:=by
 obtain⟨hh,g,d,t,os⟩:=s
 exact PySem.W.make_core (PySem.W.makes_of X hm) (PySem.W.looks_findIn X hi) (fun self=>PySem.W.bind_fn X self hf) (.inl rfl) h
end
noncomputable def putF (f:Str) (v:V):List (Str×V)→List (Str×V)
 | []=>[(f,v)]
 | (g,x)::r=>if g=f then (g,v)::r else (g,x)::putF f v r
theorem lookup_putF (f g:Str) (v:V):∀fs:List (Str×V),(putF f v fs).lookup g=if g=f then some v else fs.lookup g
 | []=>by
  show List.lookup g [(f,v)]=_
  by_cases h:g=f
  ·have hb:(g==f)=true:=beq_iff_eq.mpr h
   simp only[List.lookup,hb,if_pos h]
  ·have hb:(g==f)=false:=beq_eq_false_iff_ne.mpr h
   simp only[List.lookup,hb,if_neg h]
 | (k,x)::r=>by
  have ih:=lookup_putF f g v r
  rw[show putF f v ((k,x)::r)=(if k=f then (k,v)::r else (k,x)::putF f v r) from rfl]
  by_cases hk:k=f
  ·rw[if_pos hk]
   by_cases h:g=k
   ·have hb:(g==k)=true:=beq_iff_eq.mpr h
    simp only[List.lookup,hb,if_pos (h.trans hk)]
   ·have hb:(g==k)=false:=beq_eq_false_iff_ne.mpr h
    simp only[List.lookup,hb,if_neg (fun e:g=f=>h (e.trans hk.symm))]
  ·rw[if_neg hk]
   by_cases h:g=k
   ·have hb:(g==k)=true:=beq_iff_eq.mpr h
    simp only[List.lookup,hb,if_neg (fun e:g=f=>hk (h.symm.trans e))]
   ·have hb:(g==k)=false:=beq_eq_false_iff_ne.mpr h
    simp only[List.lookup,hb]
    exact ih
theorem keys_putF (f:Str) (v:V):∀fs:List (Str×V),f∈(putF f v fs).map (·.1)∧∀g,g∈fs.map (·.1)→g∈(putF f v fs).map (·.1)
 | []=>⟨by simp [putF],fun g h=>by simp at h⟩
 | (k,x)::r=>by
  obtain⟨i1,i2⟩:=keys_putF f v r
  rw[show putF f v ((k,x)::r)=(if k=f then (k,v)::r else (k,x)::putF f v r) from rfl]
  by_cases hk:k=f
  ·rw[if_pos hk]
   subst hk
   exact⟨by simp,fun g h=>by simpa using h⟩
  ·rw[if_neg hk]
   refine⟨?_,fun g h=>?_⟩
   ·rw[List.map_cons]
    exact List.mem_cons_of_mem _ i1
   ·rw[List.map_cons] at h ⊢
    rcases List.mem_cons.mp h with e | e
    ·exact List.mem_cons.mpr (.inl e)
    ·exact List.mem_cons_of_mem _ (i2 g e)
theorem length_putF (f:Str) (v:V):∀fs:List (Str×V),(putF f v fs).length≤fs.length+1
 | []=>by simp [putF]
 | (k,x)::r=>by
  have ih:=length_putF f v r
  rw[show putF f v ((k,x)::r)=(if k=f then (k,v)::r else (k,x)::putF f v r) from rfl]
  by_cases hk:k=f
  ·rw[if_pos hk,List.length_cons,List.length_cons];omega
  ·rw[if_neg hk,List.length_cons,List.length_cons];omega
theorem RelO.some_of {v:V} {o:Option Value} (r:RelO (some v) o):∃u,o=some u∧RelV v u:=by
 cases o with
 | none=>exact(show False from r).elim
 | some u=>exact⟨u,rfl,r⟩
theorem RelO.none_of {o:Option Value} (r:RelO none o):o=none:=by
 cases o with
 | none=>rfl
 | some u=>exact(show False from r).elim
theorem handed_of {v:V} {u:Value} (r:RelV v u):PySem.W.handedIn u=true:=by
 cases v with
 | non=>cases (show u=Value.none from r);rfl
 | bl b=>cases (show u=Value.bool b from r);rfl
 | int i=>obtain⟨t,e⟩:=(show ∃t,u=Value.int i t from r);cases e;rfl
 | str x=>obtain⟨t,e⟩:=(show ∃t,u=Value.str x t from r);cases e;rfl
 | byt b=>obtain⟨t,e⟩:=(show ∃t,u=Value.bytes b t from r);cases e;rfl
 | flt b=>obtain⟨t,e⟩:=(show ∃t,u=Value.float b t from r);cases e;rfl
 | ref a=>cases (show u=Value.ref a from r);rfl
 | ty n=>cases (show u=Value.type n from r);rfl
section
variable {P : Program} {w : World} {H H' : Hp} {h h' : Heap} {a C dx : Addr} {fs fs' : List (Str × V)}
theorem ins_get (hok:HOk P w H h) (e:H a=some (.ins C dx fs)):∃mA,ObjM h a dx C mA∧(∀f,RelO (fs.lookup f) (mA f))∧PySem.Within mA (fs.map (·.1))∧fs.length≤1000∧H dx=some (.own a):=by
 obtain⟨d,z,ne,ob,mA,n,r,q⟩:=(show ObjOk P w H h a (.ins C dx fs) from hok a _ e)
 exact⟨mA,⟨ob,n,ne⟩,r,q,z,d⟩
end
structure Cls (K:PySem.W.Frag) (C:Addr):Prop where
 pg:PySem.W.plainGet K C Str.empty=true
 hd:PySem.W.hasDictIn K C=true
 po:PySem.W.plainOver K C=true
 sa:PySem.W.findIn K (.ref C) "__setattr__"=some (some (.builtin "object.__setattr__"))
theorem Cls.get {K:PySem.W.Frag} {C:Addr} (c:Cls K C) (f:Str):PySem.W.plainGet K C f=true:=c.pg
noncomputable def NoAttr (K:PySem.W.Frag) (C:Addr) (f:Str):Prop:=PySem.W.findIn K (.ref C) f=some none
theorem NoAttr.taker {K:PySem.W.Frag} {C:Addr} {f:Str} (n:NoAttr K C f):PySem.W.takerIn K C f=some none:=by
 unfold PySem.W.takerIn
 rw[show PySem.W.findIn K (.ref C) f=some none from n]
 rfl
structure Con (K:PySem.W.Frag) (C:Addr) (f:Str) (v:V) (u:Value):Prop where
 at_:PySem.W.findIn K (.ref C) f=some (some u)
 rel:RelV v u
 get:PySem.W.specialIn K u "__get__"=some none
 cp:PySem.W.copiedNames.contains f=false
structure Meth (K:PySem.W.Frag) (C:Addr) (m:Str) (f:Addr):Prop where
 at_:PySem.W.findIn K (.ref C) m=some (some (.ref f))
 fn:PySem.W.isFn K (.ref f)=true
 kp:PySem.W.keepIn K (.ref f)=true
section
variable {X : Cx} {pins : List (Addr × Obj)} {σ : St} {H : Hp} {s : Shared} {a C dx : Addr} {fs : List (Str × V)} {f : Str} {v : V} {A : Around} {E : Value → Shared → Prop}
theorem getattr_ok {b:Bool} {Q:Value→Shared→Prop} (I:Inv X pins σ H s) (e:H a=some (.ins C dx fs)) (c:Cls X.K C) (n:NoAttr X.K C f) (l:fs.lookup f=some v)
  (h:∀u s',Inv X pins σ H s'→RelV v u→Q u s'):wpAny (model X.prog X.w) A (getAttr (.ref a) f b) Q E s:=by
 obtain⟨mA,O,r,_,_,_⟩:=ins_get I.hok e
 obtain⟨u,hu,ru⟩:=RelO.some_of (v:=v) (o:=mA f) (by rw[←l];exact r f)
 exact get_map I.kIn O (c.get f) c.hd n hu (handed_of ru) (h u _ (I.tok _) ru)
theorem getmeth_ok {m:Str} {g:Addr} {pl:Sem Bool} {Q:Value×List Value→Shared→Prop} (I:Inv X pins σ H s) (e:H a=some (.ins C dx fs)) (c:Cls X.K C) (k:Meth X.K C m g) (l:fs.lookup m=none)
  (h:Q (.ref g,[.ref a]) s):wpAny (model X.prog X.w) A (getMethod (.ref a) m pl) Q E s:=by
 obtain⟨mA,O,r,_,_,_⟩:=ins_get I.hok e
 have hn:mA m=none:=RelO.none_of (by rw[←l];exact r m)
 exact get_meth I.kIn O (c.get m) k.at_ k.fn hn h
theorem setattr_ok {y:V} {u:Value} {Q:Unit→Shared→Prop} (I:Inv X pins σ H s) (e:H a=some (.ins C dx fs)) (c:Cls X.K C) (n:NoAttr X.K C f) (hl:fs.length<1000) (ry:RelV y u)
  (h:∀s',Inv X pins σ (upd H a (.ins C dx (putF f y fs))) s'→Q () s'):wpAny (model X.prog X.w) A (setAttr (.ref a) f u) Q E s:=by
 obtain⟨mA,O,r,wi,_,ho⟩:=ins_get I.hok e
 have hz:(fs.map (·.1)).length≤sizeLine:=by rw[List.length_map,sizeLine_eq];omega
 refine set_map I.kIn O c.sa c.po n.taker c.hd wi hz fun h' O' sb=>h _ ?_
 have hd:∃o,h'.get? dx=some o:=let ⟨o,_,_,e',_⟩:=O'.ns;⟨o,e'⟩
 refine I.write (x:=a) (e:=dx) (by rw[e];exact True.intro) (.inr ho) (fun b q hb z=>(sb.2 b hb).trans z) hd ?_
 refine⟨by rw[upd_ne O.ne];exact ho,?_,O.ne,O'.obj,_,O'.ns,fun g=>?_,fun g hg=>?_⟩
 ·have:=length_putF f y fs;omega
 ·show RelO ((putF f y fs).lookup g) (if g=f then some u else mA g)
  rw[lookup_putF]
  by_cases q:g=f
  ·rw[if_pos q,if_pos q];exact ry
  ·rw[if_neg q,if_neg q];exact r g
 ·by_cases q:g=f
  ·rw[q];exact(keys_putF f y fs).1
  ·refine(keys_putF f y fs).2 g (wi g fun z=>hg ?_)
   show(if g=f then some u else mA g)=none
   rw[if_neg q];exact z
theorem Inv.made (I:Inv X pins σ H s):Inv X pins σ (upd (upd H s.heap.objs.size (.own (s.heap.objs.size+1))) (s.heap.objs.size+1) (.ins C s.heap.objs.size []))
  {s with heap:=(s.heap.push PySem.W.emptyDict).push (PySem.W.instObj C s.heap.objs.size)}:=by
 have e1:(s.heap.push PySem.W.emptyDict).get? s.heap.objs.size=some PySem.W.emptyDict:=Heap.get?_push_size s.heap rfl
 have e2:((s.heap.push PySem.W.emptyDict).push (PySem.W.instObj C s.heap.objs.size)).get? (s.heap.objs.size+1)=some (PySem.W.instObj C s.heap.objs.size):=by
  have:=Heap.get?_push_size (s.heap.push PySem.W.emptyDict) (o:=PySem.W.instObj C s.heap.objs.size) rfl
  rwa [Heap.size_push] at this
 have e3:(s.heap.push PySem.W.emptyDict).Ns s.heap.objs.size (fun _=>none):=⟨PySem.W.emptyDict,#[],_,e1,rfl,(fun e he=>absurd he (by simp)),fun _=>rfl⟩
 have I1:=I.laid (a:=s.heap.objs.size) (o:=.own (s.heap.objs.size+1)) (h':=s.heap.push PySem.W.emptyDict) (t':=s.toks) (fun b u q=>Heap.get?_push_of_some _ q) (Nat.le_refl _) ⟨_,e1⟩
 refine I1.laid (a:=s.heap.objs.size+1) (o:=.ins C s.heap.objs.size []) (t':=s.toks) (fun b u q=>Heap.get?_push_of_some _ q) (Nat.le_of_eq (Heap.size_push _ _)) ?_
 have ne:s.heap.objs.size≠s.heap.objs.size+1:=Nat.ne_of_lt (Nat.lt_succ_self _)
 refine⟨by rw[upd_ne ne,upd_same],Nat.zero_le _,ne,e2,fun _=>none,(Heap.Ns1.of_empty e3).at fun o q=>Heap.get?_push_of_some _ q,fun _=>True.intro,fun y hy=>absurd rfl hy⟩
theorem attr_of {prog:Program} {w:World} {env:Env} {e:Expr} {f:Str} {pos:Pos} {s:Shared} {Q:Value→Shared→Prop} (hb:attributeBase e f env (eval e env)=eval e env)
  (h:wpAny (model prog w) A (eval e env) (fun o s₁=>wpAny (model prog w) A (getAttr o f true) Q E s₁) E s):wpAny (model prog w) A (eval (.Attribute e f pos) env) Q E s:=
 Attribute_any_ h (by rw[arm_eval_Attribute,hb])
end
noncomputable def tFld (K:PySem.W.Frag) (ta:TE) (f:Str):TE:=fun σ H Q=>ta σ H fun x H1=>∃a C dx fs v,x=.ref a∧H1 a=some (.ins C dx fs)∧Cls K C∧NoAttr K C f∧fs.lookup f=some v∧Q v H1
noncomputable def sFld (K:PySem.W.Frag) (ta tv:TE) (f:Str):TS:=fun D σ H=>tv σ H fun y H1=>ta σ H1 fun x H2=>∃a C dx fs,x=.ref a∧H2 a=some (.ins C dx fs)∧Cls K C∧NoAttr K C f∧fs.length<1000∧
 D.nx σ (upd H2 a (.ins C dx (putF f y fs)))
section
variable {X : Cx} {o e value : Expr} {f : Str} {pos pos' tpos : Pos} {ta tv : TE}
theorem pe_fld (he:PE X e ta) (hb:attributeBase e f X.env (eval e X.env)=eval e X.env):PE X (.Attribute e f pos) (tFld X.K ta f):=by
 intro pins s σ H Q I h
 refine attr_of hb (thn (he pins s σ H _ I h) fun u s1 ⟨x,H1,I1,rx,a,C,dx,fs,v,ex,ea,c,n,l,q⟩=>?_)
 subst ex
 obtain rfl:u=Value.ref a:=rx
 exact getattr_ok I1 ea c n l fun u' s2 I2 ru=>⟨v,H1,I2,ru,q⟩
theorem ps_fld (ha:PE X o ta) (hv:PE X value tv) (hs:swapsWith value (some (.Attribute o f pos')) pos.line X.env=pure false):PS X (.Assign [.Attribute o f pos'] value pos) (sFld X.K ta tv f):=by
 intro pins s σ H D I h
 refine plainObj_wpAny_Assign_Attribute (thn (hv pins s σ H _ I h) fun u s1 ⟨y,H1,I1,ry,q⟩=>thn (ha pins s1 σ H1 _ I1 q) fun ov s2 ⟨x,H2,I2,rx,a,C,dx,fs,ex,ea,c,n,l,q2⟩=>?_) hs
 subst ex
 obtain rfl:ov=Value.ref a:=rx
 exact setattr_ok I2 ea c n l ry fun s3 I3=>⟨σ,_,I3,q2⟩
end
section
variable {X : Cx} {pins : List (Addr × Obj)} {σ : St} {H : Hp} {s : Shared} {A : Around} {E : Value → Shared → Prop} {Q : Value → Shared → Prop} {c : Value} {b : Bool}
inductive TyOf (K:PySem.W.Frag) (H:Hp):V→Value→Prop where
 | non:TyOf K H .non (.type "NoneType")
 | bl (x:Bool):TyOf K H (.bl x) (.type "bool")
 | int (i:Int):TyOf K H (.int i) (.type "int")
 | str (x:Str):TyOf K H (.str x) (.type "str")
 | flt (x:UInt64):TyOf K H (.flt x) (.type "float")
 | lst {a:Addr} {xs:List V} (e:H a=some (.lst xs)):TyOf K H (.ref a) (.type "list")
 | frz {a:Addr} {o:Obj} {xs:List V} (e:H a=some (.frz o (.lst xs))):TyOf K H (.ref a) (.type "list")
 | tup {a:Addr} {xs:List V} (e:H a=some (.tup xs)):TyOf K H (.ref a) (.type "tuple")
 | dK {a:Addr} {kvs:List (Key×V)} (e:H a=some (.dK kvs)):TyOf K H (.ref a) (.type "dict")
 | dT {a:Addr} {kvs:List (List Key×V)} (e:H a=some (.dT kvs)):TyOf K H (.ref a) (.type "dict")
 | ins {a C dx:Addr} {fs:List (Str×V)} (e:H a=some (.ins C dx fs)) (cl:Cls K C) (ha:PySem.W.findIn K (.ref C) "__class__"=some (some (.builtin "object.__class__")))
   (hn:PySem.W.specialIn K (.builtin "object.__class__") "__get__"=some (some (.builtin "getset_descriptor.__get__"))) (htk:PySem.W.takesIn K (.builtin "object.__class__")=some true)
   (hm:PySem.W.mroIn K C (.type "object")=some true):TyOf K H (.ref a) (.ref C)
theorem isinst_ok {x:V} {u t:Value} (I:Inv X pins σ H s) (rx:RelV x u) (ty:TyOf X.K H x t) (e:PySem.W.kitOne X.K t c=some b) (h:∀tk,Q (.bool b) {s with toks:=tk}):
  wpAny (model X.prog X.w) A (call (.builtin "isinstance") [u,c]) Q E s:=by
 cases ty with
 | non=>cases (show u=Value.none from rx);exact PySem.W.kia_one PySem.W.kitx_none I.kIn True.intro e (fun z=>nomatch z) h
 | bl y=>cases (show u=Value.bool y from rx);exact PySem.W.kia_one PySem.W.kitx_bool I.kIn True.intro e (fun z=>nomatch z) h
 | int i=>obtain⟨t,q⟩:=(show ∃t,u=Value.int i t from rx);cases q;exact PySem.W.kia_one PySem.W.kitx_int I.kIn True.intro e (fun z=>nomatch z) h
 | str y=>obtain⟨t,q⟩:=(show ∃t,u=Value.str y t from rx);cases q;exact PySem.W.kia_one PySem.W.kitx_str I.kIn True.intro e (fun z=>nomatch z) h
 | flt y=>obtain⟨t,q⟩:=(show ∃t,u=Value.float y t from rx);cases q;exact PySem.W.kia_one PySem.W.kitx_float I.kIn True.intro e (fun z=>nomatch z) h
 | @lst a xs ea=>
  cases (show u=Value.ref a from rx)
  obtain⟨_,_,n,_,h1⟩:=(show ObjOk X.prog X.w H s.heap a (.lst xs) from I.hok a _ ea)
  exact PySem.W.kia_one PySem.W.kitx_list I.kIn ⟨_,h1,rfl⟩ e (fun z=>nomatch z) h
 | @frz a ob xs ea=>
  cases (show u=Value.ref a from rx)
  obtain⟨_,_,_,n,_,h1⟩:=(show ObjOk X.prog X.w H s.heap a (.frz ob (.lst xs)) from I.hok a _ ea)
  exact PySem.W.kia_one PySem.W.kitx_list I.kIn ⟨_,h1,rfl⟩ e (fun z=>nomatch z) h
 | @tup a xs ea=>
  cases (show u=Value.ref a from rx)
  obtain⟨_,_,_,p⟩:=(show ObjOk X.prog X.w H s.heap a (.tup xs) from I.hok a _ ea)
  obtain⟨o,h1,h2,_⟩:=p
  exact PySem.W.kia_one PySem.W.kitx_tuple I.kIn ⟨o,h1,h2⟩ e (fun z=>nomatch z) h
 | @dK a kvs ea=>
  cases (show u=Value.ref a from rx)
  obtain⟨_,_,vs,_,p⟩:=(show ObjOk X.prog X.w H s.heap a (.dK kvs) from I.hok a _ ea)
  obtain⟨o,es,ep,h1,h2,_⟩:=p
  exact PySem.W.kia_one PySem.W.kitx_dict I.kIn ⟨o,h1,h2.1⟩ e (fun z=>nomatch z) h
 | @dT a kvs ea=>
  cases (show u=Value.ref a from rx)
  obtain⟨_,_,xs,_,o,es,ep,h1,h2,_⟩:=(show ObjOk X.prog X.w H s.heap a (.dT kvs) from I.hok a _ ea)
  exact PySem.W.kia_one PySem.W.kitx_dict I.kIn ⟨o,h1,h2.1⟩ e (fun z=>nomatch z) h
 | @ins a C dx fs ea cl ha hn htk hm=>
  cases (show u=Value.ref a from rx)
  obtain⟨mA,O,_⟩:=ins_get I.hok ea
  obtain⟨od,J,_⟩:=O.look
  exact PySem.W.kia_one (PySem.W.kitx_own (cl.get _) cl.hd ha hn htk hm) I.kIn J e (fun z=>nomatch z) h
end
end L2
namespace L2
open PySem PySem.Spec PyProof.Rows
structure Room (k:Nat) (A:Around):Prop where
 hd:A.handled=none
 dp:A.depth+3*k+5<recursionLimit
 un:A.units+16*k+200<cLine
theorem Room.mono {j k:Nat} {A:Around} (r:Room k A) (h:j≤k):Room j A:=⟨r.hd,by have:=r.dp;omega,by have:=r.un;omega⟩
theorem Room.deeper {k:Nat} {A:Around} (r:Room (k+1) A) (env:Env):Room k (A.deeper env):=
 ⟨r.hd,by have:=r.dp;show A.depth+1+3*k+5<_;omega,by have:=r.un;show A.units+3+16*k+200<_;omega⟩
theorem make_depth {A:Around} {C:Addr} {us:List Value} {kw:List (Str×Value)}:(A.under (.builtin "type.__call__" ⟨.ref C::us,kw⟩)).depth=A.depth+1:=by
 first | rfl | simp [Around.under,Code.weight,Code.isCreation,Code.isGuard,Code.isCaller,Code.frames,Code.isFrame,guardIds]
theorem make_units {A:Around} {C:Addr} {us:List Value} {kw:List (Str×Value)}:(A.under (.builtin "type.__call__" ⟨.ref C::us,kw⟩)).units=A.units+1:=by
 first | rfl | simp [Around.under,Code.cUnits,Code.frames,Code.isFrame]
theorem Room.make {k:Nat} {A:Around} (r:Room (k+1) A) (C:Addr) (us:List Value) (kw:List (Str×Value)):Room k (A.under (.builtin "type.__call__" ⟨.ref C::us,kw⟩)):=
 ⟨r.hd,by have:=r.dp;rw[make_depth];omega,by have:=r.un;rw[make_units];omega⟩
theorem Room.depth {k:Nat} {A:Around} (r:Room k A):A.depth<recursionLimit:=by have:=r.dp;omega
theorem Room.units {k:Nat} {A:Around} (r:Room k A):A.units+64<cLine:=by have:=r.un;omega
noncomputable def tNil:TA:=fun _ H Q=>Q [] H
noncomputable def tCons (ta:TE) (tr:TA):TA:=fun σ H Q=>ta σ H fun x H1=>tr σ H1 fun xs H2=>Q (x::xs) H2
section
variable {X : Cx} {e : Expr} {es : List Expr} {te : TE} {t : TA} {pos : Pos}
theorem pa_nil:PA X [] tNil:=fun _ _ _ _ H Q I h=>Calls.spliced_nil ⟨[],H,I,.nil,h⟩
theorem pa_cons (ha:PE X e te) (hr:PA X es t) (hs:starEach (e::es) X.env=(false,eval e X.env)::starEach es X.env:=by rfl):PA X (e::es) (tCons te t):=by
 intro pos pins s σ H Q I h
 rw[hs]
 show wpAny _ _ (spliced ((false,eval e X.env)::backTo pos (starEach es X.env))) _ _ s
 refine Calls.spliced_cons (thn (ha pins s σ H _ I h) fun u s1 ⟨x,H1,I1,r1,q1⟩=>?_)
 exact thn (hr pos pins s1 σ H1 _ I1 q1) fun us s2 ⟨xs,H2,I2,r2,q2⟩=>⟨x::xs,H2,I2,.cons r1 r2,q2⟩
noncomputable def tLst (t:TA):TE:=fun σ H Q=>t σ H fun xs H1=>xs.length≤sizeLine∧∀p,H1 p=none→Q (.ref p) (upd H1 p (.lst xs))
theorem pe_lst (h:PA X es t):PE X (.List es pos) (tLst t):=by
 intro pins s σ H Q I hq
 refine wpAny_List_spliced (thn (h pos pins s σ H _ I hq) fun us s1 ⟨xs,H1,I1,r,z,q⟩=>⟨by rw[←r.length];exact z,?_⟩)
 have hf:H1 s1.heap.objs.size=none:=I1.hok.fresh (Nat.le_refl _)
 refine⟨.ref s1.heap.objs.size,upd H1 s1.heap.objs.size (.lst xs),I1.laid (t':=s1.toks) (fun b u e=>Heap.get?_push_of_some _ e) (Nat.le_refl _) ?_,rfl,q _ hf⟩
 exact⟨z,us,0,r,Heap.get?_push_size _ rfl⟩
end
abbrev Sp:=List V→Hp→VK→XK→Prop
abbrev CXT:=List Env→Hp→Shared→XK→Value→Shared→Prop
structure Env0 (P:Program) (w:World) (K:PySem.W.Frag) (mg:Str→Option Value) (base:Heap) (A:Around) (outer:List Env) (s:Shared) (H:Hp):Prop where
 frames:A.frames=some outer
 mod:Mod K mg base
 bs:∀b o,base.get? b=some o→s.heap.get? b=some o∧H b=none
 bsz:base.objs.size≤s.heap.objs.size
 funs:s.heap.FunFrames base outer
 frf:∀b∈frs outer,H b=none
 hok:HOk P w H s.heap
 bare:AllBare s.gens
noncomputable def CE (outer:List Env) (P:Program) (w:World) (H:Hp) (s:Shared) (Q:VK) (u:Value) (s':Shared):Prop:=
 ∃v H',s'.os=s.os∧AllBare s'.gens∧Un (frs outer) [] H H' s.heap s'.heap∧HOk P w H' s'.heap∧RelV v u∧Q v H'
noncomputable def CR (CX:CXT) (outer:List Env) (P:Program) (w:World) (H:Hp) (s:Shared) (Q:VK) (E:XK) (r:Result) (s':Shared):Prop:=
 match r with
 | .ok (.ret u)=>CE outer P w H s Q u s'
 | .ok _=>False
 | .error e=>CX outer H s E e s'
structure FnOk (P:Program) (w:World) (K:PySem.W.Frag) (mg:Str→Option Value) (base:Heap) (CX:CXT) (k:Nat) (f:Addr) (fd:FuncData) (ps:List Str) (sp:Sp):Prop where
 len:∀vs H Q E,sp vs H Q E→vs.length=ps.length
 run:∀(A:Around) (outer:List Env) (s:Shared) (H:Hp) (args:Args) (us:List Value) (vs:List V) (Q:VK) (E:XK),Room k A→Env0 P w K mg base A outer s H→BindsTo s fd args (ps.zip us)→Vals vs us→sp vs H Q E→
  codeAny (model P w) A (.call (.ref f) args) (CR CX outer P w H s Q E) s
theorem FnOk.mono {P:Program} {w:World} {K:PySem.W.Frag} {mg:Str→Option Value} {base:Heap} {CX:CXT} {j k:Nat} {f:Addr} {fd:FuncData} {ps:List Str} {sp:Sp} (F:FnOk P w K mg base CX j f fd ps sp) (h:j≤k):
  FnOk P w K mg base CX k f fd ps sp:=⟨F.len,fun A outer s H args us vs Q E hr=>F.run A outer s H args us vs Q E (hr.mono h)⟩
theorem Env0.make {P:Program} {w:World} {K:PySem.W.Frag} {mg:Str→Option Value} {base:Heap} {A:Around} {outer:List Env} {s:Shared} {H:Hp} (e:Env0 P w K mg base A outer s H) (C:Addr) (us:List Value) (kw:List (Str×Value)):
  Env0 P w K mg base (A.under (.builtin "type.__call__" ⟨.ref C::us,kw⟩)) outer s H:=⟨by first | exact e.frames | (simpa [Around.under,Code.envs,Code.isFrame,pushEnvs] using e.frames),e.mod,e.bs,e.bsz,e.funs,e.frf,e.hok,e.bare⟩
section
variable {X : Cx} {pins : List (Addr × Obj)} {σ : St} {H : Hp} {s s' : Shared}
theorem Inv.env0 (I:Inv X pins σ H s):Env0 X.prog X.w X.K X.mg X.base X.A X.stack s H:=
 ⟨I.ok.frames,I.ok.mod,I.bs,Nat.le_trans I.ok.bsz I.sz,I.stack,I.stkFree,I.hok,I.bare⟩
theorem Inv.after {Q:VK} {u:Value} (I:Inv X pins σ H s) (h:CE X.stack X.prog X.w H s Q u s'):EP X pins σ Q u s':=by
 obtain⟨v,H',os,bare,un,hok,r,q⟩:=h
 obtain⟨hh,g,d,t,os'⟩:=s'
 obtain rfl:os'=s.os:=os
 exact⟨v,H',I.call (h':=hh) (g':=g) (d':=d) (t':=t) (ch:=[]) un hok bare (fun b z=>absurd z (by simp)),r,q⟩
end
noncomputable def tCall (sp:Sp) (dvs:List V) (E:XK) (t:TA):TE:=fun σ H Q=>t σ H fun vs H1=>sp (vs++dvs) H1 Q E
noncomputable def tMeth (C:Addr) (m:Str) (sp:Sp) (dvs:List V) (E:XK) (ta:TE) (t:TA):TE:=fun σ H Q=>ta σ H fun x H1=>∃a dx fs,x=.ref a∧H1 a=some (.ins C dx fs)∧fs.lookup m=none∧
 t σ H1 fun vs H2=>sp (x::(vs++dvs)) H2 Q E
noncomputable def tMake (C:Addr) (sp:Sp) (dvs:List V) (E:XK) (t:TA):TE:=fun σ H Q=>t σ H fun vs H1=>∀x dx,H1 x=none→H1 dx=none→dx≠x→
 sp (.ref x::(vs++dvs)) (upd (upd H1 dx (.own x)) x (.ins C dx [])) (fun v H2=>v=.non∧Q (.ref x) H2) E
noncomputable def Binds (K:PySem.W.Frag) (fd:FuncData) (ps:List Str) (ds:List Value):Prop:=
 ∀(s:Shared) (us:List Value),K.In s.heap→(us++ds).length=ps.length→BindsTo s fd ⟨us,[]⟩ (ps.zip (us++ds))
theorem Binds.all {K:PySem.W.Frag} {fd:FuncData} {ps:List Str} (h:∀us:List Value,us.length=ps.length→bindArgs fd ⟨us,[]⟩=pure (ps.zip us)):Binds K fd ps []:=fun s us _ hl=>by
 rw[List.append_nil] at hl ⊢
 exact .of_eq (h us hl)
noncomputable def Passes (CX:CXT) (X:Cx) (E:XK):Prop:=∀(pins:List (Addr×Obj)) (σ:St) (H:Hp) (s:Shared) (e:Value) (s':Shared),Inv X pins σ H s→CX X.stack H s E e s'→X.xe e s'
section
variable {X : Cx} {CX : CXT} {k : Nat} {f C : Addr} {fd : FuncData} {ps : List Str} {sp : Sp} {dvs : List V} {ds : List Value} {E : XK} {x m : Str} {p pos apos : Pos} {e o : Expr} {es : List Expr} {ta : TE} {t : TA}
theorem run_fn {pins:List (Addr×Obj)} {σ:St} {H:Hp} {s:Shared} {Q:VK} {us:List Value} {vs:List V} (F:FnOk X.prog X.w X.K X.mg X.base CX k f fd ps sp) (hr:Room k X.A) (hb:Binds X.K fd ps ds) (hd:Vals dvs ds) (hx:Passes CX X E)
  (I:Inv X pins σ H s) (r:Vals vs us) (h:sp (vs++dvs) H Q E):wpAny (model X.prog X.w) X.A (call (.ref f) us) (EP X pins σ Q) X.xe s:=by
 have r2:Vals (vs++dvs) (us++ds):=r.append hd
 have hl:(us++ds).length=ps.length:=by rw[←r2.length];exact F.len _ _ _ _ h
 refine wpAny_call (codeAny_mono (F.run X.A X.stack s H ⟨us,[]⟩ (us++ds) (vs++dvs) Q E hr I.env0 (hb s us I.kIn hl) r2 h) fun r s' hq=>?_)
 cases r with
 | error e=>exact hx pins σ H s e s' I hq
 | ok fl=>
  cases fl with
  | ret u=>exact I.after hq
  | next=>exact False.elim hq
  | brk=>exact False.elim hq
  | cont=>exact False.elim hq
theorem pe_call (F:FnOk X.prog X.w X.K X.mg X.base CX k f fd ps sp) (hr:Room k X.A) (hg:Gl X x) (hm:X.mg x=some (.ref f)) (hk:PySem.W.keepIn X.K (.ref f)=true) (hb:Binds X.K fd ps ds) (hd:Vals dvs ds) (hx:Passes CX X E)
  (ha:PA X (e::es) t) (hdb:(x==("__debug__":Str))=false:=by decide) (he:starEach (e::es) X.env=(false,eval e X.env)::starEach es X.env:=by rfl) (hpl:(backTo pos (starEach es X.env)).any (·.1)=false:=by rfl):
  PE X (.Call (.Name x p) (e::es) [] pos) (tCall sp dvs E t):=by
 intro pins s σ H Q I h
 refine wpAny_Call_Name_kw (ld_glob I hg hm ?_ hdb)
 refine PySem.W.callWith_K (h₀:=X.base) I.ok.mod.kin hk (thn (ha pos pins s σ H _ I h) fun us s1 ⟨vs,H1,I1,r,q⟩=>⟨I1.kIn,?_⟩) he hpl
 exact run_fn F hr hb hd hx I1 r q
theorem pe_meth {pl:Sem Bool} (he:PE X o ta) (c:Cls X.K C) (hm:Meth X.K C m f) (F:FnOk X.prog X.w X.K X.mg X.base CX k f fd ps sp) (hr:Room k X.A) (hb:Binds X.K fd ps ds) (hd:Vals dvs ds) (hx:Passes CX X E) (ha:PA X (e::es) t)
  (hst:starEach (e::es) X.env=(false,eval e X.env)::starEach es X.env:=by rfl) (hpl:(backTo pos (starEach es X.env)).any (·.1)=false:=by rfl)
  (ht:eval (.Call (.Attribute o m apos) (e::es) [] pos) X.env=(do
   let ov ←eval o X.env
   standAt apos.atName
   let (f,first) ←holding [ov] (getMethod ov m pl)
   callWith pos f first (backTo pos (starEach (e::es) X.env)) (backToKw pos (keywordEach [] X.env))):=by rfl):
  PE X (.Call (.Attribute o m apos) (e::es) [] pos) (tMeth C m sp dvs E ta t):=by
 intro pins s σ H Q I h
 refine PySem.W.methodCall_KW (pl:=pl) (thn (he pins s σ H _ I h) fun u s1 ⟨x,H1,I1,rx,a,dx,fs,ex,ea,l,q⟩=>?_) ht
 subst ex
 obtain rfl:u=Value.ref a:=rx
 refine getmeth_ok I1 ea c hm l ?_
 refine PySem.W.callWith_K (first:=[.ref a]) (h₀:=X.base) I.ok.mod.kin hm.kp (thn (ha pos pins s1 σ H1 _ I1 q) fun us s2 ⟨vs,H2,I2,r,q2⟩=>⟨I2.kIn,?_⟩) hst hpl
 exact run_fn (us:=.ref a::us) (vs:=.ref a::vs) F hr hb hd hx I2 (.cons rfl r) q2
theorem pe_meth0 {pl:Sem Bool} (he:PE X o ta) (c:Cls X.K C) (hm:Meth X.K C m f) (F:FnOk X.prog X.w X.K X.mg X.base CX k f fd ps sp) (hr:Room k X.A) (hb:Binds X.K fd ps ds) (hd:Vals dvs ds) (hx:Passes CX X E)
  (ht:eval (.Call (.Attribute o m apos) [] [] pos) X.env=(do
   let ov ←eval o X.env
   standAt apos.atName
   let (f,first) ←holding [ov] (getMethod ov m pl)
   callWith pos f first (backTo pos (starEach [] X.env)) (backToKw pos (keywordEach [] X.env))):=by rfl):
  PE X (.Call (.Attribute o m apos) [] [] pos) (tMeth C m sp dvs E ta tNil):=by
 intro pins s σ H Q I h
 refine PySem.W.methodCall_KW (pl:=pl) (thn (he pins s σ H _ I h) fun u s1 ⟨x,H1,I1,rx,a,dx,fs,ex,ea,l,q⟩=>?_) ht
 subst ex
 obtain rfl:u=Value.ref a:=rx
 refine getmeth_ok I1 ea c hm l ?_
 exact PySem.W.callWith_K0 (first:=[.ref a]) I1.kIn hm.kp (run_fn (us:=[.ref a]) (vs:=[.ref a]) F hr hb hd hx I1 (.cons rfl .nil) q)
structure Mk (K:PySem.W.Frag) (C f:Addr):Prop where
 makes:PySem.W.makesIn K C=true
 init:PySem.W.findIn K (.ref C) "__init__"=some (some (.ref f))
 fn:PySem.W.isFn K (.ref f)=true
 kp:PySem.W.keepIn K (.ref C)=true
theorem run_make {pins:List (Addr×Obj)} {σ:St} {H:Hp} {s:Shared} {Q:VK} {us:List Value} {vs:List V} (M:Mk X.K C f) (F:FnOk X.prog X.w X.K X.mg X.base CX k f fd ps sp) (hr:Room (k+1) X.A) (hb:Binds X.K fd ps ds) (hd:Vals dvs ds)
  (hx:Passes CX X E) (I:Inv X pins σ H s) (r:Vals vs us)
  (h:∀x dx,H x=none→H dx=none→dx≠x→sp (.ref x::(vs++dvs)) (upd (upd H dx (.own x)) x (.ins C dx [])) (fun v H2=>v=.non∧Q (.ref x) H2) E):
  wpAny (model X.prog X.w) X.A (call (.ref C) us) (EP X pins σ Q) X.xe s:=by
 have hq:=h (s.heap.objs.size+1) s.heap.objs.size (I.hok.fresh (Nat.le_succ _)) (I.hok.fresh (Nat.le_refl _)) (Nat.ne_of_lt (Nat.lt_succ_self _))
 have I2:=Inv.made (C:=C) I
 have r2:Vals (V.ref (s.heap.objs.size+1)::(vs++dvs)) (Value.ref (s.heap.objs.size+1)::(us++ds)):=.cons rfl (r.append hd)
 have hl:(Value.ref (s.heap.objs.size+1)::us++ds).length=ps.length:=by
  have e:=r2.length
  rw[F.len _ _ _ _ hq] at e
  exact e.symm
 refine wpAny_call (make_map (f:=f) I.kIn M.makes M.init (beq_iff_eq.mp M.fn) (codeAny_mono (F.run _ X.stack _ _ ⟨Value.ref (s.heap.objs.size+1)::us,[]⟩ (Value.ref (s.heap.objs.size+1)::(us++ds)) _ _ E (hr.make C us [])
  (I2.env0.make C us []) (hb _ (Value.ref (s.heap.objs.size+1)::us) I2.kIn hl) r2 hq) fun r s' hq'=>?_))
 cases r with
 | error e=>exact hx pins σ _ _ e s' I2 hq'
 | ok fl=>
  cases fl with
  | ret u=>
   obtain⟨v,H',I3,rv,ev,q3⟩:=I2.after hq'
   subst ev
   exact⟨rv,⟨V.ref (s.heap.objs.size+1),H',I3,rfl,q3⟩⟩
  | next=>exact False.elim hq'
  | brk=>exact False.elim hq'
  | cont=>exact False.elim hq'
theorem pe_make (M:Mk X.K C f) (F:FnOk X.prog X.w X.K X.mg X.base CX k f fd ps sp) (hr:Room (k+1) X.A) (hg:Gl X x) (hm:X.mg x=some (.ref C)) (hb:Binds X.K fd ps ds) (hd:Vals dvs ds) (hx:Passes CX X E)
  (ha:PA X (e::es) t) (hdb:(x==("__debug__":Str))=false:=by decide) (he:starEach (e::es) X.env=(false,eval e X.env)::starEach es X.env:=by rfl) (hpl:(backTo pos (starEach es X.env)).any (·.1)=false:=by rfl):
  PE X (.Call (.Name x p) (e::es) [] pos) (tMake C sp dvs E t):=by
 intro pins s σ H Q I h
 refine wpAny_Call_Name_kw (ld_glob I hg hm ?_ hdb)
 refine PySem.W.callWith_K (h₀:=X.base) I.ok.mod.kin M.kp (thn (ha pos pins s σ H _ I h) fun us s1 ⟨vs,H1,I1,r,q⟩=>⟨I1.kIn,?_⟩) he hpl
 exact run_make M F hr hb hd hx I1 r q
theorem pe_make0 (M:Mk X.K C f) (F:FnOk X.prog X.w X.K X.mg X.base CX k f fd ps sp) (hr:Room (k+1) X.A) (hg:Gl X x) (hm:X.mg x=some (.ref C)) (hb:Binds X.K fd ps ds) (hd:Vals dvs ds) (hx:Passes CX X E)
  (hdb:(x==("__debug__":Str))=false:=by decide):PE X (.Call (.Name x p) [] [] pos) (tMake C sp dvs E tNil):=by
 intro pins s σ H Q I h
 refine wpAny_Call_Name_kw (ld_glob I hg hm ?_ hdb)
 exact PySem.W.callWith_K0 I.kIn M.kp (run_make (us:=[]) M F hr hb hd hx I .nil h)
end
section
variable {X : Cx} {CX : CXT} {k : Nat} {f C : Addr} {fd : FuncData} {ps ks : List Str} {sp : Sp} {E : XK} {x m : Str} {p pos apos kpos : Pos} {e o : Expr} {es : List Expr} {kws : List Keyword} {te ta : TE} {t tk : TA} {nm : Option Str}
structure KBinds (K:PySem.W.Frag) (fd:FuncData) (ps ks:List Str) (g:List Value→List Value→List Value) (gV:List V→List V→List V):Prop where
 to:∀(s:Shared) (us ws:List Value),K.In s.heap→(g us ws).length=ps.length→BindsTo s fd ⟨us,ks.zip ws⟩ (ps.zip (g us ws))
 rel:∀{vs:List V} {us:List Value} {zs:List V} {ws:List Value},Vals vs us→Vals zs ws→Vals (gV vs zs) (g us ws)
variable {g : List Value → List Value → List Value} {gV : List V → List V → List V}
end
structure FnScope (N P:List Str) (sc:Scope):Prop where
 kind:sc.kind=.function
 co:sc.isCoroutine=false
 gen:sc.isGenerator=false
 nd:N.Nodup
 pre:N.take P.length=P
 par:∀x∈P,sc.names.lookup x=some .local∨sc.names.lookup x=some .cell
 nofree:∀y∈sc.names,y.2≠.free
theorem bindL_out {kindOf:Str→Option NameKind} {x:Str}:∀{binds:List (Str×Value)} {m:Str→Option Value},(∀v,(x,v)∉binds)→bindL kindOf binds m x=m x
 | [],_,_=>rfl
 | (n,v)::r,m,h=>by
  unfold bindL
  rw[bindL_out fun w hw=>h w (List.mem_cons_of_mem _ hw)]
  split
  ·have:x≠n:=by rintro rfl;exact h v List.mem_cons_self
   simp [this]
  ·rfl
theorem bindC_out {kindOf:Str→Option NameKind} {x:Str}:∀{binds:List (Str×Value)} {m:Str→Option Value},(∀v,(x,v)∉binds)→bindC kindOf binds m x=m x
 | [],_,_=>rfl
 | (n,v)::r,m,h=>by
  unfold bindC
  rw[bindC_out fun w hw=>h w (List.mem_cons_of_mem _ hw)]
  split
  ·rfl
  ·have:x≠n:=by rintro rfl;exact h v List.mem_cons_self
   simp [this]
theorem bindL_get {kindOf:Str→Option NameKind} {x:Str} {v:Value}:∀{P:List Str} {vs:List Value} {i:Nat} {m:Str→Option Value},P.Nodup→P[i]?=some x→vs[i]?=some v→kindOf x=some .local→
  bindL kindOf (P.zip vs) m x=some v
 | [],_,_,_,_,h,_,_=>by simp at h
 | _::_,[],_,_,_,_,h,_=>by simp at h
 | p::P,w::vs,0,m,nd,h1,h2,hk=>by
  simp at h1 h2;subst h1;subst h2
  show bindL kindOf ((p,w)::P.zip vs) m p=_
  unfold bindL
  rw[bindL_out fun v hv=>(List.nodup_cons.mp nd).1 (List.of_mem_zip hv).1,if_pos hk]
  simp
 | p::P,w::vs,i+1,m,nd,h1,h2,hk=>by
  show bindL kindOf ((p,w)::P.zip vs) m x=_
  unfold bindL
  exact bindL_get (i:=i) (List.nodup_cons.mp nd).2 (by simpa using h1) (by simpa using h2) hk
theorem bindC_get {kindOf:Str→Option NameKind} {x:Str} {v:Value}:∀{P:List Str} {vs:List Value} {i:Nat} {m:Str→Option Value},P.Nodup→P[i]?=some x→vs[i]?=some v→kindOf x≠some .local→
  bindC kindOf (P.zip vs) m x=some v
 | [],_,_,_,_,h,_,_=>by simp at h
 | _::_,[],_,_,_,_,h,_=>by simp at h
 | p::P,w::vs,0,m,nd,h1,h2,hk=>by
  simp at h1 h2;subst h1;subst h2
  show bindC kindOf ((p,w)::P.zip vs) m p=_
  unfold bindC
  rw[bindC_out fun v hv=>(List.nodup_cons.mp nd).1 (List.of_mem_zip hv).1,if_neg hk]
  simp
 | p::P,w::vs,i+1,m,nd,h1,h2,hk=>by
  show bindC kindOf ((p,w)::P.zip vs) m x=_
  unfold bindC
  exact bindC_get (i:=i) (List.nodup_cons.mp nd).2 (by simpa using h1) (by simpa using h2) hk
noncomputable def start (N:List Str) (vs:List V):St:=vs.map some++List.replicate (N.length - vs.length) none
noncomputable def cxOf (CX:CXT) (P:Program) (w:World) (K:PySem.W.Frag) (mg:Str→Option Value) (base:Heap) (N:List Str) (qual:Str) (scope:Scope) (f:Addr) (cd:Value) (A:Around) (outer:List Env) (s:Shared) (H:Hp) (E:XK):Cx where
 prog:=P
 w:=w
 K:=K
 mg:=mg
 base:=base
 A:=A.deeper (envOfC qual scope s.heap.objs.size f cd)
 N:=N
 s₀:=s
 H₀:=H
 env:=envOfC qual scope s.heap.objs.size f cd
 outer:=outer
 stack:=envOfC qual scope s.heap.objs.size f cd::outer
 ex:=[]
 calm:=true
 fn:=fun _=>true
 pn:=[]
 xe:=fun e s'=>wpAny (model P w) (A.deeper (envOfC qual scope s.heap.objs.size f cd)) (leaving (envOfC qual scope s.heap.objs.size f cd) e) (fun _ s''=>CX outer H s E e s'') (fun e' s''=>CX outer H s E e' s'') s'
theorem cell_has {sc:Scope} {n:Nat} {x:Str} (h:sc.names.lookup x=some .cell):∃c,(cellsFrom n sc.names []).lookup x=some c:=by
 have q:=PySem.W.cellsFrom_some sc.names n [] (.inl h)
 exact Option.isSome_iff_exists.mp q
theorem inv_start {CX:CXT} {P:Program} {w:World} {K:PySem.W.Frag} {mg:Str→Option Value} {base:Heap} {N ps:List Str} {qual:Str} {scope:Scope} {f:Addr} {cd:Value} {A:Around} {outer:List Env} {s s1:Shared} {H:Hp} {E:XK} {us:List Value} {vs:List V}
  (S:FnScope N ps scope) (hd:A.handled=none) (e0:Env0 P w K mg base A outer s H) (hl:vs.length=ps.length) (r:Vals vs us)
  (x:InCallC s s.heap.objs.size (bindL (envOfC qual scope s.heap.objs.size f cd).kindOf (ps.zip us) fun _=>none) (cellsFrom (s.heap.objs.size+1) scope.names []) (bindC (envOfC qual scope s.heap.objs.size f cd).kindOf (ps.zip us) fun _=>none) s1):
  Inv (cxOf CX P w K mg base N qual scope f cd A outer s H E) [] (start N vs) H s1:=by
 have hpl:ps.length≤N.length:=by have:=congrArg List.length S.pre;rw[List.length_take] at this;omega
 obtain⟨h1,tk,rfl,hk⟩:=x.done
 have noA:∀b:Addr,b∉(cxOf CX P w K mg base N qual scope f cd A outer s H E).ex:=fun b z=>absurd (show b∈([]:List Addr) from z) (by simp)
 refine⟨⟨e0.mod,S.kind,rfl,rfl,Nat.le_refl _,fun y z c h1 h2=>?_,fun y hy=>?_,fun y c _ h=>?_,fun _=>hd,Around.frames_deeper e0.frames,.inr ⟨rfl,rfl⟩,fun b z=>absurd z (noA b),e0.bs,e0.bsz,fun b _ _=>noA b,fun b z=>absurd z (noA b),e0.funs,e0.frf⟩,
  rfl,e0.bare,Un.kept hk,⟨_,x.toInCall.ns,fun i y v h1 h2 h3=>?_⟩,fun y c h=>⟨_,x.cell y c h⟩,e0.hok.fresh (Nat.le_refl _),fun y c h=>?_,fun p hp=>absurd (show p∈([]:List (Addr×Obj)) from hp) (by simp),e0.hok.kept hk,?_⟩
 ·exact name_of_addr x.apart (PySem.mem_of_lookup h1) (PySem.mem_of_lookup h2)
 ·have hy:scope.names.lookup y=some .cell∨scope.names.lookup y=some .free:=hy
  rcases hy with hy | hy
  ·exact cell_has hy
  ·exact absurd rfl (S.nofree _ (PySem.mem_of_lookup hy))
 ·exact Nat.le_of_lt (x.above y c (PySem.mem_of_lookup h))
 ·have hi:i<vs.length:=by
   unfold start at h2
   by_cases hi:i<vs.length
   ·exact hi
   ·rw[List.getElem?_append_right (by simpa using hi)] at h2
    rw[List.getElem?_replicate] at h2
    split at h2 <;>cases h2
  have ha:vs[i]?=some v:=by
   unfold start at h2
   rw[List.getElem?_append_left (by simpa using hi),List.getElem?_map] at h2
   cases e:vs[i]? with
   | none=>rw[e] at h2;cases h2
   | some a=>rw[e] at h2;cases h2;rfl
  obtain⟨u,hu,rv⟩:=r.get ha
  have hp:ps[i]?=some y:=by
   rw[←S.pre,List.getElem?_take_of_lt (by omega)];exact h1
  have ndP:ps.Nodup:=by rw[←S.pre];exact S.nd.sublist (List.take_sublist _ _)
  refine⟨u,rv,?_⟩
  rcases S.par y (List.mem_of_getElem? hp) with k | k
  ·exact .inl ⟨k,bindL_get ndP hp hu k⟩
  ·obtain⟨c,e⟩:=cell_has (n:=s.heap.objs.size+1) k
   refine .inr ⟨.inl k,c,e,?_⟩
   have q:=x.cell y c e
   rw[bindC_get ndP hp hu (by show scope.names.lookup y≠_;rw[k];decide)] at q
   exact q
 ·exact e0.hok.fresh (Nat.le_of_lt (x.above y c (PySem.mem_of_lookup h)))
 ·unfold start
  show _=N.length
  rw[List.length_append,List.length_map,List.length_replicate]
  omega
theorem fn_of {CX:CXT} {P:Program} {w:World} {K:PySem.W.Frag} {mg:Str→Option Value} {base:Heap} {k:Nat} {f:Addr} {name qual:Str} {params:Arguments} {body:List Stmt} {scope:Scope} {dV kV doc pm cdv ct oc:Value} {an od:Option Addr}
  {osl:Array (Option Value)} {N ps:List Str} {sp:Sp} (lk:K.lookup f=some ⟨oc,od,.func (PySem.W.fnOf name qual params body scope dV kV doc pm an cdv ct),osl⟩) (hcd:PySem.W.codeIn K cdv qual=true) (S:FnScope N ps scope)
  (len:∀vs H Q E,sp vs H Q E→vs.length=ps.length)
  (hbody:∀(A:Around) (outer:List Env) (s:Shared) (H:Hp) (vs:List V) (Q:VK) (E:XK),Room k (A.deeper (envOfC qual scope s.heap.objs.size f cdv))→sp vs H Q E→
   ∃t,PSs (cxOf CX P w K mg base N qual scope f cdv A outer s H E) body t∧t {nx:=fun _ H'=>Q .non H',rt:=Q} (start N vs) H):
  FnOk P w K mg base CX (k+1) f (PySem.W.fnOf name qual params body scope dV kV doc pm an cdv ct) ps sp:=by
 refine⟨len,fun A outer s H args us vs Q E hr e0 hb r hsp=>?_⟩
 have hl:=len _ _ _ _ hsp
 have KX:K.In s.heap:=e0.mod.kin.keeps fun b o e=>(e0.bs b o e).1
 have lim:s.heap.NoLimit:=e0.mod.nolimit.keeps fun b o e=>(e0.bs b o e).1
 have hkind:∀y∈ps.zip us,scope.names.lookup y.1=some .local∨(scope.names.lookup y.1=some .cell∧((cellsFrom (s.heap.objs.size+1) scope.names []).lookup y.1).isSome=true):=fun⟨n,v⟩ hy=>by
  rcases S.par n (List.of_mem_zip hy).1 with q | q
  ·exact .inl q
  ·exact .inr ⟨q,PySem.W.cellsFrom_some _ _ _ (.inl q)⟩
 refine codeAny_call_function hr.depth (KX _ _ lk) rfl S.co S.gen rfl (PySem.W.codeRec_of KX hcd) (hb _ _ _ _ ?_)
 refine wpAny_newFunctionEnv_cells S.kind hkind fun env he s1 x=>?_
 subst he
 refine⟨lim.keeps x.toInCall.keep,codeAny_func ?_⟩
 obtain⟨t,ht,hq⟩:=hbody A outer s H vs Q E (hr.deeper _) hsp
 have I:Inv (cxOf CX P w K mg base N qual scope f cdv A outer s H E) [] (start N vs) H s1:=inv_start S hr.hd e0 hl r x
 refine wpAny_mono (ht [] s1 (start N vs) H _ I hq) (fun fl s' hs=>?_) fun e s' hs=>hs
 have fin:∀{σ':St} {H':Hp} {v:V} {u:Value},Inv (cxOf CX P w K mg base N qual scope f cdv A outer s H E) [] σ' H' s'→RelV v u→Q v H'→CE outer P w H s Q u s':=
  fun {σ' H' v u} J rv q=>⟨v,H',J.os,J.bare,J.base,J.hok,rv,q⟩
 cases fl with
 | ret u=>
  obtain⟨v,σ',H',J,rv,q⟩:=hs
  exact fin J rv q
 | next=>
  obtain⟨σ',H',J,q⟩:=hs
  exact fin (v:=V.non) (u:=Value.none) J rfl q
 | brk=>
  obtain⟨_,_,_,q⟩:=hs
  exact False.elim q
 | cont=>
  obtain⟨_,_,_,q⟩:=hs
  exact False.elim q
end L2
namespace L2
open PySem PySem.Spec PyProof.Rows
section
variable {X : Cx} {x : Str} {p pos : Pos} {e : Expr} {es : List Expr} {t : TA} {id T : String} {r : List V → Hp → VK → Prop}
noncomputable def tCB (r:List V→Hp→VK→Prop) (t:TA):TE:=fun σ H Q=>t σ H fun vs H1=>r vs H1 Q
theorem pe_callB (hc:CallR X (.builtin id) r) (hg:Gl X x) (hm:X.mg x=none) (hv:bootBuiltins x=some (.builtin id)) (ha:PA X (e::es) t) (hn:x≠"__name__":=by decide) (hdb:(x==("__debug__":Str))=false:=by decide)
  (he:starEach (e::es) X.env=(false,eval e X.env)::starEach es X.env:=by rfl) (hpl:(backTo pos (starEach es X.env)).any (·.1)=false:=by rfl):PE X (.Call (.Name x p) (e::es) [] pos) (tCB r t):=by
 intro pins s σ H Q I h
 refine wpAny_Call_Name_kw (ld_blt I hg hm hv ?_ hn hdb)
 exact PyProof.Rows.callWith_builtin1 (thn (ha pos pins s σ H _ I h) fun us s1 ⟨vs,H1,I1,r1,q1⟩=>hc pins s1 σ H1 vs us Q I1 r1 q1) he hpl
theorem pe_callTy (hc:CallR X (.type T) r) (hg:Gl X x) (hm:X.mg x=none) (hv:bootBuiltins x=some (.type T)) (ha:PA X (e::es) t) (hn:x≠"__name__":=by decide) (hdb:(x==("__debug__":Str))=false:=by decide)
  (he:starEach (e::es) X.env=(false,eval e X.env)::starEach es X.env:=by rfl) (hpl:(backTo pos (starEach es X.env)).any (·.1)=false:=by rfl):PE X (.Call (.Name x p) (e::es) [] pos) (tCB r t):=by
 intro pins s σ H Q I h
 refine wpAny_Call_Name_kw (ld_blt I hg hm hv ?_ hn hdb)
 exact PyProof.Rows.callWith_type1 (thn (ha pos pins s σ H _ I h) fun us s1 ⟨vs,H1,I1,r1,q1⟩=>hc pins s1 σ H1 vs us Q I1 r1 q1) he hpl
end
end L2
namespace HT
open PySem PyProof.Rows
section
open PySem.SeqAt
open PySem.AutoSeq1 (wpAny_loadPart')
open PySem.MeetsSeq PySem.MeetsSeq2 PySem.MeetsSeq3
end
section
variable {prog : Program} {w : World} {A : Around} {E : Value → Shared → Prop} {s : Shared}
noncomputable def sIx (n d:Nat):Option Int→Nat
 | none=>d
 | some v=>if v<0 then (v+ (n:Int)).toNat else min v.toNat n
end
end HT
namespace L2
open PySem PySem.Spec PyProof.Rows
abbrev TO:=St→Hp→(Option Int→Hp→Prop)→Prop
noncomputable def PO (X:Cx) (e:Option Expr) (t:TO):Prop:=
 ∀(pins:List (Addr×Obj)) (s:Shared) (σ:St) (H:Hp) (Q:Option Int→Hp→Prop),Inv X pins σ H s→t σ H Q→
  wpAny (model X.prog X.w) X.A (evalPart e X.env) (fun u s'=>∃o H',Inv X pins σ H' s'∧IsPart u o∧Q o H') X.xe s
noncomputable def tNoPart:TO:=fun _ H Q=>Q none H
noncomputable def tPart (t:TE):TO:=fun σ H Q=>t σ H fun x H1=>∃i,x=.int i∧Q (some i) H1
theorem intsAre_of {ns:List Int}:∀{us:List Value},Vals (ns.map V.int) us→IntsAre us ns:=by
 induction ns with
 | nil=>intro us r;rw[List.map_nil] at r;cases r;exact .nil
 | cons n ns ih=>
  intro us r
  rw[List.map_cons] at r
  cases r with
  | cons r1 r2=>
   obtain⟨t,e⟩:=r1
   subst e
   exact .cons n t (ih r2)
section
variable {X : Cx} {e : Expr} {te : TE} {lo hi : Option Expr} {tl th : TO} {pos p2 : Pos}
theorem po_none:PO X none tNoPart:=by
 intro pins s σ H Q I h
 rw[evalPart_none]
 exact wpAny_pure ⟨none,H,I,.none,h⟩
theorem po_some (h:PE X e te):PO X (some e) (tPart te):=by
 intro pins s σ H Q I hw
 rw[evalPart_some]
 refine thn (h pins s σ H _ I hw) fun u s1 ⟨x,H1,I1,r1,q1⟩=>?_
 obtain⟨i,rfl,q⟩:=q1
 obtain⟨t,rfl⟩:=r1
 exact⟨some i,H1,I1,.int i t,q⟩
noncomputable def SlR (X:Cx) (r:V→Option Int→Option Int→Hp→VK→Prop):Prop:=
 ∀(pins:List (Addr×Obj)) (s:Shared) (σ:St) (H:Hp) (x:V) (v vl vu:Value) (lo hi:Option Int) (sl:Addr) (Q:VK),Inv X pins σ H s→RelV x v→s.heap.IsSliceOf sl vl vu .none→IsPart vl lo→IsPart vu hi→r x lo hi H Q→
  ∃T id,typeLookup (.type T) "__getitem__"=pure (some (.builtin id))∧s.TypeIs v T∧wpAny (model X.prog X.w) X.A (getItem v (.ref sl)) (EP X pins σ Q) X.xe s
noncomputable def tSl (r:V→Option Int→Option Int→Hp→VK→Prop) (te:TE) (tl th:TO):TE:=fun σ H Q=>te σ H fun x H1=>tl σ H1 fun l H2=>th σ H2 fun u H3=>r x l u H3 Q
theorem pe_slice {r:V→Option Int→Option Int→Hp→VK→Prop} (hr:SlR X r) (he:PE X e te) (hl:PO X lo tl) (hu:PO X hi th):PE X (.Subscript e (.Slice lo hi none p2) pos) (tSl r te tl th):=by
 intro pins s σ H Q I h
 refine Subscript_ (thn (he pins s σ H _ I h) fun v s1 ⟨x,H1,I1,r1,q1⟩=>?_)
 refine wpAny_Slice (thn (hl pins s1 σ H1 _ I1 q1) fun vl s2 ⟨l,H2,I2,pl,q2⟩=>thn (hu pins s2 σ H2 _ I2 q2) fun vu s3 ⟨u,H3,I3,pu,q3⟩=>?_)
 rw[evalPart_none]
 refine wpAny_pure ?_
 have I4:Inv X pins σ H3 {s3 with heap:=s3.heap.push {cls:=.type "slice",data:=.fields #[vl,vu,.none]}}:=I3.kept (t':=s3.toks) fun b ob q=>Heap.get?_push_of_some _ q
 obtain⟨T,id,hT,ht,hg⟩:=hr pins {s3 with heap:=s3.heap.push {cls:=.type "slice",data:=.fields #[vl,vu,.none]}} σ H3 x v vl vu l u s3.heap.objs.size Q I4 r1 (Heap.IsSliceOf.new ..) pl pu q3
 show wpAny (model X.prog X.w) X.A (subscriptTail e (.Slice lo hi none p2) v (.ref s3.heap.objs.size)) (EP X pins σ Q) X.xe {s3 with heap:=s3.heap.push {cls:=.type "slice",data:=.fields #[vl,vu,.none]}}
 exact tail_any (ops:=[.ref s3.heap.objs.size,v]) ht hT hg (by with_unfolding_all rfl)
noncomputable def cutV (xs:List V) (lo hi:Option Int):List V:=(xs.drop (HT.sIx xs.length 0 lo)).take (HT.sIx xs.length xs.length hi - HT.sIx xs.length 0 lo)
theorem cutV_length (xs:List V) (lo hi:Option Int):(cutV xs lo hi).length≤xs.length:=by
 unfold cutV
 rw[List.length_take,List.length_drop]
 omega
end
end L2
namespace L2
open PySem PySem.Spec PyProof.Rows
noncomputable def ixN (n:Nat) (i:Int):Option Nat:=if 0≤i then (if i<n then some i.toNat else none) else if -(n:Int)≤i then some (i+n).toNat else none
noncomputable def atI {α:Type} (xs:List α) (i:Int):Option α:=(ixN xs.length i).bind fun j=>xs[j]?
theorem ixN_seq {n:Nat} {i:Int} {j:Nat} (h:ixN n i=some j):seqIndex? i n=some j∧j<n∧-(n:Int)≤i∧i<n:=by
 unfold ixN at h
 by_cases h0:0≤i
 ·rw[if_pos h0] at h
  by_cases h1:i<n
  ·rw[if_pos h1] at h
   have e:i.toNat=j:=Option.some.inj h
   exact⟨by rw[seqIndex_of h0 h1,e],by omega,by omega,h1⟩
  ·rw[if_neg h1] at h;cases h
 ·rw[if_neg h0] at h
  by_cases h1:-(n:Int)≤i
  ·rw[if_pos h1] at h
   have e:(i+n).toNat=j:=Option.some.inj h
   exact⟨by rw[seqIndex_neg (by omega) h1,e],by omega,h1,by omega⟩
  ·rw[if_neg h1] at h;cases h
theorem atI_get {α:Type} {xs:List α} {i:Int} {v:α} (h:atI xs i=some v):∃j,seqIndex? i xs.length=some j∧xs[j]?=some v∧j<xs.length∧-(xs.length:Int)≤i∧i<xs.length:=by
 unfold atI at h
 cases e:ixN xs.length i with
 | none=>rw[e] at h;cases h
 | some j=>
  rw[e] at h
  obtain⟨h1,h2,h3,h4⟩:=ixN_seq e
  exact⟨j,h1,h,h2,h3,h4⟩
theorem atI_nat {α:Type} {xs:List α} {j:Nat} {v:α} (h:xs[j]?=some v):atI xs (j:Int)=some v:=by
 have hj:j<xs.length:=(List.getElem?_eq_some_iff.mp h).1
 have e:ixN xs.length (j:Int)=some j:=by
  unfold ixN
  rw[if_pos (by omega),if_pos (by omega)];simp
 unfold atI;rw[e];exact h
noncomputable def PlainIx (b:Expr):Prop:=∀o i,subscripted b false o i=operate [o,i] (getItem o i)
noncomputable def IxR (X:Cx) (r:R2):Prop:=
 ∀(value slice:Expr) (pins:List (Addr×Obj)) (s:Shared) (σ:St) (H:Hp) (x y:V) (v u:Value) (Q:VK),Inv X pins σ H s→RelV x v→RelV y u→r x y H Q→
  subscripted slice false v u=operate [v,u] (getItem v u)→wpAny (model X.prog X.w) X.A (subscriptTail value slice v u) (EP X pins σ Q) X.xe s
noncomputable def MtR (X:Cx) (id:String) (r:V→List V→Hp→VK→Prop):Prop:=
 ∀(pins:List (Addr×Obj)) (s:Shared) (σ:St) (H:Hp) (x:V) (xs:List V) (v:Value) (us:List Value) (Q:VK),Inv X pins σ H s→RelV x v→Vals xs us→r x xs H Q→
  wpAny (model X.prog X.w) X.A (call (.builtin id) (v::us)) (EP X pins σ Q) X.xe s
section
variable {X : Cx} {a b : Expr} {ta tb : TE} {pos : Pos}
theorem pe_ix {r:R2} (hr:IxR X r) (ha:PE X a ta) (hb:PE X b tb) (hs:PlainIx b):PE X (.Subscript a b pos) (tOp r ta tb):=by
 intro pins s σ H Q I h
 exact Subscript_ (binT ha hb I h fun v u s2 x y H2 I2 rx ry q=>hr a b pins s2 σ H2 x y v u Q I2 rx ry q (hs _ _))
noncomputable def rIxL (K:PySem.W.Frag):R2:=fun x y H Q=>∃p xs i v,x=.ref p∧y=.int i∧SqL K H p xs∧atI xs i=some v∧Q v H
noncomputable def rIxT (K:PySem.W.Frag):R2:=fun x y H Q=>∃p xs i v,x=.ref p∧y=.int i∧SqT K H p xs∧atI xs i=some v∧Q v H
theorem ix_list:IxR X (rIxL X.K):=by
 intro value slice pins s σ H x y v u Q I rx ry h hs
 obtain⟨p,xs,i,z,rfl,rfl,hq,he,q⟩:=h
 cases rx
 obtain⟨t,rfl⟩:=ry
 obtain⟨its,r,pl,hz⟩:=I.list hq
 obtain⟨j,h1,h2,h3,h4,h5⟩:=atI_get he
 obtain⟨w,ew,rw'⟩:=r.get h2
 have hl:=r.length
 have hn:=line63
 have fin:EP X pins σ Q w s:=⟨z,H,I,rw',q⟩
 by_cases h0:0≤i
 ·have hj:i.toNat=j:=by
   rw[seqIndex_of h0 h5] at h1
   exact Option.some.inj h1
  exact item_listR pl.isList h0 (by omega) (by rw[hj];simpa using ew) fin hs
 ·have hj:(i+ (its.toArray.size:Int)).toNat=j:=by
   rw[seqIndex_neg (by omega) h4] at h1
   rw[List.size_toArray,←hl]
   exact Option.some.inj h1
  exact subscriptTail_builtinR (x:=w) pl.isList.typeIs slot_list_getitem.lookup
   (wpAny_getItem_list_neg (Q:=fun r s'=>r=w∧EP X pins σ Q r s') pl.isList (by omega) (by rw[List.size_toArray] <;>omega) (by omega) (by rw[hj];simpa using ew) ⟨rfl,fin⟩) hs
theorem ix_tup:IxR X (rIxT X.K):=by
 intro value slice pins s σ H x y v u Q I rx ry h hs
 obtain⟨p,xs,i,z,rfl,rfl,hq,he,q⟩:=h
 cases rx
 obtain⟨t,rfl⟩:=ry
 obtain⟨its,r,pl,hz⟩:=I.tuple hq
 obtain⟨j,h1,h2,h3,h4,h5⟩:=atI_get he
 obtain⟨w,ew,rw'⟩:=r.get h2
 have hl:=r.length
 have hn:=line63
 have fin:EP X pins σ Q w s:=⟨z,H,I,rw',q⟩
 exact subscriptTail_builtinR (x:=w) pl.typeIs slot_tuple_getitem.lookup
  (getItem_tuple (j:=j) (Q:=fun r s'=>r=w∧EP X pins σ Q r s') pl (by omega) (by omega) (by rw[List.size_toArray,←hl];exact h1) (by simpa using ew) ⟨rfl,fin⟩) hs
theorem mapSeq_set (its:List Value) (n j:Nat) (u:Value):Obj.mapSeq (·.setIfInBounds j u) {cls:=.type "list",data:=.seq its.toArray n}={cls:=.type "list",data:=.seq (its.set j u).toArray n}:=by
 simp [Obj.mapSeq]
theorem Inv.lst {pins:List (Addr×Obj)} {σ:St} {H:Hp} {s:Shared} {p:Addr} {xs:List V} (I:Inv X pins σ H s) (h:H p=some (.lst xs)):
  ∃(its:List Value) (n:Nat),Vals xs its∧s.heap.get? p=some {cls:=.type "list",data:=.seq its.toArray n}∧xs.length≤sizeLine:=by
 obtain⟨z,its,n,r,e⟩:=I.hok p _ h
 exact⟨its,n,r,e,z⟩
theorem Inv.lstUpd {pins:List (Addr×Obj)} {σ:St} {H:Hp} {s:Shared} {p:Addr} {xs ys:List V} {its its':List Value} {n n':Nat} {f:Obj→Obj} (I:Inv X pins σ H s) (h:H p=some (.lst xs))
  (ho:s.heap.get? p=some {cls:=.type "list",data:=.seq its.toArray n}) (hf:f {cls:=.type "list",data:=.seq its.toArray n}={cls:=.type "list",data:=.seq its'.toArray n'}) (r:Vals ys its') (hz:ys.length≤sizeLine) (t:Nat):
  Inv X pins σ (upd H p (.lst ys)) {s with heap:=s.heap.update p f,toks:=t}:=by
 have e:(s.heap.update p f).get? p=some {cls:=.type "list",data:=.seq its'.toArray n'}:=by
  rw[Heap.get?_update_self f ho (by rw[hf] <;>rfl),hf]
 refine I.write (x:=p) (e:=p) (by rw[h];trivial) (.inl rfl) (fun b u hb q=>(Heap.get?_update_other _ _ (Ne.symm hb)).trans q) ⟨_,e⟩ ?_
 exact⟨hz,its',n',r,e⟩
noncomputable def rSetL:V→V→V→Hp→(Hp→Prop)→Prop:=fun o i v H Q=>∃p xs k j,o=.ref p∧i=.int k∧H p=some (.lst xs)∧ixN xs.length k=some j∧Q (upd H p (.lst (xs.set j v)))
theorem set_list:PSet X rSetL:=by
 intro pins s σ H o i v ov iv u Q I ro ri rv h
 obtain⟨p,xs,k,j,rfl,rfl,hp,hj,q⟩:=h
 cases ro
 obtain⟨t,rfl⟩:=ri
 obtain⟨its,n,r,ho,hz⟩:=I.lst hp
 obtain⟨h1,h2,h3,h4⟩:=ixN_seq hj
 have hl:=r.length
 have hn:=line63
 have I':Inv X pins σ (upd H p (.lst (xs.set j v))) {s with heap:=s.heap.update p (Obj.mapSeq (·.setIfInBounds j u))}:=
  I.lstUpd hp ho (mapSeq_set its n j u) (r.set rv j) (by rw[List.length_set];exact hz) s.toks
 by_cases h0:0≤k
 ·have hk:k.toNat=j:=by
   rw[seqIndex_of h0 h4] at h1
   exact Option.some.inj h1
  exact PySem.W.ki_setAt ho h0 (by omega) (by rw[List.size_toArray,←hl];exact h4) (by rw[hk];exact⟨_,I',q⟩)
 ·have hk:(k+ (its.toArray.size:Int)).toNat=j:=by
   rw[seqIndex_neg (by omega) h3] at h1
   rw[List.size_toArray,←hl]
   exact Option.some.inj h1
  exact PySem.W.ki_setBack ho (by omega) (by rw[List.size_toArray,←hl];exact h3) (by omega) (by rw[hk];exact⟨_,I',q⟩)
theorem slice_bounds (lo hi:Option Int) (n:Nat):(sliceBounds lo hi none n).1=((HT.sIx n 0 lo:Nat):Int)∧(sliceBounds lo hi none n).2.1=((HT.sIx n n hi:Nat):Int)∧(sliceBounds lo hi none n).2.2=1:=by
 refine⟨?_,?_,rfl⟩
 ·cases lo with
  | none=>simp [sliceBounds,HT.sIx]
  | some i=>
   simp only[sliceBounds,HT.sIx,Option.getD_none,show(1:Int) >0 by decide,if_true]
   by_cases h:i<0
   ·simp only[h,if_true] <;>omega
   ·simp only[h,if_false] <;>omega
 ·cases hi with
  | none=>simp [sliceBounds,HT.sIx]
  | some i=>
   simp only[sliceBounds,HT.sIx,Option.getD_none,show(1:Int) >0 by decide,if_true]
   by_cases h:i<0
   ·simp only[h,if_true] <;>omega
   ·simp only[h,if_false] <;>omega
theorem slicePick_cut (its:List Value) (lo hi:Option Int):slicePick its.toArray lo hi none=((its.drop (HT.sIx its.length 0 lo)).take (HT.sIx its.length its.length hi - HT.sIx its.length 0 lo)).toArray:=by
 obtain⟨h1,h2,h3⟩:=slice_bounds lo hi its.toArray.size
 unfold slicePick
 rw[h1,h2,h3]
 simp only[sliceRange_one,pick_run,List.size_toArray] <;>rfl
noncomputable def rSlL (K:PySem.W.Frag):V→Option Int→Option Int→Hp→VK→Prop:=fun x lo hi H Q=>∃a xs,x=.ref a∧SqL K H a xs∧∀p,H p=none→Q (.ref p) (upd H p (.lst (cutV xs lo hi)))
theorem sl_list:SlR X (rSlL X.K):=by
 intro pins s σ H x v vl vu lo hi sl Q I rx hs pl pu h
 obtain⟨a,xs,rfl,hx,q⟩:=h
 cases rx
 obtain⟨its,r,ht,hz⟩:=I.list hx
 have hlen:=r.length
 refine⟨"list",_,slot_list_getitem.lookup,ht.isList.typeIs,?_⟩
 refine wpAny_getItem_list_slice ht.isList hs pl pu .none (by simp) ?_ (by rw[List.size_toArray] <;>omega)
 rw[slicePick_cut,←hlen]
 refine⟨.ref s.heap.objs.size,_,I.laid (t':=s.toks) (o:=.lst (cutV xs lo hi)) (fun b ob q=>Heap.get?_push_of_some _ q) (Nat.le_refl _) ?_,rfl,q _ (I.hok.fresh (Nat.le_refl _))⟩
 exact⟨Nat.le_trans (cutV_length xs lo hi) hz,_,0,(r.drop (HT.sIx xs.length 0 lo)).take (HT.sIx xs.length xs.length hi - HT.sIx xs.length 0 lo),Heap.get?_push_size _ rfl⟩
noncomputable def flatV:V→Bool
 | .non=>true
 | .bl _=>true
 | .int _=>true
 | .str _=>true
 | _=>false
noncomputable def eqV:V→V→Bool
 | .non,.non=>true
 | .bl a,.bl b=>a==b
 | .bl a,.int b=>(if a then 1 else 0)==b
 | .int a,.bl b=>a==(if b then 1 else 0)
 | .int a,.int b=>a==b
 | .str a,.str b=>a==b
 | _,_=>false
theorem eqAt_V {A:Around} {s:Shared} {y x:V} {u v:Value} (ry:RelV y u) (rx:RelV x v) (fy:flatV y=true) (fx:flatV x=true):SeqAt.EqAt A s u v (eqV y x):=by
 cases y with
 | non=>
  cases ry
  cases x with
  | non=>cases rx;exact SeqAt.EqAt.same _
  | bl b=>cases rx;exact SeqAt.EqAt.none_bool b
  | int b=>obtain⟨t,rfl⟩:=rx;exact SeqAt.EqAt.none_int b t
  | str b=>obtain⟨t,rfl⟩:=rx;exact SeqAt.EqAt.none_str b t
  | _=>exact absurd (show false=true from fx) Bool.false_ne_true
 | bl a=>
  cases ry
  cases x with
  | non=>cases rx;exact SeqAt.EqAt.bool_none a
  | bl b=>cases rx;exact SeqAt.EqAt.bool_bool a b
  | int b=>obtain⟨t,rfl⟩:=rx;exact SeqAt.EqAt.bool_int a b t
  | str b=>obtain⟨t,rfl⟩:=rx;exact SeqAt.EqAt.bool_str a b t
  | _=>exact absurd (show false=true from fx) Bool.false_ne_true
 | int a=>
  obtain⟨t',rfl⟩:=ry
  cases x with
  | non=>cases rx;exact SeqAt.EqAt.int_none a t'
  | bl b=>cases rx;exact SeqAt.EqAt.int_bool a t' b
  | int b=>obtain⟨t,rfl⟩:=rx;exact SeqAt.EqAt.int_int a t' b t
  | str b=>obtain⟨t,rfl⟩:=rx;exact SeqAt.EqAt.int_str a t' b t
  | _=>exact absurd (show false=true from fx) Bool.false_ne_true
 | str a=>
  obtain⟨t',rfl⟩:=ry
  cases x with
  | non=>cases rx;exact SeqAt.EqAt.str_none a t'
  | bl b=>cases rx;exact SeqAt.EqAt.str_bool a t' b
  | int b=>obtain⟨t,rfl⟩:=rx;exact SeqAt.EqAt.str_int a t' b t
  | str b=>obtain⟨t,rfl⟩:=rx;exact SeqAt.EqAt.str_str a t' b t
  | _=>exact absurd (show false=true from fx) Bool.false_ne_true
 | _=>exact absurd (show false=true from fy) Bool.false_ne_true
noncomputable def eqU (x:V) (u:Value):Bool:=match u with
 | .none=>eqV .non x
 | .bool b=>eqV (.bl b) x
 | .int i _=>eqV (.int i) x
 | .str z _=>eqV (.str z) x
 | _=>false
theorem eqU_of {x y:V} {u:Value} (r:RelV y u) (f:flatV y=true):eqU x u=eqV y x:=by
 cases y with
 | non=>cases r;rfl
 | bl b=>cases r;rfl
 | int i=>obtain⟨t,rfl⟩:=r;rfl
 | str z=>obtain⟨t,rfl⟩:=r;rfl
 | _=>exact absurd (show false=true from f) Bool.false_ne_true
theorem any_eqU {x:V}:∀{xs:List V} {us:List Value},Vals xs us→xs.all flatV=true→us.any (eqU x)=xs.any fun y=>eqV y x
 | _,_,.nil,_=>rfl
 | y::xs,u::us,.cons r t,f=>by
  rw[List.all_cons,Bool.and_eq_true] at f
  rw[List.any_cons,List.any_cons,eqU_of r f.1,any_eqU t f.2]
theorem mem_eqAt {A:Around} {s:Shared} {x:V} {v:Value} (rx:RelV x v) (fx:flatV x=true):∀{xs:List V} {us:List Value},Vals xs us→xs.all flatV=true→∀u∈us,SeqAt.EqAt A s u v (eqU x u)
 | _,_,.nil,_=>fun u hu=>by cases hu
 | y::xs,u::us,.cons r t,f=>fun u' hu=>by
  rw[List.all_cons,Bool.and_eq_true] at f
  rcases List.mem_cons.mp hu with rfl | hu
  ·rw[eqU_of r f.1];exact eqAt_V r rx f.1 fx
  ·exact mem_eqAt rx fx t f.2 u' hu
noncomputable def inV (x:V) (xs:List V):Bool:=xs.any fun y=>eqV y x
noncomputable def rIn (K:PySem.W.Frag) (neg:Bool):R2:=fun x y H Q=>∃p xs,y=.ref p∧(SqL K H p xs∨SqT K H p xs)∧flatV x=true∧xs.all flatV=true∧Q (.bl (if neg then !inV x xs else inV x xs)) H
theorem op_in_seq:OpR X (compareOp .In) (rIn X.K false):=by
 intro pins s σ H x y v u Q I rx ry h
 obtain⟨p,xs,rfl,hq,fx,fs,q⟩:=h
 cases ry
 rcases hq with hq | hq
 ·obtain⟨its,r,pl,hz⟩:=I.list hq
  refine SeqAt.in_listAt (eqU x) pl.isList (fun w hw=>mem_eqAt rx fx r fs w (by simpa using hw)) ⟨.bl _,H,I,rfl,?_⟩
  rw[show its.toArray.any (eqU x)=its.any (eqU x) by simp,any_eqU r fs]
  exact q
 ·obtain⟨its,r,pl,hz⟩:=I.tuple hq
  refine SeqAt.in_tupleAt (eqU x) pl (fun w hw=>mem_eqAt rx fx r fs w (by simpa using hw)) ⟨.bl _,H,I,rfl,?_⟩
  rw[show its.toArray.any (eqU x)=its.any (eqU x) by simp,any_eqU r fs]
  exact q
theorem call_len_seq:CallR X (.builtin "len") (fun xs H Q=>∃p ys,xs=[.ref p]∧(SqL X.K H p ys∨SqT X.K H p ys)∧Q (.int ys.length) H):=by
 intro pins s σ H xs us Q I r h
 obtain⟨p,ys,rfl,hq,q⟩:=h
 obtain⟨u,rfl,rx⟩:=vals1 r
 cases rx
 have hn:=line63
 rcases hq with hq | hq
 ·obtain⟨its,r',pl,hz⟩:=I.list hq
  have hlen:=r'.length
  exact Calls.call_len_list pl.isList (by simp only[List.size_toArray] <;>omega) ⟨.int ys.length,H,I.tok _,⟨s.toks+1,by rw[List.size_toArray,hlen]⟩,q⟩
 ·obtain⟨its,r',pl,hz⟩:=I.tuple hq
  have hlen:=r'.length
  exact len_tuple pl (by simp only[List.size_toArray] <;>omega) ⟨.int ys.length,H,I.tok _,⟨s.toks+1,by rw[List.size_toArray,hlen]⟩,q⟩
theorem call_list_of:CallR X (.type "list") (fun xs H Q=>∃p ys,xs=[.ref p]∧(SqL X.K H p ys∨SqT X.K H p ys)∧∀l,H l=none→Q (.ref l) (upd H l (.lst ys))):=by
 intro pins s σ H xs us Q I r h
 obtain⟨p,ys,rfl,hq,q⟩:=h
 obtain⟨u,rfl,rx⟩:=vals1 r
 cases rx
 have fin:∀(its:List Value),Vals ys its→ys.length≤sizeLine→∀(h':Heap) (c':Nat),(∀b o',s.heap.get? b=some o'→h'.get? b=some o')→
   h'.get? s.heap.objs.size=some {cls:=.type "list",dict:=none,data:=.seq its.toArray c',slots:=#[]}→EP X pins σ Q (.ref s.heap.objs.size) {s with heap:=h'}:=fun its r' hz h' c' kp e=>
  ⟨.ref s.heap.objs.size,_,I.laid (t':=s.toks) kp (Nat.le_refl _) (show ObjOk X.prog X.w _ h' _ (.lst ys) from⟨hz,its,c',r',e⟩),rfl,q _ (I.hok.fresh (Nat.le_refl _))⟩
 rcases hq with hq | hq
 ·obtain⟨its,r',pl,hz⟩:=I.list hq
  have hlen:=r'.length
  obtain⟨o,ho,hc,n,hd⟩:=pl.isList
  exact call_list_seq p (.inl rfl) ho hc hd (fun h' c' kp e=>fin its r' hz h' c' kp e) (by simp only[List.size_toArray] <;>omega)
 ·obtain⟨its,r',pl,hz⟩:=I.tuple hq
  have hlen:=r'.length
  obtain⟨o,ho,hc,n,hd⟩:=pl
  exact call_list_seq p (.inr rfl) ho hc hd (fun h' c' kp e=>fin its r' hz h' c' kp e) (by simp only[List.size_toArray] <;>omega)
theorem call_tuple_of:CallR X (.type "tuple") (fun xs H Q=>∃p ys,xs=[.ref p]∧((SqL X.K H p ys∧∀l,H l=none→Q (.ref l) (upd H l (.tup ys)))∨(SqT X.K H p ys∧Q (.ref p) H))):=by
 intro pins s σ H xs us Q I r h
 obtain⟨p,ys,rfl,h⟩:=h
 obtain⟨u,rfl,rx⟩:=vals1 r
 cases rx
 rcases h with ⟨hq,q⟩ | ⟨hq,q⟩
 ·obtain⟨its,r',pl,hz⟩:=I.list hq
  have hlen:=r'.length
  refine call_tuple_list pl.isList (fun h' kp=>?_) (by simp only[List.size_toArray] <;>omega)
  have I1:Inv X pins σ H {s with heap:=h'}:=I.kept (t':=s.toks) kp
  have I2:Inv X pins σ (upd H h'.objs.size (.tup ys)) {s with heap:=h'.push {cls:=.type "tuple",data:=.seq its.toArray}}:=
   I1.laid (t':=s.toks) (fun b o e=>Heap.get?_push_of_some _ e) (Nat.le_refl _) (show ObjOk X.prog X.w _ _ _ (.tup ys) from⟨hz,its,r',IsTup.new _ _⟩)
  exact⟨.ref h'.objs.size,_,I2,rfl,q _ (I1.hok.fresh (Nat.le_refl _))⟩
 ·obtain⟨its,r',pl,hz⟩:=I.tuple hq
  exact call_tuple_same pl ⟨.ref p,H,I,rfl,q⟩
noncomputable def tyV (K:PySem.W.Frag) (T:String) (x:V) (H:Hp):Prop:=match x with
 | .str _=>T="str"
 | .int _=>T="int"
 | .ref p=>(T="list"∧∃xs,SqL K H p xs)∨(T="tuple"∧∃o,K.lookup p=some o∧o.cls=.type "tuple"∧o.dict=none)∨
   (T="dict"∧((∃kvs,H p=some (.dK kvs))∨∃kvs,H p=some (.dT kvs)))∨(T="set"∧∃S n,H p=some (.set S n))
 | _=>False
theorem tyV_is {pins:List (Addr×Obj)} {σ:St} {H:Hp} {s:Shared} {T:String} {x:V} {v:Value} (I:Inv X pins σ H s) (r:RelV x v) (ty:tyV X.K T x H):
  s.TypeIs v T∧∀a,v=.ref a→∃ob,s.heap.get? a=some ob∧ob.dict=none:=by
 cases x with
 | str z=>
  obtain⟨t,rfl⟩:=r
  cases (show T="str" from ty)
  exact⟨typeIs_str s z t,fun _ e=>nomatch e⟩
 | int i=>
  obtain⟨t,rfl⟩:=r
  cases (show T="int" from ty)
  exact⟨typeIs_int s i t,fun _ e=>nomatch e⟩
 | ref p=>
  cases r
  rcases ty with ⟨rfl,xs,hq⟩ | ⟨rfl,o,hk,hc,hd⟩ | ⟨rfl,hk⟩ | ⟨rfl,S,n,hk⟩
  ·obtain⟨its,_,pl,_⟩:=I.list hq
   refine⟨pl.isList.typeIs,fun a e=>?_⟩
   cases e
   obtain⟨o,n,e,c,hd,_⟩:=pl
   exact⟨o,e,hd⟩
  ·refine⟨⟨o,I.kIn p o hk,hc⟩,fun a e=>?_⟩
   cases e
   exact⟨o,I.kIn _ o hk,hd⟩
  ·have z:∃o,s.heap.get? p=some o∧o.ExactDict:=by
    rcases hk with ⟨kvs,hk⟩ | ⟨kvs,hk⟩
    ·obtain⟨_,_,_,_,o,_,_,e,ex,_⟩:=I.hok p _ hk
     exact⟨o,e,ex⟩
    ·obtain⟨_,_,_,_,o,_,_,e,ex,_⟩:=I.hok p _ hk
     exact⟨o,e,ex⟩
   obtain⟨o,e,ex⟩:=z
   refine⟨⟨o,e,ex.1⟩,fun a e2=>?_⟩
   cases e2
   exact⟨o,e,ex.2.1⟩
  ·obtain⟨o,_,_,_,e,ex,_⟩:=I.hok p _ hk
   refine⟨⟨o,e,ex.1⟩,fun a e2=>?_⟩
   cases e2
   exact⟨o,e,ex.2.1⟩
 | _=>exact False.elim ty
noncomputable def tBM0 (K:PySem.W.Frag) (T:String) (r:V→List V→Hp→VK→Prop) (to:TE):TE:=fun σ H Q=>to σ H fun x H1=>tyV K T x H1∧r x [] H1 Q
noncomputable def tBM (K:PySem.W.Frag) (T:String) (r:V→List V→Hp→VK→Prop) (to:TE) (t:TA):TE:=fun σ H Q=>to σ H fun x H1=>tyV K T x H1∧t σ H1 fun xs H2=>r x xs H2 Q
variable {o e : Expr} {es : List Expr} {to : TE} {t : TA} {name : Str} {apos cpos : Pos} {T id : String} {r : V → List V → Hp → VK → Prop}
theorem pe_bm0 (pa:PlainAttrs T) (slot:Slot T name id) (hty:typeOf (.builtin id)=pure (.type "method_descriptor")) (hm:MtR X id r) (ho:PE X o to)
  (hbase:attributeBase o name X.env (eval o X.env)=eval o X.env:=by rfl) (hline:(apos.endLine==cpos.line)=true:=by rfl):PE X (.Call (.Attribute o name apos) [] [] cpos) (tBM0 X.K T r to):=by
 intro pins s σ H Q I h
 refine wpAny_Call_method0_late hbase hline (thn (ho pins s σ H _ I h) fun v s1 ⟨x,H1,I1,r1,ty,q1⟩=>?_)
 obtain⟨h1,h2⟩:=tyV_is I1 r1 ty
 exact⟨T,id,pa,slot,hty,h1,h2,Calls.callWith_builtin rfl (PySem.evalArgs_none (hm pins s1 σ H1 x [] v [] Q I1 r1 .nil q1))⟩
theorem pe_bm (pa:PlainAttrs T) (slot:Slot T name id) (hty:typeOf (.builtin id)=pure (.type "method_descriptor")) (hm:MtR X id r) (ho:PE X o to) (ha:PA X (e::es) t)
  (hbase:attributeBase o name X.env (eval o X.env)=eval o X.env:=by rfl)
  (hfew:((backTo cpos (starEach (e::es) X.env)).all (fun x=>!x.1) && (backToKw cpos (keywordEach [] X.env)).all (fun x=>x.1.isSome)
   && decide ((e::es).length+ ([]:List Keyword).length+ (if ([]:List Keyword).isEmpty then 0 else 1)<30))=true:=by rfl)
  (hline:(apos.endLine==cpos.line)=true:=by rfl) (hs:starEach (e::es) X.env=(false,eval e X.env)::starEach es X.env:=by rfl) (hplain:(backTo cpos (starEach es X.env)).any (·.1)=false:=by rfl):
  PE X (.Call (.Attribute o name apos) (e::es) [] cpos) (tBM X.K T r to t):=by
 intro pins s σ H Q I h
 refine wpAny_Call_method_late hbase hfew hline rfl (thn (ho pins s σ H _ I h) fun v s1 ⟨x,H1,I1,r1,ty,q1⟩=>?_)
 obtain⟨h1,h2⟩:=tyV_is I1 r1 ty
 refine⟨T,id,pa,slot,hty,h1,h2,?_⟩
 have hA:=ha cpos pins s1 σ H1 _ I1 q1
 rw[hs] at hA ⊢
 refine Calls.callWith_builtin (by show(false || (backTo cpos (starEach es X.env)).any (·.1))=false;rw[hplain] <;>rfl) (Calls.evalArgs_plain ?_)
 exact thn hA fun us s2 ⟨vs,H2,I2,r2,q2⟩=>hm pins s2 σ H2 x vs v us Q I2 r1 r2 q2
end
end L2
namespace L2
open PySem PySem.Spec PyProof.Rows
noncomputable def MtM (X:Cx) (id:String) (r:V→List V→Hp→VK→Prop):Prop:=
 ∀(pins:List (Addr×Obj)) (s:Shared) (σ:St) (H:Hp) (x:V) (xs:List V) (v:Value) (us:List Value) (Q:VK),Inv X pins σ H s→RelV x v→Vals xs us→r x xs H Q→
  wpAny (model X.prog X.w) X.A (call (.builtin id) (v::us)) (EP X pins σ Q) X.xe s
theorem Vals.one:∀{x:V} {us:List Value},Vals [x] us→∃u,us=[u]∧RelV x u
 | _,_,.cons r .nil=>⟨_,rfl,r⟩
theorem Vals.zero:∀{us:List Value},Vals [] us→us=[]
 | _,.nil=>rfl
theorem Vals.rep {xs:List V} {us:List Value} (h:Vals xs us):∀k:Nat,Vals (List.replicate k xs).flatten (List.replicate k us).flatten
 | 0=>.nil
 | k+1=>by
  rw[List.replicate_succ,List.replicate_succ,List.flatten_cons,List.flatten_cons]
  exact Vals.append h (Vals.rep h k)
theorem foldl_rep (its:List Value):∀(k:Nat) (acc:List Value),
  List.foldl (fun x1 x2=>x1++x2) acc.toArray (List.replicate k its.toArray)=(acc++ (List.replicate k its).flatten).toArray
 | 0,acc=>by simp
 | k+1,acc=>by
  have e:acc.toArray++its.toArray=(acc++its).toArray:=by simp
  have e2:(acc++its)++ (List.replicate k its).flatten=acc++ (List.replicate (k+1) its).flatten:=by
   rw[List.replicate_succ,List.flatten_cons,List.append_assoc]
  rw[←e2,←foldl_rep its k (acc++its),←e,List.replicate_succ,List.foldl_cons]
section
variable {X : Cx} {pins : List (Addr × Obj)} {σ : St} {H : Hp} {s : Shared} {l b : Addr} {xs ys zs : List V}
theorem Inv.lset {its its':List Value} {n:Nat} {f:Array Value→Array Value} {t':Nat} (I:Inv X pins σ H s) (hH:H l=some (.lst xs))
  (e:s.heap.get? l=some {cls:=.type "list",data:=.seq its.toArray n}) (hf:f its.toArray=its'.toArray) (hv:Vals ys its') (hz:ys.length≤sizeLine):
  Inv X pins σ (upd H l (.lst ys)) {s with heap:=s.heap.update l (Obj.mapSeq f),toks:=t'}:=by
 have q:=PySem.IsL.update e f
 rw[hf] at q
 refine I.write (x:=l) (e:=l) (by rw[hH];exact trivial) (.inl rfl) (fun b' u hb hu=>(Heap.get?_update_other s.heap (Obj.mapSeq f) (Ne.symm hb)).trans hu) ⟨_,q⟩ ?_
 exact⟨hz,its',_,hv,q⟩
theorem Inv.lnew {its:List Value} {t':Nat} (I:Inv X pins σ H s) (hv:Vals ys its) (hz:ys.length≤sizeLine):
  Inv X pins σ (upd H s.heap.objs.size (.lst ys)) {s with heap:=s.heap.push {cls:=.type "list",data:=.seq its.toArray},toks:=t'}:=
 I.laid (fun _ _ q=>Heap.get?_push_of_some _ q) (Nat.le_refl _) ⟨hz,its,0,hv,Heap.get?_push_size _ rfl⟩
theorem Inv.fresh (I:Inv X pins σ H s):H s.heap.objs.size=none:=I.hok.fresh (Nat.le_refl _)
theorem Inv.lstM (I:Inv X pins σ H s) (hH:H l=some (.lst xs)):xs.length≤sizeLine∧∃(its:List Value) (n:Nat),Vals xs its∧xs.length=its.length∧s.heap.get? l=some {cls:=.type "list",data:=.seq its.toArray n}:=by
 obtain⟨z,its,n,r,e⟩:=I.hok l _ hH
 exact⟨z,its,n,r,r.length,e⟩
theorem notLongL {n:Nat} (h:n≤sizeLine):Builtin.List.listTooLong n=false:=by
 unfold Builtin.List.listTooLong
 exact decide_eq_false (by omega)
end
section
variable {X : Cx}
noncomputable def rAppend:V→List V→Hp→VK→Prop:=fun x vs H Q=>∃l xs y,x=.ref l∧vs=[y]∧H l=some (.lst xs)∧xs.length<sizeLine∧Q .non (upd H l (.lst (xs++ [y])))
theorem mt_append:MtM X "list.append" rAppend:=by
 intro pins s σ H x vs v us Q I rx rv h
 obtain⟨l,xs,y,rfl,rfl,hH,hz,q⟩:=h
 cases rx
 obtain⟨u,rfl,ru⟩:=rv.one
 obtain⟨z,its,n,r,hl,e⟩:=I.lstM hH
 refine call_meets F.slot_list_append ⟨_,e,rfl⟩ F.entry_list_append (F.args_list_append_2 _ _) (PySem.list_append l its.toArray n u (by rw[List.size_toArray];omega)) ⟨e,?_⟩
 refine⟨.non,_,I.lset (its':=its++ [u]) hH e (by simp) (r.append (.cons ru .nil)) ?_,rfl,q⟩
 rw[List.length_append,List.length_singleton]
 omega
noncomputable def rExtend:V→List V→Hp→VK→Prop:=fun x vs H Q=>∃l b xs zs,x=.ref l∧vs=[.ref b]∧H l=some (.lst xs)∧H b=some (.lst zs)∧xs.length+zs.length≤sizeLine∧Q .non (upd H l (.lst (xs++zs)))
theorem mt_extend:MtM X "list.extend" rExtend:=by
 intro pins s σ H x vs v us Q I rx rv h
 obtain⟨l,b,xs,zs,rfl,rfl,hH,hB,hz,q⟩:=h
 cases rx
 obtain⟨u,rfl,ru⟩:=rv.one
 cases ru
 obtain⟨z,its,n,r,hl,e⟩:=I.lstM hH
 obtain⟨z2,its2,n2,r2,hl2,e2⟩:=I.lstM hB
 have hsz:its.toArray.size+its2.toArray.size≤sizeLine:=by rw[List.size_toArray,List.size_toArray];omega
 have hlong:¬(!its.toArray.isEmpty && Builtin.List.listTooLong (its.toArray.size+its2.toArray.size))=true:=by
  rw[notLongL hsz,Bool.and_false]
  exact Bool.false_ne_true
 refine call_meets F.slot_list_extend ⟨_,e,rfl⟩ F.entry_list_extend (F.args_list_extend_2 _ _)
  (AutoSeq1.list_extend_list_list_0 l its.toArray n b its2.toArray n2 hlong (by rw[List.size_toArray];omega) (by omega)) ⟨e,e2,?_⟩
 refine⟨.non,_,I.lset (its':=its++its2) hH e (by simp) (r.append r2) ?_,rfl,q⟩
 rw[List.length_append]
 omega
noncomputable def rClear:V→List V→Hp→VK→Prop:=fun x vs H Q=>∃l xs,x=.ref l∧vs=[]∧H l=some (.lst xs)∧Q .non (upd H l (.lst []))
theorem mt_clear:MtM X "list.clear" rClear:=by
 intro pins s σ H x vs v us Q I rx rv h
 obtain⟨l,xs,rfl,rfl,hH,q⟩:=h
 cases rx
 have hus:=rv.zero
 subst hus
 obtain⟨z,its,n,r,hl,e⟩:=I.lstM hH
 refine call_meets F.slot_list_clear ⟨_,e,rfl⟩ F.entry_list_clear (F.args_list_clear_1 _) (AutoSeq1.list_clear_list_0 l its.toArray n (by rw[List.size_toArray];omega)) ⟨e,?_⟩
 exact⟨.non,_,I.lset (its':=[]) (ys:=[]) hH e rfl .nil (Nat.zero_le _),rfl,q⟩
noncomputable def rCat:R2:=fun x y H Q=>∃l b xs zs,x=.ref l∧y=.ref b∧H l=some (.lst xs)∧H b=some (.lst zs)∧xs.length+zs.length≤sizeLine∧∀p,H p=none→Q (.ref p) (upd H p (.lst (xs++zs)))
theorem op_cat:OpR X (binaryOp .Add) rCat:=by
 intro pins s σ H x y v u Q I rx ry h
 obtain⟨l,b,xs,zs,rfl,rfl,hH,hB,hz,q⟩:=h
 cases rx
 cases ry
 obtain⟨z,its,n,r,hl,e⟩:=I.lstM hH
 obtain⟨z2,its2,n2,r2,hl2,e2⟩:=I.lstM hB
 refine PySem.P.add_list e e2 ?_ (by rw[List.size_toArray,List.size_toArray];omega)
 have ea:its.toArray++its2.toArray=(its++its2).toArray:=by simp
 rw[ea]
 exact⟨.ref _,_,I.lnew (t':=s.toks) (r.append r2) (by rw[List.length_append];omega),rfl,q _ I.fresh⟩
noncomputable def rRep:R2:=fun x y H Q=>∃l k xs,x=.ref l∧y=.int k∧H l=some (.lst xs)∧-(2^63)≤k∧k<2^63∧xs.length*k.toNat≤sizeLine∧
 ∀p,H p=none→Q (.ref p) (upd H p (.lst (List.replicate k.toNat xs).flatten))
theorem len_rep {α:Type} (xs:List α) (k:Nat):(List.replicate k xs).flatten.length=k*xs.length:=by
 induction k with
 | zero=>simp
 | succ k ih=>rw[List.replicate_succ,List.flatten_cons,List.length_append,ih,Nat.succ_mul,Nat.add_comm]
theorem op_rep:OpR X (binaryOp .Mult) rRep:=by
 intro pins s σ H x y v u Q I rx ry h
 obtain⟨l,k,xs,rfl,rfl,hH,h1,h2,hz,q⟩:=h
 cases rx
 obtain⟨t,rfl⟩:=ry
 obtain⟨z,its,n,r,hl,e⟩:=I.lstM hH
 have hlen:its.toArray.size*k.toNat≤sizeLine:=by rw[List.size_toArray,←hl];exact hz
 have hcap:¬its.toArray.size*k.toNat >(2^63 - 1) / 8:=by
  have:(sizeLine:Nat)≤(2^63 - 1) / 8:=by decide
  omega
 have hfit:¬(!Builtin.List.listFitsIndex k)=true:=by
  rw[fitsIndex_both h1 h2]
  exact Bool.false_ne_true
 have hlong:¬Builtin.List.listTooLong (its.toArray.size*k.toNat)=true:=by
  rw[notLongL hlen]
  exact Bool.false_ne_true
 have hnew:List.foldl (fun x1 x2=>x1++x2) #[] (List.replicate (if its.toArray.isEmpty=true then 0 else k.toNat) its.toArray)=(List.replicate k.toNat its).flatten.toArray:=by
  have f0:∀m:Nat,List.foldl (fun x1 x2=>x1++x2) #[] (List.replicate m its.toArray)=(List.replicate m its).flatten.toArray:=fun m=>by
   have:=foldl_rep its m []
   rw[List.nil_append] at this
   exact this
  rw[f0]
  cases its with
  | nil=>simp
  | cons a r'=>rw[if_neg (by simp)]
 refine wpAny_binaryOp_repeat_ref (T:="list") (U:="int") (by decide) ⟨_,e,rfl⟩ (fun s'=>typeIs_int s' k t) noFill_list_mul F.fills_int_mul F.slot_int_rmul repeat_list F.slot_int_index.lookup
  (call_meets F.slot_int_rmul (typeIs_int s k t) F.entry_int_rmul (F.args_int_rmul_2 _ _) (int___rmul___int_list k t l its.toArray n)
   ⟨e,rfl,⟨_,e,rfl⟩,call_meets F.slot_list_mul ⟨_,e,rfl⟩ F.entry_list_mul (F.args_list_mul_2 _ _) (AutoListH.list___mul___list_int_3 l its.toArray n k t hfit hcap hlong) ⟨e,?_⟩⟩)
 rw[hnew]
 exact⟨.ref _,_,I.lnew (t':=s.toks) (r.rep k.toNat) (by rw[len_rep,Nat.mul_comm];exact hz),rfl,q _ I.fresh⟩
end
section
variable {prog : Program} {w : World} {A : Around} {E : Value → Shared → Prop} {s : Shared}
end
section
variable {X : Cx}
end
end L2
namespace L2
open PySem PySem.Spec PyProof.Rows
section
variable {κ : Type} [DecidableEq κ]
noncomputable def valV (kvs:List (κ×V)) (k:κ):Option V:=(kvs.find? fun kv=>decide (kv.1=k)).map (·.2)
noncomputable def putK (kvs:List (κ×V)) (k:κ) (v:V):List (κ×V):=
 if (kvs.any fun kv=>decide (kv.1=k))=true then kvs.map (fun kv=>if kv.1=k then (kv.1,v) else kv) else kvs++ [(k,v)]
noncomputable def dropK (kvs:List (κ×V)) (k:κ):List (κ×V):=kvs.filter fun kv=>decide (kv.1≠k)
theorem valV_pos {p:κ×V} {r:List (κ×V)} {k:κ} (e:p.1=k):valV (p::r) k=some p.2:=by simp [valV,List.find?_cons,e]
theorem valV_neg {p:κ×V} {r:List (κ×V)} {k:κ} (e:¬p.1=k):valV (p::r) k=valV r k:=by simp [valV,List.find?_cons,e]
theorem valV_any (k:κ):∀kvs:List (κ×V),(kvs.any fun kv=>decide (kv.1=k))=(valV kvs k).isSome
 | []=>rfl
 | p::r=>by
  rw[List.any_cons]
  by_cases e:p.1=k
  ·simp only[valV_pos e,decide_eq_true e,Bool.true_or,Option.isSome_some]
  ·rw[valV_neg e,decide_eq_false e,Bool.false_or];exact valV_any k r
theorem length_putK (kvs:List (κ×V)) (k:κ) (v:V):(putK kvs k v).length≤kvs.length+1:=by
 unfold putK
 split
 ·rw[List.length_map];omega
 ·rw[List.length_append,List.length_cons,List.length_nil];omega
theorem RelO.isSome_eq {o:Option V} {u:Option Value} (r:RelO o u):o.isSome=u.isSome:=by
 cases o with
 | none=>cases u with
  | none=>rfl
  | some _=>exact(show False from r).elim
 | some _=>cases u with
  | none=>exact(show False from r).elim
  | some _=>rfl
theorem RelO.getD {o:Option V} {u:Option Value} {d:V} {d':Value} (r:RelO o u) (rd:RelV d d'):RelV (o.getD d) (u.getD d'):=by
 cases o with
 | none=>cases u with
  | none=>exact rd
  | some _=>exact(show False from r).elim
 | some _=>cases u with
  | none=>exact(show False from r).elim
  | some _=>exact r
theorem KV.val {kvs:List (κ×V)} {vs:List (κ×Value)} (r:KV kvs vs) (k:κ):RelO (valV kvs k) (valueAt vs k):=by
 unfold KV at r
 induction r with
 | nil=>exact True.intro
 | @cons p q ps qs h t ih=>
  obtain⟨h1,h2⟩:=h
  by_cases e:p.1=k
  ·have e':q.1=k:=h1.symm.trans e
   have b:valueAt (q::qs) k=some q.2:=by simp [valueAt,List.find?_cons,e']
   rw[valV_pos e,b];exact h2
  ·have e':¬q.1=k:=fun z=>e (h1.trans z)
   have b:valueAt (q::qs) k=valueAt qs k:=by simp [valueAt,List.find?_cons,e']
   rw[valV_neg e,b];exact ih
theorem KV.any {kvs:List (κ×V)} {vs:List (κ×Value)} (r:KV kvs vs) (k:κ):(kvs.any fun kv=>decide (kv.1=k))=vs.any fun kv=>decide (kv.1=k):=by
 unfold KV at r
 induction r with
 | nil=>rfl
 | cons h t ih=>rw[List.any_cons,List.any_cons,ih,h.1]
theorem KV.repl {kvs:List (κ×V)} {vs:List (κ×Value)} (r:KV kvs vs) (k:κ) {y:V} {u:Value} (ry:RelV y u):
  KV (kvs.map fun kv=>if kv.1=k then (kv.1,y) else kv) (vs.map fun kv=>if kv.1=k then (kv.1,u) else kv):=by
 unfold KV at r ⊢
 induction r with
 | nil=>exact .nil
 | @cons p q ps qs h t ih=>
  rw[List.map_cons,List.map_cons]
  refine .cons ?_ ih
  obtain⟨h1,h2⟩:=h
  by_cases e:p.1=k
  ·rw[if_pos e,if_pos (h1.symm.trans e)];exact⟨h1,ry⟩
  ·rw[if_neg e,if_neg (fun z=>e (h1.trans z))];exact⟨h1,h2⟩
theorem KV.put {kvs:List (κ×V)} {vs:List (κ×Value)} (r:KV kvs vs) (k:κ) {y:V} {u:Value} (ry:RelV y u):KV (putK kvs k y) (stored vs k u):=by
 unfold putK stored
 rw[r.any k]
 by_cases e:(vs.any fun kv=>decide (kv.1=k))=true
 ·rw[if_pos e,if_pos e];exact r.repl k ry
 ·rw[if_neg e,if_neg e];exact Paired.snoc r ⟨rfl,ry⟩
theorem KV.length {kvs:List (κ×V)} {vs:List (κ×Value)} (r:KV kvs vs):kvs.length=vs.length:=Paired.length r
end
theorem kV_is {P:Program} {w:World} {k:Key} {u:Value} (r:RelV (kV k) u):(mixKind P w).is k u=true:=by
 cases k with
 | inl i=>obtain⟨t,e⟩:=(show ∃t,u=Value.int i t from r);subst e;exact mixKind_int P w i t
 | inr x=>obtain⟨t,e⟩:=(show ∃t,u=Value.str x t from r);subst e;exact mixKind_str P w x t
theorem items_are {P:Program} {w:World}:∀{ks:List Key} {us:List Value},Vals (ks.map kV) us→ItemsAre (mixKind P w) ks us
 | [],_,r=>by rw[List.map_nil] at r;cases r;exact .nil
 | k::ks,_,r=>by
  rw[List.map_cons] at r
  cases r with
  | cons h t=>exact .cons (kV_is h) (items_are t)
abbrev KT (H:Hp):List (List Key×V)→List (List Key×Addr×Value)→Prop:=Paired fun p q=>p.1=q.1∧H q.2.1=some (.tup (p.1.map kV))∧RelV p.2 q.2.2
theorem KT.val {H:Hp} {kvs:List (List Key×V)} {xs:List (List Key×Addr×Value)} (r:KT H kvs xs) (k:List Key):RelO (valV kvs k) ((atKey xs k).map (·.2)):=by
 induction r with
 | nil=>exact True.intro
 | @cons p q ps qs h t ih=>
  obtain⟨h1,_,h2⟩:=h
  by_cases e:p.1=k
  ·have e':q.1=k:=h1.symm.trans e
   have b:atKey (q::qs) k=some q.2:=by simp [atKey,List.find?_cons,e']
   rw[valV_pos e,b];exact h2
  ·have e':¬q.1=k:=fun z=>e (h1.trans z)
   have b:atKey (q::qs) k=atKey qs k:=by simp [atKey,List.find?_cons,e']
   rw[valV_neg e,b];exact ih
theorem KT.repl {H:Hp} {kvs:List (List Key×V)} {xs:List (List Key×Addr×Value)} (r:KT H kvs xs) (k:List Key) {y:V} {u:Value} (ry:RelV y u):
  KT H (kvs.map fun kv=>if kv.1=k then (kv.1,y) else kv) (xs.map (putAt k u)):=by
 induction r with
 | nil=>exact .nil
 | @cons p q ps qs h t ih=>
  rw[List.map_cons,List.map_cons]
  refine .cons ?_ ih
  obtain⟨h1,h2,h3⟩:=h
  unfold putAt
  by_cases e:p.1=k
  ·rw[if_pos e,if_pos (h1.symm.trans e)];exact⟨h1,h2,ry⟩
  ·rw[if_neg e,if_neg (fun z=>e (h1.trans z))];exact⟨h1,h2,h3⟩
theorem KT.put {H:Hp} {kvs:List (List Key×V)} {xs:List (List Key×Addr×Value)} (r:KT H kvs xs) (k:List Key) {b:Addr} {y:V} {u:Value} (hb:H b=some (.tup (k.map kV))) (ry:RelV y u):
  KT H (putK kvs k y) (storedH xs k b u):=by
 have e:(kvs.any fun kv=>decide (kv.1=k))=(atKey xs k).isSome:=by
  rw[valV_any,(r.val k).isSome_eq,Option.isSome_map]
 unfold putK storedH
 rw[e]
 by_cases q:(atKey xs k).isSome=true
 ·rw[if_pos q,if_pos q];exact r.repl k ry
 ·rw[if_neg q,if_neg q];exact Paired.snoc r ⟨rfl,hb,ry⟩
theorem KT.keeps {H H':Hp} {kvs:List (List Key×V)} {xs:List (List Key×Addr×Value)} (r:KT H kvs xs) (ht:∀b ys,H b=some (.tup ys)→H' b=some (.tup ys)):KT H' kvs xs:=
 Paired.mapP r fun _ _ z=>⟨z.1,ht _ _ z.2.1,z.2.2⟩
section
variable {P : Program} {w : World} {H : Hp} {h : Heap} {a : Addr}
theorem rd_of {u:HO} (ok:HOk P w H h) (e:Rd H a u):ObjOk P w H h a u:=e.ok ok
theorem dk_rd {kvs:List (Key×V)} (ok:HOk P w H h) (e:Rd H a (.dK kvs)):kvs.length≤sizeLine∧(a==sysModules)=false∧∃vs,KV kvs vs∧h.DictOf (mixKind P w) a vs:=
 show ObjOk P w H h a (.dK kvs) from rd_of ok e
theorem dk_of {kvs:List (Key×V)} (ok:HOk P w H h) (e:H a=some (.dK kvs)):kvs.length≤sizeLine∧(a==sysModules)=false∧∃vs,KV kvs vs∧h.DictOf (mixKind P w) a vs:=dk_rd ok (.inl e)
theorem key_of {ks:List Key} (ok:HOk P w H h) (e:H a=some (.tup (ks.map kV))):(tupleKind (mixKind P w)).is h ks a:=by
 obtain⟨_,its,r,o,h1,h2,n,h3⟩:=(show ObjOk P w H h a (.tup (ks.map kV)) from ok a _ e)
 exact⟨o,its.toArray,n,h1,h2,h3,by simpa using items_are r⟩
theorem dt_rd {kvs:List (List Key×V)} (ok:HOk P w H h) (e:Rd H a (.dT kvs)):kvs.length≤sizeLine∧(a==sysModules)=false∧
  ∃xs,KT H kvs xs∧h.DictOfH (tupleKind (mixKind P w)) a xs:=by
 obtain⟨z,y,xs,r,o,es,ep,h1,h2,h3,h4,h5⟩:=(show ObjOk P w H h a (.dT kvs) from rd_of ok e)
 refine⟨z,y,xs,r,o,es,ep,h1,h2,h3,h4,fun x hx=>?_,h5⟩
 have all:∀{l:List (List Key×V)} {m:List (List Key×Addr×Value)},KT H l m→∀x∈m,(tupleKind (mixKind P w)).is h x.1 x.2.1:=by
  intro l m q
  induction q with
  | nil=>intro x hx;exact nomatch hx
  | @cons p q ps qs hq t ih=>
   intro x hx
   rcases List.mem_cons.mp hx with e | hx
   ·subst e
    exact key_of ok (by rw[←hq.1];exact hq.2.1)
   ·exact ih x hx
 exact all r x hx
theorem dt_of {kvs:List (List Key×V)} (ok:HOk P w H h) (e:H a=some (.dT kvs)):kvs.length≤sizeLine∧(a==sysModules)=false∧
  ∃xs,KT H kvs xs∧h.DictOfH (tupleKind (mixKind P w)) a xs:=dt_rd ok (.inl e)
end
noncomputable def DGet (H:Hp) (a:Addr) (y:V) (r:Option V):Prop:=
 (∃kvs k,Rd H a (.dK kvs)∧y=kV k∧r=valV kvs k)∨∃kvs k b,Rd H a (.dT kvs)∧y=.ref b∧H b=some (.tup (k.map kV))∧r=valV kvs k
noncomputable def DPut (H:Hp) (a:Addr) (y v:V) (H':Hp):Prop:=
 (∃kvs k,H a=some (.dK kvs)∧y=kV k∧kvs.length<sizeLine∧H'=upd H a (.dK (putK kvs k v)))∨
 ∃kvs k b,H a=some (.dT kvs)∧y=.ref b∧H b=some (.tup (k.map kV))∧kvs.length<sizeLine∧H'=upd H a (.dT (putK kvs k v))
theorem DPut.k {H:Hp} {a:Addr} {kvs:List (Key×V)} {k:Key} {v:V} (e:H a=some (.dK kvs)) (hl:kvs.length<sizeLine):DPut H a (kV k) v (upd H a (.dK (putK kvs k v))):=.inl ⟨kvs,k,e,rfl,hl,rfl⟩
section
variable {X : Cx} {pins : List (Addr × Obj)} {σ : St} {H : Hp} {s : Shared} {a : Addr} {y v : V} {u r : Value} {o : Option V} {A : Around} {E : Value → Shared → Prop}
theorem Inv.big (I:Inv X pins σ H s):sysModules<s.heap.objs.size:=by
 have h:mainGlobals<s.heap.objs.size:=(I.mod.glob.keeps I.bk).lt
 exact Nat.lt_trans (by decide) h
theorem d_getItem {Q:Value→Shared→Prop} (hu:A.units+1<cLine) (I:Inv X pins σ H s) (g:DGet H a y (some v)) (ry:RelV y u) (h:∀w' s',Inv X pins σ H s'→RelV v w'→Q w' s'):
  wpAny (model X.prog X.w) A (getItem (.ref a) u) Q E s:=by
 rcases g with ⟨kvs,k,e,ey,l⟩ | ⟨kvs,k,b,e,ey,eb,l⟩
 ·subst ey
  obtain⟨z,hd,vs,rel,dd⟩:=dk_rd I.hok e
  obtain⟨w',hw,rw'⟩:=RelO.some_of (v:=v) (o:=valueAt vs k) (by rw[l];exact rel.val k)
  exact wpAny_getItem_of (kV_is ry) dd.mapOf hw (h w' _ (I.tok _) rw')
 ·subst ey
  cases (show u=Value.ref b from ry)
  obtain⟨z,hd,xs,rel,dd⟩:=dt_rd I.hok e
  obtain⟨w',hw,rw'⟩:=RelO.some_of (v:=v) (o:=(atKey xs k).map (·.2)) (by rw[l];exact rel.val k)
  obtain⟨p,hp,hp2⟩:=Option.map_eq_some_iff.mp hw
  refine wpAny_getItem_heap (tupleKind_room_in1 hu) (key_of I.hok eb) dd hp ?_
  rw[hp2]
  exact h w' _ (I.tok _) rw'
theorem d_notIn {Q:Value→Shared→Prop} (hu:A.units+1<cLine) (I:Inv X pins σ H s) (g:DGet H a y o) (ry:RelV y u) (h:∀s',Inv X pins σ H s'→Q (.bool (!o.isSome)) s'):
  wpAny (model X.prog X.w) A (compareOp .NotIn u (.ref a)) Q E s:=by
 rcases g with ⟨kvs,k,e,ey,l⟩ | ⟨kvs,k,b,e,ey,eb,l⟩
 ·subst ey
  obtain⟨z,hd,vs,rel,dd⟩:=dk_rd I.hok e
  refine wpAny_notIn_of (kV_is ry) hd dd.mapOf ?_
  rw[←(rel.val k).isSome_eq,←l]
  exact h _ (I.tok _)
 ·subst ey
  cases (show u=Value.ref b from ry)
  obtain⟨z,hd,xs,rel,dd⟩:=dt_rd I.hok e
  refine wpAny_notIn_heap (tupleKind_room_in1 hu) (key_of I.hok eb) hd dd ?_
  have q:=(rel.val k).isSome_eq
  rw[Option.isSome_map] at q
  rw[←q,←l]
  exact h _ (I.tok _)
theorem d_write {h':Heap} {t':Nat} {ob:HO} (I:Inv X pins σ H s) (mu:Mut (H a)) (hs:Heap.SameBut a s.heap h') (he:∃q,h'.get? a=some q) (new:ObjOk X.prog X.w (upd H a ob) h' a ob):
  Inv X pins σ (upd H a ob) {s with heap:=h',toks:=t'}:=
 I.write (x:=a) (e:=a) mu (.inl rfl) (fun b q hb z=>(hs.2 b hb).trans z) he new
theorem dk_new {P:Program} {w:World} {H':Hp} {h':Heap} {kvs:List (Key×V)} {vs:List (Key×Value)} (z:kvs.length≤sizeLine) (hd:(a==sysModules)=false) (rel:KV kvs vs) (dd:h'.DictOf (mixKind P w) a vs):
  ObjOk P w H' h' a (.dK kvs):=⟨z,hd,vs,rel,dd⟩
theorem d_setItem {H':Hp} {Q:Unit→Shared→Prop} (hu:A.units+1<cLine) (I:Inv X pins σ H s) (g:DPut H a y v H') (ry:RelV y u) (rv:RelV v r) (h:∀s',Inv X pins σ H' s'→Q () s'):
  wpAny (model X.prog X.w) A (setItem (.ref a) u r) Q E s:=by
 rcases g with ⟨kvs,k,e,ey,l,eH⟩ | ⟨kvs,k,b,e,ey,eb,l,eH⟩
 ·subst ey eH
  obtain⟨z,hd,vs,rel,dd⟩:=dk_of I.hok e
  have hz:vs.length≤sizeLine:=by rw[←rel.length];exact z
  have hl:(putK kvs k v).length≤sizeLine:=by have:=length_putK kvs k v;omega
  refine wpAny_setItem_pairs (hsz:=hz) (kV_is ry) dd fun h' dd' hs=>h _ ?_
  have he:∃q,h'.get? a=some q:=let ⟨q,_,_,hq,_⟩:=dd';⟨q,hq⟩
  exact d_write I (by rw[e];exact True.intro) hs he (dk_new hl hd (rel.put k rv) dd')
 ·subst ey eH
  cases (show u=Value.ref b from ry)
  obtain⟨z,hd,xs,rel,dd⟩:=dt_of I.hok e
  have hz:xs.length≤sizeLine:=by rw[←Paired.length rel];exact z
  have hl:(putK kvs k v).length≤sizeLine:=by have:=length_putK kvs k v;omega
  refine wpAny_setItem_heap (hsz:=hz) (tupleKind_room_in1 hu) (key_of I.hok eb) dd fun h' dd' hs=>h _ ?_
  obtain⟨q,es,ep,hq,h2,h3,h4,_,h5⟩:=dd'
  refine d_write I (by rw[e];exact True.intro) hs ⟨q,hq⟩ ⟨hl,hd,_,(rel.put k eb rv).keeps fun c ys ec=>?_,q,es,ep,hq,h2,h3,h4,h5⟩
  rw[upd_ne (ne_of ec e (fun z=>nomatch z))]
  exact ec
end
section
variable {X : Cx} {pins : List (Addr × Obj)} {σ : St} {H : Hp} {s : Shared} {a : Addr} {kvs : List (Key × V)} {k : Key} {u : Value} {A : Around} {E : Value → Shared → Prop}
theorem d_len {Q:Value→Shared→Prop} (I:Inv X pins σ H s) (e:Rd H a (.dK kvs)) (h:∀t s',Inv X pins σ H s'→Q (.int kvs.length t) s'):wpAny (model X.prog X.w) A (call (.builtin "len") [.ref a]) Q E s:=by
 obtain⟨z,hd,vs,rel,dd⟩:=dk_rd I.hok e
 refine call_len_dict hd dd (by rw[←rel.length];rw[sizeLine_eq] at z;omega) ?_
 rw[←rel.length]
 exact h _ _ (I.tok _)
end
noncomputable def NoSl (i:Expr):Prop:=∀ov iv,subscripted i false ov iv=operate [ov,iv] (getItem ov iv)
theorem subD_of {prog:Program} {w:World} {A:Around} {E:Value→Shared→Prop} {s:Shared} {env:Env} {value slice:Expr} {pos:Pos} {T id:String} {Q:Value→Shared→Prop}
  (hl:typeLookup (.type T) "__getitem__"=pure (some (.builtin id))) (hs:NoSl slice)
  (h:wpAny (model prog w) A (eval value env) (fun o s₁=>wpAny (model prog w) A (eval slice env) (fun i s₂=>s₂.TypeIs o T∧wpAny (model prog w) A (getItem o i) Q E s₂) E s₁) E s):
  wpAny (model prog w) A (eval (.Subscript value slice pos) env) Q E s:=by
 refine Subscript_ (wpAny_mono h (fun o s₁ h₁=>wpAny_mono h₁ (fun i s₂ h₂=>?_) fun _ _ x=>x) fun _ _ x=>x)
 obtain⟨hT,h₂⟩:=h₂
 unfold subscriptTail
 refine wpAny_bind ?_
 rw[getitemInPython_of_ne hT.not_modules]
 refine wpAny_bind (wpAny_specialOf hT hl ?_)
 have fin:wpAny (model prog w) A (subscripted slice false o i) (fun r s₃=>wpAny (model prog w) A (letTemporaryGo value o r >>=fun _=>pure r) Q E s₃) E s₂:=by
  rw[hs o i]
  exact wpAny_operating (wpAny_mono h₂ (fun r s₃ h₃=>wpAny_bind (wpAny_letTemporaryGo (wpAny_pure h₃))) fun _ _ x=>x)
 first
  | exact wpAny_pure (wpAny_bind fin)
  | exact wpAny_bind (wpAny_pure (wpAny_bind fin))
  | exact wpAny_bind fin
theorem dict_typeIs {X:Cx} {pins:List (Addr×Obj)} {σ:St} {H:Hp} {s:Shared} {a:Addr} {y:V} {o:Option V} (I:Inv X pins σ H s) (g:DGet H a y o):s.TypeIs (.ref a) "dict":=by
 rcases g with ⟨kvs,k,e,_,_⟩ | ⟨kvs,k,b,e,_,_,_⟩
 ·obtain⟨_,_,vs,_,dd⟩:=dk_rd I.hok e
  exact dd.typeIs
 ·obtain⟨_,_,xs,_,dd⟩:=dt_rd I.hok e
  exact dd.typeIs
noncomputable def tDGet (td ty:TE):TE:=fun σ H Q=>td σ H fun x H1=>ty σ H1 fun y H2=>∃a v,x=.ref a∧DGet H2 a y (some v)∧Q v H2
noncomputable def tDIn (ty td:TE):TE:=fun σ H Q=>ty σ H fun y H1=>td σ H1 fun x H2=>∃a o,x=.ref a∧DGet H2 a y o∧Q (.bl o.isSome) H2
noncomputable def tDNotIn (ty td:TE):TE:=fun σ H Q=>ty σ H fun y H1=>td σ H1 fun x H2=>∃a o,x=.ref a∧DGet H2 a y o∧Q (.bl (!o.isSome)) H2
noncomputable def sDPut (td ty tv:TE):TS:=fun D σ H=>tv σ H fun v H1=>td σ H1 fun x H2=>ty σ H2 fun y H3=>∃a H4,x=.ref a∧DPut H3 a y v H4∧D.nx σ H4
section
variable {X : Cx} {o i e value : Expr} {pos pos' tpos : Pos} {td ty tv : TE}
theorem pe_dget (hu:X.A.units+1<cLine) (ho:PE X o td) (hi:PE X i ty) (hs:NoSl i):PE X (.Subscript o i pos) (tDGet td ty):=by
 intro pins s σ H Q I h
 refine subD_of PySem.F.slot_dict_getitem.lookup hs (thn (ho pins s σ H _ I h) fun u s1 ⟨x,H1,I1,rx,q1⟩=>thn (hi pins s1 σ H1 _ I1 q1) fun iv s2 ⟨y,H2,I2,ry,a,v,ex,g,q2⟩=>?_)
 subst ex
 obtain rfl:u=Value.ref a:=rx
 exact⟨dict_typeIs I2 g,d_getItem hu I2 g ry fun w' s3 I3 rw'=>⟨v,H2,I3,rw',q2⟩⟩
theorem pc_dnotin (hu:X.A.units+1<cLine) (hi:PE X i ty) (ho:PE X o td):PC X .NotIn i o (tDNotIn ty td):=by
 intro pins s σ H Q I h
 refine thn (hi pins s σ H _ I h) fun iv s1 ⟨y,H1,I1,ry,q1⟩=>thn (ho pins s1 σ H1 _ I1 q1) fun u s2 ⟨x,H2,I2,rx,a,ov,ex,g,q2⟩=>?_
 subst ex
 obtain rfl:u=Value.ref a:=rx
 exact d_notIn hu I2 g ry fun s3 I3=>⟨.bl (!ov.isSome),H2,I3,rfl,q2⟩
theorem ps_dput (hu:X.A.units+1<cLine) (ho:PE X o td) (hi:PE X i ty) (hv:PE X value tv) (hs:swapsWith value (some (.Subscript o i pos')) pos.line X.env=pure false):
  PS X (.Assign [.Subscript o i pos'] value pos) (sDPut td ty tv):=by
 intro pins s σ H D I h
 refine wpAny_Assign_Subscript (thn (hv pins s σ H _ I h) fun r s1 ⟨v,H1,I1,rv,q1⟩=>thn (ho pins s1 σ H1 _ I1 q1) fun u s2 ⟨x,H2,I2,rx,q2⟩=>thn (hi pins s2 σ H2 _ I2 q2) fun iv s3 ⟨y,H3,I3,ry,a,H4,ex,g,q3⟩=>?_) hs
 subst ex
 obtain rfl:u=Value.ref a:=rx
 exact d_setItem hu I3 g ry rv fun s4 I4=>⟨σ,H4,I4,q3⟩
end
theorem dk_empty {P:Program} {w:World} {H:Hp} (h:Heap) (hb:sysModules<h.objs.size):ObjOk P w H (h.push {cls:=.type "dict",data:=.dict #[]}) h.objs.size (.dK []):=
 ⟨Nat.zero_le _,beq_eq_false_iff_ne.mpr (Ne.symm (Nat.ne_of_lt hb)),[],.nil,Heap.DictOf.new h⟩
noncomputable def tDNewK:TE:=fun _ H Q=>∀p,H p=none→Q (.ref p) (upd H p (.dK []))
section
variable {X : Cx} {pos : Pos}
theorem pe_dnewK:PE X (.Dict [] [] pos) tDNewK:=fun pins s σ H Q I h=>
 wpAny_Dict_empty ⟨.ref s.heap.objs.size,_,I.laid (a:=s.heap.objs.size) (o:=.dK []) (t':=s.toks) (fun _ _ q=>Heap.get?_push_of_some _ q) (Nat.le_refl _) (dk_empty s.heap I.big),rfl,h _ (I.hok.fresh (Nat.le_refl _))⟩
end
abbrev VV:List (V×V)→List (Value×Value)→Prop:=Paired fun p q=>RelV p.1 q.1∧RelV p.2 q.2
structure M1 (X:Cx) (o:Expr) (m:Str) (apos:Pos) (e:Expr) (cpos:Pos):Prop where
 base:attributeBase o m X.env (eval o X.env)=eval o X.env
 few:((backTo cpos (starEach [e] X.env)).all (fun x=>!x.1) && (backToKw cpos (keywordEach [] X.env)).all (fun x=>x.1.isSome)
  && decide (([e]:List Expr).length+ ([]:List Keyword).length+ (if ([]:List Keyword).isEmpty then 0 else 1)<30))=true
 line:(apos.endLine==cpos.line)=true
 trees:backTo cpos (starEach [e] X.env)=[(false,eval e X.env)]
structure M2 (X:Cx) (o:Expr) (m:Str) (apos:Pos) (e f:Expr) (cpos:Pos):Prop where
 base:attributeBase o m X.env (eval o X.env)=eval o X.env
 few:((backTo cpos (starEach [e,f] X.env)).all (fun x=>!x.1) && (backToKw cpos (keywordEach [] X.env)).all (fun x=>x.1.isSome)
  && decide (([e,f]:List Expr).length+ ([]:List Keyword).length+ (if ([]:List Keyword).isEmpty then 0 else 1)<30))=true
 line:(apos.endLine==cpos.line)=true
 trees:backTo cpos (starEach [e,f] X.env)=[(false,eval e X.env),(false,eval f X.env)]
noncomputable def IsD (H:Hp) (a:Addr):Prop:=(∃kvs,Rd H a (.dK kvs))∨∃kvs,Rd H a (.dT kvs)
theorem isD_at {X:Cx} {pins:List (Addr×Obj)} {σ:St} {H:Hp} {s:Shared} {a:Addr} (I:Inv X pins σ H s) (d:IsD H a):
  s.TypeIs (.ref a) "dict"∧(∀b,Value.ref a=.ref b→∃ob,s.heap.get? b=some ob∧ob.dict=none)∧(a==sysModules)=false:=by
 rcases d with ⟨kvs,e⟩ | ⟨kvs,e⟩
 ·obtain⟨_,hd,vs,_,dd⟩:=dk_rd I.hok e
  refine⟨dd.typeIs,fun b q=>?_,hd⟩
  cases q
  obtain⟨ob,_,_,h1,h2,_⟩:=dd
  exact⟨ob,h1,h2.2.1⟩
 ·obtain⟨_,hd,xs,_,dd⟩:=dt_rd I.hok e
  refine⟨dd.typeIs,fun b q=>?_,hd⟩
  cases q
  obtain⟨ob,_,_,h1,h2,_⟩:=dd
  exact⟨ob,h1,h2.2.1⟩
section
variable {X : Cx} {pins : List (Addr × Obj)} {σ : St} {H : Hp} {s : Shared} {a : Addr} {y d : V} {u r : Value} {o : Option V} {A : Around} {E : Value → Shared → Prop}
theorem d_get2 {Q:Value→Shared→Prop} (hu:A.units+1<cLine) (I:Inv X pins σ H s) (g:DGet H a y o) (ry:RelV y u) (rd:RelV d r) (h:∀w' s',Inv X pins σ H s'→RelV (o.getD d) w'→Q w' s'):
  wpAny (model X.prog X.w) A (call (.builtin "dict.get") [.ref a,u,r]) Q E s:=by
 rcases g with ⟨kvs,k,e,ey,l⟩ | ⟨kvs,k,b,e,ey,eb,l⟩
 ·subst ey
  obtain⟨z,hd,vs,rel,dd⟩:=dk_rd I.hok e
  refine call_meetsIn PySem.F.slot_dict_get dd.typeIs PySem.F.entry_dict_get (PySem.F.args_dict_get_3 _ _ _) (meets_dict_get_default (mixKind X.prog X.w) a (kV_is ry) hd r) ⟨_,dd.mapOf,h _ _ (I.tok _) ?_⟩
  rw[l]
  exact(rel.val k).getD rd
 ·subst ey
  cases (show u=Value.ref b from ry)
  obtain⟨z,hd,xs,rel,dd⟩:=dt_rd I.hok e
  refine call_meetsIn PySem.F.slot_dict_get dd.typeIs PySem.F.entry_dict_get (PySem.F.args_dict_get_3 _ _ _) (meetsH_dict_get_default (tupleKind (mixKind X.prog X.w)) a b hd r) ⟨tupleKind_room_in1 hu,k,xs,key_of I.hok eb,dd,h _ _ (I.tok _) ?_⟩
  rw[l]
  exact(rel.val k).getD rd
end
noncomputable def tDGet1 (td ty:TE):TE:=fun σ H Q=>td σ H fun x H1=>∃a,x=.ref a∧IsD H1 a∧ty σ H1 fun y H2=>∃o,DGet H2 a y o∧Q (o.getD .non) H2
noncomputable def tDGet2 (td ty tx:TE):TE:=fun σ H Q=>td σ H fun x H1=>∃a,x=.ref a∧IsD H1 a∧ty σ H1 fun y H2=>tx σ H2 fun z H3=>∃o,DGet H3 a y o∧Q (o.getD z) H3
noncomputable def tDPop1 (td ty:TE):TE:=fun σ H Q=>td σ H fun x H1=>∃a,x=.ref a∧IsD H1 a∧ty σ H1 fun y H2=>∃kvs k v,H2 a=some (.dK kvs)∧y=kV k∧valV kvs k=some v∧Q v (upd H2 a (.dK (dropK kvs k)))
section
variable {X : Cx} {o e f : Expr} {apos cpos : Pos} {td ty tx : TE}
theorem pe_dget2 (hu:X.A.units+1<cLine) (ho:PE X o td) (he:PE X e ty) (hf:PE X f tx) (m:M2 X o "get" apos e f cpos):PE X (.Call (.Attribute o "get" apos) [e,f] [] cpos) (tDGet2 td ty tx):=by
 intro pins s σ H Q I h
 refine wpAny_Call_method m.base m.few m.line PySem.F.plainAttrs_dict PySem.F.slot_dict_get PySem.F.type_dict_get (thn (ho pins s σ H _ I h) fun u s1 ⟨x,H1,I1,rx,a,ex,d,q1⟩=>?_)
 subst ex
 obtain rfl:u=Value.ref a:=rx
 obtain⟨t1,t2,_⟩:=isD_at I1 d
 refine⟨t1,t2,?_⟩
 rw[m.trees]
 refine Calls.callWith_builtin rfl (Calls.evalArgs_plain (Calls.spliced_cons (thn (he pins s1 σ H1 _ I1 q1) fun iv s2 ⟨y,H2,I2,ry,q2⟩=>
  Calls.spliced_cons (thn (hf pins s2 σ H2 _ I2 q2) fun fv s3 ⟨z,H3,I3,rz,ov,g,q3⟩=>Calls.spliced_nil ?_))))
 exact d_get2 hu I3 g ry rz fun w' s4 I4 rw'=>⟨_,H3,I4,rw',q3⟩
end
section
variable {X : Cx} {pins : List (Addr × Obj)} {σ : St} {H : Hp} {s : Shared} {a : Addr} {kvs : List (Key × V)} {A : Around} {E : Value → Shared → Prop}
end
section
variable {X : Cx} {pins : List (Addr × Obj)} {σ : St} {H : Hp} {s : Shared} {a : Addr} {y : V} {u : Value} {A : Around} {E : Value → Shared → Prop}
end
end L2
namespace Att
open PySem PySem.W PySem.Calls PyProof.Rows
theorem ints_of_wellAll {P:Params} {h:Heap}:∀(ns:List Int) (vs:List Value),WellAll P h vs (ns.map WData.int)→IntsAre vs ns:=by
 intro ns
 induction ns with
 | nil=>
  intro vs w
  rw[List.map_nil] at w
  cases w
  exact .nil
 | cons n ns ih=>
  intro vs w
  rw[List.map_cons] at w
  cases w with
  | cons a b=>
   cases a
   exact .cons _ _ (ih _ b)
theorem script_of {l:OpenLaw} {n:Nat} (hn:l.most=some n) {P:Params} {h:Heap} {args:List WData} {vals:List Value}
  (hpre:l.row.toRowW.claim.pre args=true) (hwl:WellAll P h vals args):
  ∃a vs ns,vals=[Value.ref a]∧args=[WData.list (ns.map WData.int)]∧h.get? a=some {cls:=.type "list",data:=.seq vs.toArray}∧IntsAre vs ns∧ns.length≤n:=by
 have hsh:WShape.hasAll [] args [.list .int]=true:=(pre_splitW hpre).1
 have hc:l.pre.holds [] {args:=args}=true:=(pre_splitW hpre).2
 obtain⟨d,r,rfl,h1,h2⟩:=hasAllW_cons hsh
 obtain rfl:=hasAllW_nil h2
 obtain⟨xs,rfl,h3⟩:=hasW_list h1
 obtain⟨ns,rfl⟩:=items_int h3
 have hlen:ns.length≤n:=by
  unfold OpenLaw.pre at hc
  have h4:(WTm.not (.lt (.lit (.int (n:Int))) (.len (.arg 0)))).holds [] {args:=[.list (ns.map .int)]}=true:=by
   have h4:=(holds_andW hc).1
   rw[hn] at h4
   exact h4
  have h5:=condW_of h4 (w_not (w_lt w_lit (w_len_list (w_arg rfl))))
  rw[List.length_map] at h5
  refine Nat.le_of_not_lt fun q=>?_
  have q':(n:Int)< ((ns.length:Nat):Int):=by omega
  first
   | (rw[decide_eq_true q'] at h5;exact absurd h5 (by decide))
   | (simp at h5;omega)
 cases hwl with
 | cons w1 w2=>
  cases w2
  cases w1 with
  | list ho hall=>exact⟨_,_,ns,rfl,rfl,ho,ints_of_wellAll ns _ hall,hlen⟩
theorem post_true (l:OpenLaw) (args:List WData):l.row.toRowW.claim.post args (.bool true) args=true:=
 postW_of (r:=l.row.toRowW) (X:=(true==true))
  (show WShape.has [] (.bool true) .bool=true by first | rfl | decide | simp [WShape.has,WShape.arms,WShape.armsAll])
  (show(WTm.eq .res (.lit (.bool true))).value [] {args:=args,res:=some (.bool true),after:=args}=some (.bool (true==true)) from w_eq_bool (w_res rfl) w_lit) rfl
theorem attach_call {l:OpenLaw} {n:Nat} {q:Program} {loose:List Str} {XP:(Str→Option Value)→Heap→Prop} {YP:World→Heap→Prop} {d:DefRec}
  (hn:l.most=some n) (hdf:d.params.defaults=[])
  (call:∀(w:World) (s₀ s₁:Shared) (mg mb:Str→Option Value) (fa:Addr) (o:Obj) (pm cd doc:Value) (a:Addr) (vs:List Value) (ns:List Int),
   Ground q loose [] XP w s₀ mg mb s₁.heap→YP w s₁.heap→
   s₁.heap.get? fa=some o→o.data=.func (docDef d.name d.params d.body d.scope pm cd doc)→s₁.heap.CodeRec cd d.name→mg d.name=some (.ref fa)→
   s₁.heap.get? a=some {cls:=.type "list",data:=.seq vs.toArray}→IntsAre vs ns→ns.length≤n→s₁.gens=#[]→
   codeAny (model l.prog w) callerA (.call (.ref fa) ⟨[.ref a],[]⟩) (fun r s'=>r=.ok (.ret (.bool true))∧OldK s₁.heap s'.heap∧s'.os=s₁.os∧AllBare s'.gens) s₁):
  WalkO q loose XP YP l.row.toRowW d [] (fun f vs=>PySem.call f vs):=by
 intro w s₀ s₁ mg mb G Y fa o pm cd doc dV kV ho hd hcd hD hmg hg args vals as hpre hlay hrd hwl hlo
 obtain rfl:dV=.none:=Dflts.none hD hdf
 obtain rfl:kV=.none:=Dflts.noKw hD
 obtain⟨a,vs,ns,rfl,rfl,hobj,hints,hlen⟩:=script_of hn hpre hwl
 refine enter_call (codeAny_mono (call w s₀ s₁ mg mb fa o pm cd doc a vs ns G Y ho (fd_plain hd) hcd hmg hobj hints hlen hg) fun r s' hq=>?_)
 obtain⟨rfl,h2,h3,h4⟩:=hq
 exact⟨.inl ⟨.bool true,.bool true,[],rfl,fun _=>rfl,.bool true,post_true l _,fun _=>⟨List.Pairwise.nil,fun _ hm=>(nomatch hm)⟩⟩,h2,h3,h4⟩
section
variable {prog : Program} {w : World} {A : Around} {E : Value → Shared → Prop} {s : Shared} {K : Frag}
end
end Att
namespace L2
open PySem PySem.Spec PyProof.Rows
theorem vals_ints:∀{vs:List Value} {ns:List Int},IntsAre vs ns→Vals (ns.map V.int) vs
 | _,_,.nil=>.nil
 | _,_,.cons n t h=>.cons ⟨t,rfl⟩ (vals_ints h)
noncomputable def Only (H:Hp):Prop:=∀b,H b=none∨∃o xs,H b=some (.frz o (.lst xs))
theorem law_call {P:Program} {w:World} {K:PySem.W.Frag} {mg mb:Str→Option Value} {CX:CXT} {k:Nat} {fa a:Addr} {fd:FuncData} {x:Str} {sp:Sp} {s₁:Shared} {vs:List Value} {ns:List Int}
  (KX:K.In s₁.heap) (hns:s₁.heap.Ns mainGlobals mg) (hb:s₁.heap.Ns builtinsNs mb) (hbb:∀x:Str,x≠"__name__"→mb x=bootBuiltins x) (hlim:s₁.heap.NoLimit) (hg:s₁.gens=#[])
  (ha:s₁.heap.get? a=some {cls:=.type "list",data:=.seq vs.toArray}) (hi:IntsAre vs ns) (hl:ns.length≤sizeLine) (hr:Room k callerA)
  (F:∀base:Heap,K.In base→base.Ns mainGlobals mg→FnOk P w K mg base CX k fa fd [x] sp) (hbind:∀(s:Shared) (u:Value),BindsTo s fd ⟨[u],[]⟩ [(x,u)])
  (hsp:∀H:Hp,Only H→SqL K H a (ns.map V.int)→sp [.ref a] H (fun v _=>v=.bl true) fun _ _ _=>False)
  (hCX:∀H e s',CX [] H s₁ (fun _ _ _=>False) e s'→False):
  codeAny (model P w) callerA (.call (.ref fa) ⟨[.ref a],[]⟩) (fun r s'=>r=.ok (.ret (.bool true))∧OldK s₁.heap s'.heap∧s'.os=s₁.os∧AllBare s'.gens) s₁:=by
 have rv:=vals_ints hi
 have lenV:=hi.length
 have core:∀H:Hp,Only H→SqL K H a (ns.map V.int)→HOk P w H s₁.heap→(∀b,H b≠none→b=a)→(H a≠none→K.lookup a=none)→
   codeAny (model P w) callerA (.call (.ref fa) ⟨[.ref a],[]⟩) (fun r s'=>r=.ok (.ret (.bool true))∧OldK s₁.heap s'.heap∧s'.os=s₁.os∧AllBare s'.gens) s₁:=by
  intro H hO hS hok hA hK
  have base_of:∀{b:Addr} {o:Obj},s₁.heap.get? b=some o→H b=none→(hidT s₁.heap H).get? b=some o:=fun e n=>hidT_get e n
  have noA:∀{b:Addr} {o:Obj} {es:Array DictEntry} {ep:Nat},s₁.heap.get? b=some o→o.data=.dict es ep→H b=none:=fun {b o es ep} e d=>by
   cases q:H b with
   | none=>rfl
   | some u=>
    have e':b=a:=hA b (by rw[q];simp)
    subst e'
    rw[ha] at e;cases e
    have d':Data.seq vs.toArray _=Data.dict es ep:=d
    cases d'
  have nsK:∀{b:Addr} {m:Str→Option Value},s₁.heap.Ns b m→(hidT s₁.heap H).Ns b m:=fun {b m} ⟨o,es,ep,e,d,r⟩=>⟨o,es,ep,base_of e (noA e d),d,r⟩
  have hKb:K.In (hidT s₁.heap H):=fun b o e=>base_of (KX b o e) (by
   cases q:H b with
   | none=>rfl
   | some u=>
    have e':b=a:=hA b (by rw[q];simp)
    subst e'
    rw[hK (by rw[q];simp)] at e;cases e)
  have hM:Mod K mg (hidT s₁.heap H):=⟨hKb,nsK hns,⟨mb,nsK hb,hbb⟩,let ⟨mc,h1,h2⟩:=hlim;⟨mc,nsK h1,h2⟩⟩
  have e0:Env0 P w K mg (hidT s₁.heap H) callerA [] s₁ H:=⟨rfl,hM,fun b o e=>of_hidT e,Nat.le_of_eq (hidT_size _ _),trivial,fun b hb=>absurd (show b∈([]:List Addr) from hb) (by simp),hok,.of_eq hg⟩
  refine codeAny_mono ((F _ hKb (nsK hns)).run callerA [] s₁ H ⟨[.ref a],[]⟩ [.ref a] [.ref a] _ _ hr e0 (hbind s₁ (.ref a)) (.cons rfl .nil) (hsp H hO hS)) fun r s' h=>?_
  cases r with
  | error e=>exact(hCX H e s' h).elim
  | ok fl=>
   cases fl with
   | next=>exact False.elim h
   | brk=>exact False.elim h
   | cont=>exact False.elim h
   | ret u=>
    obtain⟨v,H',os,bare,un,hok',r',q⟩:=h
    have q':v=.bl true:=q
    subst q'
    obtain rfl:u=Value.bool true:=r'
    refine⟨rfl,OldK.of_keep fun b o e=>?_,os,bare⟩
    cases q:H b with
    | none=>exact un.keep b o e q (by intro z;exact absurd (show b∈([]:List Addr) from z) (by simp)) (by simp)
    | some u=>
     rcases hO b with z | ⟨ob,xs,z⟩
     ·rw[q] at z;cases z
     ·have z2:=un.frzs b ob _ z
      obtain⟨e1,_⟩:=hok b _ z
      obtain⟨e2,_⟩:=hok' b _ z2
      rw[e] at e1;cases e1
      exact e2
 cases hk:K.lookup a with
 | some o=>
  have e:=KX a o hk
  rw[ha] at e
  cases e
  refine core (fun _=>none) (fun _=>.inl rfl) (.inr ⟨_,vs.toArray,_,hk,rfl,rfl,rfl,by rw[List.size_toArray,lenV];exact hl,by simpa using rv⟩) (fun b u z=>by have z':(none:Option HO)=some u:=z;cases z') (fun b z=>absurd rfl z) fun z=>absurd rfl z
 | none=>
  refine core (fun b=>if b=a then some (.frz {cls:=.type "list",data:=.seq vs.toArray} (.lst (ns.map V.int))) else none) (fun b=>?_) (.inl (.inr ⟨{cls:=.type "list",data:=.seq vs.toArray},if_pos rfl⟩)) (fun b u z=>?_) (fun b z=>?_) fun _=>hk
  ·by_cases hb:b=a
   ·exact .inr ⟨_,_,if_pos hb⟩
   ·exact .inl (if_neg hb)
  ·by_cases hb:b=a
   ·have z':=(if_pos hb).symm.trans z
    cases z'
    subst hb
    exact⟨ha,by rw[List.length_map];exact hl,vs,_,rv,ha⟩
   ·have z':=(if_neg hb).symm.trans z
    cases z'
  ·by_cases hb:b=a
   ·exact hb
   ·exact absurd (if_neg hb) z
end L2
namespace L2
open PySem PySem.Spec PyProof.Rows
abbrev KOf {K:PySem.W.Frag} {h:Heap} (_:K.In h):PySem.W.Frag:=K
theorem walk_of {l:PySem.W.OpenLaw} {n k:Nat} {q:Program} {loose:List Str} {XP:(Str→Option Value)→Heap→Prop} {YP:World→Heap→Prop} {d:DefRec} {K:Params→PySem.W.Frag} {CX:World→CXT} {sp:World→Sp} {x:Str}
  (hn:l.most=some n) (hn2:n≤sizeLine) (hdf:d.params.defaults=[]) (hr:Room k callerA)
  (hY:∀(w:World) (h:Heap),YP w h→(K w.params).In h)
  (F:∀(w:World) (mg:Str→Option Value) (fa:Addr) (h:Heap),(K w.params).In h→h.Ns mainGlobals mg→mg d.name=some (.ref fa)→
   ∃fd:FuncData,(∀(s:Shared) (u:Value),BindsTo s fd ⟨[u],[]⟩ [(x,u)])∧
    ∀base:Heap,(K w.params).In base→base.Ns mainGlobals mg→FnOk l.prog w (K w.params) mg base (CX w) k fa fd [x] (sp w))
  (hsp:∀(w:World) (H:Hp) (a:Addr) (ns:List Int),ns.length≤n→Only H→SqL (K w.params) H a (ns.map V.int)→sp w [.ref a] H (fun v _=>v=.bl true) fun _ _ _=>False)
  (hCX:∀(w:World) (H:Hp) (s:Shared) (e:Value) (s':Shared),CX w [] H s (fun _ _ _=>False) e s'→False):
  PySem.W.WalkO q loose XP YP l.row.toRowW d [] (fun f vs=>PySem.call f vs):=by
 refine Att.attach_call hn hdf fun w s₀ s₁ mg mb fa o pm cd doc a vs ns G Y ho hd hcd hmg hobj hints hlen hg=>?_
 have KX:=hY w _ Y
 obtain⟨fd,hb,hF⟩:=F w mg fa _ KX G.T.g hmg
 exact law_call KX G.T.g G.T.b G.T.builtins G.T.nolimit hg hobj hints (Nat.le_trans hlen hn2) hr hF hb (fun H hO hS=>hsp w H a ns hlen hO hS) fun H e s'=>hCX w H s₁ e s'
end L2
namespace L2
open PySem PySem.Spec PyProof.Rows
noncomputable def inClass (s:Stmt) (j:Nat):Stmt:=match s with
 | .ClassDef _ _ _ body _ _ _ _ _ _ _=>body.getD j (.Pass ⟨0,0,0,0⟩)
 | _=>.Pass ⟨0,0,0,0⟩
noncomputable def defArgs (s:Stmt):Arguments:=match s with
 | .FunctionDef _ a _ _ _ _ _ _ _ _=>a
 | _=>{posonlyargs:=[],args:=[],vararg:=none,kwonlyargs:=[],kw_defaults:=[],kwarg:=none,defaults:=[]}
noncomputable def defBody (s:Stmt):List Stmt:=match s with
 | .FunctionDef _ _ b _ _ _ _ _ _ _=>b
 | _=>[]
noncomputable def defScope (s:Stmt):Scope:=match s with
 | .FunctionDef _ _ _ _ _ _ sc _ _ _=>sc
 | _=>{kind:=.function,names:=[],isGenerator:=false,isCoroutine:=false}
abbrev CX0:CXT:=fun _ _ _ _ _ _=>False
abbrev E0:XK:=fun _ _ _=>False
structure Fun (K:PySem.W.Frag) (x qual:Str) (st:Stmt) (f:Addr) (fd:FuncData):Prop where
 ex:∃(oc:Value) (od:Option Addr) (kV doc pm:Value) (an:Option Addr) (cdv ct:Value) (osl:Array (Option Value)),
  fd=PySem.W.fnOf x qual (defArgs st) (defBody st) (defScope st) .none kV doc pm an cdv ct∧K.lookup f=some ⟨oc,od,.func fd,osl⟩∧PySem.W.codeIn K cdv qual=true
 kp:PySem.W.keepIn K (.ref f)=true
section
variable {P : Program} {w : World} {K : PySem.W.Frag} {mg : Str → Option Value} {base : Heap}
theorem Fun.binds {x qual:Str} {st:Stmt} {f:Addr} {fd:FuncData} {ps:List Str} (F:Fun K x qual st f fd)
  (h:∀(kV doc pm:Value) (an:Option Addr) (cdv ct:Value) (us:List Value),us.length=ps.length→bindArgs (PySem.W.fnOf x qual (defArgs st) (defBody st) (defScope st) .none kV doc pm an cdv ct) ⟨us,[]⟩=pure (ps.zip us)):Binds K fd ps []:=by
 obtain⟨oc,od,kV,doc,pm,an,cdv,ct,osl,rfl,lk,hcd⟩:=F.ex
 exact .all (h kV doc pm an cdv ct)
theorem fun_mk {x qual:Str} {st:Stmt} {f:Addr} {oc:Value} {od an:Option Addr} {osl:Array (Option Value)} {kV doc pm cdv ct:Value} (l:K.lookup f=some ⟨oc,od,.func (PySem.W.fnOf x qual (defArgs st) (defBody st) (defScope st) .none kV doc pm an cdv ct),osl⟩)
  (c:PySem.W.codeIn K cdv qual=true) (k:PySem.W.keepIn K (.ref f)=true):Fun K x qual st f (PySem.W.fnOf x qual (defArgs st) (defBody st) (defScope st) .none kV doc pm an cdv ct):=⟨⟨oc,od,kV,doc,pm,an,cdv,ct,osl,rfl,l,c⟩,k⟩
end
theorem hu_of {A:Around} {k:Nat} (hr:Room k A):A.units+1<cLine:=Nat.lt_of_le_of_lt (Nat.add_le_add_left (by decide:1≤64) _) hr.units
section
variable {X : Cx}
theorem pv (i:Nat) {x:Str} {pos:Pos} (hN:X.N[i]?=some x:=by rfl) (hv:Vis X.env.scope x:=by first | exact Or.inl rfl | exact Or.inr (Or.inl rfl) | exact Or.inr (Or.inr rfl)) (hd:(x==("__debug__":Str))=false:=by decide)
  (hcd:(x==("__classdict__":Str))=false:=by decide):PE X (.Name x pos) (tVar i):=pe_var hN hv hd hcd
end
theorem iteT {A B:Prop} (h:A):if true=true then A else B:=by
 rw[if_pos rfl]
 exact h
theorem ite2 {c A B:Prop} [Decidable c] (h1:c→A) (h2:¬c→B):if c then A else B:=by
 by_cases h:c
 ·rw[if_pos h]
  exact h1 h
 ·rw[if_neg h]
  exact h2 h
noncomputable def Same (H H':Hp):Prop:=∀b o,H b=some o→H' b=some o
theorem Same.refl (H:Hp):Same H H:=fun _ _ h=>h
theorem Same.trans {H H1 H2:Hp} (a:Same H H1) (b:Same H1 H2):Same H H2:=fun c o h=>b c o (a c o h)
theorem Same.seq {K:PySem.W.Frag} {H H':Hp} {a:Addr} {xs:List V} (e:Same H H') (h:SqL K H a xs):SqL K H' a xs:=by
 rcases h with (h | ⟨o,h⟩) | h
 ·exact .inl (.inl (e _ _ h))
 ·exact .inl (.inr ⟨o,e _ _ h⟩)
 ·exact .inr h
end L2
namespace L2
open PySem PySem.Spec PyProof.Rows
section
variable {X : Cx}
theorem call_lenD:CallR X (.builtin "len") (fun xs H Q=>∃a kvs,xs=[V.ref a]∧H a=some (.dK kvs)∧Q (.int kvs.length) H):=by
 intro pins s σ H xs us Q I r h
 obtain⟨a,kvs,rfl,ha,q⟩:=h
 obtain⟨u,rfl,ru⟩:=vals1 r
 cases ru
 exact d_len I (.inl ha) fun t s' I'=>⟨.int kvs.length,H,I',⟨t,rfl⟩,q⟩
end
section
variable {κ : Type} [DecidableEq κ]
end
end L2
namespace L2
open PySem PySem.Spec PyProof.Rows
noncomputable def Bt (n:Nat) (i:Int):Prop:=i.natAbs<2^n
theorem Bt.neg {n:Nat} {i:Int} (h1:Bt n i):Bt n (-i):=by
 unfold Bt at *
 omega
theorem Bt.le {n:Nat} {i j:Int} (h:Bt n j) (q:i.natAbs≤j.natAbs):Bt n i:=Nat.lt_of_le_of_lt q h
theorem Bt.of {n:Nat} {i:Int} (b:Nat) (h1:-(b:Int)≤i) (h2:i≤(b:Int)) (h:b<2^n:=by decide +kernel):Bt n i:=by
 unfold Bt
 exact Nat.lt_of_le_of_lt (by omega) h
theorem Bt.log {n:Nat} {i:Int} (h:Bt n i) (q:n≤9000:=by decide):i.natAbs.log2<9000:=by
 by_cases z:i.natAbs=0
 ·rw[z];decide
 ·exact Nat.lt_of_lt_of_le ((Nat.log2_lt z).mpr h) q
theorem mulOkL {i j:Int} (h1:-(2^64)<i:=by decide) (h2:i<2^64:=by decide):IntMulOk i j:=.of_left (intBits_le_64 h1 h2)
theorem mulOkR {i j:Int} (h1:-(2^64)<j:=by decide) (h2:j<2^64:=by decide):IntMulOk i j:=.of_right (intBits_le_64 h1 h2)
section
variable {X : Cx}
theorem op_mulB:OpR X (binaryOp .Mult) (rI IntMulOk fun i j=>.int (i*j)):=opI fun _ _ _ _ _ _ _ hc q=>mul_int q hc
noncomputable def CDivB (_ j:Int):Prop:=0<j∧j.natAbs.log2<9000
theorem CDivB.of {i j:Int} {n:Nat} (h:0<j) (b:Bt n j) (q:n≤9000:=by decide):CDivB i j:=⟨h,b.log q⟩
theorem CDivB.lit {i j:Int} (h:0<j:=by decide) (q:j.natAbs.log2<9000:=by decide):CDivB i j:=⟨h,q⟩
theorem op_fdivB:OpR X (binaryOp .FloorDiv) (rI CDivB fun i j=>.int (i / j)):=opI fun i j _ _ _ _ _ hc q=>by
 have h1:(0:Int)<j:=hc.1
 exact floordiv_int (by omega) (by rw[Int.fdiv_eq_ediv_of_nonneg i (by omega)];exact q) (.inl (PyProof.noPylong_of_log2 hc.2))
noncomputable def CDivS (_ j:Int):Prop:=j≠0∧j.natAbs.log2<9000
theorem CDivS.of {i j:Int} {n:Nat} (h:j≠0) (b:Bt n j) (q:n≤9000:=by decide):CDivS i j:=⟨h,b.log q⟩
theorem op_fdivS:OpR X (binaryOp .FloorDiv) (rI CDivS fun i j=>.int (i.fdiv j)):=opI fun _ _ _ _ _ _ _ hc q=>floordiv_int hc.1 q (.inl (PyProof.noPylong_of_log2 hc.2))
theorem op_modB:OpR X (binaryOp .Mod) (rI (fun _ j=>0<j) fun i j=>.int (i % j)):=op_mod
noncomputable def rIxTH:R2:=fun x y H Q=>∃p xs i v,x=.ref p∧y=.int i∧H p=some (.tup xs)∧atI xs i=some v∧Q v H
theorem ix_tupH:IxR X rIxTH:=fun value slice pins s σ H x y v u Q I rx ry ⟨p,xs,i,z,e1,e2,e3,e4,q⟩ hs=>
 ix_tup value slice pins s σ H x y v u Q I rx ry ⟨p,xs,i,z,e1,e2,SqT.of e3,e4,q⟩ hs
noncomputable def rIxLH:R2:=fun x y H Q=>∃p xs i v,x=.ref p∧y=.int i∧H p=some (.lst xs)∧atI xs i=some v∧Q v H
theorem ix_listH:IxR X rIxLH:=fun value slice pins s σ H x y v u Q I rx ry ⟨p,xs,i,z,e1,e2,e3,e4,q⟩ hs=>
 ix_list value slice pins s σ H x y v u Q I rx ry ⟨p,xs,i,z,e1,e2,SqL.of e3,e4,q⟩ hs
noncomputable def tTupS (t:TA):TE:=fun σ H Q=>t σ H fun xs H1=>xs.length≤sizeLine∧∀p H2,Same H1 H2→H1 p=none→H2 p=some (.tup xs)→Q (.ref p) H2
theorem same_upd {H:Hp} {p:Addr} {o:HO} (h:H p=none):Same H (upd H p o):=fun b u e=>by
 rw[upd_ne (ne_of_none e h)]
 exact e
theorem pe_tupS {es:List Expr} {t:TA} {x1} {pos:Pos} (h:PA X es t):PE X (.Tuple es x1 pos) (tTupS t):=fun pins s σ H Q I hq=>
 thn (h:=wpAny_Tuple_spliced (thn (h pos pins s σ H _ I hq) fun us s1 ⟨xs,H1,I1,r,z,q⟩=>⟨by rw[←r.length];exact z,by
  have hf:H1 s1.heap.objs.size=none:=I1.hok.fresh (Nat.le_refl _)
  refine⟨.ref s1.heap.objs.size,upd H1 s1.heap.objs.size (.tup xs),I1.laid (t':=s1.toks) (fun b u e=>Heap.get?_push_of_some _ e) (Nat.le_refl _) ?_,rfl,q _ _ (same_upd hf) hf upd_same⟩
  exact⟨z,us,r,⟨_,Heap.get?_push_size _ rfl,rfl,_,rfl⟩⟩⟩)) fun _ _ z=>z
theorem call_lenL:CallR X (.builtin "len") (fun xs H Q=>∃p ys,xs=[.ref p]∧H p=some (.lst ys)∧Q (.int ys.length) H):=fun pins s σ H xs us Q I r ⟨p,ys,e,h,q⟩=>
 call_len_seq pins s σ H xs us Q I r ⟨p,ys,e,.inl (SqL.of h),q⟩
theorem call_lenQ:CallR X (.builtin "len") (fun xs H Q=>∃p ns,xs=[.ref p]∧SqL X.K H p (List.map V.int ns)∧Q (.int (List.length ns:Nat)) H):=fun pins s σ H xs us Q I r ⟨p,ns,e,h,q⟩=>
 call_len_seq pins s σ H xs us Q I r ⟨p,_,e,.inl h,by rw[List.length_map];exact q⟩
noncomputable def rIxQ (K:PySem.W.Frag):R2:=fun x y H Q=>∃p ns i,x=.ref p∧y=.int i∧SqL K H p (List.map V.int ns)∧0≤i∧i< (List.length ns:Nat)∧Q (.int (ns.getD i.toNat 0)) H
theorem atI_ints {ns:List Int} {i:Int} (h0:0≤i) (h1:i< (ns.length:Nat)):atI (ns.map V.int) i=some (.int (ns.getD i.toNat 0)):=by
 obtain⟨j,rfl⟩:=Int.eq_ofNat_of_zero_le h0
 refine atI_nat ?_
 have hj:j<ns.length:=by omega
 rw[List.getElem?_map,List.getElem?_eq_getElem hj]
 simp [List.getD_eq_getElem?_getD,List.getElem?_eq_getElem hj]
theorem ix_listS:IxR X (rIxQ X.K):=fun value slice pins s σ H x y v u Q I rx ry ⟨p,ns,i,e1,e2,e3,h0,h1,q⟩ hs=>
 ix_list value slice pins s σ H x y v u Q I rx ry ⟨p,_,i,_,e1,e2,e3,atI_ints h0 h1,q⟩ hs
structure Cal (P:Program) (w:World) (K:PySem.W.Frag) (mg:Str→Option Value) (base:Heap) (CX:CXT) (k:Nat) (x:Str) (ps:List Str) (sp:Sp):Prop where
 ex:∃f fd,FnOk P w K mg base CX k f fd ps sp∧mg x=some (.ref f)∧PySem.W.keepIn K (.ref f)=true∧Binds K fd ps []
theorem pe_cal {CX:CXT} {k:Nat} {x:Str} {ps:List Str} {sp:Sp} {E:XK} {e:Expr} {es:List Expr} {t:TA} {p pos:Pos} (C:Cal X.prog X.w X.K X.mg X.base CX k x ps sp) (hr:Room k X.A) (hg:Gl X x) (hx:Passes CX X E) (ha:PA X (e::es) t)
  (hdb:(x==("__debug__":Str))=false:=by decide) (he:starEach (e::es) X.env=(false,eval e X.env)::starEach es X.env:=by rfl) (hpl:(backTo pos (starEach es X.env)).any (·.1)=false:=by rfl):
  PE X (.Call (.Name x p) (e::es) [] pos) (tCall sp [] E t):=by
 obtain⟨f,fd,F,hm,hk,hb⟩:=C.ex
 exact pe_call F hr hg hm hk hb .nil hx ha hdb he hpl
end
noncomputable def Strict (CX:CXT):Prop:=∀outer H s e s',¬CX outer H s (fun _ _ _=>False) e s'
theorem Strict.pass {CX:CXT} (h:Strict CX) {X:Cx}:Passes CX X E0:=fun _ _ H s e s' _ z=>(h _ H s e s' z).elim
section
variable {P : Program} {w : World} {K : PySem.W.Frag} {mg : Str → Option Value} {base : Heap} {CX : CXT}
theorem Fun.okC {x qual:Str} {st:Stmt} {f:Addr} {fd:FuncData} {N ps:List Str} {k:Nat} {sp:Sp} (F:Fun K x qual st f fd) (S:FnScope N ps (defScope st)) (len:∀vs H Q E,sp vs H Q E→vs.length=ps.length)
  (hbody:∀(cdv:Value) (A:Around) (outer:List Env) (s:Shared) (H:Hp) (vs:List V) (Q:VK) (E:XK),Room k (A.deeper (envOfC qual (defScope st) s.heap.objs.size f cdv))→sp vs H Q E→
   ∃t,PSs (cxOf CX P w K mg base N qual (defScope st) f cdv A outer s H E).nox (defBody st) t∧t {nx:=fun _ H'=>Q .non H',rt:=Q} (start N vs) H):FnOk P w K mg base CX (k+1) f fd ps sp:=by
 obtain⟨oc,od,kV,doc,pm,an,cdv,ct,osl,rfl,lk,hcd⟩:=F.ex
 refine fn_of lk hcd S len fun A outer s H vs Q E hr hsp=>?_
 obtain⟨t,h,q⟩:=hbody cdv A outer s H vs Q E hr hsp
 exact⟨t,h.nox,q⟩
structure Dn (K:PySem.W.Frag) (mg:Str→Option Value) (x:Str) (st:Stmt):Prop where
 ex:∃f fd,Fun K x x st f fd∧mg x=some (.ref f)
theorem Dn.cal {x:Str} {st:Stmt} {ps:List Str} {k:Nat} {sp:Sp} (D:Dn K mg x st)
  (hb:∀(kV doc pm:Value) (an:Option Addr) (cdv ct:Value) (us:List Value),us.length=ps.length→bindArgs (PySem.W.fnOf x x (defArgs st) (defBody st) (defScope st) .none kV doc pm an cdv ct) ⟨us,[]⟩=pure (ps.zip us))
  (h:∀f fd,Fun K x x st f fd→FnOk P w K mg base CX k f fd ps sp):Cal P w K mg base CX k x ps sp:=by
 obtain⟨f,fd,F,hm⟩:=D.ex
 exact⟨f,fd,h f fd F,hm,F.kp,F.binds hb⟩
end
section
variable {X : Cx}
noncomputable def eqL (xs ys:List V):Bool:=(List.range (min xs.length ys.length)).all (fun j=>eqV (xs.getD j .non) (ys.getD j .non)) && xs.length==ys.length
noncomputable def rEqT:R2:=fun x y H Q=>∃p q xs ys,x=.ref p∧y=.ref q∧H p=some (.tup xs)∧H q=some (.tup ys)∧xs.all flatV=true∧ys.all flatV=true∧Q (.bl (eqL xs ys)) H
noncomputable def rInT:R2:=fun x y H Q=>∃p xs,y=.ref p∧H p=some (.tup xs)∧flatV x=true∧xs.all flatV=true∧Q (.bl (inV x xs)) H
theorem call_isT:CallR X (.builtin "isinstance") (fun xs H Q=>∃x c t b,xs=[x,.ty c]∧TyOf X.K H x t∧PySem.W.kitOne X.K t (.type c)=some b∧Q (.bl b) H):=by
 intro pins s σ H xs us Q I r h
 obtain⟨x,c,t,b,rfl,ty,e,q⟩:=h
 obtain⟨u,u',rfl,rx,rc⟩:=vals2 r
 cases rc
 exact isinst_ok I rx ty e fun tk=>⟨.bl b,H,I.tok tk,rfl,q⟩
end
theorem at0 {α:Type} {x:α} {l:List α}:atI (x::l) 0=some x:=atI_nat (j:=0) rfl
theorem at1 {α:Type} {x y:α} {l:List α}:atI (x::y::l) 1=some y:=atI_nat (j:=1) rfl
theorem at2 {α:Type} {x y z:α} {l:List α}:atI (x::y::z::l) 2=some z:=atI_nat (j:=2) rfl
noncomputable def Pr (a b:Int):List V:=[.int a,.int b]
theorem kit_ii {K:PySem.W.Frag}:PySem.W.kitOne K (.type "int") (.type "int")=some true:=by unfold PySem.W.kitOne;rw[if_pos (by decide +kernel)]
theorem kit_tt {K:PySem.W.Frag}:PySem.W.kitOne K (.type "tuple") (.type "tuple")=some true:=by unfold PySem.W.kitOne;rw[if_pos (by decide +kernel)]
theorem kit_off {K:PySem.W.Frag} {t c:String} {b:Bool} (h1:(Value.type t==Value.type c)=false:=by decide +kernel) (h2:PySem.W.kitMeta c=true:=by decide +kernel) (h3:(PySem.fastBuiltinMro t).map (·.contains (Value.type c))=some b:=by decide +kernel):
  PySem.W.kitOne K (.type t) (.type c)=some b:=by
 unfold PySem.W.kitOne PySem.W.kitCls PySem.W.subIn
 rw[if_neg (by rw[h1];decide)]
 dsimp only
 rw[if_pos h2]
 exact h3
theorem kit_ib {K:PySem.W.Frag}:PySem.W.kitOne K (.type "int") (.type "bool")=some false:=kit_off
end L2
namespace Nm
noncomputable def g (a b:Int):Int:=(Int.gcd a b:Nat)
theorem g_nn (a b:Int):0≤g a b:=Int.natCast_nonneg _
theorem g_pos {a b:Int} (h:b≠0):0<g a b:=by
 have:=Int.gcd_pos_of_ne_zero_right a h
 unfold g
 omega
theorem g_dvd_l (a b:Int):g a b∣a:=Int.gcd_dvd_left ..
theorem g_dvd_r (a b:Int):g a b∣b:=Int.gcd_dvd_right ..
theorem g_comm (a b:Int):g a b=g b a:=by unfold g;rw[Int.gcd_comm]
theorem g_le {a b:Int} (h:0<b):g a b≤b:=Int.le_of_dvd h (g_dvd_r a b)
theorem g_abs (a b:Int):g (a.natAbs:Int) b=g a b:=by
 unfold g Int.gcd
 rw[Int.natAbs_natCast]
theorem g_abs_r (a b:Int):g a (b.natAbs:Int)=g a b:=by
 rw[g_comm,g_abs,g_comm]
theorem g_step {a b:Int} (ha:0≤a) (_hb:0<b):g b (a % b)=g a b:=by
 unfold g Int.gcd
 rw[Int.natAbs_emod_of_nonneg ha,Nat.gcd_comm b.natAbs,←Nat.gcd_rec,Nat.gcd_comm]
theorem g_zero {a:Int} (ha:0≤a):g a 0=a:=by
 unfold g
 rw[Int.gcd_zero_right]
 omega
theorem g_abs_le {a b:Int} (h:b≠0):g a b≤(b.natAbs:Int):=by
 rw[←g_abs_r]
 exact g_le (by omega)
theorem low_cross (a b:Int):(a / g a b)*b=a* (b / g a b):=by
 rw[←Int.mul_ediv_assoc _ (g_dvd_r a b),Int.mul_comm a b,Int.mul_ediv_assoc _ (g_dvd_l a b),Int.mul_comm]
theorem back {a b c d p q x y:Int} (hq:0<q) (hd:0<d) (e:p* (b*d)=(a*d - c*b)*q) (f:x* (q*d)=(p*d+c*q)*y):x*b=a*y:=by
 have h:(x*b)* (q*d)=(a*y)* (q*d):=by grind
 exact Int.eq_of_mul_eq_mul_right (by have:=Int.mul_pos hq hd;omega) h
end Nm
namespace L2
open PySem PySem.Spec PyProof.Rows PySem.W
theorem ObjOk.get {P:Program} {w:World} {H:Hp} {h:Heap} {a:Addr}:∀{o:HO},ObjOk P w H h a o→∃ob,h.get? a=some ob
 | .lst _,x=>let ⟨_,_,_,_,e⟩:=x;⟨_,e⟩
 | .tup _,x=>let ⟨_,_,_,o,e,_⟩:=x;⟨o,e⟩
 | .dK _,x=>let ⟨_,_,_,_,o,_,_,e,_⟩:=x;⟨o,e⟩
 | .dT _,x=>let ⟨_,_,_,_,o,_,_,e,_⟩:=x;⟨o,e⟩
 | .set _ _,x=>by
  obtain⟨o,es,ep,t,e,_⟩:=x
  exact⟨o,e⟩
 | .ins _ _ _,x=>let ⟨_,_,_,e,_⟩:=x;⟨_,e⟩
 | .own _,x=>x
 | .xd _,x=>by
  obtain⟨mA,⟨o,es,ep,e,_⟩,_⟩:=x
  exact⟨o,e⟩
 | .rng _ _,x=>let ⟨_,_,_,e⟩:=x;⟨_,e⟩
 | .frz _ _,x=>⟨_,x.1⟩
 | .tbl _,⟨_,x,_⟩=>⟨_,x⟩
 | .met _ _,x=>⟨_,x⟩
 | .ext _,x=>x.2.1
theorem HOk.inB {P:Program} {w:World} {H:Hp} {h h' B:Heap} (ok:HOk P w H h) (hB:∀b u o,H b=some u→h.get? b=some o→B.get? b=some o) (st:B.StaysIn h'):HOk P w H h':=fun a o e=>
 (ok a o e).stay (fun b u hb q=>st b u (by
  rcases hb with rfl | hb
  ·exact hB _ _ _ e q
  ·exact hB _ _ _ hb q)) (fun _ r=>r) fun _ _ r=>r
structure Fly (P:Program) (w:World) (l:List Env) (H:Hp) (s:Shared) (H':Hp) (ad:Addr) (cls:Value) (s':Shared):Prop where
 os:s'.os=s.os
 bare:AllBare s'.gens
 un:Un (frs l) [] H H' s.heap s'.heap
 hok:HOk P w H' s'.heap
 fl:∃B a0,Heap.FlyingW B l ad cls a0 s'.heap∧(∀b o,s.heap.get? b=some o→H b=none→b∉frs l→B.get? b=some o)∧(∀b o,s.heap.get? b=some o→b∉frs l→∃o',B.get? b=some o')∧
  (∀b u o,H' b=some u→s'.heap.get? b=some o→B.get? b=some o)
noncomputable def CX1 (P:Program) (w:World):CXT:=fun l H s E e s'=>∃ad cls H',e=.ref ad∧Fly P w l H s H' ad cls s'∧E cls none H'
theorem strict1 (P:Program) (w:World):Strict (CX1 P w):=fun _ _ _ _ _ ⟨_,_,_,_,_,h⟩=>h
section
variable {P : Program} {w : World} {K : PySem.W.Frag} {mg : Str → Option Value} {base : Heap} {N : List Str} {qual : Str} {scope : Scope} {f : Addr} {cdv : Value} {A : Around} {outer : List Env} {s0 : Shared} {H0 : Hp} {E : XK}
theorem xe_raise {pins:List (Addr×Obj)} {σ:St} {H:Hp} {s:Shared} {h':Heap} {ad:Addr} {cls:Value} {vs:List Value}
  (I:Inv (cxOf (CX1 P w) P w K mg base N qual scope f cdv A outer s0 H0 E) pins σ H s) (mx:Heap.MadeExcOf s.heap h' ad cls vs) (e:E cls none H):
  (cxOf (CX1 P w) P w K mg base N qual scope f cdv A outer s0 H0 E).xe (.ref ad) {s with heap:=h'}:=by
 let env:Env:=envOfC qual scope s0.heap.objs.size f cdv
 have nin:∀b o,s0.heap.get? b=some o→b∉frs outer→b∉frs (env::outer):=fun b o q hb z=>by
  rcases List.mem_cons.mp (show b∈s0.heap.objs.size::frs outer from z) with z | z
  ·rw[z] at q
   exact absurd (Heap.lt_size q) (Nat.lt_irrefl _)
  ·exact hb z
 have hin:∀b,b∈frs outer→b∈frs (env::outer):=fun b hb=>List.mem_cons.mpr (.inr hb)
 have ST:s.heap.FunFrames base (env::outer):=I.stack
 have SF:∀b∈frs (env::outer),H b=none:=I.stkFree
 have BS:Un (frs outer) [] H0 H s0.heap s.heap:=I.base
 show wpAny (model P w) (A.deeper env) (leaving env (.ref ad)) (fun _ s''=>CX1 P w outer H0 s0 E (.ref ad) s'') (fun e' s''=>CX1 P w outer H0 s0 E e' s'') {s with heap:=h'}
 refine wpAny_leaves_madeW (base:=hideAll s.heap (frs (env::outer))) (h:=s.heap) (L:=s0.heap.objs.size) I.ok.frames rfl (fun b o q=>of_hideAll _ q)
  (funFrames_hide ST fun en he a ha=>List.mem_filterMap.mpr ⟨en,he,ha⟩) mx fun h2 t x1 _ _ x4=>?_
 have x4:Heap.UpToSlots h' h2:=x4
 have fr:∀b∈frs (env::outer),∀o,s.heap.get? b=some o→∃sl,h2.get? b=some {o with slots:=sl}:=fun b hb o q=>by
  obtain⟨_,o1,q1,nf⟩:=ST.mem hb
  rw[q] at q1
  cases q1
  exact x4 b o (mx.keeps b o q) nf
 refine⟨ad,cls,H,rfl,⟨I.os,I.bare,⟨fun b o q n hb hx=>?_,fun b o q n hb hx=>?_,BS.free,fun b o q hx=>?_,BS.tups,BS.frzs,BS.tbls⟩,?_,⟨_,_,x1,fun b o q n hb=>?_,fun b o q hb=>?_,fun b u o e1 q=>?_⟩⟩,e⟩
 ·exact x1.1 b o (hideAll_get _ (BS.keep b o q n hb hx) (nin b o q hb))
 ·obtain⟨sl,q1⟩:=BS.slot b o q n hb hx
  obtain⟨sl2,q2⟩:=fr b (hin b hb) _ q1
  exact⟨sl2,q2⟩
 ·obtain⟨o1,q1⟩:=BS.there b o q hx
  by_cases hb:b∈frs (env::outer)
  ·obtain⟨sl2,q2⟩:=fr b hb _ q1
   exact⟨_,q2⟩
  ·exact⟨o1,x1.1 b o1 (hideAll_get _ q1 hb)⟩
 ·exact HOk.inB I.hok (fun b u o e1 q=>hideAll_get _ q fun z=>by
   have:=SF b z
   rw[e1] at this
   cases this) x1.1
 ·exact hideAll_get _ (BS.keep b o q n hb (by simp)) (nin b o q hb)
 ·obtain⟨o1,q1⟩:=BS.there b o q (by simp)
  exact⟨o1,hideAll_get _ q1 (nin b o q hb)⟩
 ·obtain⟨o1,q1⟩:=(I.hok b u e1).get
  have q2:=hideAll_get (frs (env::outer)) q1 fun z=>by
   have:=SF b z
   rw[e1] at this
   cases this
  have q3:=x1.1 b o1 q2
  rw[q] at q3
  cases q3
  exact q2
end
end L2
namespace L2
open PySem PySem.Spec PyProof.Rows PySem.W
theorem exc_obj {K:Frag} {h:Heap} {C:Addr} {bmB:List Value} {newId:String} (X:K.In h) (q:excIn K C bmB newId=true):
  ∃tl N nm qn bs hdct sn sub ab col dd k0 k1 k2 k3 k5 mN,h.get? C=some (excClassObj nm qn C N bs tl hdct sn sub ab col dd k0 k1 k2 k3 k5 newId)∧h.Ns N mN∧mN "__init__"=none∧OwnTail h bmB tl:=by
 unfold excIn at q
 split at q
 ·rename_i dd cd sl ho
  split at q
  ·rename_i C' bm k0 k1 k2 k3 n k5 hm hs
   simp only[Bool.and_eq_true,beq_iff_eq,Bool.not_eq_true'] at q
   obtain⟨⟨⟨⟨⟨rfl,rfl⟩,hdel⟩,ht⟩,hok⟩,hni⟩:=q
   obtain⟨nm,bs,mro,ns,qn,hd,sn,sub,ab,col,del⟩:=cd
   dsimp only at hm hdel hok hni
   subst hm hdel
   have hsl:sl=#[k0,k1,k2,k3,some (.builtin n),k5]:=by
    obtain⟨l⟩:=sl
    simp only at hs
    rw[hs]
   subst hsl
   exact⟨bm,ns,nm,qn,bs,hd,sn,sub,ab,col,dd,k0,k1,k2,k3,k5,_,X _ _ ho,.of_isNs (isNs_of_in X hok),nsMap_none_of_in X hok hni,tail_of_in X ht⟩
  ·cases q
 ·cases q
abbrev bmVE:List Value:=[.type "ValueError",.type "Exception",.type "BaseException",.type "object"]
abbrev newVE:String:="ValueError.__new__"
noncomputable def tRaise (C:Addr) (E:XK) (t:TA):TS:=fun _ σ H=>t σ H fun vs H1=>vs.length≤sizeLine∧E (.ref C) none H1
section
variable {P : Program} {w : World} {K : PySem.W.Frag} {mg : Str → Option Value} {base : Heap} {N : List Str} {qual : Str} {scope : Scope} {f : Addr} {cdv : Value} {A : Around} {outer : List Env} {s0 : Shared} {H0 : Hp} {E : XK}
theorem ps_raise {x:Str} {C:Addr} {np cpos pos:Pos} {e:Expr} {es:List Expr} {t:TA} (hg:Gl (cxOf (CX1 P w) P w K mg base N qual scope f cdv A outer s0 H0 E) x) (hm:mg x=some (.ref C)) (q:excIn K C bmVE newVE=true)
  (hh:A.handled=none) (ha:PA (cxOf (CX1 P w) P w K mg base N qual scope f cdv A outer s0 H0 E) (e::es) t) (hdb:(x==("__debug__":Str))=false:=by decide)
  (he:starEach (e::es) (cxOf (CX1 P w) P w K mg base N qual scope f cdv A outer s0 H0 E).env=(false,eval e (cxOf (CX1 P w) P w K mg base N qual scope f cdv A outer s0 H0 E).env)::starEach es (cxOf (CX1 P w) P w K mg base N qual scope f cdv A outer s0 H0 E).env:=by rfl)
  (hpl:(backTo cpos (starEach es (cxOf (CX1 P w) P w K mg base N qual scope f cdv A outer s0 H0 E).env)).any (·.1)=false:=by rfl):
  PS (cxOf (CX1 P w) P w K mg base N qual scope f cdv A outer s0 H0 E) (.Raise (some (.Call (.Name x np) (e::es) [] cpos)) none pos) (tRaise C E t):=by
 intro pins s σ H D I h
 have FB:=PySem.F.excBase_ValueError
 obtain⟨tl,Nn,nm,qn,bs,hdct,sn,sub,ab,col,dd,k0,k1,k2,k3,k5,mN,hC,hN,hni,T⟩:=exc_obj I.ok.mod.kin q
 refine wpAny_Raise_call_subT (C:=C) (nm:=nm) (q:=qn) (N:=Nn) (bs:=bs) (bm:=tl) (hdct:=hdct) (sn:=sn) (sub:=sub) (ab:=ab) (col:=col) (dd:=dd) (k0:=k0) (k1:=k1) (k2:=k2) (k3:=k3) (k5:=k5)
  FB (mN:=mN) (T.hasType FB.hasBase) hh (by rw[he];show(false || (backTo cpos (starEach es _)).any (·.1))=false;rw[hpl];rfl) hni (ld_glob I hg hm ⟨rfl,?_⟩ hdb)
 rw[he]
 have ha':=ha cpos pins s σ H _ I h
 rw[he] at ha'
 refine Calls.evalArgs_plain (thn ha' fun us s1 ⟨vs,H1,I1,r,z,k⟩=>⟨rfl,by rw[←r.length];exact z,I1.bk _ _ hC,hN.keeps I1.bk,T.keeps I1.bk,fun h' ad mx=>?_⟩)
 exact xe_raise I1 mx k
end
section
variable {X : Cx} {pins : List (Addr × Obj)} {σ : St} {H H' : Hp} {s s' : Shared}
abbrev Cx.mark (X:Cx) (ad:Addr):Cx:={X with A:=X.A.mark (some (.ref ad)),calm:=false,xe:=fun _ _=>False}
end
section
variable {X : Cx} {CX : CXT} {k : Nat} {x : Str} {ps : List Str} {sp : Sp} {E : XK} {e : Expr} {es : List Expr} {t : TA} {p pos : Pos}
variable {cx n : Str} {np hpos epos tpos : Pos} {b₀ : Stmt} {suite : List Stmt} {i : Nat} {ts : TS} {C2 : Addr}
end
end L2
namespace Nm
noncomputable def st (a b:Int):Int:=if b<0 then -(a / g a b) else a / g a b
noncomputable def sb (a b:Int):Int:=if b<0 then -(b / g a b) else b / g a b
theorem fdiv_p {a d:Int} (h:0<d):a.fdiv d=a / d:=Int.fdiv_eq_ediv_of_nonneg a (by omega)
theorem fdiv_n {a d:Int} (h:0<d) (dv:d∣a):a.fdiv (-d)= -(a / d):=by
 obtain⟨k,rfl⟩:=dv
 rw[Int.mul_ediv_cancel_left _ (by omega),show d*k=(-d)* (-k) by rw[Int.neg_mul_neg]]
 exact Int.mul_fdiv_cancel_left _ (by omega)
end Nm
namespace L2
open PySem PySem.Spec PyProof.Rows
section
variable {P : Program} {w : World} {K : PySem.W.Frag} {mg : Str → Option Value} {base : Heap} {CX : CXT}
theorem Fun.okX {x qual:Str} {st:Stmt} {f:Addr} {fd:FuncData} {N ps:List Str} {k:Nat} {sp:Sp} (F:Fun K x qual st f fd) (S:FnScope N ps (defScope st)) (len:∀vs H Q E,sp vs H Q E→vs.length=ps.length)
  (hbody:∀(cdv:Value) (A:Around) (outer:List Env) (s:Shared) (H:Hp) (vs:List V) (Q:VK) (E:XK),Room k (A.deeper (envOfC qual (defScope st) s.heap.objs.size f cdv))→sp vs H Q E→
   ∃t,PSs (cxOf CX P w K mg base N qual (defScope st) f cdv A outer s H E) (defBody st) t∧t {nx:=fun _ H'=>Q .non H',rt:=Q} (start N vs) H):FnOk P w K mg base CX (k+1) f fd ps sp:=by
 obtain⟨oc,od,kV,doc,pm,an,cdv,ct,osl,rfl,lk,hcd⟩:=F.ex
 exact fn_of lk hcd S len fun A outer s H vs Q E hr hsp=>hbody cdv A outer s H vs Q E hr hsp
end
noncomputable def noStar:Expr→Bool
 | .Starred _ _=>false
 | _=>true
theorem se {e:Expr} {es:List Expr} {env:Env} (h:noStar e=true):starEach (e::es) env=(false,eval e env)::starEach es env:=by
 cases e <;>first | rfl | exact absurd h Bool.false_ne_true
theorem na {env:Env} {pos:Pos}:∀{es:List Expr},es.all noStar=true→(backTo pos (starEach es env)).any (·.1)=false
 | [],_=>rfl
 | e::es,h=>by
  rw[List.all_cons,Bool.and_eq_true] at h
  rw[se h.1]
  show(false || (backTo pos (starEach es env)).any (·.1))=false
  rw[na h.2]
  rfl
end L2
namespace L2
open PySem PySem.Spec PyProof.Rows PySem.W
structure ExcCls (K:PySem.W.Frag) (C:Addr):Prop where
 cls:(clsIn K C).isSome=true
 ga:findIn K (.ref C) "__getattribute__"=some (some (.builtin "BaseException.__getattribute__"))
 gt:findIn K (.ref C) "__getattr__"=some none
 cl:findIn K (.ref C) "__class__"=some (some (.builtin "object.__class__"))
 be:mroIn K C (.type "BaseException")=some true
 ob:mroIn K C (.type "object")=some true
section
variable {prog : Program} {w : World} {A : Around} {E : Value → Shared → Prop} {K : PySem.W.Frag} {h : Heap} {g : Array GenState} {d : Drawn} {t : Nat} {os : OsState} {a C : Addr} {o : Obj}
end
section
variable {X : Cx}
end
end L2
namespace L2
open PySem PySem.Spec PyProof.Rows
theorem closure_of {env:Env}:∀(names:List (Str×NameKind)) (cs:List (Str×Addr)),(∀n,(n,NameKind.free)∈names→∃c,env.cells.lookup n=some c)→(∀x c,cs.lookup x=some c→env.cells.lookup x=some c)→
  ∃cl,(forIn names cs fun(x:Str×NameKind) (r:List (Str×Addr))=>(if (x.2==NameKind.free)=true then do let c ←cellOf env x.1;pure (ForInStep.yield ((x.1,c)::r)) else pure (ForInStep.yield r):Sem (ForInStep (List (Str×Addr)))))=pure cl∧
   (∀x c,cl.lookup x=some c→env.cells.lookup x=some c)∧(∀n,((n,NameKind.free)∈names∨(cs.lookup n).isSome=true)→∃c,cl.lookup n=some c)∧(∀x c,(x,c)∈cl→(env.cells.lookup x=some c∧(x,NameKind.free)∈names)∨(x,c)∈cs)
 | [],cs,_,h=>⟨cs,rfl,h,(fun n hn=>by
   rcases hn with hn | hn
   ·exact absurd hn (by simp)
   ·exact Option.isSome_iff_exists.mp hn),fun x c m=>.inr m⟩
 | (n,k)::r,cs,hf,h=>by
  by_cases hk:k=.free
  ·subst hk
   obtain⟨c,hc⟩:=hf n List.mem_cons_self
   obtain⟨cl,e,h1,h2,h3⟩:=closure_of r ((n,c)::cs) (fun m hm=>hf m (List.mem_cons_of_mem _ hm)) (fun x c' hx=>by
    rw[List.lookup_cons] at hx
    cases q:x==n with
    | true=>
     rw[q] at hx
     have e1:x=n:=by simpa using q
     cases hx
     rw[e1];exact hc
    | false=>rw[q] at hx;exact h x c' hx)
   refine⟨cl,?_,h1,fun m hm=>h2 m ?_,fun x c' m=>?_⟩
   rotate_left 2
   ·rcases h3 x c' m with ⟨q1,q2⟩ | m
    ·exact .inl ⟨q1,List.mem_cons_of_mem _ q2⟩
    ·rcases List.mem_cons.mp m with e | m
     ·cases e
      exact .inl ⟨hc,List.mem_cons_self⟩
     ·exact .inr m
   ·rw[List.forIn_cons]
    have hco:cellOf env n=pure c:=by unfold cellOf;rw[hc]
    simp only[beq_self_eq_true,if_true,hco,pure_bind]
    exact e
   ·rcases hm with hm | hm
    ·rcases List.mem_cons.mp hm with z | z
     ·cases z
      right
      rw[List.lookup_cons]
      simp
     ·exact .inl z
    ·right
     rw[List.lookup_cons]
     cases q:m==n with
     | true=>rfl
     | false=>exact hm
  ·obtain⟨cl,e,h1,h2,h3⟩:=closure_of r cs (fun m hm=>hf m (List.mem_cons_of_mem _ hm)) h
   refine⟨cl,?_,h1,fun m hm=>h2 m ?_,fun x c' m=>(h3 x c' m).imp (fun q=>⟨q.1,List.mem_cons_of_mem _ q.2⟩) id⟩
   ·rw[List.forIn_cons]
    have:(k==NameKind.free)=false:=by simpa using hk
    simp only[this,Bool.false_eq_true,if_false,pure_bind]
    exact e
   ·rcases hm with hm | hm
    ·rcases List.mem_cons.mp hm with z | z
     ·cases z;exact absurd rfl hk
     ·exact .inl z
    ·exact .inr hm
theorem closureFor_of {env:Env} {scope:Scope} (hf:∀n,(n,NameKind.free)∈scope.names→∃c,env.cells.lookup n=some c):
  ∃cl,closureFor scope env=pure cl∧(∀x c,cl.lookup x=some c→env.cells.lookup x=some c)∧(∀n,(n,NameKind.free)∈scope.names→∃c,cl.lookup n=some c)∧(∀x c,(x,c)∈cl→env.cells.lookup x=some c∧(x,NameKind.free)∈scope.names):=by
 obtain⟨cl,e,h1,h2,h3⟩:=closure_of (env:=env) scope.names [] hf (fun x c h=>by simp at h)
 refine⟨cl,?_,h1,fun n hn=>h2 n (.inl hn),fun x c m=>(h3 x c m).elim id fun z=>absurd z (by simp)⟩
 unfold closureFor
 simp only[bind_pure]
 exact e
structure CompScope (N:List Str) (so:Scope) (N':List Str) (scope:Scope) (k:Nat) (fr:List Nat):Prop where
 kind:scope.kind=.function
 cels:∀y∈scope.names,y.2=.cell→scope.names.lookup y.1=some .cell∧(y.1,NameKind.free)∉scope.names
 locs:∀y∈scope.names,y.2=.local→scope.names.lookup y.1=some .local
 outer:∀y∈scope.names,y.2=.free→(so.names.lookup y.1=some .cell∨so.names.lookup y.1=some .free)
 len:N'.length=k+fr.length
 at_:∀t,t<fr.length→(fr[t]?).bind (fun j=>N[j]?)=N'[k+t]?
 fre:∀x∈N'.drop k,scope.names.lookup x=some .free
noncomputable def stC (k:Nat) (fr:List Nat) (σ:St):St:=List.replicate k none++fr.map fun j=>(σ[j]?).join
noncomputable def cxC (X:Cx) (N:List Str) (scope:Scope) (cl:List (Str×Addr)) (C:Addr) (s:Shared) (H:Hp) (ex:List Addr):Cx where
 prog:=X.prog
 w:=X.w
 K:=X.K
 mg:=X.mg
 base:=X.base
 A:=X.A
 N:=N
 s₀:=s
 H₀:=H
 env:=compEnvC scope cl C X.env
 outer:=X.stack
 stack:=X.stack
 ex:=ex
 calm:=X.calm
 fn:=fun x=>scope.names.lookup x==some .cell
 pn:=[]
 xe:=fun _ _=>False
theorem lookup_relabel_free {env:Env}:∀{names:List (Str×NameKind)} {x:Str},names.lookup x=some .free→
  (names.map fun(n,k)=>if (k==NameKind.free && env.scope.kind==.function && env.kindOf n==some .cell) then (n,NameKind.cell) else (n,k)).lookup x=some .cell∨
  (names.map fun(n,k)=>if (k==NameKind.free && env.scope.kind==.function && env.kindOf n==some .cell) then (n,NameKind.cell) else (n,k)).lookup x=some .free
 | [],_,h=>by simp at h
 | (n,k)::r,x,h=>by
  have ih:=@lookup_relabel_free env r x
  show List.lookup x ((if (k==NameKind.free && env.scope.kind==.function && env.kindOf n==some .cell)=true then (n,NameKind.cell) else (n,k))::_)=_∨List.lookup x ((if (k==NameKind.free && env.scope.kind==.function && env.kindOf n==some .cell)=true then (n,NameKind.cell) else (n,k))::_)=_
  cases hx:x==n with
  | true=>
   simp only[List.lookup_cons,hx] at h
   cases h
   by_cases hc:(NameKind.free==NameKind.free && env.scope.kind==.function && env.kindOf n==some .cell)=true
   ·rw[if_pos hc];left;simp [List.lookup_cons,hx]
   ·rw[if_neg hc];right;simp [List.lookup_cons,hx]
  | false=>
   simp only[List.lookup_cons,hx] at h
   by_cases hc:(k==NameKind.free && env.scope.kind==.function && env.kindOf n==some .cell)=true
   ·rw[if_pos hc];simp only[List.lookup_cons,hx];exact ih h
   ·rw[if_neg hc];simp only[List.lookup_cons,hx];exact ih h
theorem relabel_back {env:Env}:∀{names:List (Str×NameKind)} {x:Str},
  ((names.map fun(n,k)=>if (k==NameKind.free && env.scope.kind==.function && env.kindOf n==some .cell) then (n,NameKind.cell) else (n,k)).lookup x=some .cell∨
  (names.map fun(n,k)=>if (k==NameKind.free && env.scope.kind==.function && env.kindOf n==some .cell) then (n,NameKind.cell) else (n,k)).lookup x=some .free)→(x,NameKind.free)∈names∨(x,NameKind.cell)∈names
 | [],_,h=>by simp at h
 | (n,k)::r,x,h=>by
  have ih:=@relabel_back env r x
  have up:((x,NameKind.free)∈r∨(x,NameKind.cell)∈r)→((x,NameKind.free)∈(n,k)::r∨(x,NameKind.cell)∈(n,k)::r):=fun z=>z.imp (List.mem_cons_of_mem _) (List.mem_cons_of_mem _)
  have h:List.lookup x ((if (k==NameKind.free && env.scope.kind==.function && env.kindOf n==some .cell)=true then (n,NameKind.cell) else (n,k))::_)=_∨List.lookup x ((if (k==NameKind.free && env.scope.kind==.function && env.kindOf n==some .cell)=true then (n,NameKind.cell) else (n,k))::_)=_:=h
  cases hx:x==n with
  | true=>
   have e1:x=n:=by simpa using hx
   subst e1
   by_cases hc:(k==NameKind.free && env.scope.kind==.function && env.kindOf x==some .cell)=true
   ·have:k=.free:=by
     simp only[Bool.and_eq_true] at hc
     simpa using hc.1.1
    subst this
    exact .inl List.mem_cons_self
   ·rw[if_neg hc] at h
    simp only[List.lookup_cons,hx] at h
    rcases h with h | h
    ·cases h;exact .inr List.mem_cons_self
    ·cases h;exact .inl List.mem_cons_self
  | false=>
   by_cases hc:(k==NameKind.free && env.scope.kind==.function && env.kindOf n==some .cell)=true
   ·rw[if_pos hc] at h;simp only[List.lookup_cons,hx] at h;exact up (ih h)
   ·rw[if_neg hc] at h;simp only[List.lookup_cons,hx] at h;exact up (ih h)
theorem cells_own:∀(names:List (Str×NameKind)) (h:Heap) (acc:List (Str×Addr)) (x:Str) (c:Addr),(x,c)∈cellsFrom h.objs.size names acc→
  (x,c)∈acc∨(h.objs.size≤c∧(pushCells h names).IsCell c none∧(x,NameKind.cell)∈names)
 | [],h,acc,x,c,m=>.inl m
 | (n,k)::r,h,acc,x,c,m=>by
  unfold cellsFrom at m
  unfold pushCells
  by_cases hk:(k==NameKind.cell)=true
  ·rw[if_pos hk] at m ⊢
   have ih:=cells_own r (h.push {cls:=.type "cell",data:=.cell none}) ((n,h.objs.size)::acc) x c
   rw[Heap.size_push] at ih
   rcases ih m with m | ⟨q1,q2,q3⟩
   ·rcases List.mem_cons.mp m with e | m
    ·cases e
     have hk:k=.cell:=by simpa using hk
     subst hk
     refine .inr ⟨Nat.le_refl _,?_,List.mem_cons_self⟩
     have q:(h.push {cls:=.type "cell",data:=.cell none}).IsCell h.objs.size none:=⟨_,Heap.get?_push_size _ rfl,rfl⟩
     exact q.keeps fun b o e=>pushCells_keeps r _ b o e
    ·exact .inl m
   ·exact .inr ⟨by omega,q2,List.mem_cons_of_mem _ q3⟩
  ·rw[if_neg hk] at m ⊢
   rcases cells_own r h acc x c m with m | ⟨q1,q2,q3⟩
   ·exact .inl m
   ·exact .inr ⟨q1,q2,List.mem_cons_of_mem _ q3⟩
theorem cells_inj:∀(names:List (Str×NameKind)) (n lo:Nat) (acc:List (Str×Addr)),(∀x c,(x,c)∈acc→c<n)→(∀x y c,lo≤c→(x,c)∈acc→(y,c)∈acc→x=y)→
  ∀x y c,lo≤c→(x,c)∈cellsFrom n names acc→(y,c)∈cellsFrom n names acc→x=y
 | [],n,lo,acc,h1,h2,x,y,c,hl,m1,m2=>h2 x y c hl m1 m2
 | (z,k)::r,n,lo,acc,h1,h2,x,y,c,hl,m1,m2=>by
  unfold cellsFrom at m1 m2
  by_cases hk:(k==NameKind.cell)=true
  ·rw[if_pos hk] at m1 m2
   refine cells_inj r (n+1) lo _ (fun x c m=>?_) (fun x y c hl m1 m2=>?_) x y c hl m1 m2
   ·rcases List.mem_cons.mp m with e | m
    ·cases e;exact Nat.lt_succ_self _
    ·exact Nat.lt_succ_of_lt (h1 x c m)
   ·rcases List.mem_cons.mp m1 with e1 | m1 <;>rcases List.mem_cons.mp m2 with e2 | m2
    ·cases e1;cases e2;rfl
    ·cases e1;exact absurd (h1 _ _ m2) (Nat.lt_irrefl _)
    ·cases e2;exact absurd (h1 _ _ m1) (Nat.lt_irrefl _)
    ·exact h2 x y c hl m1 m2
  ·rw[if_neg hk] at m1 m2
   exact cells_inj r n lo acc h1 h2 x y c hl m1 m2
theorem cells_skip:∀(names:List (Str×NameKind)) (n:Nat) (acc:List (Str×Addr)) (x:Str),(x,NameKind.cell)∉names→(cellsFrom n names acc).lookup x=acc.lookup x
 | [],n,acc,x,_=>rfl
 | (z,k)::r,n,acc,x,h=>by
  have hr:(x,NameKind.cell)∉r:=fun m=>h (List.mem_cons_of_mem _ m)
  unfold cellsFrom
  by_cases hk:(k==NameKind.cell)=true
  ·rw[if_pos hk,cells_skip r _ _ x hr,List.lookup_cons]
   have hk:k=.cell:=by simpa using hk
   subst hk
   have:(x==z)=false:=by
    cases q:x==z with
    | false=>rfl
    | true=>
     have e:x=z:=by simpa using q
     subst e
     exact absurd List.mem_cons_self h
   rw[this]
  ·rw[if_neg hk]
   exact cells_skip r n acc x hr
theorem cells_has:∀(names:List (Str×NameKind)) (n:Nat) (acc:List (Str×Addr)) (x:Str),((x,NameKind.cell)∈names∨(acc.lookup x).isSome=true)→((cellsFrom n names acc).lookup x).isSome=true
 | [],n,acc,x,h=>by
  rcases h with h | h
  ·simp at h
  ·exact h
 | (z,k)::r,n,acc,x,h=>by
  unfold cellsFrom
  by_cases hk:(k==NameKind.cell)=true
  ·rw[if_pos hk]
   refine cells_has r _ _ x ?_
   rcases h with h | h
   ·rcases List.mem_cons.mp h with e | h
    ·cases e
     right
     rw[List.lookup_cons]
     simp
    ·exact .inl h
   ·right
    rw[List.lookup_cons]
    cases q:x==z with
    | true=>rfl
    | false=>exact h
  ·rw[if_neg hk]
   refine cells_has r _ _ x ?_
   rcases h with h | h
   ·rcases List.mem_cons.mp h with e | h
    ·cases e;exact absurd rfl hk
    ·exact .inl h
   ·exact .inr h
section
variable {M : Model} {A : Around} {E : Value → Shared → Prop} {s : Shared}
theorem wpAny_newEnv_comp {scope:Scope} {globals:Addr} {closure:List (Str×Addr)} {qual:Str} {func:Option Addr} {code:Value} {outer:Env} {Q:Env→Shared→Prop}
  (hQ:Q (newEnv scope s.heap.objs.size globals (cellsFrom (s.heap.objs.size+1) scope.names closure) qual func code (some outer) builtinsNs)
   {s with heap:=pushCells (s.heap.push {cls:=.type "dict",data:=.dict #[]}) scope.names}):
  wpAny M A (newFunctionEnv scope globals closure [] qual func code (some outer)) Q E s:=by
 simp only[newFunctionEnv,Option.isSome_some,if_true]
 refine wpAny_bind (wpAny_alloc ?_)
 refine wpAny_bind (wpAny_layCells _ (fun name kind cells=>by cases hkc:kind==NameKind.cell <;>simp [hkc]) _ _ _ _ ?_)
 rw[show({s with heap:=s.heap.push {cls:=.type "dict",data:=.dict #[]}}:Shared).heap.objs.size=s.heap.objs.size+1 from Heap.size_push ..]
 refine wpAny_bind ?_
 rw[List.forIn_nil]
 exact wpAny_pure (wpAny_pure hQ)
end
structure BlkC (X:Cx) (scope:Scope) (cl:List (Str×Addr)) (lo:Nat) (C:Addr) (h1:Heap):Prop where
 old:∀x c,cl.lookup x=some c→X.env.cells.lookup x=some c∨(lo≤c∧C<c∧h1.IsCell c none)
 inj:∀x y c,C<c→cl.lookup x=some c→cl.lookup y=some c→x=y
 has:∀n,(n,NameKind.free)∈scope.names∨(n,NameKind.cell)∈scope.names→∃c,cl.lookup n=some c
 fre:∀n,scope.names.lookup n=some .free→∀c,cl.lookup n=some c→X.env.cells.lookup n=some c
 own:∀x c,scope.names.lookup x=some .cell→cl.lookup x=some c→lo≤c
section
variable {X : Cx} {pins : List (Addr × Obj)} {σ : St} {H : Hp} {s : Shared} {N' : List Str} {scope : Scope} {k : Nat} {fr : List Nat} {cl : List (Str × Addr)}
theorem compOk {C:Addr} {fp:List Addr} {h1:Heap} (I:Inv X pins σ H s) (S:CompScope X.N X.env.scope N' scope k fr) (B:BlkC X scope cl s.heap.objs.size C h1)
  (hC:s.heap.objs.size≤C) (f2:∀b∈fp,FpOk X pins H b) (lt:∀b∈fp,b<s.heap.objs.size):(cxC X N' scope cl C s H fp).Ok where
 mod:=I.ok.mod
 kind:=S.kind
 glob:=I.ok.glob
 blt:=I.ok.blt
 above:=hC
 inj:=fun x y c h1 h2=>by
  rcases B.old _ _ h1 with o1 | o1 <;>rcases B.old _ _ h2 with o2 | o2
  ·exact I.ok.inj x y c o1 o2
  ·exact B.inj x y c o2.2.1 h1 h2
  ·exact B.inj x y c o1.2.1 h1 h2
  ·exact B.inj x y c o1.2.1 h1 h2
 has:=fun x hx=>B.has x (relabel_back hx)
 cab:=fun x c z e=>B.own x c (by
  have z:(scope.names.lookup x==some NameKind.cell)=true:=z
  simpa using z) e
 hd:=I.ok.hd
 frames:=I.ok.frames
 stk:=.inl rfl
 exf:=fun b hb=>⟨Nat.ne_of_lt (Nat.lt_of_lt_of_le (lt b hb) hC),fun x c e=>(B.old _ _ e).elim (fun o=>(f2 b hb).2.2.2.2.1 x c o) fun o=>Nat.ne_of_gt (Nat.lt_of_lt_of_le (lt b hb) o.1)⟩
 bs:=I.bs
 bsz:=Nat.le_trans I.ok.bsz I.sz
 noex:=fun b o e hb=>by
  rcases(f2 b hb).2.2.2.1 with z | z
  ·exact I.ok.noex b o e z
  ·exact absurd (Nat.lt_of_lt_of_le (Heap.lt_size e) (Nat.le_trans I.ok.bsz z)) (Nat.lt_irrefl _)
 exfs:=fun b hb z=>by
  rcases List.mem_cons.mp (I.stkSub b z) with q | q
  ·exact(f2 b hb).2.1 q
  ·exact(f2 b hb).2.2.1 q
 funs:=I.stack
 frf:=I.stkFree
theorem compInv {C:Addr} {fp:List Addr} {h1:Heap} {tk:Nat} {m:Str→Option Value} (I:Inv X pins σ H s) (S:CompScope X.N X.env.scope N' scope k fr) (B:BlkC X scope cl s.heap.objs.size C h1)
  (hC:s.heap.objs.size≤C) (f2:∀b∈fp,FpOk X pins H b) (lt:∀b∈fp,b<s.heap.objs.size) (old:∀b o,s.heap.get? b=some o→h1.get? b=some o) (hn:h1.Ns C m):
  Inv (cxC X N' scope cl C s H fp) [] (stC k fr σ) H {s with heap:=h1,toks:=tk}:=by
 refine⟨compOk I S B hC f2 lt,rfl,I.bare,Un.kept old,⟨m,hn,fun i x v e1 e2 e3=>?_⟩,fun x c e=>?_,I.hok.fresh hC,fun x c e=>(B.old _ _ e).elim (fun o=>I.freeC x c o) fun o=>I.hok.fresh o.1,fun p hp=>absurd (show p∈([]:List (Addr×Obj)) from hp) (by simp),I.hok.kept old,?_⟩
 ·have e1:N'[i]?=some x:=e1
  unfold stC at e2
  by_cases hi:i<k
  ·rw[List.getElem?_append_left (by simpa using hi),List.getElem?_replicate,if_pos hi] at e2
   cases e2
  ·rw[List.getElem?_append_right (by simpa using hi),List.length_replicate,List.getElem?_map] at e2
   cases q:fr[i - k]? with
   | none=>rw[q] at e2;cases e2
   | some j=>
    rw[q] at e2
    have e2:(σ[j]?).join=some v:=Option.some.inj e2
    have ej:σ[j]?=some (some v):=by
     cases z:σ[j]? with
     | none=>rw[z] at e2;cases e2
     | some o=>rw[z] at e2;exact congrArg some e2
    have hlt:i - k<fr.length:=(List.getElem?_eq_some_iff.mp q).1
    have hat:=S.at_ (i - k) hlt
    rw[q,show k+ (i - k)=i by omega,e1] at hat
    have hat:X.N[j]?=some x:=hat
    have hxm:x∈N'.drop k:=List.mem_iff_getElem?.mpr ⟨i - k,by rw[List.getElem?_drop,show k+ (i - k)=i by omega];exact e1⟩
    have hfr:=S.fre x hxm
    have hmem:(x,NameKind.free)∈scope.names:=PySem.mem_of_lookup hfr
    have hout:=S.outer _ hmem rfl
    obtain⟨m0,hn0,hl0⟩:=I.loc
    obtain⟨u,r,l⟩:=hl0 j x v hat ej (.inr hout)
    refine⟨u,r,.inr ⟨lookup_relabel_free hfr,?_⟩⟩
    rcases l with ⟨kk,_⟩ | ⟨_,c,e,z⟩
    ·have kk:X.env.scope.names.lookup x=some .local:=kk
     rcases hout with q1 | q1
     ·rw[kk] at q1;cases q1
     ·rw[kk] at q1;cases q1
    ·obtain⟨c',e'⟩:=B.has x (.inl hmem)
     have ec:=B.fre x hfr _ e'
     rw[e] at ec
     cases ec
     obtain⟨ob,ho,hd⟩:=z
     exact⟨c,e',ob,old _ _ ho,hd⟩
 ·rcases B.old _ _ e with o | o
  ·obtain⟨v,ob,ho,hd⟩:=I.cell x c o
   exact⟨v,ob,old _ _ ho,hd⟩
  ·exact⟨none,o.2.2⟩
 ·unfold stC
  rw[List.length_append,List.length_replicate,List.length_map]
  exact S.len.symm
end
section
variable {prog : Program} {w : World} {A : Around} {E : Value → Shared → Prop} {R : Result → Shared → Prop} {s : Shared}
theorem codeAny_compLoop_any {elt target iter:Expr} {ifs:List Expr} {scope:Scope} {pos:Pos} {it acc:Value} {env:Env} (I:Nat→Shared→Prop)
  (turn:∀n s,I n s→wpAny (model prog w) A (pyNext it) (fun r s₁=>match r with
   | none=>R (.ok .next) s₁
   | some v=>wpAny (model prog w) A (letOwnedTupleGo target it v) (fun _ s₁'=>wpAny (model prog w) A (assign target env v) (fun _ s₂=>
     wpAny (model prog w) A (forIn ifs true fun c r=>if r=true then do let ok ←isTrue c env (eval c env);pure (ForInStep.yield ok) else pure (ForInStep.yield r)) (fun ok s₃=>
      if ok=true then wpAny (model prog w) A (eval elt env) (fun x s₄=>
       wpAny (model prog w) A (call (.builtin "list.append") [acc,x]) (fun _ s₅=>∃m,m<n∧I m s₅) (fun _ _=>False) s₄) (notedBy (model prog w) A env fun x s'=>R (.error x) s') s₃
      else ∃m,m<n∧I m s₃) (fun _ _=>False) s₂) (fun _ _=>False) s₁') (fun _ _=>False) s₁) (fun _ _=>False) s)
  (n:Nat) (h:I n s):
  codeAny (model prog w) A (.compLoop (.ListComp elt [⟨target,iter,ifs,0⟩] scope pos) 0 it acc env) R s:=by
 refine codeAny_loop rfl I (fun n s hI=>?_) n h
 show wpAny _ A ((compTurn (.ListComp elt [⟨target,iter,ifs,0⟩] scope pos) 0 it acc env).onRaise (fun x=>do noteFrame x env;theTreesLotGoes x)) _ _ s
 refine wpAny_noted ?_
 rw[compTurn_list]
 refine wpAny_bind (wpAny_standAt (wpAny_bind (wpAny_mono (turn n s hI) (fun r s₁ h₁=>?_) fun _ _ h'=>h'.elim)))
 cases r with
 | none=>exact wpAny_pure h₁
 | some v=>
  refine wpAny_bind (wpAny_mono h₁ (fun _ s₁' h₁'=>?_) fun _ _ h'=>h'.elim)
  refine wpAny_bind (wpAny_mono h₁' (fun _ s₂ h₂=>wpAny_bind (wpAny_mono h₂ (fun ok s₃ h₃=>?_) fun _ _ h'=>h'.elim)) fun _ _ h'=>h'.elim)
  cases ok with
  | false=>exact wpAny_pure ⟨rfl,h₃⟩
  | true=>
   exact wpAny_bind (wpAny_bind (wpAny_mono h₃ (fun x s₄ h₄=>wpAny_bind (wpAny_mono h₄ (fun _ s₅ h₅=>wpAny_pure (wpAny_pure ⟨rfl,h₅⟩)) fun _ _ h'=>h'.elim)) fun _ _ h'=>h'))
end
noncomputable def PTs (X:Cx) (ifs:List Expr) (t:TT):Prop:=
 ∀(pins:List (Addr×Obj)) (s:Shared) (σ:St) (H:Hp) (Q:Bool→Hp→Prop),Inv X pins σ H s→t σ H Q→
  wpAny (model X.prog X.w) X.A (forIn ifs true fun c r=>if r=true then do let ok ←isTrue c X.env (eval c X.env);pure (ForInStep.yield ok) else pure (ForInStep.yield r)) (TP X pins σ Q) X.xe s
noncomputable def tYes:TT:=fun _ H Q=>Q true H
theorem pts_nil {X:Cx}:PTs X [] tYes:=fun _ _ _ H _ I h=>wpAny_tests_nil ⟨H,I,h⟩
theorem pts_one {X:Cx} {c:Expr} {t:TT} (h:PT X c t):PTs X [c] t:=fun pins s σ H Q I hq=>wpAny_tests_one (h pins s σ H Q I hq)
section
variable {X : Cx}
noncomputable def tBlock (J:It) (g:TG) (tc:TT) (te:TE) (σ0:St) (H1:Hp) (fin:List V→Hp→Prop):Prop:=
 ∃W:Nat→Nat→List V→St→Hp→Prop,(∃m,W 0 m [] σ0 H1)∧∀i m ys σ2 H2,W i m ys σ2 H2→
  (J.stop i H2∧fin ys H2)∨
  (J.go i H2∧∀x H3,J.yld i H2 x H3→g x σ2 H3 fun σ3 H4=>tc σ3 H4 fun b H5=>if b=true then te σ3 H5 fun y H6=>ys.length<sizeLine∧∃m',m'<m∧W (i+1) m' (ys++ [y]) σ3 H6 else ∃m',m'<m∧W (i+1) m' ys σ3 H5)
noncomputable def lstObj (its:List Value) (n:Nat):Obj:={cls:=.type "list",data:=.seq its.toArray n}
theorem block_in {elt target iter:Expr} {ifs:List Expr} {scope:Scope} {pos:Pos} {g:TG} {tc:TT} {te:TE} {k:Nat} {fr:List Nat} {N':List Str} {cl:List (Str×Addr)} {pins:List (Addr×Obj)} {σ:St} {H2:Hp} {s2:Shared}
  {it:Addr} {fp:List Addr} {tn:Nat→Heap→Prop} {J:It} {fin:List V→Hp→Prop} {R0:Result→Shared→Prop} {XE:List (Str×Addr)→Addr→Shared→Hp→List Addr→Value→Shared→Prop}
  (hc:X.calm=true) (S:CompScope X.N X.env.scope N' scope k fr) (c1:∀x c,cl.lookup x=some c→X.env.cells.lookup x=some c) (c2:∀n,(n,NameKind.free)∈scope.names→∃c,cl.lookup n=some c) (cin:∀x c,(x,c)∈cl→∃y,X.env.cells.lookup y=some c) (cno:∀x,(x,NameKind.cell)∈scope.names→∀c,(x,c)∉cl)
  (hg:∀cl C s H ex,PG (cxC X N' scope cl C s H ex) target g) (ht:∀cl C s H ex,PTs (cxC X N' scope cl C s H ex) ifs tc) (he:∀cl C s H ex,PE ((cxC X N' scope cl C s H ex).wish (XE cl C s H ex)) elt te)
  (I2:Inv X pins σ H2 s2) (T:Turn X.prog X.w X.K target J fp it tn) (st2:tn 0 s2.heap) (f2:∀b∈fp,FpOk X pins H2 b) (hb:tBlock J g tc te (stC k fr σ) H2 fin)
  (hR:∀(C:Addr),C=(s2.heap.push {cls:=.type "list",dict:=none,data:=.seq ([]:List Value).toArray}).objs.size→∀(s':Shared) (m:Str→Option Value) (ys:List V) (its:List Value) (n:Nat) (H':Hp),s2.heap.objs.size<C→s'.heap.Ns C m→Vals ys its→ys.length≤sizeLine→s'.heap.get? s2.heap.objs.size=some (lstObj its n)→H' s2.heap.objs.size=none→H' C=none→fin ys H'→
   s'.os=s2.os→AllBare s'.gens→Un (frs X.stack) fp H2 H' s2.heap s'.heap→HOk X.prog X.w H' s'.heap→R0 (.ok .next) s')
  (hE:∀cl C x s',C=(s2.heap.push {cls:=.type "list",dict:=none,data:=.seq ([]:List Value).toArray}).objs.size→s2.heap.objs.size<C→XE cl C s2 H2 fp x s'→notedBy (model X.prog X.w) X.A (compEnvC scope cl C X.env) (fun y s''=>R0 (.error y) s'') x s'):
  codeAny (model X.prog X.w) X.A (.compStart (.ListComp elt [⟨target,iter,ifs,0⟩] scope pos) 0 (.ref it) (.ref s2.heap.objs.size) (compEnvC scope (cellsFrom ((s2.heap.push {cls:=.type "list",dict:=none,data:=.seq ([]:List Value).toArray}).objs.size+1) scope.names cl) (s2.heap.push {cls:=.type "list",dict:=none,data:=.seq ([]:List Value).toArray}).objs.size X.env)) R0 {s2 with heap:=pushCells ((s2.heap.push {cls:=.type "list",dict:=none,data:=.seq ([]:List Value).toArray}).push {cls:=.type "dict",data:=.dict #[]}) scope.names}:=by
 obtain⟨W,⟨m0,w0⟩,turn⟩:=hb
 have lt:∀b∈fp,b<s2.heap.objs.size:=fun b hb=>by
  obtain⟨o,e,_⟩:=T.obj _ _ st2 b hb
  exact Heap.lt_size e
 generalize hH2:s2.heap.push {cls:=.type "list",dict:=none,data:=.seq ([]:List Value).toArray}=G2 at hR hE ⊢
 have hCs:G2.objs.size=s2.heap.objs.size+1:=by rw[←hH2,Heap.size_push]
 have hDC:s2.heap.objs.size≠G2.objs.size:=by rw[hCs];exact Nat.ne_of_lt (Nat.lt_succ_self _)
 have hC:s2.heap.objs.size≤G2.objs.size:=by rw[hCs];exact Nat.le_succ _
 have old:∀b o,s2.heap.get? b=some o→(pushCells (G2.push {cls:=.type "dict",data:=.dict #[]}) scope.names).get? b=some o:=fun b o e=>by
  refine pushCells_keeps _ _ b o (Heap.get?_push_of_some _ ?_)
  rw[←hH2]
  exact Heap.get?_push_of_some _ e
 have hacc:(pushCells (G2.push {cls:=.type "dict",data:=.dict #[]}) scope.names).get? s2.heap.objs.size=some (lstObj [] 0):=by
  refine pushCells_keeps _ _ _ _ (Heap.get?_push_of_some _ ?_)
  rw[←hH2]
  exact Heap.get?_push_size _ rfl
 have hns₁:(pushCells (G2.push {cls:=.type "dict",data:=.dict #[]}) scope.names).Ns G2.objs.size fun _=>none:=(Heap.Ns.new G2 (.type "dict")).keeps (pushCells_keeps _ _)
 have cl0:∀x c,(x,c)∈cl→c<G2.objs.size+1:=fun x c m=>by
  obtain⟨y,hy⟩:=cin x c m
  obtain⟨v,q⟩:=I2.cell y c hy
  rw[hCs]
  exact Nat.lt_succ_of_lt (Nat.lt_succ_of_lt q.lt)
 have B:BlkC X scope (cellsFrom (G2.objs.size+1) scope.names cl) s2.heap.objs.size G2.objs.size (pushCells (G2.push {cls:=.type "dict",data:=.dict #[]}) scope.names):=by
  have own:=cells_own scope.names (G2.push {cls:=.type "dict",data:=.dict #[]}) cl
  rw[Heap.size_push] at own
  refine⟨fun x c e=>?_,fun x y c hc h1 h2=>?_,fun n hn=>?_,fun n hn c e=>?_,fun x c hx e=>?_⟩
  ·by_cases hx:(x,NameKind.cell)∈scope.names
   ·rcases own x c (PySem.mem_of_lookup e) with m | ⟨q1,q2,_⟩
    ·
     exfalso
     exact cno x hx c m
    ·exact .inr ⟨Nat.le_trans hC (Nat.le_of_succ_le q1),q1,q2⟩
   ·rw[cells_skip _ _ _ _ hx] at e
    exact .inl (c1 x c e)
  ·exact cells_inj scope.names (G2.objs.size+1) (G2.objs.size+1) cl cl0 (fun x y c hl m1 _=>absurd (cl0 x c m1) (Nat.not_lt.mpr hl)) x y c hc (PySem.mem_of_lookup h1) (PySem.mem_of_lookup h2)
  ·refine Option.isSome_iff_exists.mp (cells_has _ _ _ n ?_)
   rcases hn with hn | hn
   ·obtain⟨c,e⟩:=c2 n hn
    exact .inr (by rw[e];rfl)
   ·exact .inl hn
  ·have hx:(n,NameKind.cell)∉scope.names:=fun m=>by
    have:=(S.cels _ m rfl).1
    rw[hn] at this
    cases this
   rw[cells_skip _ _ _ _ hx] at e
   exact c1 n c e
  ·have hx:=PySem.mem_of_lookup hx
   rcases own x c (PySem.mem_of_lookup e) with m | ⟨q1,q2,_⟩
   ·exact absurd m (cno x hx c)
   ·exact Nat.le_trans hC (Nat.le_of_succ_le q1)
 generalize pushCells (G2.push {cls:=.type "dict",data:=.dict #[]}) scope.names=h₁ at *
 generalize cellsFrom (G2.objs.size+1) scope.names cl=cl2 at *
 generalize hDd:s2.heap.objs.size=D at *
 generalize hCc:G2.objs.size=C at *
 have fD:H2 D=none:=by rw[←hDd];exact I2.hok.fresh (Nat.le_refl _)
 have cells:∀x c,cl2.lookup x=some c→c≠D:=fun x c e=>by
  rcases B.old _ _ e with o | o
  ·obtain⟨v,q⟩:=I2.cell x c o
   rw[←hDd]
   exact Nat.ne_of_lt q.lt
  ·exact Nat.ne_of_gt (Nat.lt_trans (by rw[hCs];exact Nat.lt_succ_self _) o.2.1)
 have loop:∀(itv:Addr) (s3:Shared),itv=it→(∃tk,s3={s2 with heap:=h₁,toks:=tk})→
   codeAny (model X.prog X.w) X.A (.compLoop (.ListComp elt [⟨target,iter,ifs,0⟩] scope pos) 0 (.ref itv) (.ref D) (compEnvC scope cl2 C X.env)) R0 s3:=by
  rintro itv s3 rfl ⟨tk,rfl⟩
  have I3:Inv (cxC X N' scope cl2 C s2 H2 fp) [] (stC k fr σ) H2 {s2 with heap:=h₁,toks:=tk}:=compInv I2 S (by rw[hDd];exact B) (by rw[hDd];exact hC) f2 (by rw[hDd];exact lt) old hns₁
  have stat:∀{H':Hp} {o:Obj},(∀b∈fp,H' b=none)→∀b∈fp,FpOk (cxC X N' scope cl2 C s2 H2 fp) [(D,o)] H' b:=fun {H' o} hn b hb=>
   ⟨hn b hb,Nat.ne_of_lt (Nat.lt_of_lt_of_le (lt b hb) hC),fun z=>by
    rcases List.mem_cons.mp (I2.stkSub b z) with q | q
    ·exact(f2 b hb).2.1 q
    ·exact(f2 b hb).2.2.1 q,.inl hb,fun x c e=>(B.old _ _ e).elim (fun o=>(f2 b hb).2.2.2.2.1 x c o) (fun o=>Nat.ne_of_gt (Nat.lt_of_lt_of_le (lt b hb) o.1)),fun p hp=>by
    have e:p=(D,o):=by simpa [cxC] using hp
    rw[e]
    exact Nat.ne_of_gt (lt b hb)⟩
  have addD:∀{σ':St} {H':Hp} {s':Shared} {o:Obj},Inv (cxC X N' scope cl2 C s2 H2 fp) [] σ' H' s'→s'.heap.get? D=some o→H' D=none→(∀v,o.data≠.cell v)→Inv (cxC X N' scope cl2 C s2 H2 fp) [(D,o)] σ' H' s':=fun {σ' H' s' o} I' e n hd=>
   I'.pins_of fun p hp=>by
    have q:p=(D,o):=by simpa using hp
    subst q
    refine⟨e,n,hDC,fun z=>?_,hd⟩
    obtain⟨_,ob,ho,_⟩:=I2.stack.mem z
    exact absurd (Heap.lt_size ho) (by rw[hDd];exact Nat.lt_irrefl _)
  have ndL:∀{its:List Value} {n:Nat} (v:Option Value),(lstObj its n).data≠.cell v:=fun v z=>by
   have z:Data.seq _ _=Data.cell v:=z
   cases z
  refine codeAny_compLoop_any (fun n s'=>∃i ys σ' H' its cap,Inv (cxC X N' scope cl2 C s2 H2 fp) [] σ' H' s'∧tn i s'.heap∧(∀b∈fp,H' b=none)∧s'.heap.get? D=some (lstObj its cap)∧H' D=none∧Vals ys its∧ys.length≤sizeLine∧W i n ys σ' H') ?_ m0
   ⟨0,[],_,H2,[],0,I3,T.keep _ _ _ st2 (fun b _ o e=>old b o e),fun b hb=>(f2 b hb).1,hacc,fD,.nil,Nat.zero_le _,w0⟩
  rintro n s4 ⟨i,ys,σ4,H4,its,cap,I4,st4,fr4,hD4,nD4,vl4,sz4,w4⟩
  have I4':=addD I4 hD4 nD4 ndL
  rcases turn i n ys σ4 H4 w4 with ⟨stop,qf⟩ | ⟨go,step⟩
  ·refine thn (T.done (cxC X N' scope cl2 C s2 H2 fp) rfl rfl rfl hc i _ s4 σ4 H4 _ I4' (stat fr4) st4 stop) fun r s5 ⟨hr,I5⟩=>?_
   subst hr
   obtain⟨m5,hn5,_⟩:=I5.loc
   exact hR C rfl s5 m5 ys its cap H4 (by rw[hCs];exact Nat.lt_succ_self _) hn5 vl4 sz4 (I5.pin (D,lstObj its cap) (List.mem_append_right _ List.mem_cons_self)).1 nD4 I5.free qf I5.os I5.bare I5.base I5.hok
  ·refine thn (T.item (cxC X N' scope cl2 C s2 H2 fp) rfl rfl rfl hc i _ s4 σ4 H4 _ I4' (stat fr4) st4 go) fun r s5 ⟨u,hr,h5⟩=>?_
   subst hr
   refine thn h5 fun _ s6 ⟨x,H6,I6,r6,y6,st6,fr6⟩=>?_
   have I6':=I6.pinned (stat fr6) (T.obj _ _ st6)
   refine thn (hg cl2 C s2 H2 fp _ s6 σ4 H6 x u _ I6' r6 (step x H6 y6)) fun _ s7 ⟨σ7,H7,I7,q7⟩=>?_
   refine thn (ht cl2 C s2 H2 fp _ s7 σ7 H7 _ I7 q7) fun ok s8 ⟨H8,I8,q8⟩=>?_
   have back:∀{σ':St} {H':Hp} {s':Shared},Inv (cxC X N' scope cl2 C s2 H2 fp) ([(D,lstObj its cap)]++pinsAt fp s6.heap) σ' H' s'→tn (i+1) s'.heap∧(∀b∈fp,H' b=none)∧s'.heap.get? D=some (lstObj its cap)∧H' D=none:=fun {σ' H' s'} I'=>by
    have pD:=I'.pin (D,lstObj its cap) (List.mem_append_right _ (List.mem_append_left _ (by simp)))
    refine⟨T.keep _ _ _ st6 fun b hb o e=>(I'.pin (b,o) (List.mem_append_right _ (List.mem_append_right _ (mem_pinsAt hb e)))).1,fun b hb=>?_,pD.1,pD.2.1⟩
    obtain⟨o,e,d⟩:=T.obj _ _ st6 b hb
    exact(I'.pin (b,o) (List.mem_append_right _ (List.mem_append_right _ (mem_pinsAt hb e)))).2.1
   cases ok with
   | false=>
    rw[if_neg Bool.false_ne_true]
    rw[if_neg Bool.false_ne_true] at q8
    obtain⟨m',hm,w8⟩:=q8
    obtain⟨b1,b2,b3,b4⟩:=back I8
    exact⟨m',hm,i+1,ys,σ7,H8,its,cap,I8.pins_of (fun p hp=>absurd hp (by simp)),b1,b2,b3,b4,vl4,sz4,w8⟩
   | true=>
    rw[if_pos rfl]
    rw[if_pos rfl] at q8
    refine wpAny_mono (he cl2 C s2 H2 fp _ s8 σ7 H8 _ (I8.wish _) q8) (fun y s9 ⟨z,H9,I9,r9,hlt,m',hm,w9⟩=>?_) fun x s' hx=>hE cl2 C x s' rfl (by rw[hCs];exact Nat.lt_succ_self _) hx
    have I9:=I9.unwish
    obtain⟨b1,b2,b3,b4⟩:=back I9
    have hl:=vl4.length
    refine call_meets F.slot_list_append ⟨_,b3,rfl⟩ F.entry_list_append (F.args_list_append_2 _ _) (PySem.list_append D its.toArray cap y (by rw[List.size_toArray];omega)) ⟨b3,?_⟩
    obtain⟨c',q⟩:∃c',(s9.heap.update D (Obj.mapSeq fun x=>x.push y)).get? D=some (lstObj (its++ [y]) c'):=by
     have q:=PySem.IsL.update b3 (fun x=>x.push y)
     rw[show its.toArray.push y=(its++ [y]).toArray by simp] at q
     exact⟨_,q⟩
    have I9':Inv (cxC X N' scope cl2 C s2 H2 fp) [] σ7 H9 s9:=I9.pins_of (fun p hp=>absurd hp (by simp))
    have kp:∀b o,b≠D→s9.heap.get? b=some o→(s9.heap.update D (Obj.mapSeq fun x=>x.push y)).get? b=some o:=fun b o hb e=>(Heap.get?_update_other s9.heap (Obj.mapSeq fun x=>x.push y) (Ne.symm hb)).trans e
    have I10:=I9'.turned (t':=s9.toks) (it:=D) (h':=s9.heap.update D (Obj.mapSeq fun x=>x.push y)) kp b4 hDC (.inr (by show s2.heap.objs.size≤D;rw[hDd];exact Nat.le_refl _)) (fun x c e=>cells x c e) (fun p hp=>absurd hp (by simp [cxC]))
    refine⟨m',hm,i+1,ys++ [z],σ7,H9,its++ [y],c',I10,T.keep _ _ _ b1 (fun b hb o e=>kp b o (Nat.ne_of_lt (lt b hb)) e),b2,q,b4,vl4.append (.cons r9 .nil),?_,w9⟩
    ·rw[List.length_append,List.length_singleton]
     omega
 exact codeAny_compStart_list (loop it _ rfl ⟨_,rfl⟩) (T.self _ 0 _ _ _ (T.keep _ _ _ st2 (fun b _ o e=>old b o e)) (loop it _ rfl ⟨_,rfl⟩))
theorem block_run {elt target iter:Expr} {ifs:List Expr} {scope:Scope} {pos:Pos} {g:TG} {tc:TT} {te:TE} {k:Nat} {fr:List Nat} {N':List Str} {cl:List (Str×Addr)} {pins:List (Addr×Obj)} {σ:St} {H2:Hp} {s2:Shared}
  {it:Addr} {fp:List Addr} {tn:Nat→Heap→Prop} {J:It} {E:Value→Shared→Prop} {fin:List V→Hp→Prop} {RR:Value→Addr→Result→Shared→Prop} {XE:List (Str×Addr)→Addr→Shared→Hp→List Addr→Value→Shared→Prop}
  (hc:X.calm=true) (S:CompScope X.N X.env.scope N' scope k fr) (c1:∀x c,cl.lookup x=some c→X.env.cells.lookup x=some c) (c2:∀n,(n,NameKind.free)∈scope.names→∃c,cl.lookup n=some c) (cin:∀x c,(x,c)∈cl→∃y,X.env.cells.lookup y=some c) (cno:∀x,(x,NameKind.cell)∈scope.names→∀c,(x,c)∉cl)
  (hg:∀cl C s H ex,PG (cxC X N' scope cl C s H ex) target g) (ht:∀cl C s H ex,PTs (cxC X N' scope cl C s H ex) ifs tc) (he:∀cl C s H ex,PE ((cxC X N' scope cl C s H ex).wish (XE cl C s H ex)) elt te)
  (I2:Inv X pins σ H2 s2) (T:Turn X.prog X.w X.K target J fp it tn) (st2:tn 0 s2.heap) (f2:∀b∈fp,FpOk X pins H2 b) (hb:tBlock J g tc te (stC k fr σ) H2 fin)
  (hR:∀(C:Addr) (s':Shared) (m:Str→Option Value) (ys:List V) (its:List Value) (n:Nat) (H':Hp),s2.heap.objs.size<C→s'.heap.Ns C m→Vals ys its→ys.length≤sizeLine→s'.heap.get? s2.heap.objs.size=some (lstObj its n)→H' s2.heap.objs.size=none→H' C=none→fin ys H'→
   s'.os=s2.os→AllBare s'.gens→Un (frs X.stack) fp H2 H' s2.heap s'.heap→HOk X.prog X.w H' s'.heap→RR (.ref s2.heap.objs.size) C (.ok .next) s')
  (hE:∀cl C x s',s2.heap.objs.size<C→XE cl C s2 H2 fp x s'→notedBy (model X.prog X.w) X.A (compEnvC scope cl C X.env) (fun y s''=>RR (.ref s2.heap.objs.size) C (.error y) s'') x s'):
  wpAny (model X.prog X.w) X.A (newList []) (fun acc s₃=>wpAny (model X.prog X.w) X.A (newFunctionEnv scope X.env.globals cl [] X.env.qual none .none (some X.env)) (fun cenv s₄=>
   codeAny (model X.prog X.w) X.A (.compStart (.ListComp elt [⟨target,iter,ifs,0⟩] scope pos) 0 (.ref it) acc {cenv with scope:=relabel scope X.env}) (RR acc cenv.locals) s₄) E s₃) E s2:=by
 refine wpAny_newObj_type (wpAny_newEnv_comp ?_)
 exact block_in (R0:=RR _ _) hc S c1 c2 cin cno hg ht he I2 T st2 f2 hb (fun C e=>by subst e;exact hR _) (fun cl C x s' e=>by subst e;exact hE cl _ x s')
theorem comp_back {fp:List Addr} {pins:List (Addr×Obj)} {σ:St} {H2 H':Hp} {s2 s':Shared} {C:Addr} {ys:List V} {its:List Value} {n:Nat} {h':Heap} (I2:Inv X pins σ H2 s2) (f2:∀b∈fp,FpOk X pins H2 b) (hC:s2.heap.objs.size<C)
  (vl:Vals ys its) (sz:ys.length≤sizeLine) (hD:s'.heap.get? s2.heap.objs.size=some (lstObj its n)) (nD:H' s2.heap.objs.size=none) (nC:H' C=none)
  (os:s'.os=s2.os) (bare:AllBare s'.gens) (un:Un (frs X.stack) fp H2 H' s2.heap s'.heap) (hok:HOk X.prog X.w H' s'.heap) (hs:Heap.SameBut C s'.heap h'):
  Inv X pins σ (upd H' s2.heap.objs.size (.lst ys)) {s' with heap:=h'}:=by
 have ltC:∀b o,s2.heap.get? b=some o→b≠C:=fun b o e=>Nat.ne_of_lt (Nat.lt_trans (Heap.lt_size e) hC)
 have ltD:∀b o,s2.heap.get? b=some o→b≠s2.heap.objs.size:=fun b o e=>Nat.ne_of_lt (Heap.lt_size e)
 have tk:∀b u,H' b=some u→b≠s2.heap.objs.size:=fun b u e z=>by rw[z,nD] at e;cases e
 have tC:∀b u,H' b=some u→b≠C:=fun b u e z=>by rw[z,nC] at e;cases e
 have fD:H2 s2.heap.objs.size=none:=I2.hok.fresh (Nat.le_refl _)
 have t2:∀b u,H2 b=some u→b≠s2.heap.objs.size:=fun b u e z=>by rw[z,fD] at e;cases e
 refine I2.call' (s':={s' with heap:=h'}) (ch:=fp) os ⟨fun b o e m hb hx=>?_,fun b o e m hb hx=>?_,fun b o e m hx=>?_,fun b o e hx=>?_,fun b xs e=>?_,fun b o u e=>?_,fun b ps e=>?_⟩ (fun b u e=>?_) bare fun b hb=>?_
 ·exact(hs.2 b (ltC b o e)).trans (un.keep b o e m hb hx)
 ·obtain⟨sl,q⟩:=un.slot b o e m hb hx
  exact⟨sl,(hs.2 b (ltC b o e)).trans q⟩
 ·rw[upd_ne (ltD b o e)]
  exact un.free b o e m hx
 ·obtain⟨o',q⟩:=un.there b o e hx
  exact⟨o',(hs.2 b (ltC b o e)).trans q⟩
 ·rw[upd_ne (t2 b _ e)]
  exact un.tups b xs e
 ·rw[upd_ne (t2 b _ e)]
  exact un.frzs b o u e
 ·obtain⟨mo,q⟩:=un.tbls b ps e
  exact⟨mo,by rw[upd_ne (t2 b _ e)];exact q⟩
 ·by_cases hb:b=s2.heap.objs.size
  ·subst hb
   rw[upd_same] at e
   cases e
   exact⟨sz,its,n,vl,(hs.2 _ (Nat.ne_of_lt hC)).trans hD⟩
  ·rw[upd_ne hb] at e
   exact(hok b u e).stay (fun c v hc q=>(hs.2 c (by
    rcases hc with rfl | hc
    ·exact tC _ _ e
    ·exact tC _ _ hc)).trans q) (fun c r=>by rw[upd_ne (tk _ _ r)];exact r) fun c xs r=>by rw[upd_ne (tk _ _ r)];exact r
 ·exact⟨(f2 b hb).2.2.2.1,(f2 b hb).2.1,(f2 b hb).2.2.2.2.1,(f2 b hb).2.2.2.2.2⟩
noncomputable def tComp (wi:TI) (g:TG) (tc:TT) (te:TE) (k:Nat) (fr:List Nat):TE:=fun σ H Q=>wi σ H fun J H1=>tBlock J g tc te (stC k fr σ) H1 fun ys H2=>∀D,H1 D=none→H2 D=none→Q (.ref D) (upd H2 D (.lst ys))
theorem pe_comp {elt target iter:Expr} {ifs:List Expr} {scope so:Scope} {pos:Pos} {wi:TI} {g:TG} {tc:TT} {te:TE} {k:Nat} {fr:List Nat} {N N':List Str} (hc:X.calm=true) (hN:X.N=N) (hso:X.env.scope=so) (S:CompScope N so N' scope k fr)
  (hi:PI X target iter wi) (hg:∀cl C s H ex,PG (cxC X N' scope cl C s H ex) target g) (ht:∀cl C s H ex,PTs (cxC X N' scope cl C s H ex) ifs tc) (he:∀cl C s H ex,PE (cxC X N' scope cl C s H ex) elt te)
  (hs:∀x,foldedSetIterable iter X.env x=pure x:=by intro _;rfl):PE X (.ListComp elt [⟨target,iter,ifs,0⟩] scope pos) (tComp wi g tc te k fr):=by
 subst hN hso
 intro pins s σ H Q I h
 rw[eval_ListComp]
 obtain⟨cl,hcl,c1,c2,c3⟩:=closureFor_of (env:=X.env) (scope:=scope) fun n hn=>I.ok.has n (S.outer _ hn rfl)
 refine wpAny_comprehension_free (use:=none) (cl:=cl) rfl hs hcl S.kind S.locs ?_
 refine thn (hi pins s σ H _ I h) fun v s1 h1=>thn h1 fun itv s2 h2=>?_
 obtain⟨it,fp,tn,J,H2,rfl,I2,T,st2,f2,hb⟩:=h2
 refine block_run (RR:=fun acc C=>compPost (model X.prog X.w) X.A X.xe none (EP X pins σ Q) acc C) hc S c1 c2 (fun x c m=>⟨x,(c3 x c m).1⟩) (fun x hx c m=>(S.cels _ hx rfl).2 (c3 x c m).2) (XE:=fun _ _ _ _ _ _ _=>False) hg ht he I2 T st2 f2 hb ?_ (fun _ _ _ _ _ z=>False.elim z)
 intro C s' m ys its n H' hC hn vl sz hD nD nC fin os bare un hok
 exact⟨m,hn,fun h' hs'=>⟨.ref _,_,comp_back I2 f2 hC vl sz hD nD nC os bare un hok hs',rfl,fin _ (I2.hok.fresh (Nat.le_refl _)) nD⟩⟩
theorem ps_setC {elt target iter:Expr} {ifs:List Expr} {scope so:Scope} {pos spos py:Pos} {wi:TI} {g:TG} {tc:TT} {te:TE} {k:Nat} {fr:List Nat} {N N':List Str} {y:Str} {i:Nat} (hc:X.calm=true) (hN:X.N.Nodup) (hy:X.N[i]?=some y) (hl:X.env.scope.names.lookup y=some .local)
  (hNN:X.N=N) (hso:X.env.scope=so) (S:CompScope N so N' scope k fr)
  (hi:PI X target iter wi) (hg:∀cl C s H ex,PG (cxC X N' scope cl C s H ex) target g) (ht:∀cl C s H ex,PTs (cxC X N' scope cl C s H ex) ifs tc) (he:∀cl C s H ex,PE (cxC X N' scope cl C s H ex) elt te)
  (hsw:swapsWith (.ListComp elt [⟨target,iter,ifs,0⟩] scope pos) (some (.Name y py)) spos.line X.env=pure true:=by rfl)
  (hs:∀x,foldedSetIterable iter X.env x=pure x:=by intro _;rfl):PS X (.Assign [.Name y py] (.ListComp elt [⟨target,iter,ifs,0⟩] scope pos) spos) (tAsg (tComp wi g tc te k fr) (gName i)):=by
 subst hNN hso
 intro pins s σ H D I h
 rw[exec_Assign_Name_used _ _ _ _ hsw]
 obtain⟨cl,hcl,c1,c2,c3⟩:=closureFor_of (env:=X.env) (scope:=scope) fun n hn=>I.ok.has n (S.outer _ hn rfl)
 refine wpAny_bind (wpAny_standAt (wpAny_bind ?_))
 show wpAny _ X.A (do let _ ←comprehension (.ListComp elt [⟨target,iter,ifs,0⟩] scope pos) scope X.env _ (newList []) false (eval iter X.env) (some (assign (.Name y py) X.env))) _ _ s
 refine wpAny_bind (wpAny_mono (wpAny_comprehension_free (use:=some (assign (.Name y py) X.env)) (Q:=fun _ s'=>SP X pins D .next s') (cl:=cl) rfl hs hcl S.kind S.locs ?_) (fun _ s' hq=>wpAny_pure (wpAny_pure hq)) fun _ _ e=>e)
 refine thn (hi pins s σ H _ I h) fun v s1 h1=>thn h1 fun itv s2 h2=>?_
 obtain⟨it,fp,tn,J,H2,rfl,I2,T,st2,f2,hb⟩:=h2
 refine block_run (RR:=fun acc C=>compPost (model X.prog X.w) X.A X.xe (some (assign (.Name y py) X.env)) (fun _ s'=>SP X pins D .next s') acc C) hc S c1 c2 (fun x c m=>⟨x,(c3 x c m).1⟩) (fun x hx c m=>(S.cels _ hx rfl).2 (c3 x c m).2) (XE:=fun _ _ _ _ _ _ _=>False) hg ht he I2 T st2 f2 hb ?_ (fun _ _ _ _ _ z=>False.elim z)
 intro C s' m ys its n H' hC hn vl sz hD nD nC fin os bare un hok
 have I3:Inv X pins σ (upd H' s2.heap.objs.size (.lst ys)) s':=comp_back (h':=s'.heap) I2 f2 hC vl sz hD nD nC os bare un hok (.refl ..)
 refine wpAny_assign_Name (store_ok2 (v:=.ref s2.heap.objs.size) I3 hN hy (.inl hl) rfl (fun s4 I4 ch=>?_) (.inr hl))
 have ltL:X.env.locals<s2.heap.objs.size:=I2.lt
 obtain⟨a,hsa,ha⟩:=ch
 have aC:a≠C:=by
  rcases ha with rfl | ha
  ·exact Nat.ne_of_lt (Nat.lt_trans ltL hC)
  ·obtain⟨v,q⟩:=I2.cell _ _ ha
   exact Nat.ne_of_lt (Nat.lt_trans q.lt hC)
 refine⟨m,hn.sameBut hsa (Ne.symm aC),fun h' hs'=>⟨_,_,?_,fin _ (I2.hok.fresh (Nat.le_refl _)) nD⟩⟩
 have nC4:(upd H' s2.heap.objs.size (.lst ys)) C=none:=by rw[upd_ne (Nat.ne_of_gt hC)];exact nC
 exact I4.turned (t':=s4.toks) (it:=C) (h':=h') (fun b o hb e=>(hs'.2 b hb).trans e) nC4 (Nat.ne_of_gt (Nat.lt_trans ltL hC)) (.inr (Nat.le_trans I2.sz (Nat.le_of_lt hC))) (fun x c e z=>by
  obtain⟨v,q⟩:=I2.cell x c e
  exact absurd (Nat.lt_trans q.lt hC) (by rw[z];exact Nat.lt_irrefl _)) (fun p hp z=>by
  have:=Heap.lt_size (I2.pin p hp).1
  rw[z] at this
  exact absurd (Nat.lt_trans this hC) (Nat.lt_irrefl _))
end
structure Src (J:It) (Ok:Hp→Prop) (n:Nat) (Item:Nat→V→Hp→Hp→Prop):Prop where
 go:∀i H,i<n→Ok H→J.go i H
 yld:∀i H x H3,i<n→Ok H→J.yld i H x H3→Item i x H H3
 stop:∀H,Ok H→J.stop n H
theorem src_list {K:PySem.W.Frag} {a:Addr} {xs:List V} {Ok:Hp→Prop} (h:∀H,Ok H→SqL K H a xs):Src (Itl K a) Ok xs.length (fun i x H H3=>H3=H∧xs[i]?=some x) where
 go:=fun i H hi ok=>⟨xs,xs[i],h H ok,by simp [hi]⟩
 yld:=fun i H x H3 hi ok ⟨e,y⟩=>⟨e,y xs (h H ok)⟩
 stop:=fun H ok=>⟨xs,h H ok,Nat.le_refl _⟩
theorem src_range {lo:Int} {n:Nat} {Ok:Hp→Prop}:Src (Itr lo n) Ok n (fun i x H H3=>H3=H∧x=.int (lo+i)) where
 go:=fun _ _ hi _=>hi
 yld:=fun _ _ _ _ _ _ y=>y
 stop:=fun _ _=>Nat.le_refl _
theorem block_src {J:It} {g:TG} {tc:TT} {te:TE} {σ0:St} {H1:Hp} {fin:List V→Hp→Prop} {n:Nat} {Item:Nat→V→Hp→Hp→Prop} (S:Src J (Same H1) n Item) (Own:St→Prop) (h0:Own σ0) (P:Nat→List V→Hp→Prop) (p0:P 0 [] H1) (hz:n≤sizeLine)
  (hs:∀i x σ H ys H3 (Q:St→V→Hp→Prop) (N:St→Hp→Prop),i<n→Same H1 H→P i ys H→ys.length≤i→Own σ→Item i x H H3→
   (∀σ3 y H6,Own σ3→Same H1 H6→P (i+1) (ys++ [y]) H6→Q σ3 y H6)→(∀σ3 H5,Own σ3→Same H1 H5→P (i+1) ys H5→N σ3 H5)→
   g x σ H3 fun σ3 H4=>tc σ3 H4 fun b H5=>if b=true then te σ3 H5 fun y H6=>Q σ3 y H6 else N σ3 H5)
  (hfin:∀ys H,Same H1 H→P n ys H→ys.length≤n→fin ys H):tBlock J g tc te σ0 H1 fin:=by
 refine⟨fun i m ys σ H=>m=n - i∧i≤n∧ys.length≤i∧Own σ∧Same H1 H∧P i ys H,⟨n,by simp,Nat.zero_le _,Nat.le_refl _,h0,Same.refl _,p0⟩,?_⟩
 rintro i m ys σ H ⟨rfl,hi,hl,ow,sm,p⟩
 by_cases hlt:i<n
 ·refine .inr ⟨S.go i H hlt sm,fun x H3 y=>hs i x σ H ys H3 (fun σ3 y H6=>ys.length<sizeLine∧∃m',m'<n - i∧m'=n - (i+1)∧i+1≤n∧(ys++ [y]).length≤i+1∧Own σ3∧Same H1 H6∧P (i+1) (ys++ [y]) H6)
   (fun σ3 H5=>∃m',m'<n - i∧m'=n - (i+1)∧i+1≤n∧ys.length≤i+1∧Own σ3∧Same H1 H5∧P (i+1) ys H5) hlt sm p hl ow (S.yld i H x H3 hlt sm y) (fun σ3 y H6 o s6 q=>?_) (fun σ3 H5 o s5 q=>?_)⟩
  ·exact⟨by omega,n - (i+1),by omega,rfl,hlt,by rw[List.length_append,List.length_singleton];omega,o,s6,q⟩
  ·exact⟨n - (i+1),by omega,rfl,hlt,by omega,o,s5,q⟩
 ·have e:i=n:=by omega
  subst e
  exact .inl ⟨S.stop H sm,hfin ys H sm p hl⟩
theorem comp_map {J:It} {te:TE} {tl:St} {H1:Hp} {fin:List V→Hp→Prop} {n:Nat} {Item:Nat→V→Hp→Hp→Prop} (S:Src J (Same H1) n Item) (sub:∀i x H H3,Item i x H H3→Same H H3) (hz:n≤sizeLine)
  (R:Nat→V→Hp→Prop) (mono:∀i y H H',Same H H'→R i y H→R i y H')
  (hs:∀i x w H H3 (Q:VK),i<n→Same H1 H→Item i x H H3→(∀y H6,Same H3 H6→R i y H6→Q y H6)→te ((w::tl).set 0 (some x)) H3 Q)
  (hfin:∀ys H,Same H1 H→ys.length=n→(∀i y,ys[i]?=some y→R i y H)→fin ys H):tBlock J (gName 0) tYes te (none::tl) H1 fin:=by
 refine⟨fun i m ys σ H=>m=n - i∧i≤n∧ys.length=i∧(∃w,σ=w::tl)∧Same H1 H∧∀j y,ys[j]?=some y→R j y H,⟨n,by simp,Nat.zero_le _,rfl,⟨_,rfl⟩,Same.refl _,fun j y e=>by simp at e⟩,?_⟩
 rintro i m ys σ H ⟨rfl,hi,hl,⟨w,rfl⟩,sm,p⟩
 by_cases hlt:i<n
 ·refine .inr ⟨S.go i H hlt sm,fun x H3 y=>?_⟩
  have it:=S.yld i H x H3 hlt sm y
  have s3:=sub i x H H3 it
  unfold gName tYes
  refine iteT ?_
  refine hs i x w H H3 _ hlt sm it fun y H6 s6 r=>⟨by omega,n - (i+1),by omega,rfl,hlt,by rw[List.length_append,List.length_singleton];omega,⟨_,rfl⟩,sm.trans (s3.trans s6),fun j z e=>?_⟩
  by_cases hj:j<i
  ·rw[List.getElem?_append_left (by omega)] at e
   exact mono j z _ _ (s3.trans s6) (p j z e)
  ·rw[List.getElem?_append_right (by omega)] at e
   have e2:j - ys.length=0:=by
    by_cases q:j - ys.length=0
    ·exact q
    ·rw[List.getElem?_eq_none (by simp;omega)] at e;cases e
   rw[e2] at e
   simp at e
   subst e
   have:j=i:=by omega
   subst this
   exact r
 ·have e:i=n:=by omega
  subst e
  exact .inl ⟨S.stop H sm,hfin ys H sm hl p⟩
noncomputable def tForB (J:It) (g:TG) (tb:TS) (D:Ends) (σ:St) (H:Hp):Prop:=
 ∃W:Nat→Nat→St→Hp→Prop,(∃m,W 0 m σ H)∧∀i m σ H,W i m σ H→
  (J.stop i H∧D.nx σ H)∨(J.go i H∧∃N:St→Hp→Prop,(∀σ' H',N σ' H'→∃m',m'<m∧W (i+1) m' σ' H')∧∀x H',J.yld i H x H'→g x σ H' fun σ2 H2=>tb {D with nx:=N,ct:=N,bk:=D.nx} σ2 H2)
theorem tFor_eq {wi:TI} {g:TG} {tb:TS} {D:Ends} {σ:St} {H:Hp}:tFor wi g tb D σ H=wi σ H fun J H1=>tForB J g tb D σ H1:=rfl
theorem for_src {J:It} {g:TG} {tb:TS} {D:Ends} {σ:St} {H:Hp} {n:Nat} {Item:Nat→V→Hp→Hp→Prop} {Ok:Hp→Prop} (S:Src J Ok n Item) (Pv:Nat→St→Hp→Prop) (h0:Pv 0 σ H) (hok:∀i σ H,i≤n→Pv i σ H→Ok H)
  (hs:∀i x σ H H3,i<n→Pv i σ H→Item i x H H3→g x σ H3 fun σ2 H2=>tb {D with nx:=Pv (i+1),ct:=Pv (i+1),bk:=D.nx} σ2 H2) (hd:∀σ H,Pv n σ H→D.nx σ H):tForB J g tb D σ H:=by
 refine⟨fun i m σ H=>m=n - i∧i≤n∧Pv i σ H,⟨n,by simp,Nat.zero_le _,h0⟩,?_⟩
 rintro i m σ H ⟨rfl,hi,p⟩
 by_cases hlt:i<n
 ·exact .inr ⟨S.go i H hlt (hok i σ H hi p),Pv (i+1),fun σ' H' p'=>⟨n - (i+1),by omega,rfl,hlt,p'⟩,fun x H' y=>hs i x σ H H' hlt p (S.yld i H x H' hlt (hok i σ H hi p) y)⟩
 ·have e:i=n:=by omega
  subst e
  exact .inl ⟨S.stop H (hok i σ H hi p),hd σ H p⟩
theorem comp_map2 {K:PySem.W.Frag} {J:It} {te:TE} {tl:St} {H1:Hp} {fin:List V→Hp→Prop} {n:Nat} {Item:Nat→V→Hp→Hp→Prop} (S:Src J (Same H1) n Item) (It2:Nat→V→V→Hp→Prop)
  (tp:∀i x H H3,i<n→Same H1 H→Item i x H H3→Same H H3∧∃p a b,x=.ref p∧SqT K H3 p [a,b]∧It2 i a b H3) (hz:n≤sizeLine)
  (R:Nat→V→Hp→Prop) (mono:∀i y H H',Same H H'→R i y H→R i y H')
  (hs:∀i a b H3 (Q:VK),i<n→Same H1 H3→It2 i a b H3→(∀y H6,Same H3 H6→R i y H6→Q y H6)→te (some a::some b::tl) H3 Q)
  (hfin:∀ys H,Same H1 H→ys.length=n→(∀(i:Nat) y,ys[i]?=some y→R i y H)→fin ys H):tBlock J (gTup K 2 (gCons (gName 0) (gCons (gName 1) gNil))) tYes te (none::none::tl) H1 fin:=by
 refine⟨fun i m ys σ H=>m=n - i∧i≤n∧ys.length=i∧(∃w w',σ=w::w'::tl)∧Same H1 H∧∀(j:Nat) y,ys[j]?=some y→R j y H,⟨n,by simp,Nat.zero_le _,rfl,⟨_,_,rfl⟩,Same.refl _,fun j y e=>by simp at e⟩,?_⟩
 rintro i m ys σ H ⟨rfl,hi,hl,⟨w,w',rfl⟩,sm,p⟩
 by_cases hlt:i<n
 ·refine .inr ⟨S.go i H hlt sm,fun x H3 y=>?_⟩
  obtain⟨s3,q,a,b,rfl,sq,it⟩:=tp i x H H3 hlt sm (S.yld i H x H3 hlt sm y)
  refine⟨q,_,rfl,sq,rfl,_,_,rfl,_,_,rfl,rfl,?_⟩
  unfold tYes
  refine iteT ?_
  refine hs i a b H3 _ hlt (sm.trans s3) it fun y H6 s6 r=>⟨by omega,n - (i+1),by omega,rfl,hlt,by rw[List.length_append,List.length_singleton];omega,⟨_,_,rfl⟩,sm.trans (s3.trans s6),fun j z e=>?_⟩
  by_cases hj:j<i
  ·rw[List.getElem?_append_left (by omega)] at e
   exact mono j z _ _ (s3.trans s6) (p j z e)
  ·rw[List.getElem?_append_right (by omega)] at e
   have e2:j - ys.length=0:=by
    by_cases q:j - ys.length=0
    ·exact q
    ·rw[List.getElem?_eq_none (by simp;omega)] at e;cases e
   rw[e2] at e
   simp at e
   subst e
   have:j=i:=by omega
   subst this
   exact r
 ·have e:i=n:=by omega
  subst e
  exact .inl ⟨S.stop H sm,hfin ys H sm hl p⟩
end L2
namespace L2
open PySem PySem.Spec PyProof.Rows
section
variable {X : Cx} {pins : List (Addr × Obj)} {σ : St} {H : Hp} {s : Shared}
theorem Inv.moved {h':Heap} {t':Nat} {ch:List Addr} (I:Inv X pins σ H s) (f:∀b∈ch,FpOk X pins H b) (k:∀b o,b∉ch→s.heap.get? b=some o→h'.get? b=some o):Inv X pins σ H {s with heap:=h',toks:=t'}:=by
 have nch:∀b u,H b=some u→b∉ch:=fun b u e z=>by rw[(f b z).1] at e;cases e
 refine I.step (g':=s.gens) (d':=s.drawn) (ch:=ch) (fun b hb=>⟨(f b hb).2.2.2.1,(f b hb).2.1,(f b hb).2.2.2.2.1,(f b hb).2.2.2.2.2⟩) (fun b o _ _ hc e _=>k b o hc e) (fun b o _ _ hc e _=>⟨o.slots,k b o hc e⟩) (fun _ _ _ _ n=>n)
  (fun b o hc e=>⟨o,k b o hc e⟩) (fun _ _ e=>e) (fun _ _ _ e=>e) (fun b ps e=>⟨#[],by rw[e];simp⟩) (fun m hm=>?_) (fun b u e=>?_) I.bare
 ·obtain⟨o,es,ep,ho,r⟩:=hm
  exact⟨o,es,ep,k _ o (fun z=>(f _ z).2.1 rfl) ho,r⟩
 ·refine(I.hok b u e).stay (fun c v hc q=>k c v ?_ q) (fun _ q=>q) fun _ _ q=>q
  rcases hc with z | z
  ·rw[z];exact nch b u e
  ·exact nch c _ z
theorem Inv.take {ad:Addr} {o:HO} (I:Inv X pins σ H s) (f:FpOk X pins H ad) (new:X.s₀.heap.objs.size≤ad) (ok:ObjOk X.prog X.w (upd H ad o) s.heap ad o):Inv X pins σ (upd H ad o) s:=by
 obtain⟨hn,nL,nf,_,nc,np⟩:=f
 have tk:∀b u,H b=some u→b≠ad:=fun b u e z=>by rw[z,hn] at e;cases e
 refine⟨I.ok,I.os,I.bare,⟨I.base.keep,I.base.slot,fun b ob e m hx=>?_,I.base.there,fun b xs e=>?_,fun b ob u e=>?_,fun b ps e=>?_⟩,I.loc,I.cell,?_,fun x c e=>?_,fun p hp=>?_,fun b u e=>?_,I.len⟩
 ·rw[upd_ne (Nat.ne_of_lt (Nat.lt_of_lt_of_le (Heap.lt_size e) new))]
  exact I.base.free b ob e m hx
 ·have q:=I.base.tups b xs e
  rw[upd_ne (tk b _ q)];exact q
 ·have q:=I.base.frzs b ob u e
  rw[upd_ne (tk b _ q)];exact q
 ·obtain⟨mo,q⟩:=I.base.tbls b ps e
  exact⟨mo,by rw[upd_ne (tk b _ q)];exact q⟩
 ·rw[upd_ne (Ne.symm nL)];exact I.free
 ·rw[upd_ne (nc x c e)];exact I.freeC x c e
 ·obtain⟨a,b,c⟩:=I.pin p hp
  exact⟨a,by rw[upd_ne (np p hp)];exact b,c⟩
 ·by_cases hb:b=ad
  ·subst hb
   rw[upd_same] at e
   cases e
   exact ok
  ·rw[upd_ne hb] at e
   exact(I.hok b u e).stay (fun _ _ _ q=>q) (fun c r=>by rw[upd_ne (tk _ _ r)];exact r) fun c xs r=>by rw[upd_ne (tk _ _ r)];exact r
end
noncomputable def Itz (K:PySem.W.Frag) (a b:Addr):It:=
 ⟨fun i H=>∃xs ys x y,SqL K H a xs∧SqL K H b ys∧xs[i]?=some x∧ys[i]?=some y,
  fun i H v H'=>∃p,H p=none∧v=.ref p∧∃x y,(∀xs,SqL K H a xs→xs[i]?=some x)∧(∀ys,SqL K H b ys→ys[i]?=some y)∧H'=upd H p (.tup [x,y]),
  fun i H=>∃xs ys,SqL K H a xs∧SqL K H b ys∧(i=min xs.length ys.length)⟩
theorem turn_zip {P:Program} {w:World} {K:PySem.W.Frag} {elts:List Expr} {k:Nat} {pos:Pos} (z TI TO i1 i2 a b:Addr) (D:ZipApart z TI TO i1 i2 a b):
  Turn P w K (.Tuple elts k pos) (Itz K a b) [z,TI,TO,i1,i2] z (fun i h=>IsZip h z TI TO .none∧IsPair h TI (.ref i1) (.ref i2)∧(∃x y,IsPair h TO x y)∧h.IsListIter i1 a i∧h.IsListIter i2 b i) where
 mem:=by simp
 obj:=fun i h st c hc=>by
  obtain⟨hz,hTI,⟨x,y,hTO⟩,⟨o1,e1,_,d1⟩,⟨o2,e2,_,d2⟩⟩:=st
  simp only[List.mem_cons,List.not_mem_nil,or_false] at hc
  rcases hc with rfl | rfl | rfl | rfl | rfl
  ·exact⟨_,hz,fun v q=>by cases q⟩
  ·exact⟨_,hTI,fun v q=>by cases q⟩
  ·exact⟨_,hTO,fun v q=>by cases q⟩
  ·exact⟨_,e1,fun v q=>by rw[d1] at q;cases q⟩
  ·exact⟨_,e2,fun v q=>by rw[d2] at q;cases q⟩
 keep:=fun i h h' st kp=>by
  obtain⟨hz,hTI,⟨x,y,hTO⟩,h1,h2⟩:=st
  exact⟨kp z (by simp) _ hz,kp TI (by simp) _ hTI,⟨x,y,kp TO (by simp) _ hTO⟩,h1.at fun o e=>kp i1 (by simp) o e,h2.at fun o e=>kp i2 (by simp) o e⟩
 item:=by
  intro X hP hw hK hc i pins s σ H E I hf st hg
  subst hP hw hK
  obtain⟨xs,ys,x,y,hq1,hq2,hx,hy⟩:=hg
  obtain⟨its1,r1,p1,z1⟩:=I.list hq1
  obtain⟨its2,r2,p2,z2⟩:=I.list hq2
  obtain⟨u,eu,ru⟩:=r1.get hx
  obtain⟨v,ev,rv⟩:=r2.get hy
  obtain⟨hz,hTI,⟨x0,y0,hTO⟩,h1,h2⟩:=st
  have W:=WalksT.zip2 (prog:=X.prog) (w:=X.w) (I.ok.hd hc) z TI TO i1 i2 a b D its1.toArray its2.toArray
  have li:i<min its1.toArray.size its2.toArray.size:=by
   have a1:=(List.getElem?_eq_some_iff.mp eu).1
   have a2:=(List.getElem?_eq_some_iff.mp ev).1
   simp only[List.size_toArray]
   omega
  refine W.item i s _ _ li ⟨hz,hTI,⟨x0,y0,hTO⟩,h1,h2,p1.isList,p2.isList⟩ fun T vals h' tk hpt hT hI hm kk=>?_
  have sub:∀c∈[z,TO,i1,i2],c∈[z,TI,TO,i1,i2]:=fun c hc=>by simp at hc ⊢;rcases hc with rfl | rfl | rfl | rfl <;>simp
  have I1:Inv X pins σ H {s with heap:=h',toks:=tk}:=I.moved (ch:=[z,TO,i1,i2]) (fun c hc=>hf c (sub c hc)) kk
  have fT:FpOk X pins H T:=I.fpOk hT (I.hok.fresh hT)
  refine⟨_,rfl,W.go elts k pos i T _ _ _ hm fun h2' st2 kk2=>?_⟩
  have I2:Inv X pins σ H {s with heap:=h2',toks:=tk}:=I1.moved (s:={s with heap:=h',toks:=tk}) (t':=tk) (ch:=[z,TO,i1,i2]) (fun c hc=>hf c (sub c hc)) kk2
  obtain⟨x',y',ex,ey,rfl⟩:=hpt
  have ex':its1[i]?=some x':=by simpa using ex
  have ey':its2[i]?=some y':=by simpa using ey
  rw[eu] at ex';cases ex'
  rw[ev] at ey';cases ey'
  have apT:=W.apart _ _ _ hm
  obtain⟨oT,eT,cT,nT,dT⟩:=hI
  have hI2:IsTup h2' T #[u,v]:=⟨oT,kk2 _ _ apT eT,cT,nT,dT⟩
  have I3:Inv X pins σ (upd H T (.tup [x,y])) {s with heap:=h2',toks:=tk}:=
   I2.take fT (Nat.le_trans I.sz hT) ⟨by show 2≤sizeLine;decide,[u,v],.cons ru (.cons rv .nil),hI2⟩
  obtain⟨b1,b2,b3,b4,b5,_,_⟩:=st2
  refine⟨.ref T,_,I3,rfl,⟨T,fT.1,rfl,x,y,fun xs' q=>?_,fun ys' q=>?_,rfl⟩,⟨b1,b2,b3,b4,b5⟩,fun c hc=>?_⟩
  ·rw[I.list_inj q hq1];exact hx
  ·rw[I.list_inj q hq2];exact hy
  ·rw[upd_ne (fun q=>?_)]
   ·exact(hf c hc).1
   ·subst q
    obtain⟨o,e,_⟩:∃o,s.heap.get? c=some o∧True:=by
     simp only[List.mem_cons,List.not_mem_nil,or_false] at hc
     obtain⟨o1,e1,_⟩:=h1
     obtain⟨o2,e2,_⟩:=h2
     rcases hc with rfl | rfl | rfl | rfl | rfl
     ·exact⟨_,hz,trivial⟩
     ·exact⟨_,hTI,trivial⟩
     ·exact⟨_,hTO,trivial⟩
     ·exact⟨_,e1,trivial⟩
     ·exact⟨_,e2,trivial⟩
    exact absurd (Heap.lt_size e) (Nat.not_lt.mpr hT)
 done:=by
  intro X hP hw hK hc i pins s σ H E I hf st hg
  subst hP hw hK
  obtain⟨xs,ys,hq1,hq2,hi⟩:=hg
  obtain⟨its1,r1,p1,z1⟩:=I.list hq1
  obtain⟨its2,r2,p2,z2⟩:=I.list hq2
  obtain⟨hz,hTI,hTO,h1,h2⟩:=st
  have W:=WalksT.zip2 (prog:=X.prog) (w:=X.w) (I.ok.hd hc) z TI TO i1 i2 a b D its1.toArray its2.toArray
  have l1:=r1.length
  have l2:=r2.length
  have e:i=min its1.toArray.size its2.toArray.size:=by simp only[List.size_toArray];omega
  subst e
  have sub:∀c∈[z,TO,i1,i2],c∈[z,TI,TO,i1,i2]:=fun c hc=>by simp at hc ⊢;rcases hc with rfl | rfl | rfl | rfl <;>simp
  exact W.done s _ _ ⟨hz,hTI,hTO,h1,h2,p1.isList,p2.isList⟩ fun h' tk kk=>⟨rfl,I.moved (ch:=[z,TO,i1,i2]) (fun c hc=>hf c (sub c hc)) kk⟩
 self:=fun _ _ _ _ _ st h=>wpAny_pyIter_zip st.1 h
noncomputable def Ite (K:PySem.W.Frag) (a:Addr):It:=
 ⟨fun i H=>∃xs x,SqL K H a xs∧xs[i]?=some x,
  fun i H v H'=>∃p,H p=none∧v=.ref p∧∃x,(∀xs,SqL K H a xs→xs[i]?=some x)∧H'=upd H p (.tup [.int i,x]),
  fun i H=>∃xs,SqL K H a xs∧xs.length=i⟩
theorem turn_enum {P:Program} {w:World} {K:PySem.W.Frag} {elts:List Expr} {k:Nat} {pos:Pos} (e it a:Addr) (hei:e≠it) (hle:a≠e) (hli:a≠it):
  Turn P w K (.Tuple elts k pos) (Ite K a) [e,it] e (fun i h=>(∃old,IsEnum h e it i old)∧h.IsListIter it a i) where
 mem:=by simp
 obj:=fun i h st c hc=>by
  obtain⟨⟨old,he⟩,⟨o1,e1,_,d1⟩⟩:=st
  simp only[List.mem_cons,List.not_mem_nil,or_false] at hc
  rcases hc with rfl | rfl
  ·exact⟨_,he,fun v q=>by cases q⟩
  ·exact⟨_,e1,fun v q=>by rw[d1] at q;cases q⟩
 keep:=fun i h h' st kp=>by
  obtain⟨⟨old,he⟩,h1⟩:=st
  exact⟨⟨old,kp e (by simp) _ he⟩,h1.at fun o q=>kp it (by simp) o q⟩
 item:=by
  intro X hP hw hK hc i pins s σ H E I hf st hg
  subst hP hw hK
  obtain⟨xs,x,hq1,hx⟩:=hg
  obtain⟨its1,r1,p1,z1⟩:=I.list hq1
  obtain⟨u,eu,ru⟩:=r1.get hx
  obtain⟨he,h1⟩:=st
  have W:=WalksT.enumerate (prog:=X.prog) (w:=X.w) (I.ok.hd hc) e it a hei hle hli its1.toArray
  have li:i<its1.toArray.size:=by
   have a1:=(List.getElem?_eq_some_iff.mp eu).1
   simp only[List.size_toArray]
   omega
  refine W.item i s _ _ li ⟨he,h1,p1.isList⟩ fun T vals h' tk hpt hT hI hm kk=>?_
  have I1:Inv X pins σ H {s with heap:=h',toks:=tk}:=I.moved (ch:=[e,it]) hf kk
  have fT:FpOk X pins H T:=I.fpOk hT (I.hok.fresh hT)
  refine⟨_,rfl,W.go elts k pos i T _ _ _ hm fun h2' st2 kk2=>?_⟩
  have I2:Inv X pins σ H {s with heap:=h2',toks:=tk}:=I1.moved (s:={s with heap:=h',toks:=tk}) (t':=tk) (ch:=[e,it]) hf kk2
  obtain⟨t,x',ex,rfl⟩:=hpt
  have ex':its1[i]?=some x':=by simpa using ex
  rw[eu] at ex';cases ex'
  have apT:=W.apart _ _ _ hm
  obtain⟨oT,eT,cT,nT,dT⟩:=hI
  have hI2:IsTup h2' T #[.int i t,u]:=⟨oT,kk2 _ _ apT eT,cT,nT,dT⟩
  have I3:Inv X pins σ (upd H T (.tup [.int i,x])) {s with heap:=h2',toks:=tk}:=
   I2.take fT (Nat.le_trans I.sz hT) ⟨by show 2≤sizeLine;decide,[.int i t,u],.cons ⟨t,rfl⟩ (.cons ru .nil),hI2⟩
  obtain⟨b1,b2,_⟩:=st2
  refine⟨.ref T,_,I3,rfl,⟨T,fT.1,rfl,x,fun xs' q=>?_,rfl⟩,⟨b1,b2⟩,fun c hc=>?_⟩
  ·rw[I.list_inj q hq1];exact hx
  ·rw[upd_ne (fun q=>?_)]
   ·exact(hf c hc).1
   ·subst q
    obtain⟨o,e,_⟩:∃o,s.heap.get? c=some o∧True:=by
     simp only[List.mem_cons,List.not_mem_nil,or_false] at hc
     obtain⟨old,he⟩:=he
     obtain⟨o1,e1,_⟩:=h1
     rcases hc with rfl | rfl
     ·exact⟨_,he,trivial⟩
     ·exact⟨_,e1,trivial⟩
    exact absurd (Heap.lt_size e) (Nat.not_lt.mpr hT)
 done:=by
  intro X hP hw hK hc i pins s σ H E I hf st hg
  subst hP hw hK
  obtain⟨xs,hq1,hi⟩:=hg
  obtain⟨its1,r1,p1,z1⟩:=I.list hq1
  obtain⟨he,h1⟩:=st
  have W:=WalksT.enumerate (prog:=X.prog) (w:=X.w) (I.ok.hd hc) e it a hei hle hli its1.toArray
  have l1:=r1.length
  have e:i=its1.toArray.size:=by simp only[List.size_toArray];omega
  subst e
  exact W.done s _ _ ⟨he,h1,p1.isList⟩ fun h' tk kk=>⟨rfl,I.moved (ch:=[_,it]) hf kk⟩
 self:=fun _ _ _ _ _ st h=>by
  obtain⟨⟨old,he⟩,_⟩:=st
  exact wpAny_pyIter_enum he h
section
variable {X : Cx} {elts : List Expr} {kk : Nat} {tpos : Pos}
noncomputable def iZip (K:PySem.W.Frag) (ta:TA):TI:=fun σ H R=>ta σ H fun vs H1=>∃a b,vs=[.ref a,.ref b]∧(∃xs,SqL K H1 a xs)∧(∃ys,SqL K H1 b ys)∧R (Itz K a b) H1
theorem pi_zip {a b:Expr} {ta:TA} {p pos:Pos} (hg:Gl X "zip") (hm:X.mg "zip"=none) (ha:PA X [a,b] ta) (hs:starEach [a,b] X.env=[(false,eval a X.env),(false,eval b X.env)]:=by rfl) (hs2:starEach [b] X.env=[(false,eval b X.env)]:=by rfl):
  PI X (.Tuple elts kk tpos) (.Call (.Name "zip" p) [a,b] [] pos) (iZip X.K ta):=by
 intro pins s σ H R I h
 refine Call_ (ld_blt I hg hm rfl (PyProof.Rows.callWith_type1 (thn (ha pos pins s σ H _ I h) fun us s1 ⟨vs,H1,I1,r1,q1⟩=>?_) (by rw[hs,hs2]) (by rw[hs2];rfl)))
 obtain⟨a,b,e,⟨xs,q1⟩,⟨ys,q2⟩,q⟩:=q1
 subst e
 obtain⟨u,u',rfl,ra,rb⟩:=vals2 r1
 cases ra
 cases rb
 obtain⟨its1,v1,p1,z1⟩:=I1.list q1
 obtain⟨its2,v2,p2,z2⟩:=I1.list q2
 refine call_zip_2 p1.isList p2.isList fun h' b1 b2 b3 b4 b5 b6 kp=>?_
 refine wpAny_pyIter_zip b1 ?_
 have I2:Inv X pins σ H1 {s1 with heap:=h'}:=I1.kept (t':=s1.toks) kp
 have la:a<s1.heap.objs.size:=by obtain⟨o,e,_⟩:=p1.isList;exact Heap.lt_size e
 have lb:b<s1.heap.objs.size:=by obtain⟨o,e,_⟩:=p2.isList;exact Heap.lt_size e
 refine⟨s1.heap.objs.size+4,[s1.heap.objs.size+4,s1.heap.objs.size+2,s1.heap.objs.size+3,s1.heap.objs.size,s1.heap.objs.size+1],_,_,H1,rfl,I2,
  turn_zip (s1.heap.objs.size+4) (s1.heap.objs.size+2) (s1.heap.objs.size+3) s1.heap.objs.size (s1.heap.objs.size+1) a b (by constructor <;>(first | exact Nat.ne_of_lt (by omega) | exact Nat.ne_of_gt (by omega) | exact Nat.ne_of_lt la | exact Nat.ne_of_lt lb | exact Nat.ne_of_lt (Nat.lt_of_lt_of_le la (Nat.le_add_right _ _)) | exact Nat.ne_of_lt (Nat.lt_of_lt_of_le lb (Nat.le_add_right _ _)))),⟨b1,b2,⟨_,_,b3⟩,b4,b5⟩,fun c hc=>?_,q⟩
 have hge:s1.heap.objs.size≤c:=by
  simp only[List.mem_cons,List.not_mem_nil,or_false] at hc
  rcases hc with rfl | rfl | rfl | rfl | rfl <;>omega
 exact I1.fpOk hge (I1.hok.fresh hge)
noncomputable def iEnum (K:PySem.W.Frag) (ta:TA):TI:=fun σ H R=>ta σ H fun vs H1=>∃a,vs=[.ref a]∧(∃xs,SqL K H1 a xs)∧R (Ite K a) H1
theorem pi_enumerate {a:Expr} {ta:TA} {p pos:Pos} (hg:Gl X "enumerate") (hm:X.mg "enumerate"=none) (ha:PA X [a] ta) (hs:starEach [a] X.env=[(false,eval a X.env)]:=by rfl):
  PI X (.Tuple elts kk tpos) (.Call (.Name "enumerate" p) [a] [] pos) (iEnum X.K ta):=by
 intro pins s σ H R I h
 refine Call_ (ld_blt I hg hm rfl (PyProof.Rows.callWith_type1 (thn (ha pos pins s σ H _ I h) fun us s1 ⟨vs,H1,I1,r1,q1⟩=>?_) hs rfl))
 obtain⟨a,e,⟨xs,q1⟩,q⟩:=q1
 subst e
 obtain⟨u,rfl,ra⟩:=vals1 r1
 cases ra
 obtain⟨its1,v1,p1,z1⟩:=I1.list q1
 refine call_enumerate_list p1.isList fun h' b1 b2 b3 kp=>?_
 refine wpAny_pyIter_enum b1 ?_
 have I2:Inv X pins σ H1 {s1 with heap:=h'}:=I1.kept (t':=s1.toks) kp
 have la:a<s1.heap.objs.size:=by obtain⟨o,e,_⟩:=p1.isList;exact Heap.lt_size e
 refine⟨s1.heap.objs.size+1,[s1.heap.objs.size+1,s1.heap.objs.size],_,_,H1,rfl,I2,
  turn_enum (s1.heap.objs.size+1) s1.heap.objs.size a (Nat.ne_of_gt (Nat.lt_succ_self _)) (Nat.ne_of_lt (Nat.lt_succ_of_lt la)) (Nat.ne_of_lt la),⟨⟨_,b1⟩,b2⟩,fun c hc=>?_,q⟩
 have hge:s1.heap.objs.size≤c:=by
  simp only[List.mem_cons,List.not_mem_nil,or_false] at hc
  rcases hc with rfl | rfl <;>omega
 exact I1.fpOk hge (I1.hok.fresh hge)
end
theorem src_zip {K:PySem.W.Frag} {a b:Addr} {xs ys:List V} {Ok:Hp→Prop} (h1:∀H,Ok H→SqL K H a xs) (h2:∀H,Ok H→SqL K H b ys):
  Src (Itz K a b) Ok (min xs.length ys.length) (fun i v H H3=>∃p x y,H p=none∧v=.ref p∧xs[i]?=some x∧ys[i]?=some y∧H3=upd H p (.tup [x,y])) where
 go:=fun i H hi ok=>⟨xs,ys,xs[i]'(by omega),ys[i]'(by omega),h1 H ok,h2 H ok,by simp,by simp⟩
 yld:=fun i H x H3 hi ok ⟨p,n,e,u,v,e1,e2,e3⟩=>⟨p,u,v,n,e,e1 xs (h1 H ok),e2 ys (h2 H ok),e3⟩
 stop:=fun H ok=>⟨xs,ys,h1 H ok,h2 H ok,rfl⟩
theorem src_enum {K:PySem.W.Frag} {a:Addr} {xs:List V} {Ok:Hp→Prop} (h1:∀H,Ok H→SqL K H a xs):
  Src (Ite K a) Ok xs.length (fun i v H H3=>∃p x,H p=none∧v=.ref p∧xs[i]?=some x∧H3=upd H p (.tup [.int i,x])) where
 go:=fun i H hi ok=>⟨xs,xs[i],h1 H ok,by simp [hi]⟩
 yld:=fun i H x H3 hi ok ⟨p,n,e,u,e1,e3⟩=>⟨p,u,n,e,e1 xs (h1 H ok),e3⟩
 stop:=fun H ok=>⟨xs,h1 H ok,rfl⟩
end L2
namespace L2
open PySem PySem.Spec PyProof.Rows
inductive Dat where
 | non | bl (b:Bool) | int (i:Int) | str (x:Str) | tup (l:List Dat) | lst (l:List Dat)
mutual
noncomputable def Rep (H:Hp):Dat→V→Prop
 | .non,v=>v=.non
 | .bl b,v=>v=.bl b
 | .int i,v=>v=.int i
 | .str x,v=>v=.str x
 | .tup ds,v=>∃p vs,v=.ref p∧H p=some (.tup vs)∧RepL H ds vs
 | .lst ds,v=>∃p vs,v=.ref p∧H p=some (.lst vs)∧RepL H ds vs
noncomputable def RepL (H:Hp):List Dat→List V→Prop
 | [],vs=>vs=[]
 | d::ds,vs=>∃v r,vs=v::r∧Rep H d v∧RepL H ds r
end
mutual
theorem Rep.mono {H H':Hp} (s:Same H H'):∀{d:Dat} {v:V},Rep H d v→Rep H' d v
 | .non,_,h=>by rw[Rep] at *;exact h
 | .bl _,_,h=>by rw[Rep] at *;exact h
 | .int _,_,h=>by rw[Rep] at *;exact h
 | .str _,_,h=>by rw[Rep] at *;exact h
 | .tup _,_,h=>by
  rw[Rep] at *
  obtain⟨p,vs,e,hp,r⟩:=h
  exact⟨p,vs,e,s _ _ hp,RepL.mono s r⟩
 | .lst _,_,h=>by
  rw[Rep] at *
  obtain⟨p,vs,e,hp,r⟩:=h
  exact⟨p,vs,e,s _ _ hp,RepL.mono s r⟩
theorem RepL.mono {H H':Hp} (s:Same H H'):∀{ds:List Dat} {vs:List V},RepL H ds vs→RepL H' ds vs
 | [],_,h=>by rw[RepL] at *;exact h
 | _::_,_,h=>by
  rw[RepL] at *
  obtain⟨v,r,e,h1,h2⟩:=h
  exact⟨v,r,e,Rep.mono s h1,RepL.mono s h2⟩
end
theorem RepL.length {H:Hp}:∀{ds:List Dat} {vs:List V},RepL H ds vs→ds.length=vs.length
 | [],_,h=>by rw[RepL] at h;subst h;rfl
 | _::_,_,h=>by
  rw[RepL] at h
  obtain⟨v,r,rfl,_,h2⟩:=h
  simp [h2.length]
theorem RepL.get {H:Hp}:∀{ds:List Dat} {vs:List V} {i:Nat} {v:V},RepL H ds vs→vs[i]?=some v→∃d,ds[i]?=some d∧Rep H d v
 | [],_,i,v,h,e=>by rw[RepL] at h;subst h;simp at e
 | d::ds,_,i,v,h,e=>by
  rw[RepL] at h
  obtain⟨v',r,rfl,h1,h2⟩:=h
  cases i with
  | zero=>simp at e;subst e;exact⟨d,rfl,h1⟩
  | succ i=>simp at e;obtain⟨d',e',r'⟩:=h2.get e;exact⟨d',by simpa using e',r'⟩
theorem RepL.at {H:Hp}:∀{ds:List Dat} {vs:List V} {i:Nat} {d:Dat},RepL H ds vs→ds[i]?=some d→∃v,vs[i]?=some v∧Rep H d v
 | [],_,i,v,h,e=>by simp at e
 | d::ds,_,i,d',h,e=>by
  rw[RepL] at h
  obtain⟨v',r,rfl,h1,h2⟩:=h
  cases i with
  | zero=>simp at e;subst e;exact⟨v',rfl,h1⟩
  | succ i=>simp at e;obtain⟨v,e',r'⟩:=h2.at e;exact⟨v,by simpa using e',r'⟩
theorem RepL.of {H:Hp}:∀{ds:List Dat} {vs:List V},ds.length=vs.length→(∀(i:Nat) d v,ds[i]?=some d→vs[i]?=some v→Rep H d v)→RepL H ds vs
 | [],[],_,_=>by rw[RepL]
 | [],_::_,h,_=>by simp at h
 | _::_,[],h,_=>by simp at h
 | d::ds,v::vs,h,k=>by
  rw[RepL]
  exact⟨v,vs,rfl,k 0 d v rfl rfl,RepL.of (by simpa using h) fun i d' v' e1 e2=>k (i+1) d' v' (by simpa using e1) (by simpa using e2)⟩
theorem RepL.append {H:Hp}:∀{as bs:List Dat} {us vs:List V},RepL H as us→RepL H bs vs→RepL H (as++bs) (us++vs)
 | [],_,_,_,h,k=>by rw[RepL] at h;subst h;exact k
 | _::_,_,_,_,h,k=>by
  rw[RepL] at h
  obtain⟨v,r,rfl,h1,h2⟩:=h
  show RepL H (_::(_++_)) (_::(_++_))
  rw[RepL]
  exact⟨_,_,rfl,h1,h2.append k⟩
theorem RepL.ints {H:Hp}:∀(ns:List Int),RepL H (ns.map Dat.int) (ns.map V.int)
 | []=>by simp only[List.map_nil];rw[RepL]
 | n::ns=>by
  simp only[List.map_cons]
  rw[RepL]
  exact⟨_,_,rfl,by rw[Rep],RepL.ints ns⟩
noncomputable def depth:Dat→Nat
 | .tup l=>1+dL l
 | .lst l=>1+dL l
 | _=>0
where dL:List Dat→Nat
 | []=>0
 | d::ds=>max (depth d) (dL ds)
theorem depth_mem {d:Dat}:∀{ds:List Dat},d∈ds→depth d≤depth.dL ds
 | e::ds,h=>by
  rw[depth.dL]
  rcases List.mem_cons.mp h with rfl | h
  ·exact Nat.le_max_left _ _
  ·exact Nat.le_trans (depth_mem h) (Nat.le_max_right _ _)
section
variable {X : Cx} {pins : List (Addr × Obj)} {σ : St} {H : Hp} {s : Shared}
theorem all_true (n:Nat):((List.range n).all fun _=>true)=true:=by simp
theorem eqAt_D (I:Inv X pins σ H s):∀(n:Nat) (d:Dat),depth d≤n→∀(v v':V) (u u':Value) (A:Around),Rep H d v→Rep H d v'→RelV v u→RelV v' u'→A.units+n<cLine→SeqAt.EqAt A s u u' true:=by
 intro n
 induction n with
 | zero=>
  intro d hd v v' u u' A h h' r r' hu
  cases d with
  | non=>rw[Rep] at h h';subst h h';cases r;cases r';exact SeqAt.EqAt.same _
  | bl b=>rw[Rep] at h h';subst h h';cases r;cases r';exact SeqAt.EqAt.same _
  | int i=>rw[Rep] at h h';subst h h';obtain⟨t,rfl⟩:=r;obtain⟨t',rfl⟩:=r';have:=SeqAt.EqAt.int_int (A:=A) (s:=s) i t i t';simpa using this
  | str x=>rw[Rep] at h h';subst h h';obtain⟨t,rfl⟩:=r;obtain⟨t',rfl⟩:=r';have:=SeqAt.EqAt.str_str (A:=A) (s:=s) x t x t';simpa using this
  | tup l=>rw[depth] at hd;omega
  | lst l=>rw[depth] at hd;omega
 | succ n ih=>
  intro d hd v v' u u' A h h' r r' hu
  cases d with
  | non=>rw[Rep] at h h';subst h h';cases r;cases r';exact SeqAt.EqAt.same _
  | bl b=>rw[Rep] at h h';subst h h';cases r;cases r';exact SeqAt.EqAt.same _
  | int i=>rw[Rep] at h h';subst h h';obtain⟨t,rfl⟩:=r;obtain⟨t',rfl⟩:=r';have:=SeqAt.EqAt.int_int (A:=A) (s:=s) i t i t';simpa using this
  | str x=>rw[Rep] at h h';subst h h';obtain⟨t,rfl⟩:=r;obtain⟨t',rfl⟩:=r';have:=SeqAt.EqAt.str_str (A:=A) (s:=s) x t x t';simpa using this
  | tup l=>
   rw[Rep] at h h'
   obtain⟨p,vs,rfl,hp,rl⟩:=h
   obtain⟨p',vs',rfl,hp',rl'⟩:=h'
   cases r
   cases r'
   rw[depth] at hd
   by_cases hpp:p=p'
   ·subst hpp;exact SeqAt.EqAt.same _
   obtain⟨its,rv,pl,hz⟩:=I.tuple (SqT.of hp)
   obtain⟨its',rv',pl',hz'⟩:=I.tuple (SqT.of hp')
   have e1:=rl.length
   have e2:=rl'.length
   have l1:=rv.length
   have l2:=rv'.length
   have R:=SeqAt.RcAt.tuples (A:=A) (e:=fun _=>true) pl pl' (by omega) (fun j h1 h2=>?_)
   ·simp only[List.size_toArray,all_true,Bool.true_and] at R
    rw[show(its.length==its'.length)=true by simp;omega] at R
    exact .of_refs hpp R
   ·rw[List.size_toArray] at h1 h2
    obtain⟨d,ed⟩:∃d,l[j]?=some d:=⟨l[j]'(by omega),by simp⟩
    obtain⟨v1,f1,q1⟩:=rl.at ed
    obtain⟨v2,f2,q2⟩:=rl'.at ed
    obtain⟨u1,g1,w1⟩:=rv.get f1
    obtain⟨u2,g2,w2⟩:=rv'.get f2
    have a1:its.toArray[j]=u1:=by simpa [List.getElem?_eq_getElem h1] using g1
    have a2:its'.toArray[j]=u2:=by simpa [List.getElem?_eq_getElem h2] using g2
    rw[a1,a2]
    have:=depth_mem (List.mem_of_getElem? ed)
    exact ih d (by omega) v1 v2 u1 u2 A.in1 q1 q2 w1 w2 (by show A.units+1+n<cLine;omega)
  | lst l=>
   rw[Rep] at h h'
   obtain⟨p,vs,rfl,hp,rl⟩:=h
   obtain⟨p',vs',rfl,hp',rl'⟩:=h'
   cases r
   cases r'
   rw[depth] at hd
   by_cases hpp:p=p'
   ·subst hpp;exact SeqAt.EqAt.same _
   obtain⟨its,rv,pl,hz⟩:=I.list (SqL.of hp)
   obtain⟨its',rv',pl',hz'⟩:=I.list (SqL.of hp')
   have e1:=rl.length
   have e2:=rl'.length
   have l1:=rv.length
   have l2:=rv'.length
   have R:=SeqAt.RcAt.lists (A:=A) (e:=fun _=>true) pl.isList pl'.isList (by simp only[List.size_toArray];omega) (by omega) (fun j h1 h2=>?_)
   ·rw[all_true] at R
    exact .of_refs hpp R
   ·rw[List.size_toArray] at h1 h2
    obtain⟨d,ed⟩:∃d,l[j]?=some d:=⟨l[j]'(by omega),by simp⟩
    obtain⟨v1,f1,q1⟩:=rl.at ed
    obtain⟨v2,f2,q2⟩:=rl'.at ed
    obtain⟨u1,g1,w1⟩:=rv.get f1
    obtain⟨u2,g2,w2⟩:=rv'.get f2
    have a1:its.toArray[j]=u1:=by simpa [List.getElem?_eq_getElem h1] using g1
    have a2:its'.toArray[j]=u2:=by simpa [List.getElem?_eq_getElem h2] using g2
    rw[a1,a2]
    have:=depth_mem (List.mem_of_getElem? ed)
    exact ih d (by omega) v1 v2 u1 u2 A.in1 q1 q2 w1 w2 (by show A.units+1+n<cLine;omega)
end
section
variable {X : Cx}
noncomputable def rEqD (b:Bool):R2:=fun x y H Q=>∃d,Rep H d x∧Rep H d y∧(∃p,x=.ref p)∧depth d≤40∧Q (.bl b) H
theorem seqs_D {pins:List (Addr×Obj)} {σ:St} {H:Hp} {s:Shared} {d:Dat} {p p':Addr} (I:Inv X pins σ H s) (hu:X.A.units+64<cLine) (h:Rep H d (.ref p)) (h':Rep H d (.ref p')) (hd:depth d≤40):
  (∃its its':List Value,IsTup s.heap p its.toArray∧IsTup s.heap p' its'.toArray∧its.length=its'.length∧∀j (h1:j<its.toArray.size) (h2:j<its'.toArray.size),SeqAt.EqAt X.A.in1 s its.toArray[j] its'.toArray[j] true)∨
  (∃its its':List Value,s.heap.IsList p its.toArray∧s.heap.IsList p' its'.toArray∧its.length=its'.length∧∀j (h1:j<its.toArray.size) (h2:j<its'.toArray.size),SeqAt.EqAt X.A.in1 s its.toArray[j] its'.toArray[j] true):=by
 cases d with
 | non=>rw[Rep] at h;cases h
 | bl b=>rw[Rep] at h;cases h
 | int i=>rw[Rep] at h;cases h
 | str x=>rw[Rep] at h;cases h
 | tup l=>
  left
  rw[Rep] at h h'
  obtain⟨_,vs,e,hp,rl⟩:=h
  cases e
  obtain⟨_,vs',e,hp',rl'⟩:=h'
  cases e
  rw[depth] at hd
  obtain⟨its,rv,pl,hz⟩:=I.tuple (SqT.of hp)
  obtain⟨its',rv',pl',hz'⟩:=I.tuple (SqT.of hp')
  have e1:=rl.length
  have e2:=rl'.length
  have l1:=rv.length
  have l2:=rv'.length
  refine⟨its,its',pl,pl',by omega,fun j h1 h2=>?_⟩
  rw[List.size_toArray] at h1 h2
  obtain⟨d,ed⟩:∃d,l[j]?=some d:=⟨l[j]'(by omega),by simp⟩
  obtain⟨v1,f1,q1⟩:=rl.at ed
  obtain⟨v2,f2,q2⟩:=rl'.at ed
  obtain⟨u1,g1,w1⟩:=rv.get f1
  obtain⟨u2,g2,w2⟩:=rv'.get f2
  have a1:its.toArray[j]=u1:=by simpa [List.getElem?_eq_getElem h1] using g1
  have a2:its'.toArray[j]=u2:=by simpa [List.getElem?_eq_getElem h2] using g2
  rw[a1,a2]
  have:=depth_mem (List.mem_of_getElem? ed)
  exact eqAt_D I 40 d (by omega) v1 v2 u1 u2 X.A.in1 q1 q2 w1 w2 (by show X.A.units+1+40<cLine;omega)
 | lst l=>
  right
  rw[Rep] at h h'
  obtain⟨_,vs,e,hp,rl⟩:=h
  cases e
  obtain⟨_,vs',e,hp',rl'⟩:=h'
  cases e
  rw[depth] at hd
  obtain⟨its,rv,pl,hz⟩:=I.list (SqL.of hp)
  obtain⟨its',rv',pl',hz'⟩:=I.list (SqL.of hp')
  have e1:=rl.length
  have e2:=rl'.length
  have l1:=rv.length
  have l2:=rv'.length
  refine⟨its,its',pl.isList,pl'.isList,by omega,fun j h1 h2=>?_⟩
  rw[List.size_toArray] at h1 h2
  obtain⟨d,ed⟩:∃d,l[j]?=some d:=⟨l[j]'(by omega),by simp⟩
  obtain⟨v1,f1,q1⟩:=rl.at ed
  obtain⟨v2,f2,q2⟩:=rl'.at ed
  obtain⟨u1,g1,w1⟩:=rv.get f1
  obtain⟨u2,g2,w2⟩:=rv'.get f2
  have a1:its.toArray[j]=u1:=by simpa [List.getElem?_eq_getElem h1] using g1
  have a2:its'.toArray[j]=u2:=by simpa [List.getElem?_eq_getElem h2] using g2
  rw[a1,a2]
  have:=depth_mem (List.mem_of_getElem? ed)
  exact eqAt_D I 40 d (by omega) v1 v2 u1 u2 X.A.in1 q1 q2 w1 w2 (by show X.A.units+1+40<cLine;omega)
theorem op_eqD (hu:X.A.units+64<cLine):OpR X (compareOp .Eq) (rEqD true):=by
 intro pins s σ H x y v u Q I rx ry h
 obtain⟨d,h1,h2,⟨p,rfl⟩,hd,q⟩:=h
 obtain⟨p',rfl⟩:∃p',y=.ref p':=by
  cases d with
  | non=>rw[Rep] at h1;cases h1
  | bl b=>rw[Rep] at h1;cases h1
  | int i=>rw[Rep] at h1;cases h1
  | str x=>rw[Rep] at h1;cases h1
  | tup l=>rw[Rep] at h2;obtain⟨p',_,e,_⟩:=h2;exact⟨p',e⟩
  | lst l=>rw[Rep] at h2;obtain⟨p',_,e,_⟩:=h2;exact⟨p',e⟩
 cases rx
 cases ry
 rcases seqs_D I hu h1 h2 hd with ⟨its,its',a,b,e,k⟩ | ⟨its,its',a,b,e,k⟩
 ·refine SeqAt.eq_tupleAt (e:=fun _=>true) a b (by omega) k ⟨.bl true,H,I,?_,q⟩
  show Value.bool _=Value.bool true
  rw[all_true,List.size_toArray,List.size_toArray,e]
  simp
 ·refine SeqAt.eq_listAt (e:=fun _=>true) a b (by simp only[List.size_toArray];exact e) (by omega) k ⟨.bl true,H,I,?_,q⟩
  show Value.bool _=Value.bool true
  rw[all_true]
theorem op_neD (hu:X.A.units+64<cLine):OpR X (compareOp .NotEq) (rEqD false):=by
 intro pins s σ H x y v u Q I rx ry h
 obtain⟨d,h1,h2,⟨p,rfl⟩,hd,q⟩:=h
 obtain⟨p',rfl⟩:∃p',y=.ref p':=by
  cases d with
  | non=>rw[Rep] at h1;cases h1
  | bl b=>rw[Rep] at h1;cases h1
  | int i=>rw[Rep] at h1;cases h1
  | str x=>rw[Rep] at h1;cases h1
  | tup l=>rw[Rep] at h2;obtain⟨p',_,e,_⟩:=h2;exact⟨p',e⟩
  | lst l=>rw[Rep] at h2;obtain⟨p',_,e,_⟩:=h2;exact⟨p',e⟩
 cases rx
 cases ry
 rcases seqs_D I hu h1 h2 hd with ⟨its,its',a,b,e,k⟩ | ⟨its,its',a,b,e,k⟩
 ·refine SeqAt.RcNeAt.tuples (A:=X.A) (e:=fun _=>true) a b (by omega) k X.prog X.w X.xe _ ⟨.bl false,H,I,?_,q⟩
  show Value.bool _=Value.bool false
  rw[all_true,List.size_toArray,List.size_toArray,e]
  simp
 ·refine SeqAt.RcNeAt.lists (A:=X.A) (e:=fun _=>true) a b (by simp only[List.size_toArray];exact e) (by omega) k X.prog X.w X.xe _ ⟨.bl false,H,I,?_,q⟩
  show Value.bool _=Value.bool false
  rw[all_true]
  rfl
noncomputable def rNeT:R2:=fun x y H Q=>∃p q xs ys,x=.ref p∧y=.ref q∧H p=some (.tup xs)∧H q=some (.tup ys)∧xs.all flatV=true∧ys.all flatV=true∧Q (.bl (!eqL xs ys)) H
end
end L2
namespace Nm
noncomputable def ins (x:Int):List Int→List Int
 | []=>[x]
 | y::r=>if x≤y then x::y::r else y::ins x r
noncomputable def srt:List Int→List Int
 | []=>[]
 | x::r=>ins x (srt r)
theorem ins_perm (x:Int):∀l,(ins x l).Perm (x::l)
 | []=>.refl _
 | y::r=>by
  unfold ins
  split
  ·exact .refl _
  ·exact((ins_perm x r).cons y).trans (.swap ..)
theorem srt_perm:∀l,(srt l).Perm l
 | []=>.refl _
 | x::r=>(ins_perm x _).trans ((srt_perm r).cons x)
theorem ins_ord (x:Int):∀l:List Int,l.Pairwise (·≤·)→(ins x l).Pairwise (·≤·)
 | [],_=>by unfold ins;simp
 | y::r,h=>by
  unfold ins
  rw[List.pairwise_cons] at h
  split
  ·rename_i c
   rw[List.pairwise_cons,List.pairwise_cons]
   refine⟨fun z hz=>?_,h.1,h.2⟩
   rcases List.mem_cons.mp hz with rfl | hz
   ·exact c
   ·have:=h.1 z hz;omega
  ·rename_i c
   rw[List.pairwise_cons]
   refine⟨fun z hz=>?_,ins_ord x r h.2⟩
   rcases List.mem_cons.mp ((ins_perm x r).mem_iff.mp hz) with rfl | hz
   ·omega
   ·exact h.1 z hz
theorem srt_ord:∀l:List Int,(srt l).Pairwise (·≤·)
 | []=>by unfold srt;simp
 | x::r=>ins_ord x _ (srt_ord r)
theorem srt_length (l:List Int):(srt l).length=l.length:=(srt_perm l).length_eq
theorem ord_one:∀{a b:List Int},a.Perm b→a.Pairwise (·≤·)→b.Pairwise (·≤·)→a=b
 | [],b,p,_,_=>by simpa using p.symm.eq_nil
 | x::a,[],p,_,_=>by simpa using p.eq_nil
 | x::a,y::b,p,ha,hb=>by
  rw[List.pairwise_cons] at ha hb
  have e:x=y:=by
   have h1:y∈x::a:=p.mem_iff.mpr List.mem_cons_self
   have h2:x∈y::b:=p.mem_iff.mp List.mem_cons_self
   rcases List.mem_cons.mp h1 with h1 | h1
   ·exact h1.symm
   ·rcases List.mem_cons.mp h2 with h2 | h2
    ·exact h2
    ·have:=ha.1 y h1
     have:=hb.1 x h2
     omega
  subst e
  rw[ord_one ((List.perm_cons x).mp p) ha.2 hb.2]
theorem srt_one {a b:List Int} (p:a.Perm b) (o:a.Pairwise (·≤·)):a=srt b:=ord_one (p.trans (srt_perm b).symm) o (srt_ord b)
theorem srt_mem {a:Int} {l:List Int}:a∈srt l↔a∈l:=(srt_perm l).mem_iff
end Nm
namespace L2
open PySem PySem.Spec PyProof.Rows PySem.W
section
variable {X : Cx}
theorem ints_items {us:List Value} {ns:List Int} (h:IntsAre us ns):∃xs,us.toArray=intItems xs∧preSum (numAt xs) xs.size=ns.sum:=by
 obtain⟨xs,hx⟩:=h.allInts.items
 refine⟨xs,hx,?_⟩
 have e1:ns=xs.toList.map (·.1):=by
  rw[←nums_intItems,←hx]
  exact h.numsOf.symm
 rw[preSum_eq,List.take_of_length_le (by simp),e1]
theorem call_sum_l (hc:X.calm=true):CallR X (.builtin "sum") (fun xs H Q=>∃p ns,xs=[.ref p]∧SqL X.K H p (List.map V.int ns)∧Q (.int ns.sum) H):=by
 intro pins s σ H xs us Q I r h
 obtain⟨p,ns,rfl,hq,q⟩:=h
 obtain⟨u,rfl,rx⟩:=vals1 r
 cases rx
 obtain⟨its,rv,pl,hz⟩:=I.list hq
 obtain⟨ys,e1,e2⟩:=ints_items (intsAre_of rv)
 have hl:=pl.isList
 rw[e1] at hl
 refine sum_intListG (I.ok.hd hc) hl fun h' tk t' hk=>⟨.int ns.sum,H,I.kept (t':=tk) hk,⟨t',?_⟩,q⟩
 rw[e2]
theorem vals_ints_of {us:List Value} {ns:List Int} (h:IntsAre us ns):Vals (ns.map V.int) us:=by
 induction h with
 | nil=>exact .nil
 | cons n t _ ih=>exact .cons ⟨t,rfl⟩ ih
theorem call_sorted_l:CallR X (.builtin "sorted") (fun xs H Q=>∃p ns,xs=[.ref p]∧SqL X.K H p (List.map V.int ns)∧ns.length<64∧∀l,H l=none→Q (.ref l) (upd H l (.lst (List.map V.int (Nm.srt ns))))):=by
 intro pins s σ H xs us Q I r h
 obtain⟨p,ns,rfl,hq,hn,q⟩:=h
 obtain⟨u,rfl,rx⟩:=vals1 r
 cases rx
 obtain⟨its,rv,pl,hz⟩:=I.list hq
 have hl:=rv.length
 rw[List.length_map] at hl
 refine sorted_ints pl.isList (intsAre_of rv) (by omega) fun out ns' a1 a2 a3=>?_
 obtain rfl:=Nm.srt_one a2 a3
 obtain⟨e,he⟩:=sortedAll_at s.heap its out
 have fr:=I.hok.fresh (a:=s.heap.objs.size+1) (Nat.le_succ _)
 refine⟨.ref (s.heap.objs.size+1),_,I.laid (t':=s.toks) (fun _ _=>sortedAll_old) (Nat.le_succ _) (o:=.lst (List.map V.int (Nm.srt ns))) ⟨?_,out.toList,e,vals_ints_of a1,?_⟩,rfl,q _ fr⟩
 ·rw[List.length_map,Nm.srt_length,sizeLine_eq];omega
 ·exact he
noncomputable def keysI (kvs:List (Key×V)):List Int:=kvs.map fun p=>match p.1 with | .inl i=>i | .inr _=>0
noncomputable def allI (kvs:List (Key×V)):Prop:=∀p∈kvs,∃i,p.1=Sum.inl i
theorem call_sorted_d (hc:X.calm=true):CallR X (.builtin "sorted") (fun xs H Q=>∃d kvs,xs=[.ref d]∧Rd H d (.dK kvs)∧allI kvs∧kvs.length<64∧∀l,H l=none→Q (.ref l) (upd H l (.lst (List.map V.int (Nm.srt (keysI kvs)))))):=by
 intro pins s σ H xs us Q I r h
 obtain⟨d,kvs,rfl,hd,hall,hn,q⟩:=h
 obtain⟨u,rfl,rx⟩:=vals1 r
 cases rx
 obtain⟨hz,lo,vs,kv,dd⟩:=dk_rd I.hok hd
 have hlen:kvs.length=vs.length:=Paired.length kv
 obtain⟨ep,hat⟩:=dd.dictAt
 refine Calls.call_function_entry kind_sorted plain_sorted entry_sorted (args_sorted1 _) ?_
 unfold Builtin.«sorted»
 refine wpAny_bind (m:=checkCount "sorted" 1 1 _) (wpAny_pure ?_)
 refine wpAny_bind (kdu_collect (A:=X.A.in1) (kdl_dict (kvs:=vs) (ep:=ep) lo) (I.ok.hd hc) hat (by rw[←hlen,sizeLine_eq];omega) fun h' tk acc hk hacc=>?_)
 have hl:acc.toList.length=vs.length:=by rw[Array.length_toList];exact hacc.1
 have hI:IntsAre acc.toList (keysI kvs):=by
  have all:∀(j:Nat) v,acc.toList[j]?=some v→∃i t,v=Value.int i t∧(keysI kvs)[j]?=some i:=fun j v e=>by
   obtain⟨k,x,hx,hk⟩:=hacc.2 j v (by rw[←Array.getElem?_toList];exact e)
   obtain⟨p,e1,e2⟩:∃p,kvs[j]?=some p∧p.1=k:=by
    have:∀{as:List (Key×V)} {bs:List (Key×Value)} (j:Nat) {b},KV as bs→bs[j]?=some b→∃a,as[j]?=some a∧a.1=b.1:=by
     intro as bs j b r
     induction r generalizing j with
     | nil=>intro e;simp at e
     | cons r1 r2 ih=>
      intro e
      cases j with
      | zero=>simp at e;subst e;exact⟨_,rfl,r1.1⟩
      | succ j=>simp at e;obtain⟨a,e1,e2⟩:=ih j e;exact⟨a,by simpa using e1,e2⟩
    obtain⟨a,e1,e2⟩:=this j kv hx
    exact⟨a,e1,e2⟩
   obtain⟨i,hi⟩:=hall p (List.mem_of_getElem? e1)
   rw[←e2,hi] at hk
   have hk:keyIs (.inl i) v=true:=hk
   rcases keyIs_shape hk with ⟨i',t,e3,e4⟩ | ⟨x',t,e3,_⟩
   ·cases e3
    refine⟨i,t,e4,?_⟩
    unfold keysI
    rw[List.getElem?_map,e1]
    simp [hi]
   ·cases e3
  have go:∀(us:List Value) (ns:List Int),us.length=ns.length→(∀(j:Nat) v,us[j]?=some v→∃i t,v=Value.int i t∧ns[j]?=some i)→IntsAre us ns:=by
   intro us
   induction us with
   | nil=>intro ns hl _;cases ns with | nil=>exact .nil | cons _ _=>simp at hl
   | cons u us ih=>
    intro ns hl k
    cases ns with
    | nil=>simp at hl
    | cons n ns=>
     obtain⟨i,t,rfl,e⟩:=k 0 u rfl
     simp at e
     subst e
     exact .cons n t (ih ns (by simpa using hl) fun j v e=>by
      obtain⟨i,t,e1,e2⟩:=k (j+1) v (by simpa using e)
      exact⟨i,t,e1,by simpa using e2⟩)
  refine go _ _ ?_ all
  unfold keysI
  rw[List.length_map,hl,hlen]
 refine wpAny_bind (wpAny_newList ?_ (by rw[hl,←hlen,sizeLine_eq];omega))
 have hoL:(h'.push (seqObj "list" acc.toList.toArray 0)).get? h'.objs.size=some (seqObj "list" acc.toList.toArray 0):=Heap.get?_push_size _ rfl
 have I1:Inv X pins σ H {s with heap:=h',toks:=tk}:=I.kept (t':=tk) hk
 refine wpAny_bind (wpAny_holding (wpAny_call_entry slot_list_sort ⟨_,hoL,rfl⟩ entry_list_sort (list_sort_tree hoL hI (by omega) fun out ns' a1 a2 a3=>⟨_,rfl,?_⟩) (args_list_sort _)))
 obtain rfl:=Nm.srt_one a2 a3
 obtain⟨e,he⟩:=sortedHeap_at (out:=out) hoL
 have fr:=I1.hok.fresh (a:=h'.objs.size) (Nat.le_refl _)
 refine wpAny_pure ⟨_,rfl,.ref h'.objs.size,_,I1.laid (t':=tk) (fun b o eb=>?_) (Nat.le_refl _) (o:=.lst (List.map V.int (Nm.srt (keysI kvs)))) ⟨?_,out.toList,e,vals_ints_of a1,?_⟩,rfl,q _ fr⟩
 ·rw[sortedHeap_old (Nat.ne_of_lt (Heap.lt_size eb)) (by rw[Heap.size_push];exact Nat.lt_succ_of_lt (Heap.lt_size eb))]
  exact Heap.get?_push_of_some _ eb
 ·rw[List.length_map,Nm.srt_length,sizeLine_eq]
  unfold keysI
  rw[List.length_map]
  omega
 ·exact he
end
section
variable {X : Cx} {pins : List (Addr × Obj)} {σ : St} {H : Hp} {s : Shared}
end
noncomputable def Itd (d:Addr) (o:Obj) (kvs:List (Key×V)):It:=
 ⟨fun i H=>H d=some (.frz o (.dK kvs))∧i<kvs.length,fun i H x H'=>H'=H∧∃p,kvs[i]?=some p∧x=kV p.1,fun i H=>H d=some (.frz o (.dK kvs))∧i=kvs.length⟩
section
variable {X : Cx} {x : Str} {xpos : Pos}
noncomputable def iDict (tl:TE):TI:=fun σ H R=>tl σ H fun v H1=>∃d kvs,v=.ref d∧H1 d=some (.dK kvs)∧∀o,R (Itd d o kvs) (upd H1 d (.frz o (.dK kvs)))
end
end L2
namespace L2
open PySem PySem.Spec PyProof.Rows PySem.W
section
variable {X : Cx} {K : PySem.W.Frag}
theorem pi_listK {tg l:Expr} {tl:TE} (hl:PE X l tl) (hK:X.K=K:=by rfl):PI X tg l (iList K tl):=by subst hK;exact pi_list hl
theorem pi_zipK {elts:List Expr} {kk:Nat} {tpos:Pos} {a b:Expr} {ta:TA} {p pos:Pos} (hg:Gl X "zip") (hm:X.mg "zip"=none) (ha:PA X [a,b] ta) (n1:noStar a=true:=by rfl) (n2:noStar b=true:=by rfl) (hK:X.K=K:=by rfl):
  PI X (.Tuple elts kk tpos) (.Call (.Name "zip" p) [a,b] [] pos) (iZip K ta):=by subst hK;exact pi_zip hg hm ha (by rw[se n1,se n2];rfl) (by rw[se n2];rfl)
theorem pi_enumerateK {elts:List Expr} {kk:Nat} {tpos:Pos} {a:Expr} {ta:TA} {p pos:Pos} (hg:Gl X "enumerate") (hm:X.mg "enumerate"=none) (ha:PA X [a] ta) (n1:noStar a=true:=by rfl) (hK:X.K=K:=by rfl):
  PI X (.Tuple elts kk tpos) (.Call (.Name "enumerate" p) [a] [] pos) (iEnum K ta):=by subst hK;exact pi_enumerate hg hm ha (by rw[se n1];rfl)
theorem pg_tupK {es:List Expr} {k:Nat} {t:TGs} {n:Nat} {pos:Pos} (hc:X.calm=true) (h:PGs X es t) (hn:(assignEach es X.env).length=n:=by rfl) (hst:(assignEach es X.env).findIdx? (·.1)=none:=by rfl) (hK:X.K=K:=by rfl):PG X (.Tuple es k pos) (gTup K n t):=by
 subst hK;exact pg_tup hc h hn hst
theorem ix_listSK (hK:X.K=K:=by rfl):IxR X (rIxQ K):=by subst hK;exact ix_listS
theorem call_lenQK (hK:X.K=K:=by rfl):CallR X (.builtin "len") (fun xs H Q=>∃p ns,xs=[.ref p]∧SqL K H p (List.map V.int ns)∧Q (.int (List.length ns:Nat)) H):=by subst hK;exact call_lenQ
theorem op_in_seqK (hK:X.K=K:=by rfl):OpR X (compareOp .In) (rIn K false):=by subst hK;exact op_in_seq
theorem call_list_ofK (hK:X.K=K:=by rfl):CallR X (.type "list") (fun xs H Q=>∃p ys,xs=[.ref p]∧(SqL K H p ys∨SqT K H p ys)∧∀l,H l=none→Q (.ref l) (upd H l (.lst ys))):=by subst hK;exact call_list_of
theorem call_tuple_ofK (hK:X.K=K:=by rfl):CallR X (.type "tuple") (fun xs H Q=>∃p ys,xs=[.ref p]∧((SqL K H p ys∧∀l,H l=none→Q (.ref l) (upd H l (.tup ys)))∨(SqT K H p ys∧Q (.ref p) H))):=by subst hK;exact call_tuple_of
theorem call_isTK (hK:X.K=K:=by rfl):CallR X (.builtin "isinstance") (fun xs H Q=>∃x c t b,xs=[x,.ty c]∧TyOf K H x t∧PySem.W.kitOne K t (.type c)=some b∧Q (.bl b) H):=by subst hK;exact call_isT
theorem call_sum_lK (hc:X.calm=true:=by rfl) (hK:X.K=K:=by rfl):CallR X (.builtin "sum") (fun xs H Q=>∃p ns,xs=[.ref p]∧SqL K H p (List.map V.int ns)∧Q (.int ns.sum) H):=by subst hK;exact call_sum_l hc
theorem call_sorted_lK (hK:X.K=K:=by rfl):CallR X (.builtin "sorted") (fun xs H Q=>∃p ns,xs=[.ref p]∧SqL K H p (List.map V.int ns)∧ns.length<64∧∀l,H l=none→Q (.ref l) (upd H l (.lst (List.map V.int (Nm.srt ns))))):=by subst hK;exact call_sorted_l
theorem call_sorted_dK (hc:X.calm=true:=by rfl):CallR X (.builtin "sorted") (fun xs H Q=>∃d kvs,xs=[.ref d]∧Rd H d (.dK kvs)∧allI kvs∧kvs.length<64∧∀l,H l=none→Q (.ref l) (upd H l (.lst (List.map V.int (Nm.srt (keysI kvs)))))):=call_sorted_d hc
theorem sl_listK (hK:X.K=K:=by rfl):SlR X (rSlL K):=by subst hK;exact sl_list
theorem MtM.r {id:String} {r:V→List V→Hp→VK→Prop} (h:MtM X id r):MtR X id r:=h
end
end L2
namespace Nm
abbrev Ws:=List (Int×Int)
noncomputable def keys (ws:Ws):List Int:=ws.map (·.1)
noncomputable def look:Ws→Int→Int
 | [],_=>0
 | p::r,k=>if p.1=k then p.2 else look r k
noncomputable def put:Ws→Int→Int→Ws
 | [],k,v=>[(k,v)]
 | p::r,k,v=>if p.1=k then (k,v)::r else p::put r k v
noncomputable def tot (ws:Ws):Int:=(ws.map (·.2)).sum
noncomputable def addk (ws:Ws) (k x:Int):Ws:=put ws k (look ws k+x)
noncomputable def addAll (ws ps:Ws):Ws:=ps.foldl (fun acc p=>addk acc p.1 p.2) ws
noncomputable def cnt (ps:Ws) (s:Int):Int:=(ps.map fun p=>if p.1=s then p.2 else 0).sum
theorem look_put:∀(ws:Ws) (k v j:Int),look (put ws k v) j=if k=j then v else look ws j
 | [],k,v,j=>by simp [put,look]
 | p::r,k,v,j=>by
  unfold put
  split
  ·rename_i c
   simp only[look]
   by_cases e:k=j
   ·simp [e]
   ·rw[if_neg e,if_neg e,if_neg (by omega)]
  ·rename_i c
   simp only[look]
   by_cases e:p.1=j
   ·rw[if_pos e,if_neg (by omega),if_pos e]
   ·rw[if_neg e,if_neg e]
    exact look_put r k v j
theorem mem_put {ws:Ws} {k v j:Int}:j∈keys (put ws k v)↔j=k∨j∈keys ws:=by
 induction ws with
 | nil=>simp [put,keys]
 | cons p r ih=>
  unfold put
  split
  ·rename_i c
   simp only[keys,List.map_cons,List.mem_cons]
   rw[c]
   constructor
   ·intro h;exact .inr h
   ·rintro(h | h)
    ·exact .inl h
    ·exact h
  ·simp only[keys,List.map_cons,List.mem_cons] at ih ⊢
   rw[ih]
   constructor
   ·rintro(h | h | h)
    ·exact .inr (.inl h)
    ·exact .inl h
    ·exact .inr (.inr h)
   ·rintro(h | h | h)
    ·exact .inr (.inl h)
    ·exact .inl h
    ·exact .inr (.inr h)
theorem nodup_put {ws:Ws} (k v:Int) (h:(keys ws).Nodup):(keys (put ws k v)).Nodup:=by
 induction ws with
 | nil=>simp [put,keys]
 | cons p r ih=>
  have h':p.1∉keys r∧(keys r).Nodup:=by simpa [keys] using h
  unfold put
  split
  ·rename_i c
   have:k∉keys r∧(keys r).Nodup:=by rw[←c];exact h'
   simpa [keys] using this
  ·rename_i c
   have i:=ih h'.2
   have n:p.1∉keys (put r k v):=fun z=>by
    rcases mem_put.mp z with z | z
    ·exact c z
    ·exact h'.1 z
   have:p.1∉keys (put r k v)∧(keys (put r k v)).Nodup:=⟨n,i⟩
   simpa [keys] using this
theorem tot_addk:∀(ws:Ws) (k x:Int),tot (addk ws k x)=tot ws+x
 | [],k,x=>by simp [addk,put,look,tot]
 | p::r,k,x=>by
  have ih:=tot_addk r k x
  unfold addk tot at *
  unfold put look
  by_cases c:p.1=k
  ·rw[if_pos c,if_pos c]
   simp only[List.map_cons,List.sum_cons]
   omega
  ·rw[if_neg c,if_neg c]
   simp only[List.map_cons,List.sum_cons]
   omega
theorem len_put (ws:Ws) (k v:Int):(put ws k v).length≤ws.length+1:=by
 induction ws with
 | nil=>simp [put]
 | cons p r ih=>
  unfold put
  split
  ·simp
  ·simp only[List.length_cons];omega
theorem look_addAll:∀(ps ws:Ws) (s:Int),look (addAll ws ps) s=look ws s+cnt ps s
 | [],ws,s=>by simp [addAll,cnt]
 | p::r,ws,s=>by
  have ih:=look_addAll r (addk ws p.1 p.2) s
  show look (addAll (addk ws p.1 p.2) r) s=_
  rw[ih]
  unfold addk cnt
  rw[look_put]
  simp only[List.map_cons,List.sum_cons]
  by_cases c:p.1=s
  ·rw[if_pos c,if_pos c,c];omega
  ·rw[if_neg c,if_neg c];omega
theorem mem_addAll {s:Int}:∀{ps ws:Ws},s∈keys (addAll ws ps)↔s∈keys ws∨s∈keys ps
 | [],ws=>by simp [addAll,keys]
 | p::r,ws=>by
  show s∈keys (addAll (addk ws p.1 p.2) r)↔_
  rw[mem_addAll]
  unfold addk
  rw[mem_put]
  simp only[keys,List.map_cons,List.mem_cons]
  constructor
  ·rintro((h | h) | h)
   ·exact .inr (.inl h)
   ·exact .inl h
   ·exact .inr (.inr h)
  ·rintro(h | h | h)
   ·exact .inl (.inr h)
   ·exact .inl (.inl h)
   ·exact .inr h
theorem nodup_addAll:∀{ps ws:Ws},(keys ws).Nodup→(keys (addAll ws ps)).Nodup
 | [],_,h=>h
 | p::r,ws,h=>by
  show(keys (addAll (addk ws p.1 p.2) r)).Nodup
  exact nodup_addAll (nodup_put _ _ h)
theorem tot_addAll:∀(ps ws:Ws),tot (addAll ws ps)=tot ws+tot ps
 | [],ws=>by simp [addAll,tot]
 | p::r,ws=>by
  show tot (addAll (addk ws p.1 p.2) r)=_
  rw[tot_addAll,tot_addk]
  unfold tot
  simp only[List.map_cons,List.sum_cons]
  omega
theorem len_addAll:∀(ps ws:Ws),(addAll ws ps).length≤ws.length+ps.length
 | [],ws=>by simp [addAll]
 | p::r,ws=>by
  have h:=len_addAll r (addk ws p.1 p.2)
  have h2:=len_put ws p.1 (look ws p.1+p.2)
  show(addAll (addk ws p.1 p.2) r).length≤_
  unfold addk at *
  simp only[List.length_cons]
  omega
structure Over (as ws:Ws) (B T:Int):Prop where
 nd:(keys ws).Nodup
 perm:(keys as).Perm (keys ws)
 val:∀k∈keys ws,look as k*T=look ws k*B
theorem look_mem {ws:Ws} {p:Int×Int} (h:(keys ws).Nodup) (hp:p∈ws):look ws p.1=p.2:=by
 induction ws with
 | nil=>cases hp
 | cons q r ih=>
  have h':q.1∉keys r∧(keys r).Nodup:=by simpa [keys] using h
  unfold look
  rcases List.mem_cons.mp hp with rfl | hp
  ·rw[if_pos rfl]
  ·rw[if_neg (fun z=>h'.1 (by rw[z];exact List.mem_map.mpr ⟨p,hp,rfl⟩))]
   exact ih h'.2 hp
noncomputable def rowsOf (ws:Ws) (B:Int):List (Int×Int×Int):=(srt (keys ws)).map fun v=>(v,st (look ws v) B,sb (look ws v) B)
noncomputable def weigh (rows:List (Int×Int×Int)) (B:Int):Ws:=rows.map fun r=>(r.1,r.2.1* (B / r.2.2))
theorem addAll_append (ws p q:Ws):addAll ws (p++q)=addAll (addAll ws p) q:=by
 unfold addAll
 rw[List.foldl_append]
theorem addAll_snoc (ws p:Ws) (k x:Int):addAll ws (p++ [(k,x)])=addk (addAll ws p) k x:=by
 rw[addAll_append]
 rfl
theorem sum_pos:∀{l:List Int},0<l.length→(∀x∈l,0<x)→0<l.sum
 | [],h,_=>by simp at h
 | x::r,_,h=>by
  have hx:=h x List.mem_cons_self
  rw[List.sum_cons]
  by_cases c:0<r.length
  ·have:=sum_pos c fun y hy=>h y (List.mem_cons_of_mem _ hy)
   omega
  ·have:r=[]:=List.eq_nil_of_length_eq_zero (by omega)
   subst this
   simpa using hx
theorem wt_mem {ws:Ws} (nd:(keys ws).Nodup) {P:Int→Prop} (h:∀k∈keys ws,P (look ws k)):∀x∈ws.map (·.2),P x:=fun x hx=>by
 obtain⟨p,hp,rfl⟩:=List.mem_map.mp hx
 have:=h p.1 (List.mem_map.mpr ⟨p,hp,rfl⟩)
 rwa [look_mem nd hp] at this
theorem tot_pos {ws:Ws} (h:0<ws.length) (nd:(keys ws).Nodup) (w:∀k∈keys ws,0<look ws k):0<tot ws:=
 sum_pos (by rw[List.length_map];exact h) (wt_mem nd w)
theorem cnt_nn {ps:Ws} (h:∀p∈ps,0<p.2) (s:Int):0≤cnt ps s:=by
 induction ps with
 | nil=>simp [cnt]
 | cons p r ih=>
  have i:=ih fun q hq=>h q (List.mem_cons_of_mem _ hq)
  have hp:=h p List.mem_cons_self
  unfold cnt at *
  rw[List.map_cons,List.sum_cons]
  split <;>omega
theorem cnt_pos {ps:Ws} (h:∀p∈ps,0<p.2) {s:Int} (hs:s∈keys ps):0<cnt ps s:=by
 induction ps with
 | nil=>simp [keys] at hs
 | cons p r ih=>
  have h':∀q∈r,0<q.2:=fun q hq=>h q (List.mem_cons_of_mem _ hq)
  have hp:=h p List.mem_cons_self
  have n:=cnt_nn h' s
  have e:cnt (p::r) s=(if p.1=s then p.2 else 0)+cnt r s:=by unfold cnt;rw[List.map_cons,List.sum_cons]
  rw[e]
  by_cases c:p.1=s
  ·rw[if_pos c];omega
  ·rw[if_neg c]
   have hs':s∈keys r:=by
    unfold keys at hs ⊢
    rw[List.map_cons] at hs
    rcases List.mem_cons.mp hs with z | z
    ·exact absurd z.symm c
    ·exact z
   have:=ih h' hs'
   omega
end Nm
namespace L2
open PySem PySem.Spec PyProof.Rows
noncomputable def enc (ws:Nm.Ws):List (Key×V):=ws.map fun p=>(Sum.inl p.1,V.int p.2)
theorem enc_len (ws:Nm.Ws):(enc ws).length=ws.length:=by unfold enc;rw[List.length_map]
theorem keysI_enc (ws:Nm.Ws):keysI (enc ws)=Nm.keys ws:=by
 unfold keysI enc Nm.keys
 rw[List.map_map]
 rfl
theorem allI_enc (ws:Nm.Ws):allI (enc ws):=fun p hp=>by
 unfold enc at hp
 obtain⟨q,_,rfl⟩:=List.mem_map.mp hp
 exact⟨q.1,rfl⟩
theorem val_enc (ws:Nm.Ws) (k:Int):valV (enc ws) (Sum.inl k)=if k∈Nm.keys ws then some (.int (Nm.look ws k)) else none:=by
 induction ws with
 | nil=>simp [enc,valV,Nm.keys]
 | cons p r ih=>
  unfold valV at *
  unfold enc at *
  rw[List.map_cons,List.find?_cons]
  unfold Nm.look
  by_cases c:p.1=k
  ·rw[show decide ((Sum.inl p.1:Key)=Sum.inl k)=true by rw[c];simp]
   simp [Nm.keys,c]
  ·rw[show decide ((Sum.inl p.1:Key)=Sum.inl k)=false by simpa using c]
   simp only[ih]
   have e:(k∈Nm.keys (p::r))=(k∈Nm.keys r):=by
    unfold Nm.keys
    rw[List.map_cons,List.mem_cons]
    apply propext
    constructor
    ·rintro(h | h)
     ·exact absurd h.symm c
     ·exact h
    ·exact .inr
   simp only[e,if_neg c]
theorem put_enc {ws:Nm.Ws} (nd:(Nm.keys ws).Nodup) (k v:Int):putK (enc ws) (Sum.inl k) (.int v)=enc (Nm.put ws k v):=by
 have key:∀{ws:Nm.Ws},k∉Nm.keys ws→(enc ws).map (fun kv=>if kv.1=(Sum.inl k:Key) then (kv.1,V.int v) else kv)=enc ws:=by
  intro ws h
  unfold enc
  rw[List.map_map]
  apply List.map_congr_left
  intro p hp
  have:p.1≠k:=fun z=>h (by rw[←z];exact List.mem_map.mpr ⟨p,hp,rfl⟩)
  simp [this]
 have any:∀ws:Nm.Ws,((enc ws).any fun kv=>decide (kv.1=(Sum.inl k:Key)))=decide (k∈Nm.keys ws):=by
  intro ws
  induction ws with
  | nil=>simp [enc,Nm.keys]
  | cons p r ih=>
   unfold enc at *
   rw[List.map_cons,List.any_cons,ih]
   unfold Nm.keys
   rw[List.map_cons]
   by_cases c:p.1=k
   ·simp [c]
   ·have c2:¬k=p.1:=fun z=>c z.symm
    simp [c,c2]
 unfold putK
 rw[any]
 clear any
 by_cases c:k∈Nm.keys ws
 ·rw[if_pos (by simpa using c)]
  induction ws with
  | nil=>simp [Nm.keys] at c
  | cons p r ih=>
   have h':p.1∉Nm.keys r∧(Nm.keys r).Nodup:=by simpa [Nm.keys] using nd
   unfold Nm.put
   by_cases e:p.1=k
   ·rw[if_pos e]
    have:=key (ws:=r) (by rw[←e];exact h'.1)
    unfold enc at *
    rw[List.map_cons,List.map_cons,this,List.map_cons]
    simp [e]
   ·rw[if_neg e]
    have c':k∈Nm.keys r:=by
     unfold Nm.keys at c ⊢
     rw[List.map_cons] at c
     rcases List.mem_cons.mp c with z | z
     ·exact absurd z.symm e
     ·exact z
    have:=ih h'.2 c'
    unfold enc at *
    rw[List.map_cons,List.map_cons,this,List.map_cons]
    simp [e]
 ·rw[if_neg (by simpa using c)]
  induction ws with
  | nil=>simp [enc,Nm.put]
  | cons p r ih=>
   have h':p.1∉Nm.keys r∧(Nm.keys r).Nodup:=by simpa [Nm.keys] using nd
   have e:¬p.1=k:=fun z=>c (by unfold Nm.keys;rw[List.map_cons,z];exact List.mem_cons_self)
   have c':k∉Nm.keys r:=fun z=>c (by unfold Nm.keys at *;rw[List.map_cons];exact List.mem_cons_of_mem _ z)
   unfold Nm.put
   rw[if_neg e]
   have:=ih h'.2 c'
   unfold enc at *
   rw[List.map_cons,List.cons_append,this,List.map_cons]
theorem dget_rd {H:Hp} {d:Addr} {ws:Nm.Ws} {v:Int} (h:Rd H d (.dK (enc ws))) (hv:v∈Nm.keys ws):DGet H d (.int v) (some (.int (Nm.look ws v))):=
 .inl ⟨_,Sum.inl v,h,rfl,by rw[val_enc,if_pos hv]⟩
theorem dget_enc {H:Hp} {d:Addr} {ws:Nm.Ws} {v:Int} (h:H d=some (.dK (enc ws))) (hv:v∈Nm.keys ws):DGet H d (.int v) (some (.int (Nm.look ws v))):=dget_rd (.inl h) hv
theorem look_out {ws:Nm.Ws} {v:Int} (h:v∉Nm.keys ws):Nm.look ws v=0:=by
 induction ws with
 | nil=>rfl
 | cons p r ih=>
  unfold Nm.keys at h
  rw[List.map_cons] at h
  unfold Nm.look
  rw[if_neg (fun z=>h (by rw[z];exact List.mem_cons_self))]
  exact ih fun z=>h (List.mem_cons_of_mem _ z)
theorem dget_zero {H:Hp} {d:Addr} {ws:Nm.Ws} (v:Int) (h:Rd H d (.dK (enc ws))):∃o,DGet H d (.int v) o∧o.getD (.int 0)=.int (Nm.look ws v):=by
 refine⟨_,.inl ⟨_,Sum.inl v,h,rfl,rfl⟩,?_⟩
 rw[val_enc]
 by_cases c:v∈Nm.keys ws
 ·rw[if_pos c];rfl
 ·rw[if_neg c,look_out c];rfl
theorem dput_enc {H:Hp} {d:Addr} {ws:Nm.Ws} (v x:Int) (h:H d=some (.dK (enc ws))) (nd:(Nm.keys ws).Nodup) (hl:ws.length<sizeLine):DPut H d (.int v) (.int x) (upd H d (.dK (enc (Nm.put ws v x)))):=by
 have:=DPut.k (k:=Sum.inl v) (v:=.int x) h (by rw[enc_len];exact hl)
 rw[put_enc nd] at this
 exact this
noncomputable def rowD (r:Int×Int×Int):Dat:=.tup [.int r.1,.tup [.int r.2.1,.int r.2.2]]
noncomputable def rowsD (rows:List (Int×Int×Int)):Dat:=.lst (rows.map rowD)
noncomputable def wrowD (p:Int×Int):Dat:=.tup [.int p.1,.int p.2]
noncomputable def wrowsD (ws:Nm.Ws):Dat:=.lst (ws.map wrowD)
theorem rep_row {H:Hp} {r:Int×Int×Int} {v:V}:Rep H (rowD r) v↔∃p q,v=.ref p∧H p=some (.tup [.int r.1,.ref q])∧H q=some (.tup [.int r.2.1,.int r.2.2]):=by
 unfold rowD
 simp only[Rep,RepL]
 constructor
 ·rintro⟨p,vs,rfl,hp,a,b,rfl,rfl,c,d,rfl,⟨q,us,rfl,hq,e,f,rfl,rfl,g,h,rfl,rfl,rfl⟩,rfl⟩
  exact⟨p,q,rfl,hp,hq⟩
 ·rintro⟨p,q,rfl,hp,hq⟩
  exact⟨p,_,rfl,hp,_,_,rfl,rfl,_,_,rfl,⟨q,_,rfl,hq,_,_,rfl,rfl,_,_,rfl,rfl,rfl⟩,rfl⟩
theorem rep_wrow {H:Hp} {r:Int×Int} {v:V}:Rep H (wrowD r) v↔∃p,v=.ref p∧H p=some (.tup [.int r.1,.int r.2]):=by
 unfold wrowD
 simp only[Rep,RepL]
 constructor
 ·rintro⟨p,vs,rfl,hp,a,b,rfl,rfl,c,d,rfl,rfl,rfl⟩
  exact⟨p,rfl,hp⟩
 ·rintro⟨p,rfl,hp⟩
  exact⟨p,_,rfl,hp,_,_,rfl,rfl,_,_,rfl,rfl,rfl⟩
theorem rep_lst {H:Hp} {ds:List Dat} {v:V}:Rep H (.lst ds) v↔∃p vs,v=.ref p∧H p=some (.lst vs)∧RepL H ds vs:=by rw[Rep]
noncomputable def Sqs (H H':Hp):Prop:=∀p xs,(H p=some (.tup xs)→H' p=some (.tup xs))∧(H p=some (.lst xs)→H' p=some (.lst xs))
mutual
theorem Rep.sqs {H H':Hp} (s:Sqs H H'):∀{d:Dat} {v:V},Rep H d v→Rep H' d v
 | .non,_,h=>by rw[Rep] at *;exact h
 | .bl _,_,h=>by rw[Rep] at *;exact h
 | .int _,_,h=>by rw[Rep] at *;exact h
 | .str _,_,h=>by rw[Rep] at *;exact h
 | .tup _,_,h=>by
  rw[Rep] at *
  obtain⟨p,vs,e,hp,r⟩:=h
  exact⟨p,vs,e,(s _ _).1 hp,RepL.sqs s r⟩
 | .lst _,_,h=>by
  rw[Rep] at *
  obtain⟨p,vs,e,hp,r⟩:=h
  exact⟨p,vs,e,(s _ _).2 hp,RepL.sqs s r⟩
theorem RepL.sqs {H H':Hp} (s:Sqs H H'):∀{ds:List Dat} {vs:List V},RepL H ds vs→RepL H' ds vs
 | [],_,h=>by rw[RepL] at *;exact h
 | _::_,_,h=>by
  rw[RepL] at *
  obtain⟨v,r,e,h1,h2⟩:=h
  exact⟨v,r,e,Rep.sqs s h1,RepL.sqs s h2⟩
end
theorem none_of {H H':Hp} (s:Same H H') {p:Addr} (h:H' p=none):H p=none:=by
 cases e:H p with
 | none=>rfl
 | some o=>rw[s p o e] at h;cases h
end L2
namespace Nm
end Nm
namespace L2
open PySem PySem.Spec PyProof.Rows
theorem fm_some {α β:Type} (f:α→β) (l:List α):l.filterMap (fun a=>some (f a))=l.map f:=by
 rw[←List.filterMap_eq_map];rfl
end L2
namespace L2
open PySem PySem.Spec PyProof.Rows PySem.W
section
variable {X : Cx} {K : PySem.W.Frag}
theorem kv_val {as:List (Key×V)} {bs:List (Key×Value)} (r:KV as bs):∀(j:Nat) {b},bs[j]?=some b→∃a,as[j]?=some a∧RelV a.2 b.2:=by
 induction r with
 | nil=>intro j b e;simp at e
 | cons r1 r2 ih=>
  intro j b e
  cases j with
  | zero=>simp at e;subst e;exact⟨_,rfl,r1.2⟩
  | succ j=>simp at e;obtain⟨a,e1,e2⟩:=ih j e;exact⟨a,by simpa using e1,e2⟩
theorem preSum_list (ns:List Int):preSum (fun i=>ns.getD i 0) ns.length=ns.sum:=by
 have e:=preSum_eq (ns.map fun n=>(n,(0:Nat))).toArray ns.length
 have f:(fun i=>ns.getD i 0)=numAt (ns.map fun n=>(n,(0:Nat))).toArray:=by
  funext i
  unfold numAt
  simp only[List.getElem?_toArray,List.getElem?_map,List.getD_eq_getElem?_getD]
  cases ns[i]? <;>rfl
 rw[f]
 refine e.trans ?_
 rw[List.take_of_length_le (by simp)]
 congr 1
 simp [Function.comp_def]
noncomputable def tSumV (to:TE):TE:=fun σ H Q=>to σ H fun v H1=>∃d kvs ns,v=.ref d∧H1 d=some (.dK kvs)∧kvs.map (·.2)=List.map V.int ns∧Q (.int ns.sum) H1
theorem pe_sumvals {o:Expr} {to:TE} {p apos cpos pos:Pos} (hc:X.calm=true) (hg:Gl X "sum") (hm:X.mg "sum"=none) (ho:PE X o to)
  (hbase:attributeBase o "values" X.env (eval o X.env)=eval o X.env:=by rfl) (hline:(apos.endLine==cpos.line)=true:=by rfl)
  (he:starEach [Expr.Call (.Attribute o "values" apos) [] [] cpos] X.env=[(false,eval (.Call (.Attribute o "values" apos) [] [] cpos) X.env)]:=by rfl):
  PE X (.Call (.Name "sum" p) [.Call (.Attribute o "values" apos) [] [] cpos] [] pos) (tSumV to):=by
 intro pins s σ H Q I h
 refine wpAny_Call_Name_kw (ld_blt I hg hm (u:=.builtin "sum") rfl ?_ (by decide) (by decide))
 rw[he]
 refine PySem.callWith_builtin1 ?_
 refine wpAny_Call_method0_late hbase hline (thn (ho pins s σ H _ I h) fun v s1 ⟨x,H1,I1,r1,q1⟩=>?_)
 obtain⟨d,kvs,ns,rfl,hd,hv,q⟩:=q1
 obtain⟨h1,h2⟩:=tyV_is (T:="dict") I1 r1 (.inr (.inr (.inl ⟨rfl,.inl ⟨_,hd⟩⟩)))
 cases r1
 obtain⟨hz,lo,vs,kv,dd⟩:=dk_of I1.hok hd
 have hlen:kvs.length=vs.length:=Paired.length kv
 refine⟨"dict","dict.values",PySem.F.plainAttrs_dict,PySem.F.slot_dict_values,PySem.F.type_dict_values,h1,h2,Calls.callWith_builtin rfl (PySem.evalArgs_none ?_)⟩
 refine call_meetsIn PySem.F.slot_dict_values dd.typeIs PySem.F.entry_dict_values (PySem.F.args_dict_values_1 _) (meets_dict_values _ d lo) ⟨⟨vs,dd⟩,?_⟩
 have I2:Inv X pins σ H1 {s1 with heap:=s1.heap.push {cls:=.type "dict_values",data:=.fields #[.ref d]}}:=I1.kept (t':=s1.toks) fun b o e=>Heap.get?_push_of_some _ e
 obtain⟨hz,lo,vs,kv,dd⟩:=dk_of I2.hok hd
 have hlen:kvs.length=vs.length:=Paired.length kv
 obtain⟨ep,hat⟩:=dd.dictAt
 have hn:ns.length=vs.length:=by
  have:=congrArg List.length hv
  rw[List.length_map,List.length_map] at this
  omega
 have Ks:=kdl_values (prog:=X.prog) (w:=X.w) (r:=s1.heap.objs.size) (d:=d) (knd:=mixKind X.prog X.w) (kvs:=vs) (ep:=ep)
 have hok:({s1 with heap:=s1.heap.push {cls:=.type "dict_values",data:=.fields #[.ref d]}}:Shared).heap.IsValuesView s1.heap.objs.size d∧({s1 with heap:=s1.heap.push {cls:=.type "dict_values",data:=.fields #[.ref d]}}:Shared).heap.DictAt (mixKind X.prog X.w) d vs ep:=⟨⟨_,Heap.get?_push_size _ rfl,rfl,rfl⟩,hat⟩
 refine call_sum_walkAnyS ?_
 obtain⟨oI,St,hit,W,st⟩:=Ks.iter X.A.in1 _ (I.ok.hd hc) hok
 refine hit _ _ ⟨_,_,_,_,vs.length,_,_,fun i=>ns.getD i 0,rfl,W.toS,st,fun b hb=>?_,fun i v hP=>?_,fun s' t' hm'=>?_⟩
 ·show b< (Heap.push _ oI).objs.size
  rw[size_push']
  rcases List.mem_cons.mp hb with e | hb
  ·rw[e];exact Nat.lt_succ_self _
  ·rw[List.mem_singleton.mp hb];exact Nat.lt_succ_of_lt (Ks.there _ hok).2
 ·obtain⟨k,e⟩:=hP
  obtain⟨a,e1,e2⟩:=kv_val kv i e
  have e3:(kvs.map (·.2))[i]?=some a.2:=by rw[List.getElem?_map,e1];rfl
  rw[hv,List.getElem?_map] at e3
  obtain⟨n,en,ea⟩:=Option.map_eq_some_iff.mp e3
  rw[←ea] at e2
  obtain⟨t,e2⟩:=e2
  refine⟨t,?_⟩
  show v=Value.int (ns.getD i 0) t
  rw[List.getD_eq_getElem?_getD,en]
  exact e2
 ·have hk:∀b o,(s1.heap.push {cls:=.type "dict_values",data:=.fields #[.ref d]}).get? b=some o→s'.heap.get? b=some o:=fun b o e=>
   hm'.heap b o (fun hI=>absurd (Heap.lt_size e) (by rw[List.mem_singleton.mp hI];exact Nat.lt_irrefl _)) (Heap.get?_push_of_some _ e)
  rw[Moved.eq_with hm',←hn,preSum_list]
  exact⟨.int ns.sum,H1,I2.kept (t':=s'.toks) hk,⟨t',rfl⟩,q⟩
theorem comp_vals {α:Type} {J:It} {tc:TT} {te:TE} {tl:St} {H1:Hp} {fin:List V→Hp→Prop} {Item:Nat→V→Hp→Hp→Prop} (as:List α) (f:α→Option V) (S:Src J (Same H1) as.length Item) (sub:∀i x H H3,Item i x H H3→H3=H) (hz:as.length≤sizeLine)
  (hs:∀i a x,as[i]?=some a→Item i x H1 H1→∀(Y:VK) (N:Hp→Prop),(∀z,f a=some z→Y z H1)→(f a=none→N H1)→tc (some x::tl) H1 fun b H5=>if b=true then te (some x::tl) H5 Y else N H5)
  (hfin:fin (as.filterMap f) H1):tBlock J (gName 0) tc te (none::tl) H1 fin:=by
 refine block_src S (fun σ=>∃w0,σ=w0::tl) ⟨_,rfl⟩ (fun i ys H=>H=H1∧ys=(as.take i).filterMap f) ⟨rfl,by simp⟩ hz ?_ ?_
 ·rintro i x σ H ys H3 Q N hi sm ⟨rfl,rfl⟩ hl ⟨w0,rfl⟩ it kq kn
  obtain rfl:=sub _ _ _ _ it
  have ea:as[i]?=some as[i]:=List.getElem?_eq_getElem hi
  refine hs i _ x ea it _ _ (fun z e=>kq _ _ _ ⟨_,rfl⟩ sm ⟨rfl,?_⟩) (fun e=>kn _ _ ⟨_,rfl⟩ sm ⟨rfl,?_⟩)
  ·rw[List.take_add_one,ea,List.filterMap_append]
   simp [e]
  ·rw[List.take_add_one,ea,List.filterMap_append]
   simp [e]
 ·rintro ys H sm ⟨rfl,rfl⟩ hl
  rw[List.take_of_length_le (Nat.le_refl _)]
  exact hfin
theorem seq_gen {a b:TS} {D:Ends} {σ:St} {H:Hp} (C:St→Hp→Prop) (hb:∀σ' H',C σ' H'→b D σ' H') (ha:∀N:St→Hp→Prop,(∀σ' H',C σ' H'→N σ' H')→a {D with nx:=N} σ H):tSeq a b D σ H:=ha _ hb
theorem if_gen {tc:TT} {a b:TS} {D:Ends} {σ:St} {H:Hp} (C1 C2:Hp→Prop) (h1:∀H',C1 H'→a D σ H') (h2:∀H',C2 H'→b D σ H')
  (ht:∀Y N:Hp→Prop,(∀H',C1 H'→Y H')→(∀H',C2 H'→N H')→tc σ H fun v H'=>if v=true then Y H' else N H'):tIfS tc a b D σ H:=ht _ _ h1 h2
end
end L2
namespace Nm
noncomputable def pos (ps:Ws):Ws:=ps.filter fun p=>decide (0<p.2)
noncomputable def wof (ps:Ws):Ws:=addAll [] (pos ps)
noncomputable def bad (ps:Ws):Prop:=(∃p∈ps,p.2<0)∨pos ps=[]
theorem pos_snoc (ps:Ws) (p:Int×Int):pos (ps++ [p])=if 0<p.2 then pos ps++ [p] else pos ps:=by
 unfold pos
 rw[List.filter_append]
 by_cases c:0<p.2
 ·rw[if_pos c];simp [c]
 ·rw[if_neg c];simp [c]
theorem wof_snoc (ps:Ws) (p:Int×Int):wof (ps++ [p])=if 0<p.2 then addk (wof ps) p.1 p.2 else wof ps:=by
 unfold wof
 rw[pos_snoc]
 split
 ·rw[addAll_snoc]
 ·rfl
theorem wof_nodup (ps:Ws):(keys (wof ps)).Nodup:=nodup_addAll (by simp [keys])
theorem wof_len (ps:Ws):(wof ps).length≤ps.length:=by
 have:=len_addAll (pos ps) []
 have h2:(pos ps).length≤ps.length:=List.length_filter_le _ _
 unfold wof
 simp only[List.length_nil] at this
 omega
theorem wof_nil {ps:Ws}:wof ps=[]↔pos ps=[]:=by
 constructor
 ·intro h
  cases e:pos ps with
  | nil=>rfl
  | cons p r=>
   have m:p.1∈keys (wof ps):=by
    unfold wof
    rw[e]
    exact mem_addAll.mpr (.inr (by simp [keys]))
   rw[h] at m
   simp [keys] at m
 ·intro h
  unfold wof
  rw[h]
  rfl
theorem pos_pos (ps:Ws):∀p∈pos ps,0<p.2:=fun p hp=>by
 unfold pos at hp
 simpa using (List.mem_filter.mp hp).2
theorem wof_pos (ps:Ws):∀k∈keys (wof ps),0<look (wof ps) k:=fun k hk=>by
 unfold wof at *
 rw[look_addAll]
 have h:k∈keys (pos ps):=by
  rcases mem_addAll.mp hk with z | z
  ·simp [keys] at z
  ·exact z
 have:=cnt_pos (pos_pos ps) h
 simp only[look]
 omega
theorem wof_tot (ps:Ws):tot (wof ps)=tot (pos ps):=by
 unfold wof
 rw[tot_addAll]
 simp [tot]
theorem tot_pos_le {c:Int} (c0:0≤c):∀{ps:Ws},(∀p∈ps,p.2≤c)→tot (pos ps)≤ps.length*c
 | [],_=>by simp [pos,tot]
 | p::r,h=>by
  have ih:=tot_pos_le c0 fun q hq=>h q (List.mem_cons_of_mem _ hq)
  have hp:=h p List.mem_cons_self
  rw[List.length_cons,Int.natCast_succ,Int.add_mul]
  unfold pos at *
  rw[List.filter_cons]
  split
  ·rw[show tot (p::List.filter (fun p=>decide (0<p.2)) r)=p.2+tot (List.filter (fun p=>decide (0<p.2)) r) from by unfold tot;rw[List.map_cons,List.sum_cons]]
   omega
  ·omega
end Nm
namespace L2
open PySem PySem.Spec PyProof.Rows PySem.W
section
variable {X : Cx} {K : PySem.W.Frag}
noncomputable def rJoin (K:PySem.W.Frag):V→List V→Hp→VK→Prop:=fun x xs H Q=>∃sep p ts,x=.str sep∧xs=[.ref p]∧SqL K H p (List.map V.str ts)∧JoinOk sep ts=true∧Q (.str (Txt.join sep ts)) H
theorem call_int_b:CallR X (.type "int") (fun xs H Q=>∃k,xs=[.bl k]∧Q (.int (if k then 1 else 0)) H):=by
 intro pins s σ H xs us Q I r h
 exact call_int1 pins s σ H xs us Q I r (.inr h)
abbrev TJ:=Str→TE
noncomputable def jNil:TJ:=fun acc _ H Q=>Q (.str acc) H
noncomputable def jLit (x:Str) (t:TJ):TJ:=fun acc σ H Q=>(acc++x).length≤sizeLine∧t (acc++x) σ H Q
noncomputable def jInt (te:TE) (t:TJ):TJ:=fun acc σ H Q=>te σ H fun v H1=>∃i,v=.int i∧i.natAbs.log2<1920∧(acc++toString i).length≤sizeLine∧t (acc++toString i) σ H1 Q
noncomputable def jStr (te:TE) (t:TJ):TJ:=fun acc σ H Q=>te σ H fun v H1=>∃z,v=.str z∧z.length≤sizeLine∧(acc++z).length≤sizeLine∧t (acc++z) σ H1 Q
noncomputable def tJoined (t:TJ):TE:=fun σ H Q=>t Str.empty σ H Q
end
end L2
namespace L2
open PySem PySem.Spec PyProof.Rows PySem.W
inductive Pl where
 | fin (w:Int×Int) | thr (w:Int×Int) (ws:List (Int×Int)) | pck (who:Int) (to:List Int)
theorem depth_flat {ds:List Dat} {n:Nat} (h:∀d∈ds,depth d≤n):depth.dL ds≤n:=by
 induction ds with
 | nil=>rw[depth.dL];omega
 | cons d ds ih=>
  rw[depth.dL]
  have:=h d List.mem_cons_self
  have:=ih fun e he=>h e (List.mem_cons_of_mem _ he)
  omega
noncomputable def hid (H:Hp) (p:Addr):Hp:=fun a=>if a=p then none else H a
theorem hid_ne {H:Hp} {p a:Addr} (h:a≠p):hid H p a=H a:=if_neg h
theorem hid_upd {H:Hp} {p:Addr} {o:HO}:Same (hid H p) (upd H p o):=fun a u e=>by
 unfold hid at e
 by_cases h:a=p
 ·rw[if_pos h] at e;cases e
 ·rw[if_neg h] at e;rw[upd_ne h];exact e
theorem hid_sub {H:Hp} {p:Addr}:Same (hid H p) H:=fun a u e=>by
 unfold hid at e
 by_cases h:a=p
 ·rw[if_pos h] at e;cases e
 ·rw[if_neg h] at e;exact e
theorem same_hid {H0 H:Hp} {p:Addr} (s:Same H0 H) (n:H0 p=none):Same H0 (hid H p):=fun a u e=>by
 rw[hid_ne (fun z=>by rw[z,n] at e;cases e)]
 exact s _ _ e
theorem hid_mono {H H':Hp} {p:Addr} (s:Same H H'):Same (hid H p) (hid H' p):=fun a u e=>by
 unfold hid at *
 by_cases h:a=p
 ·rw[if_pos h] at e;cases e
 ·rw[if_neg h] at e ⊢;exact s _ _ e
theorem same_upd_of {H0 H:Hp} {p:Addr} {o:HO} (s:Same H0 H) (n:H0 p=none):Same H0 (upd H p o):=(same_hid s n).trans hid_upd
theorem rep_push {H:Hp} {p:Addr} {ds:List Dat} {xs:List V} {d:Dat} {v:V} (h:RepL (hid H p) ds xs) (k:Rep (hid H p) d v):RepL (hid (upd H p (.lst (xs++ [v]))) p) (ds++ [d]) (xs++ [v]):=by
 have s:Same (hid H p) (hid (upd H p (.lst (xs++ [v]))) p):=same_hid hid_upd (if_pos rfl)
 refine(h.mono s).append ?_
 rw[RepL]
 exact⟨v,[],rfl,k.mono s,by rw[RepL]⟩
theorem atI_pl {α β:Type} {f:α→β} {as:List α} {i:Nat} {a:α} (h:as[i]?=some a):atI (as.map f) (i:Int)=some (f a):=atI_nat (by rw[List.getElem?_map,h];rfl)
section
variable {X : Cx} {K : PySem.W.Frag}
end
end L2
namespace Lv
open L2
abbrev Fs:=List (Option Int)
noncomputable def gls:Pl→List Int
 | .fin _=>[]
 | .thr _ ws=>ws.map (·.2)
 | .pck _ to=>to
noncomputable def lk (fs:Fs) (g:Int):Option Int:=fs.getD g.toNat none
noncomputable def rdy (fs:Fs) (q:Pl):Bool:=
 match q with
 | .thr _ ws=>(ws.map (·.2)).any fun g=>(lk fs g).isSome
 | .fin _=>true
 | .pck _ to=>to.all fun g=>(lk fs g).isSome
noncomputable def isRdy (b:List Pl) (fs:Fs) (i:Nat):Bool:=(fs.getD i none).isNone && (match b[i]? with | some q=>rdy fs q | none=>false)
noncomputable def fresh (b:List Pl) (fs:Fs):List Nat:=(List.range b.length).filter (isRdy b fs)
noncomputable def setAll (fs:Fs) (is:List Nat) (L:Int):Fs:=is.foldl (fun acc i=>acc.set i (some L)) fs
noncomputable def run (b:List Pl):Nat→Fs→Int→Fs
 | 0,fs,_=>fs
 | m+1,fs,L=>if fresh b fs=[] then fs else run b m (setAll fs (fresh b fs) L) (L+1)
theorem set_len (fs:Fs):∀(is:List Nat) (L:Int),(setAll fs is L).length=fs.length
 | is,L=>by
  induction is generalizing fs with
  | nil=>rfl
  | cons i is ih=>
   show(setAll (fs.set i (some L)) is L).length=_
   rw[ih,List.length_set]
theorem set_get (L:Int):∀(is:List Nat) (fs:Fs) (k:Nat),(setAll fs is L)[k]?=if k∈is∧k<fs.length then some (some L) else fs[k]?
 | [],fs,k=>by simp [setAll]
 | i::is,fs,k=>by
  show(setAll (fs.set i (some L)) is L)[k]?=_
  rw[set_get L is,List.length_set]
  by_cases h:k<fs.length
  ·by_cases h1:k∈is
   ·rw[if_pos ⟨h1,h⟩,if_pos ⟨List.mem_cons_of_mem _ h1,h⟩]
   ·rw[if_neg (fun z=>h1 z.1)]
    by_cases h2:k=i
    ·subst h2
     rw[if_pos ⟨List.mem_cons_self,h⟩,List.getElem?_set_self h]
    ·rw[if_neg (fun z=>(List.mem_cons.mp z.1).elim h2 h1),List.getElem?_set_ne (Ne.symm h2)]
  ·rw[if_neg (fun z=>h z.2),if_neg (fun z=>h z.2),List.getElem?_eq_none (by rw[List.length_set];omega),List.getElem?_eq_none (by omega)]
theorem fresh_mem {b:List Pl} {fs:Fs} {i:Nat}:i∈fresh b fs↔i<b.length∧isRdy b fs i=true:=by
 unfold fresh
 rw[List.mem_filter,List.mem_range]
theorem fresh_none {b:List Pl} {fs:Fs} (hl:fs.length=b.length) {i:Nat} (h:i∈fresh b fs):fs[i]?=some none:=by
 obtain⟨h1,h2⟩:=fresh_mem.mp h
 unfold isRdy at h2
 rw[Bool.and_eq_true] at h2
 have e:fs[i]?=some fs[i]:=List.getElem?_eq_getElem (by omega)
 rw[List.getD_eq_getElem?_getD,e] at h2
 rw[e]
 cases h:fs[i] with
 | none=>rfl
 | some v=>rw[h] at h2;simp at h2
noncomputable def At (fs:Fs) (L:Int) (i:Nat):Pl→Prop
 | .fin _=>fs[i]?=some (some 0)
 | .thr _ ws=>(fs[i]?=some none∧∀g∈ws.map (·.2),∀u,lk fs g=some u→u=L - 1)∨
   ∃v,fs[i]?=some (some v)∧1≤v∧(∃g∈ws.map (·.2),lk fs g=some (v - 1))∧∀g∈ws.map (·.2),∀u,lk fs g=some u→v - 1≤u
 | .pck _ to=>(fs[i]?=some none∧((∀g∈to,(lk fs g).isSome=true)→∃g∈to,lk fs g=some (L - 1)))∨
   ∃v,fs[i]?=some (some v)∧1≤v∧(∀g∈to,∃u,lk fs g=some u∧u≤v - 1)∧∃g∈to,lk fs g=some (v - 1)
structure Good (b:List Pl):Prop where
 rng:∀q∈b,∀g∈gls q,0≤g∧g<b.length
 pck:∀q∈b,∀w to,q=.pck w to→to≠[]
structure Inv (b:List Pl) (fs:Fs) (L:Int):Prop where
 len:fs.length=b.length
 lt:∀(i:Nat) (v:Int),fs[i]?=some (some v)→0≤v∧v<L
 at_:∀(i:Nat) q,b[i]?=some q→At fs L i q
theorem lk_of {fs:Fs} {g:Int} {u:Int}:lk fs g=some u↔fs[g.toNat]?=some (some u):=by
 unfold lk
 rw[List.getD_eq_getElem?_getD]
 cases h:fs[g.toNat]? with
 | none=>simp
 | some o=>simp
theorem step {b:List Pl} (gb:Good b) {fs:Fs} {L:Int} (I:Inv b fs L) (L1:1≤L):Inv b (setAll fs (fresh b fs) L) (L+1):=by
 have hl:=I.len
 have get:∀(k:Nat),(setAll fs (fresh b fs) L)[k]?=if k∈fresh b fs∧k<fs.length then some (some L) else fs[k]?:=set_get L _ _
 have old:∀(k:Nat) (v:Int),fs[k]?=some (some v)→(setAll fs (fresh b fs) L)[k]?=some (some v):=fun k v e=>by
  rw[get,if_neg,e]
  intro z
  rw[fresh_none hl z.1] at e
  cases e
 have lold:∀(g u:Int),lk fs g=some u→lk (setAll fs (fresh b fs) L) g=some u:=fun g u h=>lk_of.mpr (old _ _ (lk_of.mp h))
 have lnew:∀(g u:Int),lk (setAll fs (fresh b fs) L) g=some u→lk fs g=some u∨u=L:=fun g u h=>by
  have h:=lk_of.mp h
  rw[get] at h
  split at h
  ·right;simpa using h.symm
  ·exact .inl (lk_of.mpr h)
 refine⟨by rw[set_len];exact hl,fun i v e=>?_,fun i q e=>?_⟩
 ·rw[get] at e
  split at e
  ·simp at e;omega
  ·have:=I.lt i v e;omega
 ·have hi:i<b.length:=(List.getElem?_eq_some_iff.mp e).1
  have A:=I.at_ i q e
  have rd:∀(q:Pl),b[i]?=some q→fs[i]?=some none→(i∈fresh b fs↔rdy fs q=true):=fun q e e2=>by
   rw[fresh_mem]
   unfold isRdy
   rw[List.getD_eq_getElem?_getD,e2,e]
   simp [hi]
  cases q with
  | fin w=>exact old _ _ A
  | thr w ws=>
   rcases A with ⟨a1,a2⟩ | ⟨v,a1,a2,⟨x,hx,a3⟩,a4⟩
   ·by_cases c:i∈fresh b fs
    ·right
     refine⟨L,by rw[get,if_pos ⟨c,by omega⟩],L1,?_,fun g hg u h=>?_⟩
     ·have:=(rd _ e a1).mp c
      have:(ws.map (·.2)).any (fun g=>(lk fs g).isSome)=true:=this
      obtain⟨x,hx,h⟩:=List.any_eq_true.mp this
      obtain⟨u,hu⟩:=Option.isSome_iff_exists.mp h
      have:=a2 x hx u hu
      subst this
      exact⟨x,hx,lold _ _ hu⟩
     ·rcases lnew _ _ h with h | h
      ·have:=a2 g hg u h;omega
      ·omega
    ·left
     refine⟨by rw[get,if_neg (fun z=>c z.1)];exact a1,fun g hg u h=>?_⟩
     rcases lnew _ _ h with h | h
     ·exfalso
      refine c ((rd _ e a1).mpr ?_)
      show(ws.map (·.2)).any (fun g=>(lk fs g).isSome)=true
      exact List.any_eq_true.mpr ⟨g,hg,by rw[h];rfl⟩
     ·omega
   ·right
    refine⟨v,old _ _ a1,a2,⟨x,hx,lold _ _ a3⟩,fun g hg u h=>?_⟩
    rcases lnew _ _ h with h | h
    ·exact a4 g hg u h
    ·have:=I.lt i v a1;omega
  | pck w to=>
   rcases A with ⟨a1,a2⟩ | ⟨v,a1,a2,a3,x,hx,a4⟩
   ·by_cases c:i∈fresh b fs
    ·right
     have r:=(rd _ e a1).mp c
     have r:to.all (fun g=>(lk fs g).isSome)=true:=r
     have r:=List.all_eq_true.mp r
     obtain⟨x,hx,h⟩:=a2 r
     refine⟨L,by rw[get,if_pos ⟨c,by omega⟩],L1,fun g hg=>?_,x,hx,lold _ _ h⟩
     obtain⟨u,hu⟩:=Option.isSome_iff_exists.mp (r g hg)
     exact⟨u,lold _ _ hu,by have:=I.lt _ _ (lk_of.mp hu);omega⟩
    ·left
     refine⟨by rw[get,if_neg (fun z=>c z.1)];exact a1,fun h=>?_⟩
     have:¬∀g∈to,(lk fs g).isSome=true:=fun z=>c ((rd _ e a1).mpr (show to.all (fun g=>(lk fs g).isSome)=true from List.all_eq_true.mpr z))
     have:∃g∈to,lk fs g=none:=by
      apply Classical.byContradiction
      intro n
      apply this
      intro g hg
      cases h:lk fs g with
      | none=>exact absurd ⟨g,hg,h⟩ n
      | some u=>rfl
     obtain⟨g,hg,hn⟩:=this
     obtain⟨u,hu⟩:=Option.isSome_iff_exists.mp (h g hg)
     refine⟨g,hg,?_⟩
     rcases lnew _ _ hu with h | h
     ·rw[hn] at h;cases h
     ·rw[hu,h];congr 1;omega
   ·right
    refine⟨v,old _ _ a1,a2,fun g hg=>?_,x,hx,lold _ _ a4⟩
    obtain⟨u,h1,h2⟩:=a3 g hg
    exact⟨u,lold _ _ h1,h2⟩
noncomputable def Ends (fs:Fs) (i:Nat):Pl→Prop
 | .fin _=>fs[i]?=some (some 0)
 | .thr _ ws=>(fs[i]?=some none∧∀g∈ws.map (·.2),lk fs g=none)∨
   ∃v,fs[i]?=some (some v)∧1≤v∧(∃g∈ws.map (·.2),lk fs g=some (v - 1))∧∀g∈ws.map (·.2),∀u,lk fs g=some u→v - 1≤u
 | .pck _ to=>(fs[i]?=some none∧∃g∈to,lk fs g=none)∨
   ∃v,fs[i]?=some (some v)∧1≤v∧(∀g∈to,∃u,lk fs g=some u∧u≤v - 1)∧∃g∈to,lk fs g=some (v - 1)
end Lv
namespace Bf
open L2 Lv
abbrev En:=Int×Option (Int×Nat)×List Nat
noncomputable def keys (es:List En):List Int:=es.map (·.1)
noncomputable def gAt (b:List Pl) (k:Int):List Int:=match b[k.toNat]? with | some q=>gls q | none=>[]
noncomputable def addG (here:Int) (path:List Nat):Nat→List Int→List En→List En
 | _,[],es=>es
 | w,g::gs,es=>addG here path (w+1) gs (if g∈keys es then es else es++ [(g,some (here,w),path++ [w])])
structure Core (b:List Pl) (start:Int) (es:List En):Prop where
 nd:(keys es).Nodup
 rng:∀e∈es,0≤e.1∧e.1<b.length
 hd:es[0]?=some (start,none,[])
 par:∀(i:Nat) e,es[i]?=some e→0<i→∃(j:Nat) (ej:En) (w:Nat),j<i∧es[j]?=some ej∧e.2.1=some (ej.1,w)∧(gAt b ej.1)[w]?=some e.1∧e.2.2=ej.2.2++ [w]
 mono:∀(i j:Nat) ei ej,i≤j→es[i]?=some ei→es[j]?=some ej→ei.2.2.length≤ej.2.2.length
structure Mid (b:List Pl) (start:Int) (t:Nat) (e:En) (k:Nat) (es:List En):Prop extends Core b start es where
 at_:es[t]?=some e
 top:∀(i:Nat) ei,es[i]?=some ei→ei.2.2.length≤e.2.2.length+1
 old:∀(j:Nat) ej,j<t→es[j]?=some ej→∀g∈gAt b ej.1,∃(i:Nat) (ei:En),es[i]?=some ei∧ei.1=g∧ei.2.2.length≤ej.2.2.length+1
 now:∀g∈(gAt b e.1).take k,∃(i:Nat) (ei:En),es[i]?=some ei∧ei.1=g∧ei.2.2.length≤e.2.2.length+1
structure Inv (b:List Pl) (start:Int) (t:Nat) (es:List En):Prop extends Core b start es where
 top:∀(i:Nat) ei et,es[i]?=some ei→es[t]?=some et→ei.2.2.length≤et.2.2.length+1
 old:∀(j:Nat) ej,j<t→es[j]?=some ej→∀g∈gAt b ej.1,∃(i:Nat) (ei:En),es[i]?=some ei∧ei.1=g∧ei.2.2.length≤ej.2.2.length+1
theorem get_snoc {α:Type} {l:List α} {x y:α} {i:Nat} (h:(l++ [x])[i]?=some y):l[i]?=some y∨(i=l.length∧y=x):=by
 by_cases c:i<l.length
 ·rw[List.getElem?_append_left c] at h
  exact .inl h
 ·rw[List.getElem?_append_right (by omega)] at h
  have:i - l.length=0:=by
   by_cases q:i - l.length=0
   ·exact q
   ·rw[List.getElem?_eq_none (by simp;omega)] at h;cases h
  rw[this] at h
  simp at h
  exact .inr ⟨by omega,h.symm⟩
theorem up {α:Type} {l:List α} {x y:α} {i:Nat} (h:l[i]?=some y):(l++ [x])[i]?=some y:=by
 rw[List.getElem?_append_left (List.getElem?_eq_some_iff.mp h).1]
 exact h
theorem one {b:List Pl} (gb:Good b) {start:Int} {t:Nat} {e:En} {k:Nat} {es:List En} {g:Int} (M:Mid b start t e k es) (hg:(gAt b e.1)[k]?=some g):
  Mid b start t e (k+1) (if g∈keys es then es else es++ [(g,some (e.1,k),e.2.2++ [k])]):=by
 have tk:(gAt b e.1).take (k+1)=(gAt b e.1).take k++ [g]:=by rw[List.take_add_one,hg];rfl
 by_cases c:g∈keys es
 ·rw[if_pos c]
  refine {M with now:=fun x hx=>?_}
  rw[tk] at hx
  rcases List.mem_append.mp hx with hx | hx
  ·exact M.now x hx
  ·have:x=g:=by simpa using hx
   subst this
   obtain⟨ei,hei,rfl⟩:=List.mem_map.mp c
   obtain⟨i,hi⟩:=List.getElem?_of_mem hei
   exact⟨i,ei,hi,rfl,M.top i ei hi⟩
 ·rw[if_neg c]
  have rg:0≤g∧g<b.length:=by
   unfold gAt at hg
   cases hb:b[e.1.toNat]? with
   | none=>rw[hb] at hg;simp at hg
   | some q=>
    rw[hb] at hg
    exact gb.rng q (List.mem_of_getElem? hb) g (List.mem_of_getElem? hg)
  have tl:t<es.length:=(List.getElem?_eq_some_iff.mp M.at_).1
  refine⟨⟨?_,fun x hx=>?_,up M.hd,fun i x hx i0=>?_,fun i j ei ej hij hi hj=>?_⟩,up M.at_,fun i ei hi=>?_,fun j ej hj hej x hx=>?_,fun x hx=>?_⟩
  ·unfold keys at *
   rw[List.map_append]
   refine List.nodup_append.mpr ⟨M.nd,by simp,fun a ha b' hb'=>?_⟩
   have:b'=g:=by simpa using hb'
   subst this
   intro z
   exact c (z▸ha)
  ·rcases List.mem_append.mp hx with hx | hx
   ·exact M.rng x hx
   ·have:x=(g,some (e.1,k),e.2.2++ [k]):=by simpa using hx
    subst this
    exact rg
  ·rcases get_snoc hx with hx | ⟨rfl,rfl⟩
   ·obtain⟨j,ej,w,a1,a2,a3⟩:=M.par i x hx i0
    exact⟨j,ej,w,a1,up a2,a3⟩
   ·exact⟨t,e,k,tl,up M.at_,rfl,hg,rfl⟩
  ·rcases get_snoc hi with hi | ⟨rfl,rfl⟩
   ·rcases get_snoc hj with hj | ⟨rfl,rfl⟩
    ·exact M.mono i j ei ej hij hi hj
    ·have:=M.top i ei hi
     simpa using this
   ·rcases get_snoc hj with hj | ⟨rfl,rfl⟩
    ·have:=(List.getElem?_eq_some_iff.mp hj).1
     omega
    ·exact Nat.le_refl _
  ·rcases get_snoc hi with hi | ⟨rfl,rfl⟩
   ·exact M.top i ei hi
   ·simp
  ·rcases get_snoc hej with hej | ⟨rfl,rfl⟩
   ·obtain⟨i,ei,a1,a2⟩:=M.old j ej hj hej x hx
    exact⟨i,ei,up a1,a2⟩
   ·omega
  ·rw[tk] at hx
   rcases List.mem_append.mp hx with hx | hx
   ·obtain⟨i,ei,a1,a2⟩:=M.now x hx
    exact⟨i,ei,up a1,a2⟩
   ·have:x=g:=by simpa using hx
    subst this
    exact⟨es.length,(x,some (e.1,k),e.2.2++ [k]),by rw[List.getElem?_append_right (Nat.le_refl _)];simp,rfl,by simp⟩
theorem addG_mid {b:List Pl} (gb:Good b) {start:Int} {t:Nat} {e:En}:∀(gs:List Int) (k:Nat) (es:List En),Mid b start t e k es→(∀(i:Nat) g,gs[i]?=some g→(gAt b e.1)[k+i]?=some g)→Mid b start t e (k+gs.length) (addG e.1 e.2.2 k gs es)
 | [],k,es,M,_=>M
 | g::gs,k,es,M,h=>by
  have:=addG_mid gb gs (k+1) _ (one gb M (h 0 g rfl)) fun i x hx=>by
   have:=h (i+1) x (by simpa using hx)
   rwa [show k+1+i=k+ (i+1) by omega]
  rw[List.length_cons,show k+ (gs.length+1)=k+1+gs.length by omega]
  exact this
theorem mid_of {b:List Pl} {start:Int} {t:Nat} {e:En} {es:List En} (I:Inv b start t es) (h:es[t]?=some e):Mid b start t e 0 es:=
 {I with at_:=h,top:=fun i ei hi=>I.top i ei e hi h,now:=fun g hg=>by simp at hg}
theorem inv_of {b:List Pl} {start:Int} {t:Nat} {e:En} {es:List En} (M:Mid b start t e (gAt b e.1).length es):Inv b start (t+1) es:=by
 refine {M with top:=fun i ei et hi ht=>?_,old:=fun j ej hj hej g hg=>?_}
 ·have h1:=M.top i ei hi
  have h2:=M.mono t (t+1) e et (by omega) M.at_ ht
  omega
 ·by_cases c:j<t
  ·exact M.old j ej c hej g hg
  ·have:j=t:=by omega
   subst this
   rw[M.at_] at hej
   cases hej
   exact M.now g (by rw[List.take_of_length_le (Nat.le_refl _)];exact hg)
theorem turn {b:List Pl} (gb:Good b) {start:Int} {t:Nat} {e:En} {es:List En} (I:Inv b start t es) (h:es[t]?=some e):Inv b start (t+1) (addG e.1 e.2.2 0 (gAt b e.1) es):=by
 have:=addG_mid gb (gAt b e.1) 0 es (mid_of I h) fun i g hg=>by rw[Nat.zero_add];exact hg
 rw[Nat.zero_add] at this
 exact inv_of this
noncomputable def go (b:List Pl):Int→List Nat→Option Int
 | k,[]=>some k
 | k,w::ws=>match (gAt b k)[w]? with | some g=>go b g ws | none=>none
end Bf
namespace PySem
section
variable {prog : Program} {w : World} {A : Around} {E : Value → Shared → Prop} {s : Shared}
end
end PySem
namespace L2
open PySem PySem.Spec PyProof.Rows PySem.W
section
variable {X : Cx} {K : PySem.W.Frag}
noncomputable def tRev (K:PySem.W.Frag) (te:TE):TE:=fun σ H Q=>te σ H fun v H1=>∃p xs,v=.ref p∧SqL K H1 p xs∧∀l,H1 l=none→Q (.ref l) (upd H1 l (.lst xs.reverse))
noncomputable def tD1 (tk tv:TE):TE:=fun σ H Q=>∀d,H d=none→tk σ (upd H d (.dK [])) fun x H1=>tv σ H1 fun v H2=>∃k,x=kV k∧H2 d=some (.dK [])∧Q (.ref d) (upd H2 d (.dK [(k,v)]))
end
end L2
namespace PySem
section
variable {prog : Program} {w : World} {A : Around} {E : Value → Shared → Prop} {s : Shared}
variable {κ : Type} [DecidableEq κ] {knd : KeyKind prog w κ}
end
end PySem
namespace L2
open PySem PySem.Spec PyProof.Rows PySem.W
section
variable {X : Cx}
end
end L2
namespace PySem
section
variable {prog : Program} {w : World} {A : Around} {R : Result → Shared → Prop} {I : Addr} {fp wr : List Addr} {n : Nat} {P : Nat → Value → Prop} {St : Nat → Heap → Prop} {kw : List (Str × Value)}
end
section
variable {prog : Program} {w : World} {A : Around} {E : Value → Shared → Prop} {s : Shared}
end
end PySem
namespace L2
open PySem PySem.Spec PyProof.Rows PySem.W
section
variable {X : Cx} {K : PySem.W.Frag}
noncomputable def tMaxD (K:PySem.W.Frag) (te td:TE):TE:=fun σ H Q=>te σ H fun v H1=>td σ H1 fun dv H2=>∃p ns,v=.ref p∧SqL K H2 p (List.map V.int ns)∧(ns=[]→Q dv H2)∧∀M,M∈ns→(∀a∈ns,a≤M)→Q (.int M) H2
noncomputable def tLR (te:TE):TE:=fun σ H Q=>te σ H fun v H1=>∃n:Nat,v=.int (n:Int)∧n≤1000000∧∀l,H1 l=none→Q (.ref l) (upd H1 l (.lst ((List.range n).map fun i:Nat=>V.int (i:Int))))
end
end L2
namespace KS
open PySem PySem.W PyProof.Rows
variable {lt : Nat → Nat → Bool} {n : Nat}
section
variable {prog : Program} {w : World} {A : Around} {E : Value → Shared → Prop} {s : Shared} {vs : List Value} {κ : SortKind}
end
end KS
namespace L2
open PySem PySem.Spec PyProof.Rows PySem.W
section
variable {X : Cx} {K : PySem.W.Frag}
end
end L2
namespace Lv
open L2
noncomputable def nm (s:List Nat) (g:Int):Int:=((s.getD g.toNat 0:Nat):Int)
noncomputable def ren (s:List Nat):Pl→Pl
 | .fin w=>.fin w
 | .thr w ws=>.thr w (ws.map fun p=>(p.1,nm s p.2))
 | .pck w to=>.pck w (to.map (nm s))
noncomputable def turn (s:List Nat) (b:List Pl):List Pl:=(List.range b.length).map fun j=>ren s (b.getD (s.idxOf j) (.fin (0,1)))
section
variable {s : List Nat} {n : Nat} (p : s.Perm (List.range n))
include p
theorem nm_len:s.length=n:=by rw[p.length_eq,List.length_range]
theorem nm_lt {i j:Nat} (h:s[i]?=some j):j<n:=List.mem_range.mp (p.mem_iff.mp (List.mem_of_getElem? h))
theorem nm_at {g:Int} (h0:0≤g) (h1:g<n):∃j:Nat,s[g.toNat]?=some j∧nm s g=(j:Int)∧j<n:=by
 have hl:g.toNat<s.length:=by rw[nm_len p];omega
 refine⟨s[g.toNat],List.getElem?_eq_getElem hl,?_,nm_lt p (List.getElem?_eq_getElem hl)⟩
 unfold nm
 rw[List.getD_eq_getElem?_getD,List.getElem?_eq_getElem hl]
 rfl
end
end Lv
namespace PySem
open Builtin Builtin.Str
section
variable {prog : Program} {w : World} {A : Around} {E : Value → Shared → Prop} {s : Shared} {x y : Str} {t u : Tok} {Q : Value → Shared → Prop}
end
end PySem
namespace L2
open PySem PySem.Spec PyProof.Rows PySem.W
section
variable {X : Cx} {K : PySem.W.Frag}
noncomputable def Its (z:Str):It:=⟨fun i _=>i<z.cps.size,fun i H x H'=>H'=H∧∃c,z.cps[i]?=some c∧x=.str ⟨#[c]⟩,fun i _=>z.cps.size≤i⟩
noncomputable def iStr (tl:TE):TI:=fun σ H R=>tl σ H fun x H1=>∃z,x=.str z∧z.cps.all (·<128)=true∧R (Its z) H1
theorem comp_map3 {K:PySem.W.Frag} {J:It} {te:TE} {tl:St} {H1:Hp} {fin:List V→Hp→Prop} {n:Nat} {Item:Nat→V→Hp→Hp→Prop} (S:Src J (Same H1) n Item) (It2:Nat→V→V→V→Hp→Prop)
  (tp:∀i x H H3,i<n→Same H1 H→Item i x H H3→Same H H3∧∃p a b c,x=.ref p∧SqT K H3 p [a,b,c]∧It2 i a b c H3) (hz:n≤sizeLine)
  (R:Nat→V→Hp→Prop) (mono:∀i y H H',Same H H'→R i y H→R i y H')
  (hs:∀i a b c H3 (Q:VK),i<n→Same H1 H3→It2 i a b c H3→(∀y H6,Same H3 H6→R i y H6→Q y H6)→te (some a::some b::some c::tl) H3 Q)
  (hfin:∀ys H,Same H1 H→ys.length=n→(∀(i:Nat) y,ys[i]?=some y→R i y H)→fin ys H):tBlock J (gTup K 3 (gCons (gName 0) (gCons (gName 1) (gCons (gName 2) gNil)))) tYes te (none::none::none::tl) H1 fin:=by
 refine⟨fun i m ys σ H=>m=n - i∧i≤n∧ys.length=i∧(∃w w' w'',σ=w::w'::w''::tl)∧Same H1 H∧∀(j:Nat) y,ys[j]?=some y→R j y H,⟨n,by simp,Nat.zero_le _,rfl,⟨_,_,_,rfl⟩,Same.refl _,fun j y e=>by simp at e⟩,?_⟩
 rintro i m ys σ H ⟨rfl,hi,hl,⟨w,w',w'',rfl⟩,sm,p⟩
 by_cases hlt:i<n
 ·refine .inr ⟨S.go i H hlt sm,fun x H3 y=>?_⟩
  obtain⟨s3,q,a,b,c,rfl,sq,it⟩:=tp i x H H3 hlt sm (S.yld i H x H3 hlt sm y)
  refine⟨q,_,rfl,sq,rfl,_,_,rfl,_,_,rfl,_,_,rfl,rfl,?_⟩
  unfold tYes
  refine iteT ?_
  refine hs i a b c H3 _ hlt (sm.trans s3) it fun y H6 s6 r=>⟨by omega,n - (i+1),by omega,rfl,hlt,by rw[List.length_append,List.length_singleton];omega,⟨_,_,_,rfl⟩,sm.trans (s3.trans s6),fun j z e=>?_⟩
  by_cases hj:j<i
  ·rw[List.getElem?_append_left (by omega)] at e
   exact mono j z _ _ (s3.trans s6) (p j z e)
  ·rw[List.getElem?_append_right (by omega)] at e
   have e2:j - ys.length=0:=by
    by_cases q:j - ys.length=0
    ·exact q
    ·rw[List.getElem?_eq_none (by simp;omega)] at e;cases e
   rw[e2] at e
   simp at e
   subst e
   have:j=i:=by omega
   subst this
   exact r
 ·have e:i=n:=by omega
  subst e
  exact .inl ⟨S.stop H sm,hfin ys H sm hl p⟩
theorem pe_globI {x:Str} {i:Int} {pos:Pos} (hg:Gl X x) (h:∃t,X.mg x=some (.int i t)) (hd:(x==("__debug__":Str))=false:=by decide):PE X (.Name x pos) (tC (.int i)):=by
 obtain⟨t,h⟩:=h
 exact pe_glob hg h ⟨t,rfl⟩ hd
end
end L2
namespace PySem
end PySem
namespace PySem
open Builtin Builtin.Str StrLaws
abbrev PLUS:Str:=⟨#[32,43,32]⟩
end PySem
namespace L2
open PySem PySem.Spec PyProof.Rows PySem.W
section
variable {X : Cx} {K : PySem.W.Frag}
end
end L2
namespace PySem
section
variable {M : Model} {A : Around} {E : Value → Shared → Prop} {s : Shared} {env : Env}
end
end PySem
namespace L2
open PySem PySem.Spec PyProof.Rows PySem.W
section
variable {M : Model} {A : Around} {E : Value → Shared → Prop} {s : Shared} {B : Heap} {l : List Env} {ad L : Addr} {cls a0 : Value}
end
section
variable {P : Program} {w : World} {K : PySem.W.Frag} {mg : Str → Option Value} {base : Heap} {N : List Str} {qual : Str} {scope : Scope} {f : Addr} {cdv : Value} {A : Around} {outer : List Env} {s0 : Shared} {H0 : Hp} {E : XK}
end
end L2
namespace L2
open PySem PySem.Spec PyProof.Rows PySem.W
section
variable {X : Cx}
end
end L2
namespace L2
open PySem PySem.Spec PyProof.Rows PySem.W
abbrev IsTri (h:Heap) (T:Addr) (a b c:Value):Prop:=h.get? T=some {cls:=.type "tuple",data:=.seq #[a,b,c]}
structure Ap3 (z TI TO i1 i2 i3 a b c:Addr):Prop where
 TIz:TI≠z
 TOz:TO≠z
 i1z:i1≠z
 i2z:i2≠z
 i3z:i3≠z
 TITO:TI≠TO
 TI1:TI≠i1
 TI2:TI≠i2
 TI3:TI≠i3
 TO1:TO≠i1
 TO2:TO≠i2
 TO3:TO≠i3
 i12:i1≠i2
 i13:i1≠i3
 i23:i2≠i3
 az:a≠z
 bz:b≠z
 cz:c≠z
 bTO:b≠TO
 cTO:c≠TO
 b1:b≠i1
 c1:c≠i1
 c2:c≠i2
section
variable {prog : Program} {w : World} {A : Around} {E : Value → Shared → Prop} {s : Shared}
end
abbrev z3a (h:Heap) (la:Addr):Heap:=h.push {cls:=.type "list_iterator",data:=.fields #[.ref la,.int 0 0]}
abbrev z3b (h:Heap) (la lb:Addr):Heap:=(z3a h la).push {cls:=.type "list_iterator",data:=.fields #[.ref lb,.int 0 0]}
abbrev z3c (h:Heap) (la lb lc:Addr):Heap:=(z3b h la lb).push {cls:=.type "list_iterator",data:=.fields #[.ref lc,.int 0 0]}
abbrev z3d (h:Heap) (la lb lc:Addr):Heap:=(z3c h la lb lc).push {cls:=.type "tuple",data:=.seq #[.ref h.objs.size,.ref (z3a h la).objs.size,.ref (z3b h la lb).objs.size]}
abbrev z3e (h:Heap) (la lb lc:Addr):Heap:=(z3d h la lb lc).push {cls:=.type "tuple",data:=.seq #[.none,.none,.none]}
abbrev z3f (h:Heap) (la lb lc:Addr):Heap:=(z3e h la lb lc).push {cls:=.type "zip",data:=.fields #[.none,.bool false,.bool false,.ref (z3c h la lb lc).objs.size,.ref (z3d h la lb lc).objs.size]}
section
variable {prog : Program} {w : World} {A : Around} {E : Value → Shared → Prop} {s : Shared}
end
section
variable {X : Cx} {elts : List Expr} {kk : Nat} {tpos : Pos} {K : PySem.W.Frag}
end
end L2
namespace L2
open PySem PySem.Spec PyProof.Rows PySem.W
structure FnOkM (P:Program) (w:World) (K:PySem.W.Frag) (mg:Str→Option Value) (base:Heap) (CX:CXT) (k:Nat) (f:Addr) (fd:FuncData) (ps:List Str) (sp:Sp):Prop where
 len:∀vs H Q E,sp vs H Q E→vs.length=ps.length
 run:∀(A:Around) (ad:Addr) (outer:List Env) (s:Shared) (H:Hp) (args:Args) (us:List Value) (vs:List V) (Q:VK) (E:XK),Room k A→Env0 P w K mg base A outer s H→BindsTo s fd args (ps.zip us)→Vals vs us→sp vs H Q E→
  codeAny (model P w) (A.mark (some (.ref ad))) (.call (.ref f) args) (CR CX outer P w H s Q E) s
structure CalM (P:Program) (w:World) (K:PySem.W.Frag) (mg:Str→Option Value) (base:Heap) (CX:CXT) (k:Nat) (x:Str) (ps:List Str) (sp:Sp):Prop where
 ex:∃f fd,FnOkM P w K mg base CX k f fd ps sp∧mg x=some (.ref f)∧PySem.W.keepIn K (.ref f)=true∧Binds K fd ps []
section
variable {P : Program} {w : World} {K : PySem.W.Frag} {mg : Str → Option Value} {base : Heap} {CX : CXT}
end
section
variable {X : Cx} {K : PySem.W.Frag}
end
end L2
namespace PySem
open Builtin Builtin.Str StrLaws
end PySem
namespace L2
open PySem PySem.Spec PyProof.Rows PySem.W
section
variable {X : Cx} {K : PySem.W.Frag}
end
end L2
namespace L2
open PySem PySem.Spec PyProof.Rows PySem.W
section
variable {X : Cx} {K : PySem.W.Frag}
noncomputable def tSortR (K:PySem.W.Frag) (te:TE):TE:=fun σ H Q=>te σ H fun v H1=>∃p ns,v=.ref p∧SqL K H1 p (List.map V.int ns)∧ns.length<64∧∀l,H1 l=none→Q (.ref l) (upd H1 l (.lst (List.map V.int (Nm.srt ns).reverse)))
theorem pe_sortR {e d:Expr} {te:TE} {p1 pos kp:Pos} (hg:Gl X "sorted") (hm:X.mg "sorted"=none) (he:PE X e te) (hd:PE X d (tC (.bl true))) (n1:noStar e=true:=by rfl):
  PE X (.Call (.Name "sorted" p1) [e] [⟨some "reverse",d,kp⟩] pos) (tSortR X.K te):=by
 intro pins s σ H Q I h
 refine wpAny_Call_Name_kw (ld_blt I hg hm (u:=.builtin "sorted") rfl ?_ (by decide) (by decide))
 refine PyProof.Rows.callWith_kw (e:=e) (rest:=[]) ?_ (by rw[se n1];rfl) (by rw[se n1];rfl) rfl rfl
 rw[se n1]
 show wpAny _ _ (spliced [(false,eval e X.env)]) _ _ s
 refine Calls.spliced_cons (thn (he pins s σ H _ I h) fun u s1 ⟨x,H1,I1,r1,q1⟩=>Calls.spliced_nil ?_)
 refine PyProof.Rows.kws_cons (thn (hd pins s1 σ H1 (fun v H2=>v=.bl true∧H2=H1) I1 ⟨rfl,rfl⟩) fun dv s2 ⟨y,H2,I2,r2,ey,eh⟩=>PyProof.Rows.kws_nil ?_)
 subst ey
 subst eh
 have r2:dv=.bool true:=r2
 subst r2
 obtain⟨p,ns,rfl,hq,hn,q⟩:=q1
 cases r1
 obtain⟨its,rv,pl,hz⟩:=I2.list hq
 have hl:=rv.length
 rw[List.length_map] at hl
 show wpAny _ _ (call (.builtin "sorted") [.ref p] [(Str.ofString "reverse",.bool true)]) _ _ _
 refine sorted_ints_rev pl.isList (intsAre_of rv) (by omega) fun out ns' a1 a2 a3=>?_
 have a3:ns'.Pairwise (·≥·):=a3
 have e3:ns'=(Nm.srt ns).reverse:=by
  have:=Nm.srt_one ((List.reverse_perm ns').trans a2) (List.pairwise_reverse.mpr a3)
  rw[←this,List.reverse_reverse]
 subst e3
 obtain⟨e,he⟩:=sortedAll_at s2.heap its out
 have fr:=I2.hok.fresh (a:=s2.heap.objs.size+1) (Nat.le_succ _)
 refine⟨.ref (s2.heap.objs.size+1),_,I2.laid (t':=s2.toks) (fun _ _=>sortedAll_old) (Nat.le_succ _) (o:=.lst (List.map V.int (Nm.srt ns).reverse)) ⟨?_,out.toList,e,vals_ints_of a1,?_⟩,rfl,q _ fr⟩
 ·rw[List.length_map,List.length_reverse,Nm.srt_length,sizeLine_eq];omega
 ·exact he
theorem pe_sortRK {e d:Expr} {te:TE} {p1 pos kp:Pos} (hg:Gl X "sorted") (hm:X.mg "sorted"=none) (he:PE X e te) (hd:PE X d (tC (.bl true))) (n1:noStar e=true:=by rfl) (hK:X.K=K:=by rfl):
  PE X (.Call (.Name "sorted" p1) [e] [⟨some "reverse",d,kp⟩] pos) (tSortR K te):=by subst hK;exact pe_sortR hg hm he hd n1
end
end L2
namespace PySem.SeqAt
open AutoSeq1 (wpAny_loadPart')
open MeetsSeq MeetsSeq2 MeetsSeq3
end PySem.SeqAt
namespace L2
open PySem PySem.Spec PyProof.Rows PySem.W
section
variable {X : Cx} {K : PySem.W.Frag}
end
end L2
namespace PySem.UL
section
variable {prog : Program} {w : World} {A : Around} {E : Value → Shared → Prop} {s : Shared}
theorem draw_list {it t:Addr} {items:Array Value} (hne:t≠it):∀(n i:Nat) (s:Shared) (Q:List Value→Shared→Prop),s.heap.IsListIter it t i→s.heap.IsList t items→i+n≤items.size→
  (∀h',h'.IsListIter it t (i+n)→Heap.SameBut it s.heap h'→Q ((items.toList.drop i).take n) {s with heap:=h'})→wpAny (model prog w) A (draw (.ref it) n) Q E s
 | 0,i,s,Q,hit,_,_,hQ=>by
  show wpAny _ _ (pure []) Q E s
  exact wpAny_pure (by simpa using hQ s.heap hit (Heap.SameBut.refl ..))
 | n+1,i,s,Q,hit,ht,hle,hQ=>by
  have hlt:i<items.size:=by omega
  show wpAny _ _ (pyNext (.ref it) >>=_) Q E s
  refine wpAny_bind (wpAny_pyNext_list_item hit ht (x:=items[i]) (by simp [hlt]) fun h₁ hit₁ hs₁=>?_)
  refine wpAny_bind (wpAny_holding (draw_list hne n (i+1) _ _ hit₁ (ht.extBut hs₁.extBut hne) (by omega) fun h₂ hit₂ hs₂=>wpAny_pure ?_))
  have hd:items.toList.drop i=items[i]::items.toList.drop (i+1):=by simp [List.drop_eq_getElem_cons,hlt]
  have:=hQ h₂ (by rw[show i+ (n+1)=i+1+n by omega];exact hit₂) (hs₁.trans hs₂)
  rw[hd,List.take_succ_cons] at this
  exact this
theorem unpackItems_list {t:Addr} {items:Array Value} {Q:List Value→Shared→Prop} (hh:A.handled=none) (ht:s.heap.IsList t items)
  (hQ:∀h',Heap.ExtBut s.heap.objs.size s.heap h'→Q items.toList {s with heap:=h'}):wpAny (model prog w) A (unpackItems (.ref t) items.size none) Q E s:=by
 have hlt:t≠s.heap.objs.size:=by obtain⟨o,ho,_⟩:=ht;exact Nat.ne_of_lt (Heap.lt_size ho)
 unfold unpackItems
 refine wpAny_bind ?_
 ·unfold notIterableAtAll
  refine wpAny_bind (wpAny_specialOf ht.typeIs slot_list_iter.lookup ?_)
  refine wpAny_pure ?_
  simp only[Bool.false_eq_true,if_false]
  refine wpAny_bind (wpAny_holding (wpAny_pyIter_list ht ?_))
  refine wpAny_bind (wpAny_holding (draw_list hlt items.size 0 _ _ ⟨_,Heap.get?_push_size _ rfl,rfl,rfl⟩ (ht.push _) (by omega) fun h₁ hit₁ hs₁=>?_))
  have hall:List.take items.size (List.drop 0 items.toList)=items.toList:=by
   rw[List.drop_zero];exact List.take_of_length_le (by simp)
  rw[hall]
  rw[if_neg (by simp)]
  have ht₁:h₁.IsList t items:=(ht.push _).extBut hs₁.extBut hlt
  refine wpAny_bind (wpAny_holding (wpAny_pyNext_list_end hh hit₁ ht₁ (by simp) fun h₂ he₂=>?_))
  simp only[Option.isSome_none,Bool.false_eq_true,if_false]
  refine wpAny_pure (hQ h₂ fun b o hb e=>he₂ b o hb (hs₁.extBut b o hb (Heap.get?_push_of_some _ e)))
theorem unpack_list {t:Addr} {items:Array Value} {targets:List (Bool×(Value→Sem Unit))} {Q:Unit→Shared→Prop} (hh:A.handled=none) (ht:s.heap.IsList t items)
  (hn:targets.length=items.size) (hstar:targets.findIdx? (·.1)=none)
  (h:∀h',Heap.ExtBut s.heap.objs.size s.heap h'→wpAny (model prog w) A (assignInOrder (targets.map (·.2)) items.toList) Q E {s with heap:=h'}):
  wpAny (model prog w) A (unpack (.ref t) targets) Q E s:=by
 unfold unpack
 rw[hn,hstar]
 exact wpAny_bind (wpAny_holding (unpackItems_list hh ht h))
theorem assign_Tuple_list {env:Env} {elts:List Expr} {x1} {pos:Pos} {t:Addr} {items:Array Value} {Q:Unit→Shared→Prop} (hh:A.handled=none) (ht:s.heap.IsList t items)
  (hn:(assignEach elts env).length=items.size) (hstar:(assignEach elts env).findIdx? (·.1)=none)
  (h:∀h',Heap.ExtBut s.heap.objs.size s.heap h'→wpAny (model prog w) A (assignInOrder ((assignEach elts env).map (·.2)) items.toList) Q E {s with heap:=h'}):
  wpAny (model prog w) A (assign (.Tuple elts x1 pos) env (.ref t)) Q E s:=by
 rw[PyProof.Rows.assign_Tuple]
 exact wpAny_bind (wpAny_standAt (unpack_list hh ht hn hstar h))
end
end PySem.UL
namespace L2
open PySem PySem.Spec PyProof.Rows PySem.W
section
variable {X : Cx} {K : PySem.W.Frag}
noncomputable def gLst (K:PySem.W.Frag) (n:Nat) (t:TGs):TG:=fun v σ H Q=>∃a xs,v=.ref a∧SqL K H a xs∧xs.length=n∧t xs σ H Q
theorem pg_lst {es:List Expr} {k:Nat} {t:TGs} {n:Nat} {pos:Pos} (hc:X.calm=true) (h:PGs X es t)
  (hn:(assignEach es X.env).length=n:=by rfl) (hst:(assignEach es X.env).findIdx? (·.1)=none:=by rfl):PG X (.Tuple es k pos) (gLst X.K n t):=by
 intro pins s σ H v u Q I r hw
 obtain⟨a,xs,e1,hq,hl,hw⟩:=hw
 subst e1
 cases r
 obtain⟨its,rv,ht,hz⟩:=I.list hq
 refine PySem.UL.assign_Tuple_list (I.ok.hd hc) ht.isList (by simp [hn,←hl,rv.length]) hst fun h' hx=>?_
 have I1:Inv X pins σ H {s with heap:=h'}:=I.kept (t':=s.toks) fun b o e=>hx b o (Nat.ne_of_lt (Heap.lt_size e)) e
 exact h pins _ σ H xs _ Q I1 (by simpa using rv) hw
theorem pg_lstK {es:List Expr} {k:Nat} {t:TGs} {n:Nat} {pos:Pos} (hc:X.calm=true) (h:PGs X es t)
  (hn:(assignEach es X.env).length=n:=by rfl) (hst:(assignEach es X.env).findIdx? (·.1)=none:=by rfl) (hK:X.K=K:=by rfl):PG X (.Tuple es k pos) (gLst K n t):=by subst hK;exact pg_lst hc h hn hst
end
end L2
namespace PySem.Tim
open PySem PyProof.Rows
noncomputable def IsI (x:Keyed):Prop:=∃n t,x.1=.int n t
abbrev kn (x:Keyed):Int:=numOf x.1
section
variable {prog : Program} {w : World} {A : Around} {E : Value → Shared → Prop} {s : Shared}
noncomputable def B (left:Bool) (key:Keyed) (arr:Array Keyed) (base i:Nat):Bool:=if left then decide (K arr (base+i)<kn key) else decide (K arr (base+i)≤kn key)
noncomputable def dn (a b out:Array Keyed) (ia ib:Nat):Array Keyed:=out++a.extract ia a.size++b.extract ib b.size
noncomputable def Le (x y:Keyed):Prop:=kn x≤kn y
structure MI (a b out:List Keyed) (ia ib:Nat):Prop where
 perm:out.Perm (a.take ia++b.take ib)
 srt:out.Pairwise Le
 le:∀x∈out,∀y,(y∈a.drop ia∨y∈b.drop ib)→kn x≤kn y
abbrev LoT:=Option (Array Keyed)×Array Keyed×Nat×Nat×Nat×Nat×Nat
structure MC (st:SortSt) (a b:Array Keyed):Prop where
 hk:kindOf st=oneType'
 iA:∀x∈a.toList,IsI x
 iB:∀x∈b.toList,IsI x
 sA:a.toList.Pairwise Le
 sB:b.toList.Pairwise Le
 hl:∀x,a.toList[a.size - 1]?=some x→∀y∈b.toList,kn y≤kn x
structure HI (a b o:List Keyed) (na nb:Nat):Prop where
 perm:o.Perm (a.drop na++b.drop nb)
 srt:o.Pairwise Le
 le:∀x∈o,∀y,(y∈a.take na∨y∈b.take nb)→kn y≤kn x
abbrev HiT:=Option (Array Keyed)×Nat×Nat×Array Keyed×Nat×Nat×Nat
structure HC (st:SortSt) (a b:Array Keyed):Prop where
 hk:kindOf st=oneType'
 iA:∀x∈a.toList,IsI x
 iB:∀x∈b.toList,IsI x
 sA:a.toList.Pairwise Le
 sB:b.toList.Pairwise Le
 hf:∀x,b.toList[0]?=some x→∀y∈a.toList,kn x≤kn y
noncomputable def wr (sa:Nat) (arr:Array Keyed) (l:List (Keyed×Nat)):Array Keyed:=l.foldl (fun a p=>a.setIfInBounds (sa+p.2) p.1) arr
noncomputable def SegS (arr:Array Keyed) (lo n:Nat):Prop:=∀i j,lo≤i→i≤j→j<lo+n→K arr i≤K arr j
end
end PySem.Tim
namespace PySem.Tim
open PySem PyProof.Rows
section
variable {prog : Program} {w : World} {A : Around} {E : Value → Shared → Prop} {s : Shared}
structure TB (a₀:Array Keyed) (st:SortSt):Prop where
 perm:(arrOf st).Perm a₀
 kind:kindOf st=oneType'
 failed:failedOf st=none
noncomputable def Runs (arr:Array Keyed):Nat→List (Nat×Nat×Nat)→Nat→Prop
 | s,[],e=>s=e
 | s,(a,n,_)::r,e=>a=s∧1≤n∧SegS arr s n∧Runs arr (s+n) r e
end
end PySem.Tim
namespace PySem.Tim
open PySem PyProof.Rows
section
variable {prog : Program} {w : World} {A : Around} {E : Value → Shared → Prop} {s : Shared}
end
end PySem.Tim
namespace L2
open PySem PySem.Spec PyProof.Rows PySem.W
section
variable {X : Cx} {K : PySem.W.Frag}
end
end L2
namespace L2
open PySem PySem.Spec PyProof.Rows
section
variable {X : Cx} {k k2 : Nat} {x x2 : Str} {ps ps2 : List Str} {sp sp2 : Sp} {e e2 : Expr} {es es2 : List Expr} {t t2 : TA} {p pos p2 pos2 : Pos} {cx n : Str} {np hpos epos epos2 tpos ipos : Pos} {b₀ : Stmt} {suite : List Stmt} {i : Nat} {ts : TS} {C2 : Addr} {c : Expr} {tc : TT}
end
end L2
namespace L2
open PySem PySem.Spec PyProof.Rows
structure MkCal (P:Program) (w:World) (K:PySem.W.Frag) (mg:Str→Option Value) (base:Heap) (CX:CXT) (k:Nat) (x:Str) (C:Addr) (ps:List Str) (sp:Sp):Prop where
 ex:∃f fd,Mk K C f∧FnOk P w K mg base CX k f fd ps sp∧mg x=some (.ref C)∧Binds K fd ps []
section
variable {X : Cx}
theorem pe_mk {CX:CXT} {k:Nat} {x:Str} {C:Addr} {ps:List Str} {sp:Sp} {E:XK} {e:Expr} {es:List Expr} {t:TA} {p pos:Pos} (M:MkCal X.prog X.w X.K X.mg X.base CX k x C ps sp) (hr:Room (k+1) X.A) (hg:Gl X x) (hx:Passes CX X E) (ha:PA X (e::es) t)
  (hdb:(x==("__debug__":Str))=false:=by decide) (he:starEach (e::es) X.env=(false,eval e X.env)::starEach es X.env:=by rfl) (hpl:(backTo pos (starEach es X.env)).any (·.1)=false:=by rfl):
  PE X (.Call (.Name x p) (e::es) [] pos) (tMake C sp [] E t):=by
 obtain⟨f,fd,m,F,hm,hb⟩:=M.ex
 exact pe_make m F hr hg hm hb .nil hx ha hdb he hpl
end
structure DnI (K:PySem.W.Frag) (mg:Str→Option Value) (x qual:Str) (st:Stmt) (C:Addr):Prop where
 ex:∃f fd,Fun K "__init__" qual st f fd∧Mk K C f∧mg x=some (.ref C)
theorem DnI.cal {P:Program} {w:World} {K:PySem.W.Frag} {mg:Str→Option Value} {base:Heap} {CX:CXT} {x qual:Str} {st:Stmt} {C:Addr} {ps:List Str} {k:Nat} {sp:Sp} (D:DnI K mg x qual st C)
  (hb:∀(kV doc pm:Value) (an:Option Addr) (cdv ct:Value) (us:List Value),us.length=ps.length→bindArgs (PySem.W.fnOf "__init__" qual (defArgs st) (defBody st) (defScope st) .none kV doc pm an cdv ct) ⟨us,[]⟩=pure (ps.zip us))
  (h:∀f fd,Fun K "__init__" qual st f fd→FnOk P w K mg base CX k f fd ps sp):MkCal P w K mg base CX k x C ps sp:=by
 obtain⟨f,fd,F,m,hm⟩:=D.ex
 exact⟨f,fd,m,h f fd F,hm,F.binds hb⟩
end L2
namespace L2
open PySem PySem.Spec PyProof.Rows
noncomputable instance decPyData:DecidableEq PyData:=fun _ _=>Classical.propDecidable _
mutual
noncomputable def hsh:PyData→Bool
 | .int _=>true
 | .str x=>PyData.canLay0 (.str x)
 | .tuple xs=>hshL xs
 | _=>false
noncomputable def hshL:List PyData→Bool
 | []=>true
 | x::xs=>hsh x && hshL xs
end
mutual
theorem hsh_lay:∀(d:PyData),hsh d=true→d.canLay0=true
 | .none,h=>by simp [hsh] at h
 | .bool _,h=>by simp [hsh] at h
 | .int _,_=>by simp [PyData.canLay0]
 | .str x,h=>by rw[hsh] at h;exact h
 | .list _,h=>by simp [hsh] at h
 | .tuple xs,h=>by rw[hsh] at h;rw[PyData.canLay0];exact hshL_lay xs h
 | .dict _,h=>by simp [hsh] at h
theorem hshL_lay:∀(xs:List PyData),hshL xs=true→PyData.canLayAll0 xs=true
 | [],_=>by simp [PyData.canLayAll0]
 | x::xs,h=>by
  rw[hshL,Bool.and_eq_true] at h
  rw[PyData.canLayAll0,Bool.and_eq_true]
  exact⟨hsh_lay x h.1,hshL_lay xs h.2⟩
end
mutual
theorem eqv_is:∀(x y:PyData),hsh x=true→hsh y=true→PyData.eqv x y=decide (x=y)
 | .int i,y,_,hy=>by
  cases y with
  | int j=>
   rw[PyData.eqv]
   by_cases c:i=j
   ·subst c;simp
   ·rw[decide_eq_false (fun e=>c (by injection e))]
    simp [c]
  | str _=>simp [PyData.eqv]
  | tuple _=>simp [PyData.eqv]
  | _=>simp [hsh] at hy
 | .str a,y,_,hy=>by
  cases y with
  | str b=>
   rw[PyData.eqv]
   by_cases c:a=b
   ·subst c;simp
   ·rw[decide_eq_false (fun e=>c (by injection e))]
    simp [c]
  | int _=>simp [PyData.eqv]
  | tuple _=>simp [PyData.eqv]
  | _=>simp [hsh] at hy
 | .tuple xs,y,hx,hy=>by
  cases y with
  | tuple ys=>
   rw[hsh] at hx hy
   rw[PyData.eqv,eqvL_is xs ys hx hy]
   by_cases c:xs=ys
   ·subst c;simp
   ·rw[decide_eq_false c,decide_eq_false (fun e=>c (by injection e))]
  | int _=>simp [PyData.eqv]
  | str _=>simp [PyData.eqv]
  | _=>simp [hsh] at hy
 | .none,_,h,_=>by simp [hsh] at h
 | .bool _,_,h,_=>by simp [hsh] at h
 | .list _,_,h,_=>by simp [hsh] at h
 | .dict _,_,h,_=>by simp [hsh] at h
theorem eqvL_is:∀(xs ys:List PyData),hshL xs=true→hshL ys=true→PyData.eqvAll xs ys=decide (xs=ys)
 | [],[],_,_=>by simp [PyData.eqvAll]
 | [],_::_,_,_=>by simp [PyData.eqvAll]
 | _::_,[],_,_=>by simp [PyData.eqvAll]
 | x::xs,y::ys,hx,hy=>by
  rw[hshL,Bool.and_eq_true] at hx hy
  rw[PyData.eqvAll,eqv_is x y hx.1 hy.1,eqvL_is xs ys hx.2 hy.2]
  by_cases c:x=y
  ·subst c
   by_cases d:xs=ys
   ·subst d;simp
   ·rw[decide_eq_false d,decide_eq_false (fun e=>d (List.cons.inj e).2)];simp
  ·rw[decide_eq_false c,decide_eq_false (fun e=>c (List.cons.inj e).1)];simp
end
mutual
theorem reads_keep {h h':Heap} {d:Addr} {o:Obj} {es ep} (ho:h.get? d=some o) (hd:o.data=.dict es ep) (hs:Heap.SameBut d h h'):∀(x:PyData) (v:Value) (as:List Addr),hsh x=true→Reads h v x as→Reads h' v x as
 | .int _,_,_,_,r=>by cases r;exact .int _ _
 | .str _,_,_,_,r=>by cases r;exact .str _ _
 | .tuple xs,_,_,hx,r=>by
  rw[hsh] at hx
  cases r with
  | @tuple a o' vs n _ _ e c q t=>
   have ne:a≠d:=fun z=>by
    subst z
    rw[ho] at e
    cases e
    rw[hd] at q
    cases q
   exact .tuple ((hs.2 a ne).trans e) c q (readsL_keep ho hd hs xs _ _ hx t)
 | .none,_,_,h,_=>by simp [hsh] at h
 | .bool _,_,_,h,_=>by simp [hsh] at h
 | .list _,_,_,h,_=>by simp [hsh] at h
 | .dict _,_,_,h,_=>by simp [hsh] at h
theorem readsL_keep {h h':Heap} {d:Addr} {o:Obj} {es ep} (ho:h.get? d=some o) (hd:o.data=.dict es ep) (hs:Heap.SameBut d h h'):∀(xs:List PyData) (vs:List Value) (as:List Addr),hshL xs=true→ReadsAll h vs xs as→ReadsAll h' vs xs as
 | [],_,_,_,r=>by cases r;exact .nil
 | x::xs,_,_,hx,r=>by
  rw[hshL,Bool.and_eq_true] at hx
  cases r with
  | cons r1 r2=>exact .cons (reads_keep ho hd hs x _ _ hx.1 r1) (readsL_keep ho hd hs xs _ _ hx.2 r2)
end
mutual
noncomputable def hashP (w:World):PyData→Int
 | .int i=>keyH w (.inl i)
 | .str x=>keyH w (.inr x)
 | .tuple xs=>reduceHash (Builtin.Tuple.tupleHashOf (hashL w xs))
 | _=>0
noncomputable def hashL (w:World):List PyData→List Int
 | []=>[]
 | x::xs=>hashP w x::hashL w xs
end
mutual
noncomputable def drw:PyData→Nat
 | .tuple xs=>drwL xs+1
 | _=>1
noncomputable def drwL:List PyData→Nat
 | []=>0
 | x::xs=>drw x+drwL xs
end
section
variable {prog : Program} {w : World}
noncomputable def PH (prog:Program) (w:World) (m:Nat) (h:Heap) (d:PyData) (v:Value):Prop:=∀(A:Around) (E:Value→Shared→Prop) (s:Shared) (Q:Int→Shared→Prop),s.heap=h→A.units+m<cLine→
 Q (hashP w d) {s with toks:=s.toks+drw d}→wpAny (model prog w) A (pyHash v) Q E s
inductive PHs (prog:Program) (w:World) (m:Nat) (h:Heap):List PyData→List Value→Prop
 | nil:PHs prog w m h [] []
 | cons {d v ds vs}:PH prog w m h d v→PHs prog w m h ds vs→PHs prog w m h (d::ds) (v::vs)
theorem hashL_app (xs ys:List PyData):hashL w (xs++ys)=hashL w xs++hashL w ys:=by
 induction xs with
 | nil=>simp [hashL]
 | cons x xs ih=>simp [hashL,ih]
theorem drwL_app (xs ys:List PyData):drwL (xs++ys)=drwL xs+drwL ys:=by
 induction xs with
 | nil=>simp [drwL]
 | cons x xs ih=>simp [drwL,ih,Nat.add_assoc]
theorem ph_tuple {m:Nat} {h:Heap} {ds:List PyData} {a:Addr} {o:Obj} {items n} (ho:h.get? a=some o) (hc:o.cls=.type "tuple") (hd:o.data=.seq items n) (hi:PHs prog w m h ds items.toList):PH prog w (m+1) h (.tuple ds) (.ref a):=by
 intro A E s Q hh hu hq
 subst hh
 have hT:s.TypeIs (.ref a) "tuple":=⟨o,ho,hc⟩
 have hu0:A.units<cLine:=by omega
 unfold pyHash
 first | unfold pyHashByItsType | skip
 first | refine wpAny_bind (wpAny_cRoomFor_or (.inr hu0) ?_) | skip
 refine wpAny_bind (wpAny_specialOf hT F.slot_tuple_hash.lookup ?_)
 show wpAny _ _ (if (some (Value.builtin "tuple.__hash__")==some Value.none)=true then _ else _) Q E s
 rw[if_neg (by rw[beq_builtin_none];exact Bool.false_ne_true)]
 refine wpAny_bind (wpAny_specialOf hT F.slot_tuple_hash.lookup ?_)
 show wpAny _ _ (callSpecialIfBoundUnlessNone? (.ref a) "__hash__" _ >>=_) Q E s
 refine wpAny_bind (wpAny_callSpecialIfBoundUnlessNone?_slot hT F.slot_tuple_hash (wpAny_call_entry F.slot_tuple_hash hT F.entry_tuple_hash ?_ (F.args_tuple_hash_1 _)))
 show wpAny _ _ (Builtin.Tuple.tupleItemsOf (.ref a) >>=_) _ _ s
 refine wpAny_bind (wpAny_tupleItemsOf ho hd ?_)
 refine wpAny_bind ?_
 rw[←Array.forIn_toList]
 refine wpAny_forIn_list _
  (fun rest (b:Array Int) s'=>∃done left,ds=done++left∧PHs prog w m s.heap left rest∧b.toList=hashL w done∧s'={s with toks:=s.toks+drwL done})
  _ ?_ ?_ _ _ ⟨[],ds,rfl,hi,rfl,rfl⟩
 ·rintro x rest b s' ⟨done,left,rfl,hl,hb,rfl⟩
  cases hl with
  | @cons k _ ks' _ h1 hl'=>
   refine wpAny_bind (h1 _ _ _ _ rfl (by show A.units+1+m<cLine;omega) ?_)
   have e1:(b.push (hashP w k)).toList=hashL w (done++ [k]):=by rw[hashL_app];simp [hb,hashL]
   have e2:s.toks+drwL done+drw k=s.toks+drwL (done++ [k]):=by rw[drwL_app];simp [drwL,Nat.add_assoc]
   first
    | exact wpAny_pure ⟨done++ [k],ks',by simp,hl',e1,by rw[←e2]⟩
    | exact wpAny_bind (wpAny_pure (wpAny_pure ⟨done++ [k],ks',by simp,hl',e1,by rw[←e2]⟩))
 ·rintro b s' ⟨done,left,rfl,hl,hb,rfl⟩
  cases hl
  rw[List.append_nil] at hq
  show wpAny _ _ (retInt (Builtin.Tuple.tupleHashOf b.toList)) _ _ _
  rw[hb]
  refine wpAny_ret_mkInt ?_
  show wpAny _ _ (if (decide (-(2:Int)^63≤Builtin.Tuple.tupleHashOf (hashL w done)) && decide (Builtin.Tuple.tupleHashOf (hashL w done)<2^63))=true then _ else _) Q E _
  rw[hashP,drw] at hq
  unfold reduceHash at hq
  by_cases hr:(decide (-(2:Int)^63≤Builtin.Tuple.tupleHashOf (hashL w done)) && decide (Builtin.Tuple.tupleHashOf (hashL w done)<2^63))=true
  ·rw[if_pos hr]
   rw[if_pos hr] at hq
   exact wpAny_pure (by simpa [Nat.add_assoc] using hq)
  ·rw[if_neg hr]
   rw[if_neg hr] at hq
   exact wpAny_bind (wpAny_rule (wpAny_pure (by simpa [Nat.add_assoc] using hq)))
mutual
theorem ph_all {h:Heap}:∀(d:PyData) (v:Value) (as:List Addr),hsh d=true→Reads h v d as→PH prog w d.depth h d v
 | .int i,_,_,_,r=>by
  cases r with
  | int _ t=>
   intro A E s Q _ _ hq
   exact(mixKind prog w).pyHash (k:=.inl i) (kV_is (k:=.inl i) ⟨t,rfl⟩) hq
 | .str x,_,_,_,r=>by
  cases r with
  | str _ t=>
   intro A E s Q _ _ hq
   exact(mixKind prog w).pyHash (k:=.inr x) (kV_is (k:=.inr x) ⟨t,rfl⟩) hq
 | .tuple xs,_,_,hx,r=>by
  rw[hsh] at hx
  cases r with
  | tuple e c q t=>exact ph_tuple e c q (phs_all xs _ _ hx t)
 | .none,_,_,h,_=>by simp [hsh] at h
 | .bool _,_,_,h,_=>by simp [hsh] at h
 | .list _,_,_,h,_=>by simp [hsh] at h
 | .dict _,_,_,h,_=>by simp [hsh] at h
theorem phs_all {h:Heap}:∀(ds:List PyData) (vs:List Value) (as:List Addr),hshL ds=true→ReadsAll h vs ds as→PHs prog w (PyData.depthAll ds) h ds vs
 | [],_,_,_,r=>by cases r;exact .nil
 | x::xs,_,_,hx,r=>by
  rw[hshL,Bool.and_eq_true] at hx
  cases r with
  | cons r1 r2=>
   have p1:=ph_all x _ _ hx.1 r1
   have p2:=phs_all xs _ _ hx.2 r2
   have up:∀{m m':Nat} {ds:List PyData} {vs:List Value},m≤m'→PHs prog w m h ds vs→PHs prog w m' h ds vs:=fun l q=>by
    induction q with
    | nil=>exact .nil
    | cons p _ ih=>exact .cons (fun A E s Q e u=>p A E s Q e (by omega)) ih
   refine .cons (fun A E s Q e u=>p1 A E s Q e ?_) (up ?_ p2)
   ·rw[PyData.depthAll] at u
    omega
   ·rw[PyData.depthAll]
    omega
end
theorem quiet_tuple {h:Heap} {k:Nat} {a:Addr} {o:Obj} {items n} (ho:h.get? a=some o) (hc:o.cls=.type "tuple") (hd:o.data=.seq items n) (hi:∀v∈items.toList,∀(A:Around) (E:Value→Shared→Prop) (s:Shared) (Q:Bool→Shared→Prop),s.heap=h→Q true s→wpAny (model prog w) A (eqIsQuiet k v) Q E s)
  (A:Around) (E:Value→Shared→Prop) (s:Shared) (Q:Bool→Shared→Prop) (hh:s.heap=h) (hq:Q true s):wpAny (model prog w) A (eqIsQuiet (k+1) (.ref a)) Q E s:=by
 subst hh
 have hT:s.TypeIs (.ref a) "tuple":=⟨o,ho,hc⟩
 unfold eqIsQuiet
 refine wpAny_bind (wpAny_specialOf hT F.slot_tuple_eq.lookup ?_)
 show wpAny _ _ (isInstance (.ref a) (.type "tuple") >>=_) _ _ s
 refine wpAny_bind (wpAny_isInstance hT isSubtype_tuple_tuple ?_)
 simp only[Bool.not_true,Bool.false_eq_true,if_false]
 refine wpAny_bind (wpAny_seqItems ho hd ?_)
 refine wpAny_bind ?_
 show wpAny _ _ (forIn items _ _) _ _ s
 rw[←Array.forIn_toList]
 refine wpAny_forIn_list _ (fun rest r s'=>r.1=none∧s'=s∧∀v∈rest,v∈items.toList) _ ?_ ?_ _ _ ⟨rfl,rfl,fun _ h=>h⟩
 ·rintro v rest r s' ⟨hr,rfl,hall⟩
  refine wpAny_bind (hi v (hall v List.mem_cons_self) _ _ _ _ rfl ?_)
  simp only[Bool.not_true,Bool.false_eq_true,if_false]
  exact wpAny_pure ⟨rfl,rfl,fun u hu'=>hall u (List.mem_cons_of_mem _ hu')⟩
 ·rintro⟨r1,r2⟩ s' ⟨hr,rfl,_⟩
  simp only at hr
  subst hr
  exact wpAny_pure hq
mutual
theorem quiet_all {h:Heap}:∀(d:PyData) (v:Value) (as:List Addr) (k:Nat),hsh d=true→d.depth≤k→Reads h v d as→∀(A:Around) (E:Value→Shared→Prop) (s:Shared) (Q:Bool→Shared→Prop),s.heap=h→Q true s→wpAny (model prog w) A (eqIsQuiet k v) Q E s
 | .int _,_,_,_,_,_,r=>by
  cases r
  intro A E s Q _ hq
  rw[eqIsQuiet_byValue _ rfl]
  exact wpAny_pure hq
 | .str _,_,_,_,_,_,r=>by
  cases r
  intro A E s Q _ hq
  rw[eqIsQuiet_byValue _ rfl]
  exact wpAny_pure hq
 | .tuple xs,_,_,k,hx,hk,r=>by
  rw[hsh] at hx
  rw[PyData.depth] at hk
  cases k with
  | zero=>omega
  | succ k=>
   cases r with
   | tuple e c q t=>exact quiet_tuple e c q (quietL_all xs _ _ k hx (by omega) t)
 | .none,_,_,_,h,_,_=>by simp [hsh] at h
 | .bool _,_,_,_,h,_,_=>by simp [hsh] at h
 | .list _,_,_,_,h,_,_=>by simp [hsh] at h
 | .dict _,_,_,_,h,_,_=>by simp [hsh] at h
theorem quietL_all {h:Heap}:∀(ds:List PyData) (vs:List Value) (as:List Addr) (k:Nat),hshL ds=true→PyData.depthAll ds≤k→ReadsAll h vs ds as→∀v∈vs,∀(A:Around) (E:Value→Shared→Prop) (s:Shared) (Q:Bool→Shared→Prop),s.heap=h→Q true s→wpAny (model prog w) A (eqIsQuiet k v) Q E s
 | [],_,_,_,_,_,r=>by
  cases r
  intro v hv
  simp at hv
 | x::xs,_,_,k,hx,hk,r=>by
  rw[hshL,Bool.and_eq_true] at hx
  rw[PyData.depthAll] at hk
  cases r with
  | cons r1 r2=>
   intro v hv
   rcases List.mem_cons.mp hv with rfl | hv
   ·exact quiet_all x _ _ k hx.1 (by omega) r1
   ·exact quietL_all xs _ _ k hx.2 (by omega) r2 v hv
end
noncomputable def IsN (h:Heap) (k:PyData) (a:Addr):Prop:=hsh k=true∧k.depth≤8∧∃as,Reads h (.ref a) k as
noncomputable def nestKind (prog:Program) (w:World):HeapKind prog w PyData where
 is:=IsN
 hash:=hashP w
 draws:=drw
 room:=fun A=>A.units+8<cLine
 inj:=fun⟨hx,_,_,rx⟩ ⟨_,_,_,ry⟩=>SeqAt.Reads.unique _ _ _ _ _ (hsh_lay _ hx) rx ry
 keeps:=fun⟨hx,hd,as,r⟩ ho hdd hs=>⟨hx,hd,as,reads_keep ho hdd hs _ _ _ hx r⟩
 pyHash:=fun hu ⟨hx,hd,_,r⟩ h=>ph_all _ _ _ hx r _ _ _ _ rfl (by omega) h
 eqBool:=fun {A E s x y a b Q} hu ⟨hx,dx,_,rx⟩ ⟨hy,dy,_,ry⟩ h=>SeqAt.eqBoolOverData _ _ _ _ _ _ _ _ _ _ _ _ rx ry (hsh_lay _ hx) (hsh_lay _ hy) (by omega) (by rw[eqv_is _ _ hx hy];exact h)
 quiet:=fun⟨hx,hd,_,r⟩ h=>quiet_all _ _ _ 8 hx hd r _ _ _ _ rfl h
end
end L2
namespace PySem.Sts
open PySem PyProof.Rows
noncomputable def Rise (xs:Array Nat):Prop:=xs.toList.Pairwise (·<·)
noncomputable def TP (L:Bool) (t:SetTable):Prop:=Rise t.place∧t.led=L
end PySem.Sts
namespace PySem.Sts
open PySem PyProof.Rows
section
variable {prog : Program} {w : World} {K : Type} [DecidableEq K] {knd : KeyKind prog w K} {A : Around} {E : Value → Shared → Prop} {s : Shared} {L : Bool}
end
end PySem.Sts
namespace PySem.Sts
open PySem PyProof.Rows
section
variable {prog : Program} {w : World} {A : Around} {R : Result → Shared → Prop} {I : Addr} {fp wr : List Addr} {G : Array GenState → Array GenState → Prop} {n : Nat} {P : Nat → Value → Prop} {St : Nat → Shared → Prop} {L : Bool}
end
section
variable {prog : Program} {w : World} {A : Around} {E : Value → Shared → Prop} {s : Shared}
end
end PySem.Sts
namespace PySem.Sts
open PySem PyProof.Rows
section
variable {prog : Program} {w : World} {A : Around} {E : Value → Shared → Prop} {s : Shared}
end
end PySem.Sts
namespace PySem.Sts
open PySem PyProof.Rows
section
variable {prog : Program} {w : World} {A : Around} {E : Value → Shared → Prop} {s : Shared}
end
section
variable {prog : Program} {w : World} {A : Around} {E : Value → Shared → Prop} {s : Shared}
end
end PySem.Sts
namespace PySem.Sts
open PySem PyProof.Rows
section
variable {prog : Program} {w : World} {A : Around} {E : Value → Shared → Prop} {s : Shared}
end
end PySem.Sts
namespace PySem.Sts
open PySem PyProof.Rows
section
variable {prog : Program} {w : World} {A : Around} {E : Value → Shared → Prop} {s : Shared}
end
end PySem.Sts
namespace L2
open PySem PySem.Spec PyProof.Rows PySem.W PySem.Sts
section
variable {X : Cx} {P : Program} {w : World} {K : PySem.W.Frag}
end
end L2
namespace L2
open PySem PySem.Spec PyProof.Rows
mutual
noncomputable def toP:Dat→PyData
 | .non=>.none
 | .bl b=>.bool b
 | .int i=>.int i
 | .str x=>.str x
 | .tup l=>.tuple (toPL l)
 | .lst l=>.list (toPL l)
noncomputable def toPL:List Dat→List PyData
 | []=>[]
 | d::ds=>toP d::toPL ds
end
section
variable {P : Program} {w : World} {H : Hp} {h : Heap}
mutual
theorem reads_of (ok:HOk P w H h):∀(d:Dat) (v:V) (u:Value),Rep H d v→RelV v u→∃as,Reads h u (toP d) as
 | .non,v,u,r,q=>by
  rw[Rep] at r
  subst r
  cases (show u=Value.none from q)
  exact⟨_,.none⟩
 | .bl b,v,u,r,q=>by
  rw[Rep] at r
  subst r
  cases (show u=Value.bool b from q)
  exact⟨_,.bool b⟩
 | .int i,v,u,r,q=>by
  rw[Rep] at r
  subst r
  obtain⟨t,rfl⟩:=(show ∃t,u=Value.int i t from q)
  exact⟨_,.int i t⟩
 | .str x,v,u,r,q=>by
  rw[Rep] at r
  subst r
  obtain⟨t,rfl⟩:=(show ∃t,u=Value.str x t from q)
  exact⟨_,.str x t⟩
 | .tup l,v,u,r,q=>by
  rw[Rep] at r
  obtain⟨p,vs,rfl,hp,rl⟩:=r
  cases (show u=Value.ref p from q)
  obtain⟨_,its,rv,o,h1,h2,n,h3⟩:=(show ObjOk P w H h p (.tup vs) from ok p _ hp)
  obtain⟨as,ra⟩:=readsL_of ok l vs its rl rv
  exact⟨as,.tuple h1 h2 h3 (by simpa using ra)⟩
 | .lst l,v,u,r,q=>by
  rw[Rep] at r
  obtain⟨p,vs,rfl,hp,rl⟩:=r
  cases (show u=Value.ref p from q)
  obtain⟨_,its,n,rv,h1⟩:=(show ObjOk P w H h p (.lst vs) from ok p _ hp)
  obtain⟨as,ra⟩:=readsL_of ok l vs its rl rv
  exact⟨p::as,.list h1 rfl rfl (by simpa using ra)⟩
theorem readsL_of (ok:HOk P w H h):∀(ds:List Dat) (vs:List V) (us:List Value),RepL H ds vs→Vals vs us→∃as,ReadsAll h us (toPL ds) as
 | [],vs,us,r,q=>by
  rw[RepL] at r
  subst r
  cases q
  exact⟨_,.nil⟩
 | d::ds,vs,us,r,q=>by
  rw[RepL] at r
  obtain⟨v,rest,rfl,r1,r2⟩:=r
  cases q with
  | cons q1 q2=>
   obtain⟨a1,h1⟩:=reads_of ok d v _ r1 q1
   obtain⟨a2,h2⟩:=readsL_of ok ds rest _ r2 q2
   exact⟨_,.cons h1 h2⟩
end
end
noncomputable def KeyN (H:Hp) (d:Dat) (b:Addr):Prop:=hsh (toP d)=true∧(toP d).depth≤8∧Rep H d (.ref b)
theorem KeyN.mono {H H':Hp} {d:Dat} {b:Addr} (s:Same H H') (k:KeyN H d b):KeyN H' d b:=⟨k.1,k.2.1,k.2.2.mono s⟩
theorem KeyN.is {P:Program} {w:World} {H:Hp} {h:Heap} {d:Dat} {b:Addr} (ok:HOk P w H h) (k:KeyN H d b):(nestKind P w).is h (toP d) b:=⟨k.1,k.2.1,reads_of ok d _ _ k.2.2 rfl⟩
abbrev Rows:=List (Dat×Addr×Int)
noncomputable def AllN (H:Hp) (ks:Rows):Prop:=∀p∈ks,KeyN H p.1 p.2.1
theorem AllN.mono {H H':Hp} {ks:Rows} (s:Same H H') (k:AllN H ks):AllN H' ks:=fun p hp=>(k p hp).mono s
noncomputable def lookN (ks:Rows) (k:PyData):Option Int:=(ks.find? fun p=>decide (toP p.1=k)).map (·.2.2)
abbrev RwN:Rows→List (PyData×Addr×Value)→Prop:=Paired fun p q=>toP p.1=q.1∧p.2.1=q.2.1∧∃t,q.2.2=Value.int p.2.2 t
noncomputable def dnO (P:Program) (w:World) (a:Addr) (ks:Rows):HO:=.ext fun h=>∃o es ep xs,h.get? a=some o∧o.ExactDict∧o.data=.dict es ep∧es.toList=xs.map (entryOfKey (nestKind P w))∧(xs.map (·.1)).Nodup∧RwN ks xs∧ks.length≤sizeLine∧(a==sysModules)=false
section
variable {P : Program} {w : World} {H : Hp} {h : Heap} {a : Addr}
theorem dnO_ok {ks:Rows} {xs:List (PyData×Addr×Value)} {o es ep} (h1:h.get? a=some o) (h2:o.ExactDict) (h3:o.data=.dict es ep) (h4:es.toList=xs.map (entryOfKey (nestKind P w))) (h5:(xs.map (·.1)).Nodup) (h6:RwN ks xs) (h7:ks.length≤sizeLine) (h8:(a==sysModules)=false):ObjOk P w H h a (dnO P w a ks):=
 ⟨⟨o,es,ep,xs,h1,h2,h3,h4,h5,h6,h7,h8⟩,⟨o,h1⟩,fun _ _ ⟨o,es,ep,xs,g1,g⟩ k=>⟨o,es,ep,xs,k _ g1,g⟩⟩
theorem dn_of {ks:Rows} (ok:HOk P w H h) (e:H a=some (dnO P w a ks)) (al:AllN H ks):ks.length≤sizeLine∧(a==sysModules)=false∧∃xs,RwN ks xs∧h.DictOfH (nestKind P w) a xs:=by
 obtain⟨⟨o,es,ep,xs,g1,g2,g3,g4,g5,g6,g7,g8⟩,_⟩:=(show ObjOk P w H h a (dnO P w a ks) from ok a _ e)
 refine⟨g7,g8,xs,g6,o,es,ep,g1,g2,g3,g4,fun x hx=>?_,g5⟩
 have all:∀{l:Rows} {m:List (PyData×Addr×Value)},RwN l m→AllN H l→∀x∈m,(nestKind P w).is h x.1 x.2.1:=by
  intro l m q
  induction q with
  | nil=>intro _ x hx;exact nomatch hx
  | @cons p q ps qs hq t ih=>
   intro al x hx
   rcases List.mem_cons.mp hx with e | hx
   ·subst e
    rw[←hq.1,←hq.2.1]
    exact(al p List.mem_cons_self).is ok
   ·exact ih (fun p hp=>al p (List.mem_cons_of_mem _ hp)) x hx
 exact all g6 al x hx
theorem RwN.val {ks:Rows} {xs:List (PyData×Addr×Value)} (r:RwN ks xs) (k:PyData):(lookN ks k=none∧atKey xs k=none)∨∃i t b,lookN ks k=some i∧atKey xs k=some (b,Value.int i t):=by
 induction r with
 | nil=>exact .inl ⟨rfl,rfl⟩
 | @cons p q ps qs h t ih=>
  obtain⟨h1,h2,tk,h3⟩:=h
  by_cases e:toP p.1=k
  ·have e':q.1=k:=h1.symm.trans e
   refine .inr ⟨p.2.2,tk,q.2.1,?_,?_⟩
   ·unfold lookN
    rw[List.find?_cons,decide_eq_true e]
    rfl
   ·unfold atKey
    rw[List.find?_cons,decide_eq_true e',←h3]
    rfl
  ·have e':¬q.1=k:=fun z=>e (h1.trans z)
   have a1:lookN (p::ps) k=lookN ps k:=by
    unfold lookN
    rw[List.find?_cons,decide_eq_false e]
   have a2:atKey (q::qs) k=atKey qs k:=by
    unfold atKey
    rw[List.find?_cons,decide_eq_false e']
   rw[a1,a2]
   exact ih
end
noncomputable def tDNewN (P:Program) (w:World):TE:=fun _ H Q=>∀p,H p=none→Q (.ref p) (upd H p (dnO P w p []))
noncomputable def NGet (P:Program) (w:World) (H:Hp) (x y:V) (o:Option Int):Prop:=∃a b d ks,x=.ref a∧y=.ref b∧H a=some (dnO P w a ks)∧AllN H ks∧KeyN H d b∧o=lookN ks (toP d)
noncomputable def tNGet (P:Program) (w:World) (td ty:TE):TE:=fun σ H Q=>td σ H fun x H1=>ty σ H1 fun y H2=>∃i,NGet P w H2 x y (some i)∧Q (.int i) H2
noncomputable def tNNotIn (P:Program) (w:World) (ty td:TE):TE:=fun σ H Q=>ty σ H fun y H1=>td σ H1 fun x H2=>∃o,NGet P w H2 x y o∧Q (.bl (!o.isSome)) H2
noncomputable def sNPut (P:Program) (w:World) (td ty tv:TE):TS:=fun D σ H=>tv σ H fun v H1=>td σ H1 fun x H2=>ty σ H2 fun y H3=>∃a b d ks i,x=.ref a∧y=.ref b∧v=.int i∧H3 a=some (dnO P w a ks)∧AllN H3 ks∧KeyN H3 d b∧lookN ks (toP d)=none∧ks.length<sizeLine∧D.nx σ (upd H3 a (dnO P w a (ks++ [(d,b,i)])))
section
variable {X : Cx} {P : Program} {w : World} {o i e value : Expr} {pos pos' tpos : Pos} {td ty tv : TE}
theorem pe_dnewN (hP:X.prog=P:=by rfl) (hw:X.w=w:=by rfl):PE X (.Dict [] [] pos) (tDNewN P w):=fun pins s σ H Q I h=>by
 subst hP hw
 exact wpAny_Dict_empty ⟨.ref s.heap.objs.size,_,I.laid (a:=s.heap.objs.size) (o:=dnO X.prog X.w s.heap.objs.size []) (t':=s.toks) (fun _ _ q=>Heap.get?_push_of_some _ q) (Nat.le_refl _) (dnO_ok (xs:=[]) (Heap.get?_push_size _ rfl) ⟨rfl,rfl,rfl⟩ rfl rfl List.nodup_nil .nil (Nat.zero_le _) (beq_eq_false_iff_ne.mpr (Ne.symm (Nat.ne_of_lt I.big)))),rfl,h _ (I.hok.fresh (Nat.le_refl _))⟩
theorem nroom {A:Around} (hu:A.units+64<cLine):(nestKind P w).room A.in1:=(by show A.units+1+8<cLine;omega)
theorem pe_nget (hu:X.A.units+64<cLine) (ho:PE X o td) (hi:PE X i ty) (hs:NoSl i) (hP:X.prog=P:=by rfl) (hw:X.w=w:=by rfl):PE X (.Subscript o i pos) (tNGet P w td ty):=by
 subst hP hw
 intro pins s σ H Q I h
 refine subD_of PySem.F.slot_dict_getitem.lookup hs (thn (ho pins s σ H _ I h) fun u s1 ⟨x,H1,I1,rx,q1⟩=>thn (hi pins s1 σ H1 _ I1 q1) fun iv s2 ⟨y,H2,I2,ry,j,⟨a,b,d,ks,ex,ey,ea,al,kn,lo⟩,q2⟩=>?_)
 subst ex ey
 obtain rfl:u=Value.ref a:=rx
 obtain rfl:iv=Value.ref b:=ry
 obtain⟨z,hd,xs,rel,dd⟩:=dn_of I2.hok ea al
 refine⟨dd.typeIs,?_⟩
 rcases rel.val (toP d) with ⟨l1,_⟩ | ⟨j',t,b',l1,l2⟩
 ·rw[l1] at lo
  cases lo
 ·rw[l1] at lo
  cases lo
  exact wpAny_getItem_heap (nroom hu) (kn.is I2.hok) dd l2 ⟨.int j,H2,I2.tok _,⟨t,rfl⟩,q2⟩
theorem pc_nnotin (hu:X.A.units+64<cLine) (hi:PE X i ty) (ho:PE X o td) (hP:X.prog=P:=by rfl) (hw:X.w=w:=by rfl):PC X .NotIn i o (tNNotIn P w ty td):=by
 subst hP hw
 intro pins s σ H Q I h
 refine thn (hi pins s σ H _ I h) fun iv s1 ⟨y,H1,I1,ry,q1⟩=>thn (ho pins s1 σ H1 _ I1 q1) fun u s2 ⟨x,H2,I2,rx,ov,⟨a,b,d,ks,ex,ey,ea,al,kn,lo⟩,q2⟩=>?_
 subst ex ey
 obtain rfl:u=Value.ref a:=rx
 obtain rfl:iv=Value.ref b:=ry
 obtain⟨z,hd,xs,rel,dd⟩:=dn_of I2.hok ea al
 refine wpAny_notIn_heap (nroom hu) (kn.is I2.hok) hd dd ?_
 have:(atKey xs (toP d)).isSome=ov.isSome:=by
  rcases rel.val (toP d) with ⟨l1,l2⟩ | ⟨j',t,b',l1,l2⟩
  ·rw[lo,l1,l2]
   rfl
  ·rw[lo,l1,l2]
   rfl
 rw[this]
 exact⟨.bl (!ov.isSome),H2,I2.tok _,rfl,q2⟩
theorem ps_nput (hu:X.A.units+64<cLine) (ho:PE X o td) (hi:PE X i ty) (hv:PE X value tv) (hs:swapsWith value (some (.Subscript o i pos')) pos.line X.env=pure false) (hP:X.prog=P:=by rfl) (hw:X.w=w:=by rfl):
  PS X (.Assign [.Subscript o i pos'] value pos) (sNPut P w td ty tv):=by
 subst hP hw
 intro pins s σ H D I h
 refine wpAny_Assign_Subscript (thn (hv pins s σ H _ I h) fun r s1 ⟨v,H1,I1,rv,q1⟩=>thn (ho pins s1 σ H1 _ I1 q1) fun u s2 ⟨x,H2,I2,rx,q2⟩=>thn (hi pins s2 σ H2 _ I2 q2) fun iv s3 ⟨y,H3,I3,ry,a,b,d,ks,j,ex,ey,ev,ea,al,kn,lo,ln,q3⟩=>?_) hs
 subst ex ey ev
 obtain rfl:u=Value.ref a:=rx
 obtain rfl:iv=Value.ref b:=ry
 obtain⟨t,rfl⟩:=(show ∃t,r=Value.int j t from rv)
 obtain⟨z,hd,xs,rel,dd⟩:=dn_of I3.hok ea al
 have hz:xs.length≤sizeLine:=by rw[←Paired.length rel];exact z
 have la:atKey xs (toP d)=none:=by
  rcases rel.val (toP d) with ⟨l1,l2⟩ | ⟨j',t,b',l1,l2⟩
  ·exact l2
  ·rw[l1] at lo
   cases lo
 refine wpAny_setItem_heap (hsz:=hz) (nroom hu) (kn.is I3.hok) dd fun h' dd' hs=>⟨σ,_,?_,q3⟩
 rw[storedH_new la] at dd'
 obtain⟨q,es,ep,hq,h2,h3,h4,_,h5⟩:=dd'
 exact d_write I3 (by rw[ea];exact True.intro) hs ⟨q,hq⟩ (dnO_ok hq h2 h3 h4 h5 (Paired.snoc rel ⟨rfl,rfl,t,rfl⟩) (by rw[List.length_append];exact ln) hd)
end
end L2
namespace L2
open PySem PySem.Spec PyProof.Rows PySem.W
section
variable {X : Cx} {x : Str} {xpos : Pos}
end
section
variable {prog : Program} {w : World} {A : Around} {E : Value → Shared → Prop} {s : Shared}
end
section
variable {X : Cx} {K : PySem.W.Frag}
end
end L2
namespace L2
open PySem PySem.Spec PyProof.Rows PySem.W
section
variable {X : Cx}
end
end L2
namespace KS
open PySem PySem.W PyProof.Rows
section
variable {prog : Program} {w : World} {A : Around} {E : Value → Shared → Prop} {s : Shared}
end
end KS
namespace L2
open PySem PySem.Spec PyProof.Rows PySem.W
section
variable {X : Cx} {K : PySem.W.Frag}
end
end L2
namespace L2
open PySem PySem.Spec PyProof.Rows PySem.W
section
variable {X : Cx} {K : PySem.W.Frag}
end
end L2
namespace L2
open PySem PySem.Spec PyProof.Rows PySem.W
section
variable {X : Cx} {K : PySem.W.Frag}
noncomputable def Kd (d:Dat):Prop:=hsh (toP d)=true∧(toP d).depth≤8
theorem reads_get {P:Program} {w:World} {H:Hp} {h:Heap} (ok:HOk P w H h) {ds:List Dat} {xs:List V} {us:List Value} (r:RepL H ds xs) (v:Vals xs us) {i:Nat} {u:Value} (e:us[i]?=some u):∃d as,ds[i]?=some d∧Reads h u (toP d) as:=by
 have l1:=r.length
 have l2:=v.length
 have hi:=(List.getElem?_eq_some_iff.mp e).1
 have ex:xs[i]?=some (xs[i]'(by omega)):=List.getElem?_eq_getElem (by omega)
 obtain⟨u',e1,rv⟩:=v.get ex
 rw[e] at e1
 cases e1
 obtain⟨d,ed,rd⟩:=r.get ex
 obtain⟨as,ra⟩:=reads_of ok d _ _ rd rv
 exact⟨d,as,ed,ra⟩
theorem eqAt_N {A:Around} {s:Shared} {a b:PyData} {u v:Value} {as bs:List Addr} (ra:Reads s.heap u a as) (rb:Reads s.heap v b bs) (ha:hsh a=true) (hb:hsh b=true) (da:a.depth≤8) (db:b.depth≤8) (hu:A.units+8<cLine):SeqAt.EqAt A s u v (decide (a=b)):=fun prog w E Q h=>
 SeqAt.eqBoolOverData _ _ _ _ _ _ _ _ _ _ _ _ ra rb (hsh_lay _ ha) (hsh_lay _ hb) (by omega) (by rw[eqv_is _ _ ha hb];exact h)
noncomputable def rNix:V→List V→Hp→VK→Prop:=fun x vs H Q=>∃l xs ds v d i,x=.ref l∧vs=[v]∧H l=some (.lst xs)∧RepL H ds xs∧(∀e∈ds,Kd e)∧Rep H d v∧Kd d∧(ds.map toP)[i]?=some (toP d)∧(∀j,j<i→(ds.map toP)[j]?≠some (toP d))∧i<100000∧Q (.int (i:Nat)) H
theorem mt_nindex (hu:X.A.units+64<cLine):MtR X "list.index" rNix:=by
 classical
 intro pins s σ H x vs v us Q I rx rv h
 obtain⟨l,xs,ds,y,d,i,rfl,rfl,hp,rd,hds,rdx,hd,hi,hno,i6,q⟩:=h
 cases rx
 obtain⟨u,rfl,ru⟩:=vals1 rv
 obtain⟨its,r,pl,hz⟩:=I.list (SqL.of hp)
 obtain⟨as,ra⟩:=reads_of I.hok d y u rdx ru
 have l1:=rd.length
 have l2:=r.length
 have dec:∀{u e bs},e∈ds→Reads s.heap u (toP e) bs→decide (∃cs,Reads s.heap u (toP d) cs)=decide (toP e=toP d):=fun {u e bs} he re=>by
  by_cases c:toP e=toP d
  ·rw[decide_eq_true c,decide_eq_true ⟨bs,by rw[←c];exact re⟩]
  ·rw[decide_eq_false c,decide_eq_false]
   rintro⟨cs,rc⟩
   exact c (SeqAt.Reads.unique _ _ _ _ _ (hsh_lay _ (hds e he).1) re rc)
 have at_:∀(j:Nat) (hj:j<its.length),∃e bs,ds[j]?=some e∧e∈ds∧Reads s.heap its[j] (toP e) bs:=fun j hj=>by
  obtain⟨e,bs,ed,re⟩:=reads_get I.hok rd r (List.getElem?_eq_getElem hj)
  exact⟨e,bs,ed,List.mem_of_getElem? ed,re⟩
 have hil:i<its.length:=by
  have:=(List.getElem?_eq_some_iff.mp hi).1
  rw[List.length_map] at this
  omega
 obtain⟨⟨c1,d1,d2,sl⟩,ho,e1,m,e2⟩:=pl.isList
 cases e1
 cases e2
 have hit:decide (∃cs,Reads s.heap its[i] (toP d) cs)=true:=by
  obtain⟨e,bs,ed,he,re⟩:=at_ i hil
  rw[dec he re]
  rw[List.getElem?_map,ed] at hi
  exact decide_eq_true (Option.some.inj hi)
 refine call_meets PySem.F.slot_list_index ⟨_,ho,rfl⟩ PySem.F.entry_list_index (PySem.F.args_list_index_2 _ _) (PySem.SeqAt.list_indexAt l its.toArray m d1 sl u (fun u=>decide (∃cs,Reads s.heap u (toP d) cs)) i (by rw[List.size_toArray];omega) (by omega) hit (fun j hj hl=>?_)) ⟨ho,fun y hy=>?_,⟨.int _,H,I.tok _,⟨_,rfl⟩,q⟩⟩
 ·rw[List.size_toArray] at hj
  obtain⟨e,bs,ed,he,re⟩:=at_ j hj
  show decide (∃cs,Reads s.heap its[j] (toP d) cs)=false
  rw[dec he re]
  refine decide_eq_false fun z=>hno j hl ?_
  rw[List.getElem?_map,ed]
  exact congrArg some z
 ·obtain⟨j,ej⟩:=List.getElem?_of_mem (List.mem_toArray.mp hy)
  obtain⟨e,bs,ed,re⟩:=reads_get I.hok rd r ej
  have he:=List.mem_of_getElem? ed
  show SeqAt.EqAt _ _ _ _ (decide _)
  rw[dec he re]
  exact eqAt_N re ra (hds e he).1 hd.1 (hds e he).2 hd.2 (by show X.A.units+1+8<cLine;omega)
end
end L2
namespace L2
open PySem PySem.Spec PyProof.Rows
structure LamB (base:Heap) (mg:Str→Option Value) (tc tp:Addr):Prop where
 blt:base.BuiltinsAt mg tp
 code:PySem.W.CodeHd base tc tp
end L2
namespace L2
open PySem PySem.Spec PyProof.Rows
structure MtCal (P:Program) (w:World) (K:PySem.W.Frag) (mg:Str→Option Value) (base:Heap) (CX:CXT) (k:Nat) (C:Addr) (m:Str) (ps:List Str) (sp:Sp):Prop where
 ex:∃f fd,Meth K C m f∧FnOk P w K mg base CX k f fd ps sp∧Binds K fd ps []
section
variable {X : Cx} {CX : CXT} {k : Nat} {C : Addr} {m : Str} {ps : List Str} {sp : Sp} {E : XK} {e o : Expr} {es : List Expr} {ta : TE} {t : TA} {pos apos : Pos} {pl : Sem Bool}
theorem pe_mt (M:MtCal X.prog X.w X.K X.mg X.base CX k C m ps sp) (c:Cls X.K C) (he:PE X o ta) (hr:Room k X.A) (hx:Passes CX X E) (ha:PA X (e::es) t)
  (hst:starEach (e::es) X.env=(false,eval e X.env)::starEach es X.env:=by rfl) (hpl:(backTo pos (starEach es X.env)).any (·.1)=false:=by rfl)
  (ht:eval (.Call (.Attribute o m apos) (e::es) [] pos) X.env=(do
   let ov ←eval o X.env
   standAt apos.atName
   let (f,first) ←holding [ov] (getMethod ov m pl)
   callWith pos f first (backTo pos (starEach (e::es) X.env)) (backToKw pos (keywordEach [] X.env))):=by rfl):
  PE X (.Call (.Attribute o m apos) (e::es) [] pos) (tMeth C m sp [] E ta t):=by
 obtain⟨f,fd,hm,F,hb⟩:=M.ex
 exact pe_meth he c hm F hr hb .nil hx ha hst hpl ht
theorem pe_mt0 (M:MtCal X.prog X.w X.K X.mg X.base CX k C m ps sp) (c:Cls X.K C) (he:PE X o ta) (hr:Room k X.A) (hx:Passes CX X E)
  (ht:eval (.Call (.Attribute o m apos) [] [] pos) X.env=(do
   let ov ←eval o X.env
   standAt apos.atName
   let (f,first) ←holding [ov] (getMethod ov m pl)
   callWith pos f first (backTo pos (starEach [] X.env)) (backToKw pos (keywordEach [] X.env))):=by rfl):
  PE X (.Call (.Attribute o m apos) [] [] pos) (tMeth C m sp [] E ta tNil):=by
 obtain⟨f,fd,hm,F,hb⟩:=M.ex
 exact pe_meth0 he c hm F hr hb .nil hx ht
theorem pe_mk0 {x:Str} {p:Pos} (M:MkCal X.prog X.w X.K X.mg X.base CX k x C ps sp) (hr:Room (k+1) X.A) (hg:Gl X x) (hx:Passes CX X E) (hdb:(x==("__debug__":Str))=false:=by decide):
  PE X (.Call (.Name x p) [] [] pos) (tMake C sp [] E tNil):=by
 obtain⟨f,fd,m,F,hm,hb⟩:=M.ex
 exact pe_make0 m F hr hg hm hb .nil hx hdb
end
structure DnM (K:PySem.W.Frag) (C:Addr) (m qual:Str) (st:Stmt):Prop where
 ex:∃f fd,Fun K m qual st f fd∧Meth K C m f
theorem DnM.cal {P:Program} {w:World} {K:PySem.W.Frag} {mg:Str→Option Value} {base:Heap} {CX:CXT} {m qual:Str} {st:Stmt} {C:Addr} {ps:List Str} {k:Nat} {sp:Sp} (D:DnM K C m qual st)
  (hb:∀(kV doc pm:Value) (an:Option Addr) (cdv ct:Value) (us:List Value),us.length=ps.length→bindArgs (PySem.W.fnOf m qual (defArgs st) (defBody st) (defScope st) .none kV doc pm an cdv ct) ⟨us,[]⟩=pure (ps.zip us))
  (h:∀f fd,Fun K m qual st f fd→FnOk P w K mg base CX k f fd ps sp):MtCal P w K mg base CX k C m ps sp:=by
 obtain⟨f,fd,F,hm⟩:=D.ex
 exact⟨f,fd,hm,h f fd F,F.binds hb⟩
end L2
namespace L2
open PySem PySem.Spec PyProof.Rows PySem.W
abbrev lamArgs (mp:Pos):Arguments:={posonlyargs:=[],args:=[{arg:="members",annotation:=none,pos:=mp}],vararg:=none,kwonlyargs:=[],kw_defaults:=[],kwarg:=none,defaults:=[]}
abbrev lamBody (p2 p3 p4 p5 p6 p7 p8:Pos):Expr:=.Call (.Name "len" p2) [.Subscript (.Name "reach" p3) (.Subscript (.Name "members" p4) (.Constant (.int 0) 0 p5) p6) p7] [] p8
abbrev lamScope:Scope:={kind:=.function,names:=[(Str.ofString "members",.local),(Str.ofString "reach",.free),(Str.ofString "len",.globalImplicit)],isGenerator:=false,isCoroutine:=false,more:=[]}
section
variable {prog : Program} {w : World} {A : Around} {s : Shared}
end
section
variable {X : Cx}
end
section
variable {P : Program} {w : World} {K : PySem.W.Frag} {mg : Str → Option Value} {base : Heap} {CX : CXT}
end
end L2
namespace KS
open PySem PySem.W PyProof.Rows
section
variable {f : Nat → Int} {n : Nat}
end
end KS
namespace PySem.SeqAt
open AutoSeq1 (wpAny_loadPart')
open MeetsSeq MeetsSeq2 MeetsSeq3
end PySem.SeqAt
namespace L2
open PySem PySem.Spec PyProof.Rows PySem.W
section
variable {prog : Program} {w : World} {A : Around} {E : Value → Shared → Prop} {s : Shared}
end
section
variable {X : Cx} {K : PySem.W.Frag}
end
end L2
namespace L2
open PySem PySem.Spec PyProof.Rows PySem.W
mutual
noncomputable def eqb:PyData→Bool
 | .none=>true
 | .int _=>true
 | .str x=>PyData.canLay0 (.str x)
 | .tuple xs=>eqbL xs
 | .list xs=>eqbL xs
 | _=>false
noncomputable def eqbL:List PyData→Bool
 | []=>true
 | x::xs=>eqb x && eqbL xs
end
mutual
theorem eqb_lay:∀(d:PyData),eqb d=true→d.canLay0=true
 | .none,_=>by simp [PyData.canLay0]
 | .bool _,h=>by simp [eqb] at h
 | .int _,_=>by simp [PyData.canLay0]
 | .str x,h=>by rw[eqb] at h;exact h
 | .list xs,h=>by rw[eqb] at h;rw[PyData.canLay0];exact eqbL_lay xs h
 | .tuple xs,h=>by rw[eqb] at h;rw[PyData.canLay0];exact eqbL_lay xs h
 | .dict _,h=>by simp [eqb] at h
theorem eqbL_lay:∀(xs:List PyData),eqbL xs=true→PyData.canLayAll0 xs=true
 | [],_=>by simp [PyData.canLayAll0]
 | x::xs,h=>by
  rw[eqbL,Bool.and_eq_true] at h
  rw[PyData.canLayAll0,Bool.and_eq_true]
  exact⟨eqb_lay x h.1,eqbL_lay xs h.2⟩
end
mutual
theorem eqvb_is:∀(x y:PyData),eqb x=true→eqb y=true→PyData.eqv x y=decide (x=y)
 | .none,y,_,hy=>by cases y <;>simp [PyData.eqv]
 | .int i,y,_,hy=>by
  cases y with
  | int j=>
   rw[PyData.eqv]
   by_cases c:i=j
   ·subst c;simp
   ·rw[decide_eq_false (fun e=>c (by injection e))]
    simp [c]
  | bool _=>simp [eqb] at hy
  | _=>simp [PyData.eqv]
 | .str a,y,_,hy=>by
  cases y with
  | str b=>
   rw[PyData.eqv]
   by_cases c:a=b
   ·subst c;simp
   ·rw[decide_eq_false (fun e=>c (by injection e))]
    simp [c]
  | _=>simp [PyData.eqv]
 | .tuple xs,y,hx,hy=>by
  cases y with
  | tuple ys=>
   rw[eqb] at hx hy
   rw[PyData.eqv,eqvbL_is xs ys hx hy]
   by_cases c:xs=ys
   ·subst c;simp
   ·rw[decide_eq_false c,decide_eq_false (fun e=>c (by injection e))]
  | _=>simp [PyData.eqv]
 | .list xs,y,hx,hy=>by
  cases y with
  | list ys=>
   rw[eqb] at hx hy
   rw[PyData.eqv,eqvbL_is xs ys hx hy]
   by_cases c:xs=ys
   ·subst c;simp
   ·rw[decide_eq_false c,decide_eq_false (fun e=>c (by injection e))]
  | _=>simp [PyData.eqv]
 | .bool _,_,h,_=>by simp [eqb] at h
 | .dict _,_,h,_=>by simp [eqb] at h
theorem eqvbL_is:∀(xs ys:List PyData),eqbL xs=true→eqbL ys=true→PyData.eqvAll xs ys=decide (xs=ys)
 | [],[],_,_=>by simp [PyData.eqvAll]
 | [],_::_,_,_=>by simp [PyData.eqvAll]
 | _::_,[],_,_=>by simp [PyData.eqvAll]
 | x::xs,y::ys,hx,hy=>by
  rw[eqbL,Bool.and_eq_true] at hx hy
  rw[PyData.eqvAll,eqvb_is x y hx.1 hy.1,eqvbL_is xs ys hx.2 hy.2]
  by_cases c:x=y
  ·subst c
   by_cases d:xs=ys
   ·subst d;simp
   ·rw[decide_eq_false d,decide_eq_false (fun e=>d (List.cons.inj e).2)];simp
  ·rw[decide_eq_false c,decide_eq_false (fun e=>c (List.cons.inj e).1)];simp
end
section
variable {X : Cx} {K : PySem.W.Frag}
end
end L2
namespace K54
open PySem PySem.Spec PyProof.Rows L2
set_option maxHeartbeats 4000000
local macro_rules | `(tactic| simp_all only [$ls,*]) => `(tactic| simp only [L2.start, Pr, tRev, tLR, tMaxD, tSortR, tD1, tDPop1, tSl, tNoPart, tPart, rSlL, tDIn, tDNotIn, gSub, rSetL, tLst, tDNewK, tComp, L2.stC, tFor_eq, iList, iTup, iRng1, iRng2, iZip, iEnum, iDict, iStr, tChain, tSumV, tBM, rJoin, tJoined, jNil, jLit, jInt, jStr, tRaise, tDGet, tDGet2, tDGet1, sDPut, Option.join_some, List.getElem?_nil,  tSeq, tRet, tRetN, tIfS, tTest, tB, tOp, tUn, tVar, tC, tCB, tCons, tNil, tCall, tTupS, tAsg, gName, gNil, gCons, tPar, tNext, tDrop, tAnd, tOr, tNot, tAndV, tOrV, tNotV, tIf, rI, rI0, rU, rIxTH, rIxLH, rEqT, rNeT, rInT, rEq, rNe, scal, CPow, at0, at1, at2, List.map_cons, List.map_nil, List.length_cons, List.length_nil, Nat.reduceSub, Nat.reduceAdd, Nat.zero_add, List.replicate_zero, List.reduceReplicate, List.append_nil, List.nil_append, List.cons_append, List.getElem?_cons_zero, List.getElem?_cons_succ, List.set_cons_zero, List.set_cons_succ, Option.some.injEq, exists_eq_left', exists_eq_left, V.ref.injEq, V.int.injEq, V.bl.injEq, V.str.injEq, V.ty.injEq, HO.tup.injEq, HO.lst.injEq, List.cons.injEq, and_true, true_and, and_assoc, exists_and_left, decide_eq_true_eq, Bool.not_eq_true', decide_eq_false_iff_not, ite_true, ite_false, if_true, if_false, Int.reduceToNat, eq_self_iff_true, $ls,*])
seal L2.PE L2.PT L2.PW L2.PA L2.PS L2.PSs L2.PG L2.PGs L2.PI L2.PTs L2.PO L2.OpR L2.UnR L2.CallR L2.IxR L2.SlR L2.MtR L2.MtM
theorem strictP {P:Program} {w:World}:Strict (CX1 P w):=strict1 P w
structure Txt (K:PySem.W.Frag) (mg:Str→Option Value) (q_NoShare q_NoTable q_TooMany q_Course q_Finder:Addr):Prop where
 z_abs:mg "abs"=none
 z_bool:mg "bool"=none
 z_enumerate:mg "enumerate"=none
 z_int:mg "int"=none
 z_isinstance:mg "isinstance"=none
 z_len:mg "len"=none
 z_list:mg "list"=none
 z_max:mg "max"=none
 z_min:mg "min"=none
 z_range:mg "range"=none
 z_sorted:mg "sorted"=none
 z_sum:mg "sum"=none
 z_tuple:mg "tuple"=none
 z_zip:mg "zip"=none
 d_common_divisor:Dn K mg "common_divisor" (top 7)
 d_share:Dn K mg "share" (top 8)
 d_common_bottom:Dn K mg "common_bottom" (top 9)
 d_table_by_weights:Dn K mg "table_by_weights" (top 11)
 d_table_of:Dn K mg "table_of" (top 12)
 d_bottom_of:Dn K mg "bottom_of" (top 13)
 d_weighed:Dn K mg "weighed" (top 14)
 d_power:Dn K mg "power" (top 18)
 d_most_faces:Dn K mg "most_faces" (top 19)
 d_part_bottom:Dn K mg "part_bottom" (top 20)
 d_part_count:Dn K mg "part_count" (top 21)
 d_check_size:Dn K mg "check_size" (top 22)
 d_dice_faces:Dn K mg "dice_faces" (top 23)
 d_again_faces:Dn K mg "again_faces" (top 24)
 d_burst_faces:Dn K mg "burst_faces" (top 25)
 d_part_faces:Dn K mg "part_faces" (top 26)
 d_value_of:Dn K mg "value_of" (top 27)
 d_sides_product:Dn K mg "sides_product" (top 28)
 d_part_throws:Dn K mg "part_throws" (top 29)
 d_throws_by_bottom:Dn K mg "throws_by_bottom" (top 30)
 d_pool_table:Dn K mg "pool_table" (top 31)
 d_own_rows:Dn K mg "own_rows" (top 34)
 d_own_what:Dn K mg "own_what" (top 35)
 d_throw_ways:Dn K mg "throw_ways" (top 38)
 d_pick_ways:Dn K mg "pick_ways" (top 39)
 d_taken_up:Dn K mg "taken_up" (top 40)
 d_spread:Dn K mg "spread" (top 41)
 d__law_at:Dn K mg "_law_at" (top 43)
 d__law_deeds:Dn K mg "_law_deeds" (top 44)
 d__law_behind:Dn K mg "_law_behind" (top 45)
 d__law_game:Dn K mg "_law_game" (top 46)
 d__law_due:Dn K mg "_law_due" (top 47)
 c_MOST_THROWS:∃t,mg "MOST_THROWS"=some (.int 1296 t)
 c_MOST_BOTTOM:∃t,mg "MOST_BOTTOM"=some (.int 1000000 t)
 c_MOST_STATES:∃t,mg "MOST_STATES"=some (.int 120 t)
 k_NoShare:mg "NoShare"=some (.ref q_NoShare)
 k_NoTable:mg "NoTable"=some (.ref q_NoTable)
 k_TooMany:mg "TooMany"=some (.ref q_TooMany)
 k_Course:mg "Course"=some (.ref q_Course)
 k_Finder:mg "Finder"=some (.ref q_Finder)
 x_NoShare:PySem.W.excIn K q_NoShare bmVE newVE=true
 x_NoTable:PySem.W.excIn K q_NoTable bmVE newVE=true
 x_TooMany:PySem.W.excIn K q_TooMany bmVE newVE=true
 cl_Course:Cls K q_Course
 cl_Finder:Cls K q_Finder
 na_Course_first:PySem.W.findIn K (.ref q_Course) "first"=some none
 na_Course_mosts:PySem.W.findIn K (.ref q_Course) "mosts"=some none
 na_Course_spots:PySem.W.findIn K (.ref q_Course) "spots"=some none
 na_Course_tables:PySem.W.findIn K (.ref q_Course) "tables"=some none
 na_Course_whats:PySem.W.findIn K (.ref q_Course) "whats"=some none
 na_Finder_numbers:PySem.W.findIn K (.ref q_Finder) "numbers"=some none
 na_Finder_states:PySem.W.findIn K (.ref q_Finder) "states"=some none
 di_Course:DnI K mg "Course" "Course.__init__" (inClass (top 36) 0) q_Course
 di_Finder:DnI K mg "Finder" "Finder.__init__" (inClass (top 37) 0) q_Finder
 dm_Course_asked:DnM K q_Course "asked" "Course.asked" (inClass (top 36) 3)
 dm_Course_by_row:DnM K q_Course "by_row" "Course.by_row" (inClass (top 36) 6)
 dm_Course_by_value:DnM K q_Course "by_value" "Course.by_value" (inClass (top 36) 7)
 dm_Course_do:DnM K q_Course "do" "Course.do" (inClass (top 36) 2)
 dm_Course_end_worth:DnM K q_Course "end_worth" "Course.end_worth" (inClass (top 36) 12)
 dm_Course_holds:DnM K q_Course "holds" "Course.holds" (inClass (top 36) 9)
 dm_Course_open_rows:DnM K q_Course "open_rows" "Course.open_rows" (inClass (top 36) 10)
 dm_Course_put:DnM K q_Course "put" "Course.put" (inClass (top 36) 1)
 dm_Course_start:DnM K q_Course "start" "Course.start" (inClass (top 36) 4)
 dm_Course_table_at:DnM K q_Course "table_at" "Course.table_at" (inClass (top 36) 8)
 dm_Course_what_at:DnM K q_Course "what_at" "Course.what_at" (inClass (top 36) 5)
 dm_Course_words_at:DnM K q_Course "words_at" "Course.words_at" (inClass (top 36) 11)
 dm_Finder_number_of:DnM K q_Finder "number_of" "Finder.number_of" (inClass (top 37) 1)
noncomputable def Al {α:Type} (R:α→V→Prop):List α→List V→Prop
 | [],[]=>True
 | a::as,v::vs=>R a v∧Al R as vs
 | _,_=>False
theorem Al.length {α:Type} {R:α→V→Prop}:∀{as:List α} {vs:List V},Al R as vs→vs.length=as.length
 | [],[],_=>rfl
 | a::as,v::vs,h=>by simp [Al.length h.2]
theorem Al.imp {α:Type} {R S:α→V→Prop} (f:∀a v,R a v→S a v):∀{as:List α} {vs:List V},Al R as vs→Al S as vs
 | [],[],_=>trivial
 | a::as,v::vs,h=>⟨f _ _ h.1,Al.imp f h.2⟩
theorem Al.append {α:Type} {R:α→V→Prop}:∀{as bs:List α} {us vs:List V},Al R as us→Al R bs vs→Al R (as++bs) (us++vs)
 | [],_,[],_,_,k=>k
 | a::as,_,v::vs,_,h,k=>⟨h.1,Al.append h.2 k⟩
theorem Al.one {α:Type} {R:α→V→Prop} {a:α} {v:V} (h:R a v):Al R [a] [v]:=⟨h,trivial⟩
theorem Al.repL {α:Type} {H:Hp} {f:α→Dat}:∀{as:List α} {vs:List V},Al (fun a v=>Rep H (f a) v) as vs→RepL H (as.map f) vs
 | [],[],_=>by simp [RepL]
 | a::as,v::vs,h=>by
  rw[List.map_cons,RepL]
  exact⟨v,vs,rfl,h.1,Al.repL h.2⟩
theorem Al.get {α:Type} {R:α→V→Prop}:∀{as:List α} {vs:List V} {i:Nat} {v:V},Al R as vs→vs[i]?=some v→∃a,as[i]?=some a∧R a v
 | [],[],i,v,_,e=>by simp at e
 | a::as,u::vs,i,v,h,e=>by
  cases i with
  | zero=>simp at e;subst e;exact⟨a,rfl,h.1⟩
  | succ i=>simp at e;obtain⟨b,e1,e2⟩:=Al.get h.2 e;exact⟨b,by simpa using e1,e2⟩
theorem Al.at {α:Type} {R:α→V→Prop}:∀{as:List α} {vs:List V} {i:Nat} {a:α},Al R as vs→as[i]?=some a→∃v,vs[i]?=some v∧R a v
 | [],[],i,v,_,e=>by simp at e
 | a::as,u::vs,i,v,h,e=>by
  cases i with
  | zero=>simp at e;subst e;exact⟨u,rfl,h.1⟩
  | succ i=>simp at e;obtain⟨b,e1,e2⟩:=Al.at h.2 e;exact⟨b,by simpa using e1,e2⟩
noncomputable def spCd:Sp:=fun vs H Q _=>∃a b,vs=[.int a,.int b]∧Q (.int (Nm.g a b)) H
noncomputable def spSh (qn:Addr):Sp:=fun vs H Q E=>∃a b,vs=[.int a,.int b]∧Bt 5000 b∧(b=0→E (.ref qn) none H)∧(b≠0→∀p H',Same H H'→H p=none→H' p=some (.tup (Pr (Nm.st a b) (Nm.sb a b)))→Q (.ref p) H')
noncomputable def spTW:Sp:=fun vs H Q _=>∃d B ws,vs=[.ref d,.int B]∧H d=some (.dK (enc ws))∧(Nm.keys ws).Nodup∧ws.length<64∧B≠0∧Bt 5000 B∧∀p H',Same H H'→H p=none→Rep H' (rowsD (Nm.rowsOf ws B)) (.ref p)→Q (.ref p) H'
noncomputable def spTO (qt:Addr):Sp:=fun vs H Q E=>∃v ps,vs=[v]∧Rep H (wrowsD ps) v∧ps.length≤1296∧(∀p∈ps,p.2≤10^12)∧(Nm.wof ps).length<64∧
 (Nm.bad ps→∀H',Same H H'→E (.ref qt) none H')∧
 (¬Nm.bad ps→∀p H',Same H H'→H p=none→Rep H' (rowsD (Nm.rowsOf (Nm.wof ps) (Nm.tot (Nm.wof ps)))) (.ref p)→Q (.ref p) H')
inductive Dd
 | set (n:Str) (k:Int)
 | plus (n:Str) (k:Int)
 | face (n:Str)
 | move (n m:Str)
noncomputable def ddD:Dd→Dat
 | .set n k=>.tup [.str (Str.ofString "set"),.str n,.int k]
 | .plus n k=>.tup [.str (Str.ofString "plus"),.str n,.int k]
 | .face n=>.tup [.str (Str.ofString "face"),.str n]
 | .move n m=>.tup [.str (Str.ofString "move"),.str n,.str m]
structure Rw where
 word:Str
 wh:Option (Str×Str×Int)
 ds:List Dd
 to:Str
noncomputable def whD:Option (Str×Str×Int)→Dat
 | none=>.non
 | some (a,b,k)=>.tup [.str a,.str b,.int k]
abbrev R4:=Dat×Dat×List Dat×Dat
noncomputable def r4D (r:R4):Dat:=.tup [r.1,r.2.1,.lst r.2.2.1,r.2.2.2]
noncomputable def rw4 (r:Rw):R4:=(.str r.word,whD r.wh,r.ds.map ddD,.str r.to)
abbrev Tw:=Int×Int×List Dd×Str
noncomputable def tw4 (r:Tw):R4:=(.int r.1,.int r.2.1,r.2.2.1.map ddD,.str r.2.2.2)
inductive Wt
 | ask (c:Str) (k:Int) (one other:Str)
 | fin (t b:Int)
 | score (c:Str)
 | pick (who:Int) (rs:List Rw)
 | thr (pool:List Dat) (t b:Int) (rs:List Tw)
noncomputable def wtD:Wt→Dat
 | .ask c k a b=>.tup [.str (Str.ofString "ask"),.str c,.int k,.str a,.str b]
 | .fin t b=>.tup [.str (Str.ofString "end"),.tup [.int t,.int b]]
 | .score c=>.tup [.str (Str.ofString "score"),.str c]
 | .pick w rs=>.tup [.str (Str.ofString "pick"),.int w,.lst ((rs.map rw4).map r4D)]
 | .thr pool t b rs=>.tup [.str (Str.ofString "throw"),.lst pool,.tup [.int t,.int b],.lst ((rs.map tw4).map r4D)]
structure Gm where
 cs:List (Str×Int)
 ps:List (Str×Wt)
noncomputable def csD (cs:List (Str×Int)):Dat:=.lst (cs.map fun c=>.tup [.str c.1,.int c.2])
noncomputable def psD (ps:List (Str×Wt)):Dat:=.lst (ps.map fun p=>.tup [.str p.1,wtD p.2])
noncomputable def gmD (g:Gm):Dat:=.tup [csD g.cs,psD g.ps]
noncomputable def spot (cs:List (Str×Int)) (n:Str):Nat:=(cs.map (·.1)).idxOf n
noncomputable def most (cs:List (Str×Int)) (i:Nat):Int:=(cs.map (·.2)).getD i 0
noncomputable def putC (cs:List (Str×Int)) (ns:List Int) (i:Nat) (k:Int):List Int:=ns.set i (min k (most cs i))
noncomputable def doD (cs:List (Str×Int)) (v:Int) (ns:List Int):Dd→List Int
 | .set n k=>putC cs ns (spot cs n) k
 | .plus n k=>putC cs ns (spot cs n) (ns.getD (spot cs n) 0+k)
 | .face n=>putC cs ns (spot cs n) (ns.getD (spot cs n) 0+v)
 | .move n m=>(putC cs ns (spot cs m) (ns.getD (spot cs m) 0+ns.getD (spot cs n) 0)).set (spot cs n) 0
noncomputable def GoodD (cs:List (Str×Int)):Dd→Prop
 | .set n _=>n∈cs.map (·.1)
 | .plus n _=>n∈cs.map (·.1)
 | .face n=>n∈cs.map (·.1)
 | .move n m=>n∈cs.map (·.1)∧m∈cs.map (·.1)
theorem spot_lt {cs:List (Str×Int)} {n:Str} (h:n∈cs.map (·.1)):spot cs n<cs.length:=by
 have:=List.idxOf_lt_length_of_mem h
 rwa [List.length_map] at this
theorem putC_len {cs:List (Str×Int)} {ns:List Int} {i:Nat} {k:Int}:(putC cs ns i k).length=ns.length:=by unfold putC;rw[List.length_set]
theorem doD_len {cs:List (Str×Int)} {v:Int} {ns:List Int}:∀d:Dd,(doD cs v ns d).length=ns.length
 | .set _ _=>putC_len
 | .plus _ _=>putC_len
 | .face _=>putC_len
 | .move _ _=>by unfold doD;rw[List.length_set,putC_len]
noncomputable def look (ps:List (Str×Wt)) (n:Str):Option Wt:=(ps.find? fun p=>decide (p.1=n)).map (·.2)
noncomputable def askd (g:Gm) (ns:List Int):Nat→Str→Option Str
 | 0,_=>none
 | f+1,nm=>match look g.ps nm with
  | some (.ask c k a b)=>if k≤ns.getD (spot g.cs c) 0 then askd g ns f a else askd g ns f b
  | some _=>some nm
  | none=>none
noncomputable def holdsW (cs:List (Str×Int)) (ns:List Int):Option (Str×Str×Int)→Bool
 | none=>true
 | some (n,x,k)=>if n∈cs.map (·.1) then (if x=Str.ofString "from" then decide (k≤ns.getD (spot cs n) 0) else decide (ns.getD (spot cs n) 0<k)) else false
noncomputable def GoodT (cs:List (Str×Int)):Wt→Prop
 | .ask c _ _ _=>c∈cs.map (·.1)
 | .fin _ _=>True
 | .score c=>c∈cs.map (·.1)
 | .pick _ rs=>rs.length≤100∧∀r∈rs,r.ds.length≤100∧∀d∈r.ds,GoodD cs d
 | .thr pool _ _ rs=>pool.length≤100∧rs.length≤100∧∀r∈rs,r.2.2.1.length≤100∧∀d∈r.2.2.1,GoodD cs d
structure GoodG (g:Gm):Prop where
 nc:(g.cs.map (·.1)).Nodup
 np:(g.ps.map (·.1)).Nodup
 lc:g.cs.length≤100
 lp:g.ps.length≤100
 p0:0<g.ps.length
 wt:∀p∈g.ps,GoodT g.cs p.2
theorem look_mem {ps:List (Str×Wt)} {n:Str} {x:Wt} (h:look ps n=some x):(n,x)∈ps:=by
 unfold look at h
 obtain⟨p,hp,rfl⟩:=Option.map_eq_some_iff.mp h
 have e:=List.find?_some hp
 have e:p.1=n:=by simpa using e
 subst e
 exact List.mem_of_find?_eq_some hp
noncomputable def spK:List (Str×Int)→Nat→List (Key×V)
 | [],_=>[]
 | c::cs,i=>(Sum.inr c.1,V.int (i:Int))::spK cs (i+1)
theorem spK_len:∀(cs:List (Str×Int)) (i:Nat),(spK cs i).length=cs.length
 | [],_=>rfl
 | _::cs,i=>by rw[spK,List.length_cons,spK_len cs,List.length_cons]
theorem spK_snoc (c:Str×Int):∀(cs:List (Str×Int)) (i:Nat),spK (cs++ [c]) i=spK cs i++ [(Sum.inr c.1,V.int ((i+cs.length:Nat):Int))]
 | [],i=>rfl
 | d::cs,i=>by
  rw[List.cons_append,spK,spK_snoc c cs (i+1),spK,List.length_cons,show i+1+cs.length=i+ (cs.length+1) by omega]
  rfl
theorem spK_val {n:Str}:∀{cs:List (Str×Int)} {i:Nat},n∈cs.map (·.1)→valV (spK cs i) (Sum.inr n)=some (.int ((i+spot cs n:Nat):Int))
 | [],_,h=>by simp at h
 | c::cs,i,h=>by
  rw[spK]
  by_cases e:c.1=n
  ·rw[valV_pos (by rw[e])]
   have:spot (c::cs) n=0:=by unfold spot;rw[List.map_cons,e,List.idxOf_cons_self]
   rw[this]
   rfl
  ·rw[valV_neg (fun z=>e (by injection z)),spK_val (cs:=cs) (i:=i+1) (by simpa [Ne.symm e] using h)]
   have:spot (c::cs) n=spot cs n+1:=by unfold spot;rw[List.map_cons,List.idxOf_cons,beq_false_of_ne e];rfl
   rw[this,show i+1+spot cs n=i+ (spot cs n+1) by omega]
theorem spK_none {n:Str}:∀{cs:List (Str×Int)} {i:Nat},n∉cs.map (·.1)→valV (spK cs i) (Sum.inr n)=none
 | [],_,_=>rfl
 | c::cs,i,h=>by
  rw[spK,valV_neg (fun z=>h (by injection z with z;simp [z])),spK_none (cs:=cs) (i:=i+1) (fun z=>h (by rw[List.map_cons];exact List.mem_cons_of_mem _ z))]
theorem put_new {κ:Type} [DecidableEq κ] {kvs:List (κ×V)} {k:κ} {v:V} (h:valV kvs k=none):putK kvs k v=kvs++ [(k,v)]:=by
 unfold putK
 rw[if_neg]
 intro c
 obtain⟨x,hx,e⟩:=List.any_eq_true.mp c
 unfold valV at h
 have:kvs.find? (fun kv=>decide (kv.1=k))=none:=by simpa using h
 exact absurd e (by simpa using List.find?_eq_none.mp this x hx)
noncomputable def WhK (H:Hp):List (Str×Wt)→List (Key×V)→Prop
 | [],us=>us=[]
 | p::ps,us=>∃v r,us=(Sum.inr p.1,v)::r∧Rep H (wtD p.2) v∧WhK H ps r
theorem WhK.mono {H H':Hp} (s:Same H H'):∀{ps:List (Str×Wt)} {us:List (Key×V)},WhK H ps us→WhK H' ps us
 | [],_,h=>h
 | _::_,_,⟨v,r,e,h1,h2⟩=>⟨v,r,e,h1.mono s,h2.mono s⟩
theorem WhK.len {H:Hp}:∀{ps:List (Str×Wt)} {us:List (Key×V)},WhK H ps us→us.length=ps.length
 | [],_,h=>by rw[WhK] at h;subst h;rfl
 | _::_,_,⟨v,r,e,h1,h2⟩=>by rw[e,List.length_cons,h2.len,List.length_cons]
theorem WhK.snoc {H:Hp} {p:Str×Wt} {v:V} (k:Rep H (wtD p.2) v):∀{ps:List (Str×Wt)} {us:List (Key×V)},WhK H ps us→WhK H (ps++ [p]) (us++ [(Sum.inr p.1,v)])
 | [],_,h=>by rw[WhK] at h;subst h;exact⟨v,[],rfl,k,rfl⟩
 | _::_,_,⟨u,r,e,h1,h2⟩=>by rw[e];exact⟨u,_,rfl,h1,h2.snoc k⟩
theorem WhK.val {H:Hp} {n:Str}:∀{ps:List (Str×Wt)} {us:List (Key×V)},WhK H ps us→(∃x v,look ps n=some x∧valV us (Sum.inr n)=some v∧Rep H (wtD x) v)∨(look ps n=none∧valV us (Sum.inr n)=none)
 | [],_,h=>by rw[WhK] at h;subst h;exact .inr ⟨rfl,rfl⟩
 | p::ps,_,⟨u,r,e,h1,h2⟩=>by
  subst e
  by_cases c:p.1=n
  ·exact .inl ⟨p.2,u,by unfold look;rw[List.find?_cons_of_pos (by simpa using c)];rfl,valV_pos (by rw[c]),h1⟩
  ·rcases h2.val (n:=n) with ⟨x,v,a,b,d⟩ | ⟨a,b⟩
   ·exact .inl ⟨x,v,by unfold look at *;rw[List.find?_cons_of_neg (by simpa using c)];exact a,by rw[valV_neg (fun z=>c (by injection z))];exact b,d⟩
   ·exact .inr ⟨by unfold look at *;rw[List.find?_cons_of_neg (by simpa using c)];exact a,by rw[valV_neg (fun z=>c (by injection z))];exact b⟩
theorem look_none {ps:List (Str×Wt)} {n:Str} (h:n∉ps.map (·.1)):look ps n=none:=by
 unfold look
 rw[Option.map_eq_none_iff,List.find?_eq_none]
 intro p hp c
 exact h (List.mem_map.mpr ⟨p,hp,by simpa using c⟩)
theorem foldD_len {cs:List (Str×Int)} {v:Int}:∀(ds:List Dd) (ns:List Int),(ds.foldl (doD cs v) ns).length=ns.length
 | [],_=>rfl
 | d::ds,ns=>by rw[List.foldl_cons,foldD_len ds,doD_len]
noncomputable def openR (cs:List (Str×Int)) (ns:List Int):Wt→List Rw
 | .pick _ rs=>rs.filter fun r=>holdsW cs ns r.wh
 | _=>[]
noncomputable def endW (cs:List (Str×Int)) (ns:List Int):Wt→Option (Int×Int)
 | .fin t b=>some (t,b)
 | .score c=>some (ns.getD (spot cs c) 0,1)
 | _=>none
noncomputable def CoH (q:Addr) (H:Hp) (c:Addr) (g:Gm):Prop:=∃dx sp mo wh tb us ft,H c=some (.ins q dx [(Str.ofString "spots",.ref sp),(Str.ofString "mosts",.ref mo),(Str.ofString "first",.str ft),(Str.ofString "whats",.ref wh),(Str.ofString "tables",.ref tb)])∧
 H sp=some (.dK (spK g.cs 0))∧H mo=some (.lst ((g.cs.map (·.2)).map V.int))∧H wh=some (.dK us)∧WhK H g.ps us∧(g.ps.map (·.1)).head?=some ft
theorem CoH.mono {q:Addr} {H H':Hp} {c:Addr} {g:Gm} (s:Same H H'):CoH q H c g→CoH q H' c g:=fun⟨dx,sp,mo,wh,tb,us,ft,h1,h2,h3,h4,h5,h6⟩=>⟨dx,sp,mo,wh,tb,us,ft,s _ _ h1,s _ _ h2,s _ _ h3,s _ _ h4,h5.mono s,h6⟩
noncomputable def StH (H:Hp) (v:V) (nm:Str) (ns:List Int):Prop:=∃a l,v=.ref a∧H a=some (.tup [.str nm,.ref l])∧H l=some (.lst (ns.map V.int))
theorem StH.mono {H H':Hp} {v:V} {nm:Str} {ns:List Int} (s:Same H H'):StH H v nm ns→StH H' v nm ns:=fun⟨a,l,e,h1,h2⟩=>⟨a,l,e,s _ _ h1,s _ _ h2⟩
noncomputable def spOR:Sp:=fun vs H Q _=>∃v,∃rs:List R4,vs=[v]∧Rep H (.lst (rs.map r4D)) v∧rs.length≤100∧(∀r∈rs,r.2.2.1.length≤100)∧∀p H',Same H H'→Rep H' (.lst (rs.map r4D)) (.ref p)→Q (.ref p) H'
noncomputable def spOW:Sp:=fun vs H Q _=>∃v x cs,vs=[v]∧Rep H (wtD x) v∧GoodT cs x∧∀u H',Same H H'→Rep H' (wtD x) u→Q u H'
noncomputable def spPut (q:Addr):Sp:=fun vs H Q _=>∃c l i k g ns,vs=[.ref c,.ref l,.int ((i:Nat):Int),.int k]∧CoH q (hid H l) c g∧H l=some (.lst (List.map V.int ns))∧i<g.cs.length∧ns.length=g.cs.length∧Q .non (upd H l (.lst ((putC g.cs ns i k).map V.int)))
noncomputable def spDo (q:Addr):Sp:=fun vs H Q _=>∃c l dv v g ns d,vs=[.ref c,.ref l,dv,.int v]∧CoH q (hid H l) c g∧H l=some (.lst (List.map V.int ns))∧Rep (hid H l) (ddD d) dv∧GoodD g.cs d∧ns.length=g.cs.length∧Q .non (upd H l (.lst ((doD g.cs v ns d).map V.int)))
noncomputable def spAsk (q:Addr):Sp:=fun vs H Q _=>∃c nm l g ns f nm',vs=[.ref c,.str nm,.ref l]∧CoH q H c g∧GoodG g∧H l=some (.lst (List.map V.int ns))∧ns.length=g.cs.length∧askd g ns f nm=some nm'∧∀a H',Same H H'→H a=none→H' a=some (.tup [.str nm',.ref l])→Q (.ref a) H'
noncomputable def spSta (q:Addr):Sp:=fun vs H Q _=>∃c g f ft nm',vs=[.ref c]∧CoH q H c g∧GoodG g∧(g.ps.map (·.1)).head?=some ft∧askd g (List.replicate g.cs.length 0) f ft=some nm'∧∀a l H',Same H H'→H a=none→H l=none→H' a=some (.tup [.str nm',.ref l])→H' l=some (.lst ((List.replicate g.cs.length (0:Int)).map V.int))→Q (.ref a) H'
noncomputable def spWat (q:Addr):Sp:=fun vs H Q _=>∃c v H0 g nm ns x,vs=[.ref c,v]∧Same H0 H∧CoH q H0 c g∧StH H v nm ns∧look g.ps nm=some x∧∀u,Rep H0 (wtD x) u→Q u H
noncomputable def spHol (q:Addr):Sp:=fun vs H Q _=>∃c v l g ns wh,vs=[.ref c,v,.ref l]∧CoH q H c g∧Rep H (whD wh) v∧H l=some (.lst (List.map V.int ns))∧ns.length=g.cs.length∧Q (.bl (holdsW g.cs ns wh)) H
noncomputable def spByR (q:Addr):Sp:=fun vs H Q _=>∃c sv rv v g nm ns a b ds to f nm',vs=[.ref c,sv,rv,.int v]∧CoH q H c g∧GoodG g∧StH H sv nm ns∧Rep H (r4D (a,b,List.map ddD ds,.str to)) rv∧(∀d∈ds,GoodD g.cs d)∧ds.length≤100∧ns.length=g.cs.length∧
 askd g (ds.foldl (doD g.cs v) ns) f to=some nm'∧∀p l H',Same H H'→H p=none→H l=none→H' p=some (.tup [.str nm',.ref l])→H' l=some (.lst ((ds.foldl (doD g.cs v) ns).map V.int))→Q (.ref p) H'
theorem rep_tup {H:Hp} {ds:List Dat} {v:V}:Rep H (.tup ds) v↔∃p vs,v=.ref p∧H p=some (.tup vs)∧RepL H ds vs:=by rw[Rep]
theorem repL_cons {H:Hp} {d:Dat} {ds:List Dat} {vs:List V}:RepL H (d::ds) vs↔∃v r,vs=v::r∧Rep H d v∧RepL H ds r:=by rw[RepL]
theorem repL_nil {H:Hp} {vs:List V}:RepL H [] vs↔vs=[]:=by rw[RepL]
theorem rep_str {H:Hp} {x:Str} {v:V}:Rep H (.str x) v↔v=.str x:=by rw[Rep]
theorem rep_int {H:Hp} {x:Int} {v:V}:Rep H (.int x) v↔v=.int x:=by rw[Rep]
theorem rep_t2 {H:Hp} {a b:Dat} {v:V}:Rep H (.tup [a,b]) v↔∃p x y,v=.ref p∧H p=some (.tup [x,y])∧Rep H a x∧Rep H b y:=by
 rw[rep_tup]
 constructor
 ·rintro⟨p,vs,e,h,r⟩
  obtain⟨x,r1,rfl,hx,r⟩:=repL_cons.mp r
  obtain⟨y,r2,rfl,hy,r⟩:=repL_cons.mp r
  rw[repL_nil.mp r] at h
  exact⟨p,x,y,e,h,hx,hy⟩
 ·rintro⟨p,x,y,e,h,hx,hy⟩
  exact⟨p,_,e,h,repL_cons.mpr ⟨x,_,rfl,hx,repL_cons.mpr ⟨y,_,rfl,hy,repL_nil.mpr rfl⟩⟩⟩
theorem rep_t3 {H:Hp} {a b c:Dat} {v:V}:Rep H (.tup [a,b,c]) v↔∃p x y z,v=.ref p∧H p=some (.tup [x,y,z])∧Rep H a x∧Rep H b y∧Rep H c z:=by
 rw[rep_tup]
 constructor
 ·rintro⟨p,vs,e,h,r⟩
  obtain⟨x,r1,rfl,hx,r⟩:=repL_cons.mp r
  obtain⟨y,r2,rfl,hy,r⟩:=repL_cons.mp r
  obtain⟨z,r3,rfl,hz,r⟩:=repL_cons.mp r
  rw[repL_nil.mp r] at h
  exact⟨p,x,y,z,e,h,hx,hy,hz⟩
 ·rintro⟨p,x,y,z,e,h,hx,hy,hz⟩
  exact⟨p,_,e,h,repL_cons.mpr ⟨x,_,rfl,hx,repL_cons.mpr ⟨y,_,rfl,hy,repL_cons.mpr ⟨z,_,rfl,hz,repL_nil.mpr rfl⟩⟩⟩⟩
theorem rep_t4 {H:Hp} {a b c d:Dat} {v:V}:Rep H (.tup [a,b,c,d]) v↔∃p x y z u,v=.ref p∧H p=some (.tup [x,y,z,u])∧Rep H a x∧Rep H b y∧Rep H c z∧Rep H d u:=by
 rw[rep_tup]
 constructor
 ·rintro⟨p,vs,e,h,r⟩
  obtain⟨x,r1,rfl,hx,r⟩:=repL_cons.mp r
  obtain⟨y,r2,rfl,hy,r⟩:=repL_cons.mp r
  obtain⟨z,r3,rfl,hz,r⟩:=repL_cons.mp r
  obtain⟨u,r4,rfl,hu,r⟩:=repL_cons.mp r
  rw[repL_nil.mp r] at h
  exact⟨p,x,y,z,u,e,h,hx,hy,hz,hu⟩
 ·rintro⟨p,x,y,z,u,e,h,hx,hy,hz,hu⟩
  exact⟨p,_,e,h,repL_cons.mpr ⟨x,_,rfl,hx,repL_cons.mpr ⟨y,_,rfl,hy,repL_cons.mpr ⟨z,_,rfl,hz,repL_cons.mpr ⟨u,_,rfl,hu,repL_nil.mpr rfl⟩⟩⟩⟩⟩
theorem rep_t5 {H:Hp} {a b c d f:Dat} {v:V}:Rep H (.tup [a,b,c,d,f]) v↔∃p x y z u t,v=.ref p∧H p=some (.tup [x,y,z,u,t])∧Rep H a x∧Rep H b y∧Rep H c z∧Rep H d u∧Rep H f t:=by
 rw[rep_tup]
 constructor
 ·rintro⟨p,vs,e,h,r⟩
  obtain⟨x,r1,rfl,hx,r⟩:=repL_cons.mp r
  obtain⟨y,r2,rfl,hy,r⟩:=repL_cons.mp r
  obtain⟨z,r3,rfl,hz,r⟩:=repL_cons.mp r
  obtain⟨u,r4,rfl,hu,r⟩:=repL_cons.mp r
  obtain⟨t,r5,rfl,ht,r⟩:=repL_cons.mp r
  rw[repL_nil.mp r] at h
  exact⟨p,x,y,z,u,t,e,h,hx,hy,hz,hu,ht⟩
 ·rintro⟨p,x,y,z,u,t,e,h,hx,hy,hz,hu,ht⟩
  exact⟨p,_,e,h,repL_cons.mpr ⟨x,_,rfl,hx,repL_cons.mpr ⟨y,_,rfl,hy,repL_cons.mpr ⟨z,_,rfl,hz,repL_cons.mpr ⟨u,_,rfl,hu,repL_cons.mpr ⟨t,_,rfl,ht,repL_nil.mpr rfl⟩⟩⟩⟩⟩⟩
theorem lk_ne {k k':Str} {v:V} {l:List (Str×V)} (h:(k==k')=false):List.lookup k ((k',v)::l)=List.lookup k l:=by rw[List.lookup_cons,h]
theorem lk_sp {a b c d e:V}:List.lookup (Str.ofString "spots") [(Str.ofString "spots",a),(Str.ofString "mosts",b),(Str.ofString "first",c),(Str.ofString "whats",d),(Str.ofString "tables",e)]=some a:=List.lookup_cons_self
theorem lk_mo {a b c d e:V}:List.lookup (Str.ofString "mosts") [(Str.ofString "spots",a),(Str.ofString "mosts",b),(Str.ofString "first",c),(Str.ofString "whats",d),(Str.ofString "tables",e)]=some b:=by
 rw[lk_ne (by decide +kernel)];exact List.lookup_cons_self
theorem lk_fi {a b c d e:V}:List.lookup (Str.ofString "first") [(Str.ofString "spots",a),(Str.ofString "mosts",b),(Str.ofString "first",c),(Str.ofString "whats",d),(Str.ofString "tables",e)]=some c:=by
 rw[lk_ne (by decide +kernel),lk_ne (by decide +kernel)];exact List.lookup_cons_self
theorem lk_wh {a b c d e:V}:List.lookup (Str.ofString "whats") [(Str.ofString "spots",a),(Str.ofString "mosts",b),(Str.ofString "first",c),(Str.ofString "whats",d),(Str.ofString "tables",e)]=some d:=by
 rw[lk_ne (by decide +kernel),lk_ne (by decide +kernel),lk_ne (by decide +kernel)];exact List.lookup_cons_self
theorem lk_no {a b c d e:V} {k:Str} (h1:(k==Str.ofString "spots")=false) (h2:(k==Str.ofString "mosts")=false) (h3:(k==Str.ofString "first")=false) (h4:(k==Str.ofString "whats")=false) (h5:(k==Str.ofString "tables")=false):
  List.lookup k [(Str.ofString "spots",a),(Str.ofString "mosts",b),(Str.ofString "first",c),(Str.ofString "whats",d),(Str.ofString "tables",e)]=none:=by
 rw[lk_ne h1,lk_ne h2,lk_ne h3,lk_ne h4,lk_ne h5];rfl
theorem ixN_nat {n i:Nat} (h:i<n):ixN n (i:Int)=some i:=by
 unfold ixN
 rw[if_pos (by omega),if_pos (by omega),Int.toNat_natCast]
theorem at_ints {ns:List Int} {i:Nat} (h:i<ns.length):atI (List.map V.int ns) (i:Int)=some (.int (ns.getD i 0)):=by
 have:=atI_ints (ns:=ns) (i:=(i:Int)) (by omega) (by omega)
 rwa [Int.toNat_natCast] at this
theorem most_at {cs:List (Str×Int)} {i:Nat} (h:i<cs.length):atI (List.map V.int (cs.map (·.2))) (i:Int)=some (.int (most cs i)):=at_ints (by rw[List.length_map];exact h)
theorem sp_get {H:Hp} {sp:Addr} {cs:List (Str×Int)} {n:Str} (h:H sp=some (.dK (spK cs 0))) (hn:n∈cs.map (·.1)):DGet H sp (.str n) (some (.int ((spot cs n:Nat):Int))):=
 .inl ⟨_,Sum.inr n,.inl h,rfl,by rw[spK_val hn,Nat.zero_add]⟩
theorem hid_hid' {H:Hp} {p:Addr} {o:HO}:hid (upd H p o) p=hid H p:=by
 funext a
 unfold hid
 by_cases c:a=p
 ·rw[if_pos c,if_pos c]
 ·rw[if_neg c,if_neg c,upd_ne c]
theorem while_m {c:TT} {tb:TS} {D:Ends} {σ:L2.St} {H:Hp} (Pv:Nat→L2.St→Hp→Prop) {m:Nat} (h0:Pv m σ H)
  (hs:∀m σ H,Pv m σ H→∃b:Bool,(∀Q:Bool→Hp→Prop,Q b H→c σ H Q)∧if b=true then tb {D with nx:=fun σ' H'=>∃m',m'<m∧Pv m' σ' H',ct:=fun σ' H'=>∃m',m'<m∧Pv m' σ' H',bk:=D.nx} σ H else D.nx σ H):tWhile c tb D σ H:=by
 refine⟨Pv,⟨m,h0⟩,?_⟩
 intro m σ H p
 obtain⟨b,k,q⟩:=hs m σ H p
 refine k _ ?_
 cases b with
 | true=>exact⟨_,fun σ' H' h=>h,q⟩
 | false=>exact q
theorem hid_none {H:Hp} {p:Addr} (h:H p=none):hid H p=H:=by
 funext a
 unfold hid
 by_cases c:a=p
 ·rw[if_pos c,c,h]
 ·rw[if_neg c]
theorem hid_same {H H':Hp} {p:Addr} (h:hid H' p=H):Same H H':=by rw[←h];exact hid_sub
theorem flat_rep (n:Nat):(List.replicate n [V.int 0]).flatten=List.map V.int (List.replicate n 0):=by
 induction n with
 | zero=>rfl
 | succ n ih=>rw[List.replicate_succ,List.flatten_cons,ih,List.replicate_succ];rfl
noncomputable def spOpn (q:Addr):Sp:=fun vs H Q _=>∃c v H0 g nm ns x,vs=[.ref c,v]∧Same H0 H∧CoH q H0 c g∧GoodG g∧StH H v nm ns∧ns.length=g.cs.length∧look g.ps nm=some x∧∀p xs H',Same H H'→H p=none→H' p=some (.lst xs)→RepL H0 (((openR g.cs ns x).map rw4).map r4D) xs→Q (.ref p) H'
noncomputable def spWds (q:Addr):Sp:=fun vs H Q _=>∃c v g nm ns x,vs=[.ref c,v]∧CoH q H c g∧GoodG g∧StH H v nm ns∧ns.length=g.cs.length∧look g.ps nm=some x∧∀p H',Same H H'→H p=none→Rep H' (.lst ((openR g.cs ns x).map fun r=>Dat.str r.word)) (.ref p)→Q (.ref p) H'
noncomputable def spEnd (q:Addr):Sp:=fun vs H Q _=>∃c v g nm ns x t b,vs=[.ref c,v]∧CoH q H c g∧GoodG g∧StH H v nm ns∧ns.length=g.cs.length∧look g.ps nm=some x∧endW g.cs ns x=some (t,b)∧∀u H',Same H H'→Rep H' (.tup [.int t,.int b]) u→Q u H'
theorem rep_filter {H:Hp} {p:Rw→Bool}:∀{rs:List Rw} {xs:List V},RepL H ((rs.map rw4).map r4D) xs→RepL H (((rs.filter p).map rw4).map r4D) ((xs.zip rs).filterMap fun x=>if p x.2=true then some x.1 else none)
 | [],xs,h=>by rw[List.zip_nil_right];exact repL_nil.mpr rfl
 | r::rs,xs,h=>by
  obtain⟨v,ys,rfl,h1,h2⟩:=repL_cons.mp h
  have ih:=rep_filter (p:=p) h2
  rw[List.zip_cons_cons,List.filterMap_cons]
  by_cases c:p r=true
  ·simp only[c,if_true]
   rw[List.filter_cons_of_pos c,List.map_cons,List.map_cons]
   exact repL_cons.mpr ⟨v,_,rfl,h1,ih⟩
  ·simp only[c]
   rw[List.filter_cons_of_neg c]
   exact ih
theorem rep_words {H:Hp}:∀{rs:List Rw} {xs:List V},RepL H ((rs.map rw4).map r4D) xs→RepL H (rs.map fun r=>Dat.str r.word) (rs.map fun r=>V.str r.word)
 | [],xs,h=>repL_nil.mpr rfl
 | r::rs,xs,h=>by
  obtain⟨v,ys,rfl,h1,h2⟩:=repL_cons.mp h
  exact repL_cons.mpr ⟨_,_,rfl,rep_str.mpr rfl,rep_words h2⟩
theorem rw4_get {H:Hp} {rs:List Rw} {xs:List V} {i:Nat} {x:V} (h:RepL H ((rs.map rw4).map r4D) xs) (e:xs[i]?=some x):∃r p a b c d,rs[i]?=some r∧x=.ref p∧H p=some (.tup [.str r.word,b,c,d])∧Rep H (whD r.wh) b∧a=r:=by
 obtain⟨dd,ed,rd⟩:=h.get e
 rw[List.getElem?_map,List.getElem?_map] at ed
 obtain⟨r4,e4,rfl⟩:=Option.map_eq_some_iff.mp ed
 obtain⟨r,er,rfl⟩:=Option.map_eq_some_iff.mp e4
 obtain⟨p,x1,x2,x3,x4,rfl,hp,r1,r2,r3,r4⟩:=rep_t4.mp (show Rep H (.tup _) x from rd)
 have r1:x1=.str r.word:=rep_str.mp r1
 subst r1
 exact⟨r,p,r,x2,x3,x4,er,rfl,hp,r2,rfl⟩
theorem if_yes {tc:TT} {a b:TS} {D:Ends} {σ:L2.St} {H:Hp} (h:∀Y N:Hp→Prop,Y H→tc σ H fun v H'=>if v=true then Y H' else N H') (k:a D σ H):tIfS tc a b D σ H:=if_gen (fun H'=>H'=H) (fun _=>False) (fun _ e=>e▸k) (fun _ f=>f.elim) fun Y N hY _=>h Y N (hY _ rfl)
theorem if_no {tc:TT} {a b:TS} {D:Ends} {σ:L2.St} {H:Hp} (h:∀Y N:Hp→Prop,N H→tc σ H fun v H'=>if v=true then Y H' else N H') (k:b D σ H):tIfS tc a b D σ H:=if_gen (fun _=>False) (fun H'=>H'=H) (fun _ f=>f.elim) (fun _ e=>e▸k) fun Y N _ hN=>h Y N (hN _ rfl)
abbrev Sta:=Str×List Int
noncomputable def keyD (s:Sta):Dat:=.tup [.str s.1,.tup (s.2.map .int)]
theorem toPL_ints:∀ns:List Int,toPL (ns.map Dat.int)=ns.map PyData.int
 | []=>by simp [toPL]
 | n::ns=>by rw[List.map_cons,toPL,toPL_ints ns,toP,List.map_cons]
theorem key_toP (s:Sta):toP (keyD s)=.tuple [.str s.1,.tuple (s.2.map PyData.int)]:=by
 unfold keyD
 rw[toP,toPL,toPL,toPL,toP,toP,toPL_ints]
theorem key_inj {s t:Sta}:toP (keyD s)=toP (keyD t)↔s=t:=by
 rw[key_toP,key_toP]
 constructor
 ·intro h
  injection h with h
  injection h with h1 h
  injection h with h2 _
  injection h1 with h1
  injection h2 with h2
  have:s.2=t.2:=by
   have:∀{a b:List Int},a.map PyData.int=b.map PyData.int→a=b:=by
    intro a
    induction a with
    | nil=>intro b h;cases b with | nil=>rfl | cons _ _=>cases h
    | cons x a ih=>
     intro b h
     cases b with
     | nil=>cases h
     | cons y b=>
      rw[List.map_cons,List.map_cons] at h
      injection h with h1 h2
      injection h1 with h1
      rw[h1,ih h2]
   exact this h2
  exact Prod.ext h1 this
 ·rintro rfl;rfl
theorem hshL_ints:∀ns:List Int,hshL (ns.map PyData.int)=true
 | []=>rfl
 | n::ns=>by rw[List.map_cons,hshL,hshL_ints ns];rfl
theorem depL_ints:∀ns:List Int,PyData.depthAll (ns.map PyData.int)≤1
 | []=>by simp [PyData.depthAll]
 | n::ns=>by
  have:=depL_ints ns
  rw[List.map_cons,PyData.depthAll,PyData.depth]
  omega
noncomputable def NumK:List Sta→Rows→Nat→Prop
 | [],ks,_=>ks=[]
 | s::ss,ks,i=>∃b r,ks=(keyD s,b,(i:Int))::r∧NumK ss r (i+1)
theorem NumK.len:∀{ss:List Sta} {ks:Rows} {i:Nat},NumK ss ks i→ks.length=ss.length
 | [],_,_,h=>by rw[NumK] at h;subst h;rfl
 | _::_,_,_,⟨b,r,e,h⟩=>by rw[e,List.length_cons,h.len,List.length_cons]
theorem NumK.snoc {s:Sta} {b:Addr}:∀{ss:List Sta} {ks:Rows} {i:Nat},NumK ss ks i→NumK (ss++ [s]) (ks++ [(keyD s,b,((i+ss.length:Nat):Int))]) i
 | [],_,i,h=>by rw[NumK] at h;subst h;exact⟨b,[],rfl,rfl⟩
 | t::ss,_,i,⟨b',r,e,h⟩=>by
  rw[e]
  refine⟨b',_,rfl,?_⟩
  have:=h.snoc (s:=s) (b:=b)
  rw[show i+1+ss.length=i+ (t::ss).length by rw[List.length_cons];omega] at this
  exact this
theorem NumK.look {s:Sta}:∀{ss:List Sta} {ks:Rows} {i:Nat},NumK ss ks i→lookN ks (toP (keyD s))=if s∈ss then some ((i+ss.idxOf s:Nat):Int) else none
 | [],_,_,h=>by rw[NumK] at h;subst h;rfl
 | t::ss,_,i,⟨b,r,e,h⟩=>by
  subst e
  unfold lookN
  by_cases c:t=s
  ·subst c
   rw[List.find?_cons_of_pos (by simp),if_pos List.mem_cons_self,List.idxOf_cons_self]
   rfl
  ·rw[List.find?_cons_of_neg (by simpa [key_inj] using c)]
   have ih:=h.look (s:=s)
   unfold lookN at ih
   rw[ih]
   have e:(t::ss).idxOf s=ss.idxOf s+1:=by rw[List.idxOf_cons,beq_false_of_ne c];rfl
   rw[e,show i+1+ss.idxOf s=i+ (ss.idxOf s+1) by omega]
   by_cases d:s∈ss
   ·rw[if_pos d,if_pos (List.mem_cons_of_mem _ d)]
   ·rw[if_neg d,if_neg (fun z=>by rcases List.mem_cons.mp z with z | z;exact c z.symm;exact d z)]
noncomputable def addS (ss:List Sta) (s:Sta):List Sta:=if s∈ss then ss else ss++ [s]
theorem key_ok {H:Hp} {s:Sta} {b t:Addr} (h:hsh (.str s.1)=true) (hb:H b=some (.tup [.str s.1,.ref t])) (ht:H t=some (.tup (s.2.map V.int))):KeyN H (keyD s) b:=by
 refine⟨?_,?_,?_⟩
 ·rw[key_toP,hsh,hshL,h,hshL,hsh,hshL_ints]
  rfl
 ·rw[key_toP]
  have:=depL_ints s.2
  simp only[PyData.depth,PyData.depthAll]
  omega
 ·unfold keyD
  exact rep_t2.mpr ⟨b,_,_,rfl,hb,rep_str.mpr rfl,rep_tup.mpr ⟨t,_,rfl,ht,RepL.ints _⟩⟩
noncomputable abbrev hid2 (H:Hp) (l n:Addr):Hp:=hid (hid H l) n
theorem hid2_sub {H:Hp} {l n:Addr}:Same (hid2 H l n) H:=fun a o e=>hid_sub _ _ (hid_sub _ _ e)
noncomputable def StF (Fr:Addr→Prop) (H:Hp) (v:V) (nm:Str) (ns:List Int):Prop:=∃a l,v=.ref a∧H a=some (.tup [.str nm,.ref l])∧H l=some (.lst (ns.map V.int))∧Fr l
theorem StF.mono {Fr:Addr→Prop} {H H':Hp} {v:V} {nm:Str} {ns:List Int} (s:Same H H'):StF Fr H v nm ns→StF Fr H' v nm ns:=fun⟨a,l,e,h1,h2,h3⟩=>⟨a,l,e,s _ _ h1,s _ _ h2,h3⟩
theorem StF.st {Fr:Addr→Prop} {H:Hp} {v:V} {nm:Str} {ns:List Int}:StF Fr H v nm ns→StH H v nm ns:=fun⟨a,l,e,h1,h2,_⟩=>⟨a,l,e,h1,h2⟩
noncomputable def FiH (P:Program) (w:World) (q:Addr) (Fr:Addr→Prop) (H:Hp) (f l n:Addr) (ss:List Sta):Prop:=∃dx xs ks,hid2 H l n f=some (.ins q dx [(Str.ofString "states",.ref l),(Str.ofString "numbers",.ref n)])∧l≠n∧H l=some (.lst xs)∧Al (fun s v=>StF Fr (hid2 H l n) v s.1 s.2) ss xs∧
 H n=some (dnO P w n ks)∧AllN (hid2 H l n) ks∧NumK ss ks 0∧ss.length≤120
noncomputable def spNum (P:Program) (w:World) (q:Addr):Sp:=fun vs H Q _=>∃f sv Fr l n ss s,vs=[.ref f,sv]∧FiH P w q Fr H f l n ss∧StF Fr (hid2 H l n) sv s.1 s.2∧hsh (.str s.1)=true∧s.2.length≤100∧(s∈ss∨ss.length<120)∧∀H',Same (hid2 H l n) (hid2 H' l n)→FiH P w q Fr H' f l n (addS ss s)→Q (.int ((ss.idxOf s:Nat):Int)) H'
theorem lk_st {a b:V}:List.lookup (Str.ofString "states") [(Str.ofString "states",a),(Str.ofString "numbers",b)]=some a:=List.lookup_cons_self
theorem lk_nu {a b:V}:List.lookup (Str.ofString "numbers") [(Str.ofString "states",a),(Str.ofString "numbers",b)]=some b:=by
 rw[lk_ne (by decide +kernel)];exact List.lookup_cons_self
theorem lk_no2 {a b:V} {k:Str} (h1:(k==Str.ofString "states")=false) (h2:(k==Str.ofString "numbers")=false):List.lookup k [(Str.ofString "states",a),(Str.ofString "numbers",b)]=none:=by
 rw[lk_ne h1,lk_ne h2];rfl
noncomputable def spFi (P:Program) (w:World) (q:Addr):Sp:=fun vs H Q _=>∃f dx,vs=[.ref f]∧H f=some (.ins q dx [])∧∀l n H',H l=none→H n=none→(∀a o,a≠f→H a=some o→hid2 H' l n a=some o)→(∀Fr,FiH P w q Fr H' f l n [])→Q .non H'
theorem hid2_of {H:Hp} {l n a:Addr} (h1:a≠l) (h2:a≠n):hid2 H l n a=H a:=by
 show hid (hid H l) n a=_
 rw[hid_ne h2,hid_ne h1]
theorem hid2_out {H:Hp} {l n a:Addr} {o:HO} (e:hid2 H l n a=some o):a≠l∧a≠n:=by
 have e:(if a=n then none else if a=l then none else H a)=some o:=e
 refine⟨fun z=>?_,fun z=>?_⟩
 ·by_cases c:a=n
  ·rw[if_pos c] at e;cases e
  ·rw[if_neg c,if_pos z] at e;cases e
 ·rw[if_pos z] at e;cases e
theorem hid2_mono {H H':Hp} {l n:Addr} (s:Same H H'):Same (hid2 H l n) (hid2 H' l n):=fun a o e=>by
 obtain⟨h1,h2⟩:=hid2_out e
 rw[hid2_of h1 h2] at e ⊢
 exact s _ _ e
theorem hid2_updl {H:Hp} {l n:Addr} {o:HO}:hid2 (upd H l o) l n=hid2 H l n:=by show hid (hid (upd H l o) l) n=_;rw[hid_hid']
theorem hid2_updn {H:Hp} {l n:Addr} {o:HO} (h:l≠n):hid2 (upd H n o) l n=hid2 H l n:=by
 funext a
 show(if a=n then none else if a=l then none else upd H n o a)=if a=n then none else if a=l then none else H a
 by_cases c:a=n
 ·rw[if_pos c,if_pos c]
 ·rw[if_neg c,if_neg c,upd_ne c]
theorem addS_mem (ss:List Sta) (s:Sta):s∈addS ss s:=by
 unfold addS
 split
 ·assumption
 ·simp
theorem addS_idx (ss:List Sta) (s:Sta):(addS ss s).idxOf s=ss.idxOf s:=by
 unfold addS
 split
 ·rfl
 ·rename_i h
  rw[List.idxOf_append,if_neg h,List.idxOf_cons_self,List.idxOf_eq_length h]
  omega
theorem FiH.mono {P:Program} {w:World} {q:Addr} {Fr:Addr→Prop} {H H':Hp} {f l n:Addr} {ss:List Sta} (s:Same H H'):FiH P w q Fr H f l n ss→FiH P w q Fr H' f l n ss:=fun⟨dx,xs,ks,h1,h2,h3,h4,h5,h6,h7,h8⟩=>
 ⟨dx,xs,ks,hid2_mono s _ _ h1,h2,s _ _ h3,h4.imp fun _ _ k=>k.mono (hid2_mono s),s _ _ h5,h6.mono (hid2_mono s),h7,h8⟩
noncomputable def Kp (H H':Hp):Prop:=∀a,(∀vs,H a=some (.tup vs)→H' a=some (.tup vs))∧∀vs,H a=some (.lst vs)→H' a=some (.lst vs)
theorem Kp.of {H H':Hp} (s:Same H H'):Kp H H':=fun a=>⟨fun _=>s _ _,fun _=>s _ _⟩
theorem Kp.upd {H:Hp} {p:Addr} {o:HO} (h1:∀vs,H p≠some (.tup vs)) (h2:∀vs,H p≠some (.lst vs)):Kp H (upd H p o):=fun a=>by
 by_cases c:a=p
 ·subst c;exact⟨fun vs e=>absurd e (h1 vs),fun vs e=>absurd e (h2 vs)⟩
 ·rw[upd_ne c];exact⟨fun _ h=>h,fun _ h=>h⟩
theorem Kp.trans {H H' H2:Hp} (a:Kp H H') (b:Kp H' H2):Kp H H2:=fun x=>⟨fun _ h=>(b x).1 _ ((a x).1 _ h),fun _ h=>(b x).2 _ ((a x).2 _ h)⟩
mutual
theorem Kp.rep {H H':Hp} (s:Kp H H'):∀{d:Dat} {v:V},Rep H d v→Rep H' d v
 | .non,_,h=>by rw[Rep] at *;exact h
 | .bl _,_,h=>by rw[Rep] at *;exact h
 | .int _,_,h=>by rw[Rep] at *;exact h
 | .str _,_,h=>by rw[Rep] at *;exact h
 | .tup ds,_,h=>by
  rw[Rep] at *
  obtain⟨p,vs,e,hp,r⟩:=h
  exact⟨p,vs,e,(s p).1 _ hp,s.repL r⟩
 | .lst ds,_,h=>by
  rw[Rep] at *
  obtain⟨p,vs,e,hp,r⟩:=h
  exact⟨p,vs,e,(s p).2 _ hp,s.repL r⟩
theorem Kp.repL {H H':Hp} (s:Kp H H'):∀{ds:List Dat} {vs:List V},RepL H ds vs→RepL H' ds vs
 | [],_,h=>by rw[RepL] at *;exact h
 | d::ds,_,h=>by
  rw[RepL] at *
  obtain⟨v,r,e,h1,h2⟩:=h
  exact⟨v,r,e,s.rep h1,s.repL h2⟩
end
theorem Kp.whk {H H':Hp} (s:Kp H H'):∀{ps:List (Str×Wt)} {us:List (Key×V)},WhK H ps us→WhK H' ps us
 | [],_,h=>h
 | _::_,_,⟨v,r,e,h1,h2⟩=>⟨v,r,e,s.rep h1,s.whk h2⟩
theorem WhK.none {H:Hp} {ps:List (Str×Wt)} {us:List (Key×V)} {n:Str} (h:WhK H ps us) (nn:n∉ps.map (·.1)):valV us (Sum.inr n)=none:=by
 rcases h.val (n:=n) with ⟨x,v,a,_,_⟩ | ⟨_,b⟩
 ·rw[look_none nn] at a;cases a
 ·exact b
theorem nodup_at {α:Type} {l:List α} (h:l.Nodup) {i:Nat} {x:α} (e:l[i]?=some x):x∉l.take i:=by
 intro m
 obtain⟨j,hj,ej⟩:=List.getElem_of_mem m
 rw[List.length_take] at hj
 rw[List.getElem_take] at ej
 obtain⟨hi,ei⟩:=List.getElem?_eq_some_iff.mp e
 have:=(List.getElem_inj h).mp (ej.trans ei.symm)
 omega
noncomputable def addAll (ss ts:List Sta):List Sta:=ts.foldl addS ss
noncomputable def Ahd (ss SS:List Sta):Prop:=∃r,SS=ss++r
theorem Ahd.refl (ss:List Sta):Ahd ss ss:=⟨[],(List.append_nil _).symm⟩
theorem Ahd.trans {a b c:List Sta}:Ahd a b→Ahd b c→Ahd a c:=fun⟨r,e⟩ ⟨t,f⟩=>⟨r++t,by rw[f,e,List.append_assoc]⟩
theorem addS_ahd (ss:List Sta) (s:Sta):Ahd ss (addS ss s):=by
 unfold addS
 split
 ·exact Ahd.refl _
 ·exact⟨_,rfl⟩
theorem addAll_ahd:∀(ts ss:List Sta),Ahd ss (addAll ss ts)
 | [],ss=>Ahd.refl _
 | t::ts,ss=>(addS_ahd ss t).trans (addAll_ahd ts (addS ss t))
theorem Ahd.idx {ss SS:List Sta} {s:Sta} (h:s∈ss):Ahd ss SS→SS.idxOf s=ss.idxOf s:=fun⟨r,e⟩=>by rw[e,List.idxOf_append,if_pos h]
theorem Ahd.len {ss SS:List Sta}:Ahd ss SS→ss.length≤SS.length:=fun⟨r,e⟩=>by rw[e,List.length_append];omega
theorem addS_len {ss:List Sta} {s:Sta} (h:(addS ss s).length≤120):s∈ss∨ss.length<120:=by
 by_cases c:s∈ss
 ·exact .inl c
 ·unfold addS at h
  rw[if_neg c,List.length_append,List.length_singleton] at h
  exact .inr (by omega)
noncomputable def goR (g:Gm) (ns:List Int) (r:Rw):Option Sta:=(askd g (r.ds.foldl (doD g.cs 0) ns) (g.ps.length+1) r.to).map fun nm=>(nm,r.ds.foldl (doD g.cs 0) ns)
noncomputable def Goes (g:Gm) (st:Sta) (ts:List Sta):Prop:=match look g.ps st.1 with
 | some (.pick w rs)=>openR g.cs st.2 (.pick w rs)≠[]∧ts.length=(openR g.cs st.2 (.pick w rs)).length∧∀(i:Nat) r,(openR g.cs st.2 (.pick w rs))[i]?=some r→∃t,ts[i]?=some t∧goR g st.2 r=some t∧hsh (.str t.1)=true
 | some (.fin _ _)=>ts=[]
 | some (.score _)=>ts=[]
 | _=>False
noncomputable def plcD (g:Gm) (SS:List Sta) (st:Sta) (ts:List Sta):Dat:=match look g.ps st.1 with
 | some (.pick w _)=>.tup [.str (Str.ofString "pick"),.int w,.lst (ts.map fun t=>.int ((SS.idxOf t:Nat):Int))]
 | some x=>.tup [.str (Str.ofString "end"),.tup [.int ((endW g.cs st.2 x).getD (0,1)).1,.int ((endW g.cs st.2 x).getD (0,1)).2]]
 | none=>.non
noncomputable def spPkw (P:Program) (w:World) (qc qf:Addr):Sp:=fun vs H Q _=>∃c f sv Fr l n g ss st ts wo rs SS,vs=[.ref c,.ref f,sv]∧CoH qc (hid2 H l n) c g∧GoodG g∧FiH P w qf Fr H f l n ss∧(∀a,H a=none→Fr a)∧StH (hid2 H l n) sv st.1 st.2∧st.2.length=g.cs.length∧look g.ps st.1=some (.pick wo rs)∧
 Goes g st ts∧(addAll ss ts).length≤120∧Ahd (addAll ss ts) SS∧∀p H',Same (hid2 H l n) (hid2 H' l n)→FiH P w qf Fr H' f l n (addAll ss ts)→H p=none→hid2 H' l n p=some (.lst (ts.map fun t=>V.int ((SS.idxOf t:Nat):Int)))→Q (.ref p) H'
theorem block_ok {J:It} {g:TG} {tc:TT} {te:TE} {σ0:L2.St} {H1:Hp} {fin:List V→Hp→Prop} {n:Nat} {Item:Nat→V→Hp→Hp→Prop} {Ok:Hp→Prop} (S:Src J Ok n Item) (W:Nat→List V→L2.St→Hp→Prop) (p0:W 0 [] σ0 H1) (hok:∀i ys σ H,W i ys σ H→Ok H) (hz:n≤sizeLine)
  (hs:∀i x σ H ys H3 (Q:L2.St→V→Hp→Prop) (N:L2.St→Hp→Prop),i<n→W i ys σ H→Item i x H H3→
   (∀σ3 y H6,W (i+1) (ys++ [y]) σ3 H6→Q σ3 y H6)→(∀σ3 H5,W (i+1) ys σ3 H5→N σ3 H5)→
   g x σ H3 fun σ3 H4=>tc σ3 H4 fun b H5=>if b=true then te σ3 H5 fun y H6=>Q σ3 y H6 else N σ3 H5)
  (hfin:∀ys σ H,W n ys σ H→fin ys H):tBlock J g tc te σ0 H1 fin:=by
 refine⟨fun i m ys σ H=>m=n - i∧i≤n∧ys.length≤i∧W i ys σ H,⟨n,by simp,Nat.zero_le _,Nat.le_refl _,p0⟩,?_⟩
 rintro i m ys σ H ⟨rfl,hi,hl,p⟩
 by_cases hlt:i<n
 ·refine .inr ⟨S.go i H hlt (hok _ _ _ _ p),fun x H3 y=>hs i x σ H ys H3 (fun σ3 y H6=>ys.length<sizeLine∧∃m',m'<n - i∧m'=n - (i+1)∧i+1≤n∧(ys++ [y]).length≤i+1∧W (i+1) (ys++ [y]) σ3 H6)
   (fun σ3 H5=>∃m',m'<n - i∧m'=n - (i+1)∧i+1≤n∧ys.length≤i+1∧W (i+1) ys σ3 H5) hlt p (S.yld i H x H3 hlt (hok _ _ _ _ p) y) (fun σ3 y H6 q=>?_) (fun σ3 H5 q=>?_)⟩
  ·exact⟨by omega,n - (i+1),by omega,rfl,hlt,by rw[List.length_append,List.length_singleton];omega,q⟩
  ·exact⟨n - (i+1),by omega,rfl,hlt,by omega,q⟩
 ·have e:i=n:=by omega
  subst e
  exact .inl ⟨S.stop H (hok _ _ _ _ p),hfin ys σ H p⟩
theorem FiH.fr {P:Program} {w:World} {q:Addr} {Fr Fr':Addr→Prop} {H:Hp} {f l n:Addr} {ss:List Sta} (k:∀a o,H a=some o→Fr a→Fr' a):FiH P w q Fr H f l n ss→FiH P w q Fr' H f l n ss:=fun⟨dx,xs,ks,h1,h2,h3,h4,h5,h6,h7,h8⟩=>
 ⟨dx,xs,ks,h1,h2,h3,h4.imp fun _ _ ⟨a,b,e,a1,a2,a3⟩=>⟨a,b,e,a1,a2,k _ _ (hid2_sub _ _ a2) a3⟩,h5,h6,h7,h8⟩
theorem KeyN.tup {H H':Hp} {s:Sta} {b:Addr} (k:∀a vs,H a=some (.tup vs)→H' a=some (.tup vs)):KeyN H (keyD s) b→KeyN H' (keyD s) b:=fun⟨h1,h2,h3⟩=>by
 refine⟨h1,h2,?_⟩
 unfold keyD at h3 ⊢
 obtain⟨p,x,y,e,hp,r1,r2⟩:=rep_t2.mp h3
 obtain⟨t,vs,e2,ht,r3⟩:=rep_tup.mp r2
 refine rep_t2.mpr ⟨p,x,y,e,k _ _ hp,rep_str.mpr (rep_str.mp r1),rep_tup.mpr ⟨t,vs,e2,k _ _ ht,?_⟩⟩
 have:vs=s.2.map V.int:=by
  have:∀{ns:List Int} {vs:List V},RepL H (ns.map Dat.int) vs→vs=ns.map V.int:=by
   intro ns
   induction ns with
   | nil=>intro vs h;exact repL_nil.mp h
   | cons x ns ih=>
    intro vs h
    obtain⟨v,r,rfl,h1,h2⟩:=repL_cons.mp h
    rw[rep_int.mp h1,ih h2]
    rfl
  exact this r3
 rw[this]
 exact RepL.ints _
theorem NumK.key:∀{ss:List Sta} {ks:Rows} {i:Nat},NumK ss ks i→∀p∈ks,∃s,p.1=keyD s
 | [],_,_,h,p,hp=>by rw[NumK] at h;subst h;cases hp
 | s::ss,_,_,⟨b,r,e,h⟩,p,hp=>by
  subst e
  rcases List.mem_cons.mp hp with rfl | hp
  ·exact⟨s,rfl⟩
  ·exact h.key p hp
theorem FiH.updb {P:Program} {w:World} {q:Addr} {Fr:Addr→Prop} {H:Hp} {f l n b:Addr} {ss:List Sta} {ys ys':List V} (k:∀a,Fr a→a≠b) (hb:H b=some (.lst ys)) (bl:b≠l):FiH P w q Fr H f l n ss→FiH P w q Fr (upd H b (.lst ys')) f l n ss:=fun⟨dx,xs,ks,h1,h2,h3,h4,h5,h6,h7,h8⟩=>by
 have bn:b≠n:=fun z=>by rw[z,h5] at hb;cases hb
 have up:∀a o,a≠b→hid2 H l n a=some o→hid2 (upd H b (.lst ys')) l n a=some o:=fun a o ab e=>by
  obtain⟨e1,e2⟩:=hid2_out e
  rw[hid2_of e1 e2] at e ⊢
  rw[upd_ne ab]
  exact e
 have tp:∀a vs,hid2 H l n a=some (.tup vs)→hid2 (upd H b (.lst ys')) l n a=some (.tup vs):=fun a vs e=>up a _ (fun z=>by have:=hid2_sub _ _ e;rw[z,hb] at this;cases this) e
 refine⟨dx,xs,ks,up _ _ (fun z=>by have:=hid2_sub _ _ h1;rw[z,hb] at this;cases this) h1,h2,by rw[upd_ne (Ne.symm bl)];exact h3,h4.imp fun _ _ ⟨a,c,e,a1,a2,a3⟩=>⟨a,c,e,tp _ _ a1,up _ _ (k _ a3) a2,a3⟩,by rw[upd_ne (Ne.symm bn)];exact h5,fun p hp=>?_,h7,h8⟩
 obtain⟨s,es⟩:=h7.key p hp
 have:=h6 p hp
 rw[es] at this ⊢
 exact KeyN.tup tp this
noncomputable def wordsD (g:Gm) (st:Sta):Dat:=.lst ((openR g.cs st.2 ((look g.ps st.1).getD (.fin 0 1))).map fun r=>Dat.str r.word)
inductive Pt
 | num (n:Nat)
noncomputable def ptV:Pt→List V
 | .num n=>[.str (Str.ofString "number"),.int (n:Int)]
noncomputable def ptD:Pt→Dat
 | .num n=>.tup [.str (Str.ofString "number"),.int (n:Int)]
noncomputable def GoodL (ps:List Pt):Prop:=∃n,n≤99∧ps=[.num n]
noncomputable def tabP:List Pt→List (Int×Int×Int)
 | [.num n]=>[((n:Int),1,1)]
 | _=>[]
theorem tab_num (n:Nat):tabP [.num n]=[((n:Int),1,1)]:=rfl
noncomputable def PlH (H:Hp) (l:Addr) (ps:List Pt):Prop:=∃xs,H l=some (.lst xs)∧Al (fun p v=>∃q,v=.ref q∧H q=some (.tup (ptV p))) ps xs
theorem PlH.mono {H H':Hp} {l:Addr} {ps:List Pt} (s:Same H H'):PlH H l ps→PlH H' l ps:=fun⟨xs,h,a⟩=>⟨xs,s _ _ h,a.imp fun _ _ ⟨q,e,k⟩=>⟨q,e,s _ _ k⟩⟩
noncomputable def GoodR (W:Int) (rows:List (Int×Int×Int)):Prop:=0<W∧W≤1000000∧rows.length≤1296∧∀r∈rows,0<r.2.2∧r.2.2∣W∧0≤r.2.1∧r.2.1≤W
theorem goodR_tab {ps:List Pt} (g:GoodL ps):GoodR 1 (tabP ps):=by
 obtain⟨n,_,rfl⟩:=g
 refine⟨by decide,by decide,show 1≤1296 by decide,fun r hr=>?_⟩
 rw[List.mem_singleton.mp (show r∈[((n:Int),(1:Int),(1:Int))] from hr)]
 exact⟨show(0:Int)<1 by decide,Int.dvd_refl _,show(0:Int)≤1 by decide,show(1:Int)≤1 by decide⟩
theorem ptD_inj {p q:Pt} (h:ptD p=ptD q):p=q:=by
 cases p with
 | num a=>
  cases q with
  | num b=>
   unfold ptD at h
   injection h with h
   injection h with _ h
   injection h with h _
   injection h with h
   have:a=b:=by omega
   rw[this]
theorem pt_back {H:Hp} {p:Pt} {v:V} (h:Rep H (ptD p) v):∃q,v=.ref q∧H q=some (.tup (ptV p)):=by
 cases p with
 | num n=>obtain⟨q,x,y,e,hq,a,b⟩:=rep_t2.mp (show Rep H (.tup _) v from h);rw[rep_str.mp a,rep_int.mp b] at hq;exact⟨q,e,hq⟩
noncomputable def spPw:Sp:=fun vs H Q _=>∃b:Int,vs=[.int b,.int 0]∧Q (.int 1) H
noncomputable def spMf:Sp:=fun vs H Q _=>∃q n,vs=[.ref q]∧H q=some (.tup (ptV (.num n)))∧Q (.int 0) H
noncomputable def spBo:Sp:=fun vs H Q _=>∃q n,vs=[.ref q]∧H q=some (.tup (ptV (.num n)))∧Q (.int 1) H
noncomputable def spCt:Sp:=fun vs H Q _=>∃q n,vs=[.ref q]∧H q=some (.tup (ptV (.num n)))∧Q (.int 1) H
noncomputable def spCk:Sp:=fun vs H Q _=>∃l q n,vs=[.ref l]∧H l=some (.lst [.ref q])∧H q=some (.tup (ptV (.num n)))∧Q .non H
noncomputable def spNo:Sp:=fun _ _ _ _=>False
noncomputable def spPf:Sp:=fun vs H Q _=>∃q n,vs=[.ref q]∧H q=some (.tup (ptV (.num n)))∧∀l e H',Same H H'→H' l=some (.lst [.ref e])→H' e=some (.lst [])→Q (.ref l) H'
noncomputable def spVo:Sp:=fun vs H Q _=>∃q n v,vs=[.ref q,v]∧H q=some (.tup (ptV (.num n)))∧Q (.int (n:Int)) H
noncomputable def spSp:Sp:=fun vs H Q _=>∃q l,vs=[.ref q,.ref l]∧H l=some (.lst [])∧Q (.int 1) H
noncomputable def spPt:Sp:=fun vs H Q _=>∃q n,vs=[.ref q]∧H q=some (.tup (ptV (.num n)))∧∀l t e H',Same H H'→H' l=some (.lst [.ref t])→H' t=some (.tup [.ref e,.int (n:Int),.int 1])→H' e=some (.lst [])→Q (.ref l) H'
noncomputable def spTb:Sp:=fun vs H Q _=>∃l q n,vs=[.ref l]∧H l=some (.lst [.ref q])∧H q=some (.tup (ptV (.num n)))∧∀l t e H',Same H H'→H' l=some (.lst [.ref t])→H' t=some (.tup [.ref e,.int (n:Int),.int 1])→Q (.ref l) H'
noncomputable def spPl:Sp:=fun vs H Q _=>∃a ps,vs=[.ref a]∧PlH H a ps∧GoodL ps∧ps.length≤4∧∀p H',Same H H'→H p=none→Rep H' (rowsD (tabP ps)) (.ref p)→Q (.ref p) H'
noncomputable def CoT (q:Addr) (H:Hp) (c:Addr) (g:Gm) (tb:Addr):Prop:=∃dx sp mo wh us ft,H c=some (.ins q dx [(Str.ofString "spots",.ref sp),(Str.ofString "mosts",.ref mo),(Str.ofString "first",.str ft),(Str.ofString "whats",.ref wh),(Str.ofString "tables",.ref tb)])∧
 H sp=some (.dK (spK g.cs 0))∧H mo=some (.lst ((g.cs.map (·.2)).map V.int))∧H wh=some (.dK us)∧WhK H g.ps us∧(g.ps.map (·.1)).head?=some ft
theorem CoT.co {q:Addr} {H:Hp} {c:Addr} {g:Gm} {tb:Addr}:CoT q H c g tb→CoH q H c g:=fun⟨dx,sp,mo,wh,us,ft,h1,h2,h3,h4,h5,h6⟩=>⟨dx,sp,mo,wh,tb,us,ft,h1,h2,h3,h4,h5,h6⟩
theorem CoT.mono {q:Addr} {H H':Hp} {c:Addr} {g:Gm} {tb:Addr} (s:Same H H'):CoT q H c g tb→CoT q H' c g tb:=fun⟨dx,sp,mo,wh,us,ft,h1,h2,h3,h4,h5,h6⟩=>⟨dx,sp,mo,wh,us,ft,s _ _ h1,s _ _ h2,s _ _ h3,s _ _ h4,h5.mono s,h6⟩
theorem Kp.hid {H:Hp} {tb:Addr} {kvs:List (Key×V)} (h:H tb=some (.dK kvs)):Kp H (hid H tb):=fun a=>by
 by_cases c:a=tb
 ·subst c;rw[h];exact⟨(fun _ e=>by cases e),(fun _ e=>by cases e)⟩
 ·rw[hid_ne c];exact⟨fun _ e=>e,fun _ e=>e⟩
noncomputable def spCo (q:Addr):Sp:=fun vs H Q _=>∃c dx gv g,vs=[.ref c,gv]∧H c=some (.ins q dx [])∧Rep H (gmD g) gv∧GoodG g∧∀tb H',(∀a o,a≠c→H a=some o→H' a=some o)→H tb=none→H' tb=some (.dK [])→CoT q (hid H' tb) c g tb→Q .non H'
noncomputable abbrev hid3 (H:Hp) (l n tb:Addr):Hp:=hid (hid2 H l n) tb
theorem hid3_sub {H:Hp} {l n tb:Addr}:Same (hid3 H l n tb) H:=hid_sub.trans hid2_sub
theorem hid3_of {H:Hp} {l n tb a:Addr} (h1:a≠l) (h2:a≠n) (h3:a≠tb):hid3 H l n tb a=H a:=by
 show hid (hid2 H l n) tb a=_
 rw[hid_ne h3,hid2_of h1 h2]
theorem hid3_out {H:Hp} {l n tb a:Addr} {o:HO} (e:hid3 H l n tb a=some o):a≠l∧a≠n∧a≠tb:=by
 have h3:a≠tb:=fun z=>by
  have e:(if a=tb then none else hid2 H l n a)=some o:=e
  rw[if_pos z] at e
  cases e
 have e:hid (hid2 H l n) tb a=some o:=e
 rw[hid_ne h3] at e
 obtain⟨h1,h2⟩:=hid2_out e
 exact⟨h1,h2,h3⟩
theorem hid3_hid {H:Hp} {l n tb:Addr}:Same (hid3 H l n tb) (hid H tb):=fun a o e=>by
 obtain⟨h1,h2,h3⟩:=hid3_out e
 rw[hid3_of h1 h2 h3] at e
 rw[hid_ne h3]
 exact e
theorem isB_uniq {rows:List (Int×Int×Int)} {B C:Int} (h:0<B∧(∀r∈rows,r.2.2∣B)∧∀M,(∀r∈rows,r.2.2∣M)→B∣M) (k:0<C∧(∀r∈rows,r.2.2∣C)∧∀M,(∀r∈rows,r.2.2∣M)→C∣M):B=C:=
 Int.le_antisymm (Int.le_of_dvd k.1 (h.2.2 C k.2.1)) (Int.le_of_dvd h.1 (k.2.2 B h.2.1))
theorem hid3_tb {H H':Hp} {l n tb:Addr} (s:Same (hid H tb) (hid H' tb)):Same (hid3 H l n tb) (hid3 H' l n tb):=fun a o e=>by
 obtain⟨h1,h2,h3⟩:=hid3_out e
 rw[hid3_of h1 h2 h3] at e ⊢
 have:=s a o (by rw[hid_ne h3];exact e)
 rwa [hid_ne h3] at this
theorem FiH.tb {P:Program} {w:World} {q:Addr} {Fr:Addr→Prop} {H H':Hp} {f l n tb:Addr} {ss:List Sta} {kvs:List (Key×V)} (s:Same (hid H tb) (hid H' tb)) (ht:H tb=some (.dK kvs)):FiH P w q Fr H f l n ss→FiH P w q Fr H' f l n ss:=fun⟨dx,xs,ks,h1,h2,h3,h4,h5,h6,h7,h8⟩=>by
 have up:∀a o,H a=some o→(∀kvs,o≠.dK kvs)→H' a=some o:=fun a o e no=>by
  have ne:a≠tb:=fun z=>by rw[z,ht] at e;cases e;exact no _ rfl
  have:=s a o (by rw[hid_ne ne];exact e)
  rwa [hid_ne ne] at this
 have up2:∀a o,hid2 H l n a=some o→(∀kvs,o≠.dK kvs)→hid2 H' l n a=some o:=fun a o e no=>by
  obtain⟨e1,e2⟩:=hid2_out e
  rw[hid2_of e1 e2] at e ⊢
  exact up a o e no
 have tp:∀a vs,hid2 H l n a=some (.tup vs)→hid2 H' l n a=some (.tup vs):=fun a vs e=>up2 _ _ e (fun _ z=>by cases z)
 refine⟨dx,xs,ks,up2 _ _ h1 (fun _ z=>by cases z),h2,up _ _ h3 (fun _ z=>by cases z),h4.imp fun _ _ ⟨a,c,e,a1,a2,a3⟩=>⟨a,c,e,tp _ _ a1,up2 _ _ a2 (fun _ z=>by cases z),a3⟩,up _ _ h5 (fun _ z=>by cases z),fun p hp=>?_,h7,h8⟩
 obtain⟨s,es⟩:=h7.key p hp
 have:=h6 p hp
 rw[es] at this ⊢
 exact KeyN.tup tp this
noncomputable def IsB (rows:List (Int×Int×Int)) (B:Int):Prop:=0<B∧(∀r∈rows,r.2.2∣B)∧∀M,(∀r∈rows,r.2.2∣M)→B∣M
noncomputable def rowOf (rs:List Tw) (v:Int):Option Tw:=rs.find? fun r=>decide (r.1≤v) && decide (v≤r.2.1)
noncomputable def goT (g:Gm) (ns:List Int) (r:Tw) (v:Int):Option Sta:=(askd g (r.2.2.1.foldl (doD g.cs v) ns) (g.ps.length+1) r.2.2.2).map fun nm=>(nm,r.2.2.1.foldl (doD g.cs v) ns)
noncomputable def GoesX (g:Gm) (st:Sta) (ts:List (Int×Sta)):Prop:=match look g.ps st.1 with
 | some (.pick _ _)=>Goes g st (ts.map (·.2))
 | some (.thr pool _ _ rs)=>∃ps B,pool=ps.map ptD∧GoodL ps∧ps.length≤4∧IsB (tabP ps) B∧ts.length=(tabP ps).length∧∀(i:Nat) x,(Nm.weigh (tabP ps) B)[i]?=some x→∃r s,rowOf rs x.1=some r∧ts[i]?=some (x.2,s)∧goT g st.2 r x.1=some s∧hsh (.str s.1)=true
 | some (.fin _ _)=>ts=[]
 | some (.score _)=>ts=[]
 | _=>False
noncomputable def wayD (SS:List Sta) (x:Int×Sta):Dat:=.tup [.int x.1,.int ((SS.idxOf x.2:Nat):Int)]
noncomputable def plcX (g:Gm) (SS:List Sta) (st:Sta) (ts:List (Int×Sta)):Dat:=match look g.ps st.1 with
 | some (.thr _ t b _)=>.tup [.str (Str.ofString "throw"),.tup [.int t,.int b],.lst (ts.map (wayD SS))]
 | _=>plcD g SS st (ts.map (·.2))
theorem goesX_look {g:Gm} {st:Sta} {ts:List (Int×Sta)} (h:GoesX g st ts):∃x,look g.ps st.1=some x:=by
 unfold GoesX at h
 cases lk:look g.ps st.1 with
 | none=>rw[lk] at h;exact h.elim
 | some x=>exact⟨x,rfl⟩
noncomputable def TbS (H X:Hp) (tb:Addr) (g:Gm) (m:Nat) (Fr:Addr→Prop):Prop:=∃kvs,H tb=some (.dK kvs)∧kvs.length≤m∧∀nm v,valV kvs (Sum.inr nm)=some v→∃ps t b rs,look g.ps nm=some (.thr (ps.map ptD) t b rs)∧(∃p,v=.ref p∧Fr p)∧Rep X (rowsD (tabP ps)) v
theorem TbS.mono {H X X':Hp} {tb:Addr} {g:Gm} {m m':Nat} {Fr:Addr→Prop} (s:Same X X') (hm:m≤m'):TbS H X tb g m Fr→TbS H X' tb g m' Fr:=fun⟨kvs,h1,h2,h3⟩=>⟨kvs,h1,by omega,fun nm v e=>by obtain⟨ps,t,b,rs,a1,fp,a2⟩:=h3 nm v e;exact⟨ps,t,b,rs,a1,fp,a2.mono s⟩⟩
theorem TbS.heap {H H' X:Hp} {tb:Addr} {g:Gm} {m:Nat} {Fr:Addr→Prop} (e:∀o,H tb=some o→H' tb=some o):TbS H X tb g m Fr→TbS H' X tb g m Fr:=fun⟨kvs,h1,h2,h3⟩=>⟨kvs,e _ h1,h2,h3⟩
theorem val_snoc {kvs:List (Key×V)} {k:Key} {v:V} (h:valV kvs k=none) (k':Key):valV (kvs++ [(k,v)]) k'=if k=k' then some v else valV kvs k':=by
 unfold valV at *
 rw[List.find?_append]
 by_cases c:k=k'
 ·subst c
  rw[if_pos rfl]
  have:kvs.find? (fun kv=>decide (kv.1=k))=none:=by simpa using h
  rw[this]
  simp
 ·rw[if_neg c]
  have:List.find? (fun kv:Key×V=>decide (kv.1=k')) [(k,v)]=none:=by simp [c]
  rw[this]
  simp
theorem pts_inj:∀{ps qs:List Pt},ps.map ptD=qs.map ptD→ps=qs
 | [],[],_=>rfl
 | [],_::_,h=>by cases h
 | _::_,[],h=>by cases h
 | p::ps,q::qs,h=>by
  rw[List.map_cons,List.map_cons] at h
  injection h with h1 h2
  rw[ptD_inj h1,pts_inj h2]
theorem pl_back {H:Hp} {v:V} {ps:List Pt} (h:Rep H (.lst (ps.map ptD)) v):∃a,v=.ref a∧PlH H a ps:=by
 obtain⟨a,xs,e,ha,r⟩:=rep_lst.mp h
 refine⟨a,e,xs,ha,?_⟩
 have:∀{ps:List Pt} {xs:List V},RepL H (ps.map ptD) xs→Al (fun p v=>∃q,v=.ref q∧H q=some (.tup (ptV p))) ps xs:=by
  intro ps
  induction ps with
  | nil=>intro xs h;rw[repL_nil.mp h];trivial
  | cons p ps ih=>
   intro xs h
   obtain⟨v,r,rfl,h1,h2⟩:=repL_cons.mp h
   exact⟨pt_back h1,ih h2⟩
 exact this r
theorem rows_in {H X:Hp} {rows:List (Int×Int×Int)} {p:Addr} (h:Rep H (rowsD rows) (.ref p)) (kp:∀o,H p=some o→X p=some o) (kt:∀a vs,H a=some (.tup vs)→X a=some (.tup vs)):Rep X (rowsD rows) (.ref p):=by
 obtain⟨a,xs,e,ha,r⟩:=rep_lst.mp h
 cases e
 refine rep_lst.mpr ⟨_,xs,rfl,kp _ ha,?_⟩
 refine RepL.of r.length fun i d v ed ev=>?_
 obtain⟨d',ed',rd⟩:=r.get ev
 rw[ed] at ed'
 cases ed'
 rw[List.getElem?_map] at ed
 obtain⟨x,_,rfl⟩:=Option.map_eq_some_iff.mp ed
 obtain⟨p1,q1,rfl,h1,h2⟩:=rep_row.mp rd
 exact rep_row.mpr ⟨p1,q1,rfl,kt _ _ h1,kt _ _ h2⟩
theorem wrows_in {H X:Hp} {ws:Nm.Ws} {p:Addr} (h:Rep H (wrowsD ws) (.ref p)) (kp:∀o,H p=some o→X p=some o) (kt:∀a vs,H a=some (.tup vs)→X a=some (.tup vs)):Rep X (wrowsD ws) (.ref p):=by
 obtain⟨a,xs,e,ha,r⟩:=rep_lst.mp h
 cases e
 refine rep_lst.mpr ⟨_,xs,rfl,kp _ ha,?_⟩
 refine RepL.of r.length fun i d v ed ev=>?_
 obtain⟨d',ed',rd⟩:=r.get ev
 rw[ed] at ed'
 cases ed'
 rw[List.getElem?_map] at ed
 obtain⟨x,_,rfl⟩:=Option.map_eq_some_iff.mp ed
 obtain⟨q1,rfl,h1⟩:=rep_wrow.mp rd
 exact rep_wrow.mpr ⟨q1,rfl,kt _ _ h1⟩
noncomputable def spCB:Sp:=fun vs H Q _=>∃v ps W,vs=[v]∧Rep H (wrowsD ps) v∧0<W∧W≤1000000∧ps.length≤1296∧(∀p∈ps,0<p.2∧p.2∣W)∧∀B,0<B→(∀M,(∀p∈ps,p.2∣M)→B∣M)→(∀p∈ps,p.2∣B)→Q (.int B) H
noncomputable def spBto:Sp:=fun vs H Q _=>∃v rows W,vs=[v]∧Rep H (rowsD rows) v∧GoodR W rows∧∀B H',Same H H'→IsB rows B→Q (.int B) H'
noncomputable def spWe:Sp:=fun vs H Q _=>∃v rows W B,vs=[v,.int B]∧Rep H (rowsD rows) v∧GoodR W rows∧IsB rows B∧∀p H',Same H H'→H p=none→Rep H' (wrowsD (Nm.weigh rows B)) (.ref p)→Q (.ref p) H'
theorem lcm_dvd' {a b W:Int} (h1:a∣W) (h2:b∣W):a / Nm.g a b*b∣W:=by
 rw[Nm.low_cross,←Int.mul_ediv_assoc _ (Nm.g_dvd_r a b)]
 have e:a*b / Nm.g a b=a*b / ((Int.gcd a b:Nat):Int):=rfl
 rw[e]
 refine Int.natAbs_dvd_natAbs.mp ?_
 rw[Int.natAbs_ediv_of_dvd (Int.dvd_trans (Int.gcd_dvd_left ..) (Int.dvd_mul_right ..)),Int.natAbs_mul,Int.natAbs_natCast]
 exact Nat.lcm_dvd (Int.natAbs_dvd_natAbs.mpr h1) (Int.natAbs_dvd_natAbs.mpr h2)
theorem isB_le {W B:Int} {rows:List (Int×Int×Int)} (g:GoodR W rows) (gb:IsB rows B):B≤1000000:=Int.le_trans (Int.le_of_dvd g.1 (gb.2.2 W fun r hr=>(g.2.2.2 r hr).2.1)) g.2.1
noncomputable def spTba (q:Addr):Sp:=fun vs H Q _=>∃c sv g nm ns tb kvs ps t b rs,vs=[.ref c,sv]∧CoT q (hid H tb) c g tb∧StH H sv nm ns∧H tb=some (.dK kvs)∧kvs.length≤1000∧look g.ps nm=some (.thr (ps.map ptD) t b rs)∧GoodL ps∧ps.length≤4∧
 (∀v,valV kvs (Sum.inr nm)=some v→Q v H)∧(valV kvs (Sum.inr nm)=none→∀p H1,Same H H1→H p=none→Rep H1 (rowsD (tabP ps)) (.ref p)→Q (.ref p) (upd H1 tb (.dK (kvs++ [(Sum.inr nm,.ref p)]))))
noncomputable def spBv (q:Addr):Sp:=fun vs H Q _=>∃c sv v g nm ns pool t b rs r f nm',vs=[.ref c,sv,.int v]∧CoH q H c g∧GoodG g∧StH H sv nm ns∧ns.length=g.cs.length∧look g.ps nm=some (.thr pool t b rs)∧rowOf rs v=some r∧askd g (r.2.2.1.foldl (doD g.cs v) ns) f r.2.2.2=some nm'∧
 ∀p l H',Same H H'→H p=none→H l=none→H' p=some (.tup [.str nm',.ref l])→H' l=some (.lst ((r.2.2.1.foldl (doD g.cs v) ns).map V.int))→Q (.ref p) H'
noncomputable def sts (ts:List (Int×Sta)):List Sta:=ts.map (·.2)
noncomputable def spThw (P:Program) (w:World) (qc qf:Addr):Sp:=fun vs H Q _=>∃c f sv Fr l n tb g ss st ts pool t b rs SS m,vs=[.ref c,.ref f,sv]∧CoT qc (hid3 H l n tb) c g tb∧GoodG g∧FiH P w qf Fr H f l n ss∧TbS H (hid3 H l n tb) tb g m Fr∧m≤200∧(∀a,H a=none→Fr a)∧StH (hid3 H l n tb) sv st.1 st.2∧st.2.length=g.cs.length∧look g.ps st.1=some (.thr pool t b rs)∧
 GoesX g st ts∧(addAll ss (sts ts)).length≤120∧Ahd (addAll ss (sts ts)) SS∧∀p H',Same (hid3 H l n tb) (hid3 H' l n tb)→FiH P w qf Fr H' f l n (addAll ss (sts ts))→TbS H' (hid3 H' l n tb) tb g (m+1) Fr→H p=none→Rep (hid3 H' l n tb) (.lst (ts.map (wayD SS))) (.ref p)→Q (.ref p) H'
noncomputable def SprdW (g:Gm) (SS:List Sta):Nat→List Sta→List (List (Int×Sta))→Prop
 | i,ss,[]=>ss=SS∧i=SS.length
 | i,ss,ts::r=>∃st,ss[i]?=some st∧st.2.length=g.cs.length∧GoesX g st ts∧SprdW g SS (i+1) (addAll ss (sts ts)) r
theorem SprdW.ahd {g:Gm} {SS:List Sta}:∀{r:List (List (Int×Sta))} {i:Nat} {ss:List Sta},SprdW g SS i ss r→Ahd ss SS∧i+r.length=SS.length
 | [],i,ss,⟨e,h⟩=>⟨e▸Ahd.refl _,h⟩
 | ts::r,i,ss,⟨st,_,_,_,h⟩=>by
  obtain⟨a,b⟩:=h.ahd
  exact⟨(addAll_ahd (sts ts) ss).trans a,by rw[List.length_cons];omega⟩
theorem SprdW.all {g:Gm} {SS:List Sta}:∀{r:List (List (Int×Sta))} {i:Nat} {ss:List Sta},SprdW g SS i ss r→∀j,i≤j→j<SS.length→∃st ts,SS[j]?=some st∧st.2.length=g.cs.length∧GoesX g st ts
 | [],i,ss,⟨e,h⟩,j,h1,h2=>by omega
 | ts::r,i,ss,⟨st,es,ls,go,h⟩,j,h1,h2=>by
  by_cases c:i=j
  ·subst c
   obtain⟨⟨q,e⟩,_⟩:=(show SprdW g SS i ss (ts::r) from⟨st,es,ls,go,h⟩).ahd
   exact⟨st,ts,by rw[e,List.getElem?_append_left (List.getElem?_eq_some_iff.mp es).1];exact es,ls,go⟩
  ·exact h.all j (by omega) h2
noncomputable def brdD (g:Gm) (SS:List Sta) (tss:List (List (Int×Sta))):List Dat:=(SS.zip tss).map fun x=>plcX g SS x.1 x.2
theorem tw_filter {H:Hp} {p:Tw→Bool}:∀{rs:List Tw} {xs:List V},RepL H ((rs.map tw4).map r4D) xs→RepL H (((rs.filter p).map tw4).map r4D) ((xs.zip rs).filterMap fun x=>if p x.2=true then some x.1 else none)
 | [],xs,h=>by rw[List.zip_nil_right];exact repL_nil.mpr rfl
 | r::rs,xs,h=>by
  obtain⟨v,ys,rfl,h1,h2⟩:=repL_cons.mp h
  have ih:=tw_filter (p:=p) h2
  rw[List.zip_cons_cons,List.filterMap_cons]
  by_cases c:p r=true
  ·simp only[c,if_true]
   rw[List.filter_cons_of_pos c,List.map_cons,List.map_cons]
   exact repL_cons.mpr ⟨v,_,rfl,h1,ih⟩
  ·simp only[c]
   rw[List.filter_cons_of_neg c]
   exact ih
noncomputable def spAt (K:PySem.W.Frag):Sp:=fun vs H Q _=>∃a ns k,vs=[.ref a,.int k]∧SqL K H a (List.map V.int ns)∧0≤k∧k<1000∧∀n,Q (.int n) H
noncomputable def spLaw (K:PySem.W.Frag):Sp:=fun vs H Q _=>∃(a:Addr) (ns:List Int),vs=[.ref a]∧SqL K H a (ns.map V.int)∧ns.length≤63∧∀H',Q (.bl true) H'
section
variable {P : Program} {w : World} {K : PySem.W.Frag} {mg : Str → Option Value} {base : Heap}
variable {q_NoShare q_NoTable q_TooMany q_Course q_Finder : Addr}
theorem sc_common_divisor:FnScope ["one","other","rest"] ["one","other"] (defScope (top 7)):=⟨rfl,rfl,rfl,by decide +kernel,rfl,by decide +kernel,by decide +kernel⟩
theorem ok_cd (T:Txt K mg q_NoShare q_NoTable q_TooMany q_Course q_Finder):Cal P w K mg base (CX1 P w) 1 "common_divisor" ["one","other"] spCd:=by
 refine T.d_common_divisor.cal (fun _ _ _ _ _ _ us hl=>match us,hl with | [_,_],_=>rfl) fun f fd F=>F.okC sc_common_divisor (fun vs H Q E h=>?_) (fun cdv A outer s H vs Q E hr h=>?_)
 ·obtain⟨_,_,rfl,_⟩:=h;rfl
 ·obtain⟨a,b,rfl,k⟩:=h
  have nd:=sc_common_divisor.nd
  refine⟨_,(pss_cons (ps_set (i:=0) nd rfl (Or.inl rfl) (pe_callB call_abs (by rfl) T.z_abs rfl (pa_cons (pv 0) pa_nil (se rfl)) (he:=se rfl) (hpl:=na rfl)))
  (pss_cons (ps_set (i:=1) nd rfl (Or.inl rfl) (pe_callB call_abs (by rfl) T.z_abs rfl (pa_cons (pv 1) pa_nil (se rfl)) (he:=se rfl) (hpl:=na rfl)))
  (pss_cons (ps_while PassesOwn.never (pt_cmpR op_ne (pv 1) pe_int (nomark _)) (pss_cons (ps_set (i:=2) nd rfl (Or.inl rfl) (pe_op op_modB (pv 0) (pv 1)))
  (pss_cons (ps_set (i:=0) nd rfl (Or.inl rfl) (pv 1))
  (pss_one (ps_set (i:=1) nd rfl (Or.inl rfl) (pv 2))))))
  (pss_one (ps_ret (pv 0)))))),?_⟩
  simp_all only[]
  refine while_by (fun σ H1=>H1=H∧∃(x y:Int) (z:Option V),σ=[some (.int x),some (.int y),z]∧0≤x∧0≤y∧Nm.g x y=Nm.g a b) (fun σ _=>match σ with | [_,some (.int y),_]=>y.toNat | _=>0) ?_ ?_ ?_
  ·refine⟨rfl,_,_,_,rfl,?_,?_,?_⟩
   ·split <;>omega
   ·split <;>omega
   ·rw[show(if a<0 then -a else a)=(a.natAbs:Int) by split <;>omega,show(if b<0 then -b else b)=(b.natAbs:Int) by split <;>omega,Nm.g_abs,Nm.g_abs_r]
  ·rintro σ H1 ⟨rfl,x,y,z,rfl,x0,y0,e⟩
   simp_all only[]
   refine ite2 (fun c=>?_) (fun c=>?_)
   ·refine⟨by omega,y0,Int.emod_nonneg _ (by omega),by rw[Nm.g_step x0 (by omega),e],?_⟩
    have:=Int.emod_lt_of_pos x (show 0<y by omega)
    have:=Int.emod_nonneg x (show y≠0 by omega)
    omega
   ·have z:y=0:=by omega
    subst z
    rw[Nm.g_zero x0] at e
    rw[e]
    exact k
  ·intro σ H1 Q1 Q2 hq hc
   simp only[L2.start,Pr,tRev,tLR,tMaxD,tSortR,tD1,tDPop1,tSl,tNoPart,tPart,rSlL,tDIn,tDNotIn,gSub,rSetL,tLst,tDNewK,tComp,L2.stC,tFor_eq,iList,iTup,iRng1,iRng2,iZip,iEnum,iDict,iStr,tChain,tSumV,tBM,rJoin,tJoined,jNil,jLit,jInt,jStr,tRaise,tDGet,tDGet2,tDGet1,sDPut,Option.join_some,List.getElem?_nil,tSeq,tRet,tRetN,tIfS,tTest,tB,tOp,tUn,tVar,tC,tCB,tCons,tNil,tCall,tTupS,tAsg,gName,gNil,gCons,tPar,tNext,tDrop,tAnd,tOr,tNot,tAndV,tOrV,tNotV,tIf,rI,rI0,rU,rIxTH,rIxLH,rEqT,rNeT,rInT,rEq,rNe,scal,CPow,at0,at1,at2,List.map_cons,List.map_nil,List.length_cons,List.length_nil,Nat.reduceSub,Nat.reduceAdd,Nat.zero_add,List.replicate_zero,List.reduceReplicate,List.append_nil,List.nil_append,List.cons_append,List.getElem?_cons_zero,List.getElem?_cons_succ,List.set_cons_zero,List.set_cons_succ,Option.some.injEq,exists_eq_left',exists_eq_left,V.ref.injEq,V.int.injEq,V.bl.injEq,V.str.injEq,V.ty.injEq,HO.tup.injEq,HO.lst.injEq,List.cons.injEq,and_true,true_and,and_assoc,exists_and_left,decide_eq_true_eq,Bool.not_eq_true',decide_eq_false_iff_not,ite_true,ite_false,if_true,if_false,Int.reduceToNat,eq_self_iff_true] at hc ⊢
   obtain⟨v,e1,e2,q⟩:=hc
   exact⟨v,e1,e2,hq _ _ q⟩
theorem sc_share:FnScope ["top","bottom","divisor"] ["top","bottom"] (defScope (top 8)):=⟨rfl,rfl,rfl,by decide +kernel,rfl,by decide +kernel,by decide +kernel⟩
theorem ok_sh (T:Txt K mg q_NoShare q_NoTable q_TooMany q_Course q_Finder):Cal P w K mg base (CX1 P w) 2 "share" ["top","bottom"] (spSh q_NoShare):=by
 have c_common_divisor:Cal P w K mg base (CX1 P w) 1 "common_divisor" ["one","other"] spCd:=ok_cd T
 refine T.d_share.cal (fun _ _ _ _ _ _ us hl=>match us,hl with | [_,_],_=>rfl) fun f fd F=>F.okX sc_share (fun vs H Q E h=>?_) (fun cdv A outer s H vs Q E hr h=>?_)
 ·obtain⟨_,_,rfl,_⟩:=h;rfl
 ·obtain⟨a,b,rfl,bt,kE,kQ⟩:=h
  have nd:=sc_share.nd
  have hd0:A.handled=none:=hr.hd
  refine⟨_,(pss_cons (ps_if (pt_cmpR op_eq (pv 1) pe_int (nomark _)) (pss_one (ps_raise rfl T.k_NoShare T.x_NoShare hd0 (pa_cons pe_str pa_nil (se rfl)) (he:=se rfl) (hpl:=na rfl)))
   pss_nil)
  (pss_cons (ps_set (i:=2) nd rfl (Or.inl rfl) (pe_cal c_common_divisor (hr.mono (by decide)) rfl strictP.pass (pa_cons (pv 0) (pa_cons (pv 1) pa_nil (se rfl)) (se rfl)) (he:=se rfl) (hpl:=na rfl)))
  (pss_cons (ps_if (pt_cmpR op_lt (pv 1) pe_int (nomark _)) (pss_one (ps_set (i:=2) nd rfl (Or.inl rfl) (pe_un un_neg (pv 2))))
   pss_nil)
  (pss_one (ps_ret (pe_tupS (pa_cons (pe_op op_fdivS (pv 0) (pv 2)) (pa_cons (pe_op op_fdivS (pv 1) (pv 2)) pa_nil (se rfl)) (se rfl)))))))),?_⟩
  simp_all only[spCd,tRaise]
  refine ite2 (fun z=>?_) (fun z=>?_)
  ·exact⟨by decide,kE z⟩
  ·have g0:0<Nm.g a b:=Nm.g_pos z
   have gb:Bt 5000 (Nm.g a b):=bt.le (by have:=Nm.g_abs_le (a:=a) z;omega)
   have kq:=kQ z
   unfold Nm.st Nm.sb at kq
   refine ite2 (fun c=>?_) (fun c=>?_)
   ·rw[if_pos c,if_pos c] at kq
    rw[Nm.fdiv_n g0 (Nm.g_dvd_l a b),Nm.fdiv_n g0 (Nm.g_dvd_r a b)]
    exact⟨CDivS.of (by omega) gb.neg,CDivS.of (by omega) gb.neg,by decide,fun p H2 s1 n1 e=>kq p H2 s1 n1 e⟩
   ·rw[if_neg c,if_neg c] at kq
    rw[Nm.fdiv_p g0,Nm.fdiv_p g0]
    exact⟨CDivS.of (by omega) gb,CDivS.of (by omega) gb,by decide,fun p H2 s1 n1 e=>kq p H2 s1 n1 e⟩
theorem sc_table_by_weights:FnScope ["weights","bottom"] ["weights","bottom"] (defScope (top 11)):=⟨rfl,rfl,rfl,by decide +kernel,rfl,by decide +kernel,by decide +kernel⟩
theorem ok_tw (T:Txt K mg q_NoShare q_NoTable q_TooMany q_Course q_Finder):Cal P w K mg base (CX1 P w) 3 "table_by_weights" ["weights","bottom"] spTW:=by
 have c_share:Cal P w K mg base (CX1 P w) 2 "share" ["top","bottom"] (spSh q_NoShare):=ok_sh T
 refine T.d_table_by_weights.cal (fun _ _ _ _ _ _ us hl=>match us,hl with | [_,_],_=>rfl) fun f fd F=>F.okC sc_table_by_weights (fun vs H Q E h=>?_) (fun cdv A outer s H vs Q E hr h=>?_)
 ·obtain⟨_,_,_,rfl,_⟩:=h;rfl
 ·obtain⟨d,B,ws,rfl,hd,ndk,hz,B0,bB,k⟩:=h
  have nd:=sc_table_by_weights.nd
  refine⟨_,(pss_one (ps_ret (pe_comp rfl (N:=["weights","bottom"]) (so:=defScope (top 11)) (N':=["value","weights","bottom"]) (k:=1) (fr:=[0,1]) rfl rfl ⟨rfl,by decide +kernel,by decide +kernel,by decide +kernel,rfl,by decide +kernel,by decide +kernel⟩ (pi_listK (K:=K) (pe_callB call_sorted_dK (by rfl) T.z_sorted rfl (pa_cons (pv 0) pa_nil (se rfl)) (he:=se rfl) (hpl:=na rfl))) (fun _ _ _ _ _=>(pg_name (i:=0) (show(["value","weights","bottom"]:List Str).Nodup by decide +kernel) rfl (Or.inl rfl))) (fun _ _ _ _ _=>pts_nil)
   (fun _ _ _ _ _=>(pe_tupS (pa_cons (pv 0) (pa_cons (pe_cal c_share (hr.mono (by decide)) rfl strictP.pass (pa_cons (pe_dget (hu_of hr) (pv 1) (pv 0) (fun _ _=>rfl)) (pa_cons (pv 2) pa_nil (se rfl)) (se rfl)) (he:=se rfl) (hpl:=na rfl)) pa_nil (se rfl)) (se rfl))))))),?_⟩
  simp_all only[]
  refine⟨enc ws,.inl hd,allI_enc ws,by rw[enc_len];exact hz,fun l nl=>⟨⟨_,SqL.of upd_same⟩,?_⟩⟩
  rw[keysI_enc]
  have sm:Same H (upd H l (.lst (List.map V.int (Nm.srt (Nm.keys ws))))):=same_upd nl
  have ll:(List.map V.int (Nm.srt (Nm.keys ws))).length=ws.length:=by rw[List.length_map,Nm.srt_length];unfold Nm.keys;rw[List.length_map]
  refine comp_map (src_list (fun H2 s2=>s2.seq (SqL.of upd_same))) (fun _ _ _ _ h=>by rw[h.1];exact Same.refl _) (by rw[ll,sizeLine_eq];omega) (fun i y H2=>∀r,(Nm.rowsOf ws B)[i]?=some r→Rep H2 (rowD r) y) (fun i y H2 H3 s3 h r e=>(h r e).mono s3) ?_ ?_
  ·rintro i x w0 H2 H3 Q2 hi s2 ⟨rfl,hx⟩ kq
   rw[List.getElem?_map] at hx
   obtain⟨v,ev,rfl⟩:=Option.map_eq_some_iff.mp hx
   have hv:v∈Nm.keys ws:=Nm.srt_mem.mp (List.mem_of_getElem? ev)
   have hd2:=s2 _ _ (sm _ _ hd)
   simp_all only[spSh]
   refine⟨_,dget_enc hd2 hv,_,rfl,bB,fun z=>absurd z B0,fun _ p H4 s4 _ e4=>⟨by decide,fun p5 H5 s5 _ e5=>?_⟩⟩
   refine kq _ _ (s4.trans s5) fun r er=>?_
   have:r=(v,Nm.st (Nm.look ws v) B,Nm.sb (Nm.look ws v) B):=by
    unfold Nm.rowsOf at er
    rw[List.getElem?_map,ev] at er
    exact(Option.some.inj er).symm
   subst this
   exact rep_row.mpr ⟨p5,p,rfl,e5,s5 _ _ e4⟩
  ·intro ys H2 s2 ly hy D n1 n2
   refine k _ _ (sm.trans (s2.trans (same_upd n2))) (none_of sm n1) (rep_lst.mpr ⟨D,ys,rfl,upd_same,?_⟩)
   refine RepL.of ?_ fun i dd v e1 e2=>?_
   ·rw[List.length_map,ly]
    unfold Nm.rowsOf
    rw[List.length_map,List.length_map]
   ·rw[List.getElem?_map] at e1
    obtain⟨r,er,rfl⟩:=Option.map_eq_some_iff.mp e1
    exact(hy i v e2 r er).mono (same_upd n2)
theorem sc_table_of:FnScope ["rows","weights","value","weight"] ["rows"] (defScope (top 12)):=⟨rfl,rfl,rfl,by decide +kernel,rfl,by decide +kernel,by decide +kernel⟩
theorem ok_to (T:Txt K mg q_NoShare q_NoTable q_TooMany q_Course q_Finder):Cal P w K mg base (CX1 P w) 4 "table_of" ["rows"] (spTO q_NoTable):=by
 have c_table_by_weights:Cal P w K mg base (CX1 P w) 3 "table_by_weights" ["weights","bottom"] spTW:=ok_tw T
 refine T.d_table_of.cal (fun _ _ _ _ _ _ us hl=>match us,hl with | [_],_=>rfl) fun f fd F=>F.okX sc_table_of (fun vs H Q E h=>?_) (fun cdv A outer s H vs Q E hr h=>?_)
 ·obtain⟨_,_,rfl,_⟩:=h;rfl
 ·obtain⟨v,ps,rfl,rp,hz,hb,hw,kE,kQ⟩:=h
  have nd:=sc_table_of.nd
  have hd0:A.handled=none:=hr.hd
  refine⟨_,(pss_cons (ps_set (i:=1) nd rfl (Or.inl rfl) pe_dnewK)
  (pss_cons (ps_for PassesOwn.leaving rfl (pi_listK (K:=K) (pv 0)) (pg_tupK (K:=K) (n:=2) rfl (pgs_cons (pg_name (i:=2) nd rfl (Or.inl rfl)) (pgs_cons (pg_name (i:=3) nd rfl (Or.inl rfl)) pgs_nil))) (pss_cons (ps_if (pt_cmpR op_lt (pv 3) pe_int (nomark _)) (pss_one (ps_raise rfl T.k_NoTable T.x_NoTable hd0 (pa_cons pe_str pa_nil (se rfl)) (he:=se rfl) (hpl:=na rfl)))
   pss_nil)
  (pss_one (ps_if (pt_cmpR op_gt (pv 3) pe_int (nomark _)) (pss_one (ps_dput (hu_of hr) (pv 1) (pv 2) (pe_op op_add (pe_dget2 (hu_of hr) (pv 1) (pv 2) pe_int (by first | exact⟨rfl,rfl,rfl⟩ | constructor <;>rfl)) (pv 3)) rfl))
   pss_nil))))
  (pss_cons (ps_if (pt_cmpR op_eq (pe_callB call_lenD (by rfl) T.z_len PySem.boot_len (pa_cons (pv 1) pa_nil (se rfl)) (he:=se rfl) (hpl:=na rfl)) pe_int (nomark _)) (pss_one (ps_raise rfl T.k_NoTable T.x_NoTable hd0 (pa_cons pe_str pa_nil (se rfl)) (he:=se rfl) (hpl:=na rfl)))
   pss_nil)
  (pss_one (ps_ret (pe_cal c_table_by_weights (hr.mono (by decide)) rfl strictP.pass (pa_cons (pv 1) (pa_cons (pe_sumvals rfl (by rfl) T.z_sum (pv 1) (he:=se rfl)) pa_nil (se rfl)) (se rfl)) (he:=se rfl) (hpl:=na rfl))))))),?_⟩
  simp_all only[spTW,tRaise]
  intro d nd1
  obtain⟨a,xs,rfl,ha,rl⟩:=rep_lst.mp rp
  have n1:=rl.length
  rw[List.length_map] at n1
  have q1:∀o,SqL K (upd H d o) a xs:=fun o=>SqL.of (same_upd nd1 _ _ ha)
  refine⟨_,rfl,⟨_,q1 _⟩,for_src (src_list (Ok:=fun H'=>∃o,H'=upd H d o) (fun H' ⟨o,e⟩=>by rw[e];exact q1 o))
   (fun i σ H'=>H'=upd H d (.dK (enc (Nm.wof (ps.take i))))∧(∀p∈ps.take i,0≤p.2)∧∃z1 z2,σ=[some (.ref a),some (.ref d),z1,z2])
   ⟨by rw[List.take_zero];rfl,by simp,_,_,rfl⟩ (fun _ _ _ _ h=>⟨_,h.1⟩) ?_ ?_⟩
  ·rintro i x σ H' H'' hi ⟨rfl,nn,z1,z2,rfl⟩ ⟨rfl,hx⟩
   obtain⟨dd,ed,rd⟩:=rl.get hx
   rw[List.getElem?_map] at ed
   obtain⟨p,ep,rfl⟩:=Option.map_eq_some_iff.mp ed
   obtain⟨q,rfl,hq⟩:=rep_wrow.mp rd
   have tk:ps.take (i+1)=ps.take i++ [p]:=by rw[List.take_add_one,ep];rfl
   refine⟨q,_,rfl,SqT.of (same_upd nd1 _ _ hq),rfl,?_⟩
   simp_all only[tRaise]
   rw[tk,Nm.wof_snoc]
   refine ite2 (fun c=>?_) (fun c=>?_)
   ·exact⟨by decide,kE (.inl ⟨p,List.mem_of_getElem? ep,c⟩) _ (same_upd nd1)⟩
   ·have nn':∀r∈ps.take i++ [p],0≤r.2:=fun r hr=>by
     rcases List.mem_append.mp hr with h | h
     ·exact nn r h
     ·have:r=p:=by simpa using h
      subst this
      omega
    refine ite2 (fun c2=>?_) (fun c2=>?_)
    ·obtain⟨o,ho,eo⟩:=dget_zero (H:=upd H d (.dK (enc (Nm.wof (ps.take i))))) p.1 (.inl upd_same)
     refine⟨.inl ⟨_,.inl upd_same⟩,o,ho,?_⟩
     rw[eo]
     simp_all only[]
     refine⟨_,dput_enc _ _ upd_same (Nm.wof_nodup _) ?_,?_,nn',?_⟩
     ·have:=Nm.wof_len (ps.take i)
      rw[List.length_take] at this
      rw[sizeLine_eq]
      omega
     ·rw[upd_upd,if_pos c2]
      rfl
     ·exact⟨_,rfl⟩
    ·refine⟨by rw[if_neg c2],nn',?_⟩
     exact⟨_,rfl⟩
  ·rintro σ H' ⟨rfl,nn,z1,z2,rfl⟩
   rw[List.take_of_length_le (by omega)] at nn ⊢
   simp_all only[tRaise,spTW]
   have el:(enc (Nm.wof ps)).length=(Nm.wof ps).length:=enc_len _
   refine⟨_,upd_same,ite2 (fun z=>⟨by decide,kE (.inr ?_) _ (same_upd nd1)⟩) (fun z=>?_)⟩
   ·exact Nm.wof_nil.mp (List.eq_nil_of_length_eq_zero (by omega))
   ·have np:Nm.pos ps≠[]:=fun e=>by
     have:=Nm.wof_nil.mpr e
     exact z (by rw[el,this];rfl)
    have nb:¬Nm.bad ps:=fun b=>by
     rcases b with ⟨p,hp,c⟩ | c
     ·have:=nn p hp
      omega
     ·exact np c
    have T0:=Nm.tot_pos (show 0< (Nm.wof ps).length by omega) (Nm.wof_nodup ps) (Nm.wof_pos ps)
    have T1:=Nm.tot_pos_le (c:=10^12) (by decide) hb
    rw[←Nm.wof_tot] at T1
    have lw:=Nm.wof_len ps
    have ev:List.map (fun x:Key×V=>x.2) (enc (Nm.wof ps))=List.map V.int ((Nm.wof ps).map (·.2)):=by
     unfold enc
     rw[List.map_map,List.map_map]
     rfl
    refine⟨_,upd_same,_,ev,_,upd_same,Nm.wof_nodup ps,by omega,?_,?_,fun p H' s' np' r'=>?_⟩
    ·show Nm.tot (Nm.wof ps)≠0
     omega
    ·show Bt 5000 (Nm.tot (Nm.wof ps))
     exact Bt.of (10^16) (by omega) (by omega)
    ·exact kQ nb p H' ((same_upd nd1).trans s') (none_of (same_upd nd1) np') r'
theorem sc_power:FnScope ["base","exponent","product","turn"] ["base","exponent"] (defScope (top 18)):=⟨rfl,rfl,rfl,by decide +kernel,rfl,by decide +kernel,by decide +kernel⟩
theorem ok_pw (T:Txt K mg q_NoShare q_NoTable q_TooMany q_Course q_Finder):Cal P w K mg base (CX1 P w) 1 "power" ["base","exponent"] spPw:=by
 refine T.d_power.cal (fun _ _ _ _ _ _ us hl=>match us,hl with | [_,_],_=>rfl) fun f fd F=>F.okC sc_power (fun vs H Q E h=>?_) (fun cdv A outer s H vs Q E hr h=>?_)
 ·obtain⟨_,rfl,_⟩:=h;rfl
 ·obtain⟨b,rfl,kk⟩:=h
  have nd:=sc_power.nd
  refine⟨_,(pss_cons (ps_set (i:=2) nd rfl (Or.inl rfl) pe_int)
  (pss_cons (ps_for PassesOwn.never rfl (pi_range1 rfl T.z_range (pa_cons (pv 1) pa_nil (se rfl))) (pg_name (i:=3) nd rfl (Or.inl rfl)) (pss_cons (ps_if (pt_cmpR op_gt (pv 2) (pe_globI rfl T.c_MOST_BOTTOM) (nomark _)) (pss_one ps_break)
   pss_nil)
  (pss_one (ps_set (i:=2) nd rfl (Or.inl rfl) (pe_op op_mulB (pv 2) (pv 0))))))
  (pss_one (ps_ret (pv 2))))),?_⟩
  simp_all only[]
  refine⟨by decide,by decide,for_src (src_range (Ok:=fun _=>True)) (fun i σ H'=>H=H'∧∃z,σ=[some (.int b),some (.int 0),some (.int 1),z]) ⟨rfl,_,rfl⟩ (fun _ _ _ _ _=>trivial) ?_ ?_⟩
  ·rintro i x σ H' H'' hi
   exact absurd hi (Nat.not_lt_zero _)
  ·rintro σ H' ⟨rfl,z,rfl⟩
   simp_all only[]
   exact kk
theorem sc_most_faces:FnScope ["part"] ["part"] (defScope (top 19)):=⟨rfl,rfl,rfl,by decide +kernel,rfl,by decide +kernel,by decide +kernel⟩
theorem ok_mf (T:Txt K mg q_NoShare q_NoTable q_TooMany q_Course q_Finder):Cal P w K mg base (CX1 P w) 1 "most_faces" ["part"] spMf:=by
 refine T.d_most_faces.cal (fun _ _ _ _ _ _ us hl=>match us,hl with | [_],_=>rfl) fun f fd F=>F.okC sc_most_faces (fun vs H Q E h=>?_) (fun cdv A outer s H vs Q E hr h=>?_)
 ·obtain⟨_,_,rfl,_⟩:=h;rfl
 ·obtain⟨q,n,rfl,hq,kk⟩:=h
  have nd:=sc_most_faces.nd
  refine⟨_,(pss_cons (ps_if (pt_cmpR op_eq (pe_ix ix_tupH (pv 0) pe_int (fun _ _=>rfl)) pe_str (nomark _)) (pss_one (ps_ret pe_int))
   pss_nil)
  (pss_cons (ps_if (pt_cmpR op_eq (pe_ix ix_tupH (pv 0) pe_int (fun _ _=>rfl)) pe_str (nomark _)) (pss_one (ps_ret (pe_ifExp (pt_cmpR op_gt (pe_ix ix_tupH (pv 0) pe_int (fun _ _=>rfl)) pe_int (nomark _)) pe_int pe_int)))
   pss_nil)
  (pss_cons (ps_if (pt_cmpR op_eq (pe_ix ix_tupH (pv 0) pe_int (fun _ _=>rfl)) pe_str (nomark _)) (pss_one (ps_ret (pe_op op_add (pe_callB (call_max2 rfl) (by rfl) T.z_max rfl (pa_cons (pe_ix ix_tupH (pv 0) pe_int (fun _ _=>rfl)) (pa_cons pe_int pa_nil (se rfl)) (se rfl)) (he:=se rfl) (hpl:=na rfl)) pe_int)))
   pss_nil)
  (pss_one (ps_ret (pe_ix ix_tupH (pv 0) (pe_un un_neg pe_int) (fun _ _=>rfl))))))),?_⟩
  simp only[ptV] at hq
  simp_all only[hq]
  exact kk
theorem sc_part_bottom:FnScope ["part"] ["part"] (defScope (top 20)):=⟨rfl,rfl,rfl,by decide +kernel,rfl,by decide +kernel,by decide +kernel⟩
theorem ok_bo (T:Txt K mg q_NoShare q_NoTable q_TooMany q_Course q_Finder):Cal P w K mg base (CX1 P w) 2 "part_bottom" ["part"] spBo:=by
 have c_power:Cal P w K mg base (CX1 P w) 1 "power" ["base","exponent"] spPw:=ok_pw T
 have c_most_faces:Cal P w K mg base (CX1 P w) 1 "most_faces" ["part"] spMf:=ok_mf T
 refine T.d_part_bottom.cal (fun _ _ _ _ _ _ us hl=>match us,hl with | [_],_=>rfl) fun f fd F=>F.okC sc_part_bottom (fun vs H Q E h=>?_) (fun cdv A outer s H vs Q E hr h=>?_)
 ·obtain⟨_,_,rfl,_⟩:=h;rfl
 ·obtain⟨q,n,rfl,hq,kk⟩:=h
  have nd:=sc_part_bottom.nd
  refine⟨_,(pss_one (ps_ret (pe_cal c_power (hr.mono (by decide)) rfl strictP.pass (pa_cons (pe_ix ix_tupH (pv 0) (pe_un un_neg pe_int) (fun _ _=>rfl)) (pa_cons (pe_cal c_most_faces (hr.mono (by decide)) rfl strictP.pass (pa_cons (pv 0) pa_nil (se rfl)) (he:=se rfl) (hpl:=na rfl)) pa_nil (se rfl)) (se rfl)) (he:=se rfl) (hpl:=na rfl)))),?_⟩
  simp_all only[spPw,spMf]
  exact⟨_,hq,_,rfl,n,hq,_,rfl,kk⟩
theorem sc_part_count:FnScope ["part","sides","low"] ["part"] (defScope (top 21)):=⟨rfl,rfl,rfl,by decide +kernel,rfl,by decide +kernel,by decide +kernel⟩
theorem ok_ct (T:Txt K mg q_NoShare q_NoTable q_TooMany q_Course q_Finder):Cal P w K mg base (CX1 P w) 3 "part_count" ["part"] spCt:=by
 have c_most_faces:Cal P w K mg base (CX1 P w) 1 "most_faces" ["part"] spMf:=ok_mf T
 have c_part_bottom:Cal P w K mg base (CX1 P w) 2 "part_bottom" ["part"] spBo:=ok_bo T
 refine T.d_part_count.cal (fun _ _ _ _ _ _ us hl=>match us,hl with | [_],_=>rfl) fun f fd F=>F.okC sc_part_count (fun vs H Q E h=>?_) (fun cdv A outer s H vs Q E hr h=>?_)
 ·obtain⟨_,_,rfl,_⟩:=h;rfl
 ·obtain⟨q,n,rfl,hq,kk⟩:=h
  have nd:=sc_part_count.nd
  refine⟨_,(pss_cons (ps_set (i:=1) nd rfl (Or.inl rfl) (pe_ix ix_tupH (pv 0) (pe_un un_neg pe_int) (fun _ _=>rfl)))
  (pss_cons (ps_if (pt_cmpR op_eq (pe_ix ix_tupH (pv 0) pe_int (fun _ _=>rfl)) pe_str (nomark _)) (pss_cons (ps_set (i:=2) nd rfl (Or.inl rfl) (pe_callB (call_max2 rfl) (by rfl) T.z_max rfl (pa_cons (pe_callB (call_min2 rfl) (by rfl) T.z_min rfl (pa_cons (pe_ix ix_tupH (pv 0) pe_int (fun _ _=>rfl)) (pa_cons (pv 1) pa_nil (se rfl)) (se rfl)) (he:=se rfl) (hpl:=na rfl)) (pa_cons pe_int pa_nil (se rfl)) (se rfl)) (he:=se rfl) (hpl:=na rfl)))
  (pss_one (ps_ret (pe_op op_sub (pe_op op_add (pe_op op_mulB (pv 2) (pv 1)) (pv 1)) (pv 2)))))
   pss_nil)
  (pss_cons (ps_if (pt_cmpR op_eq (pe_ix ix_tupH (pv 0) pe_int (fun _ _=>rfl)) pe_str (nomark _)) (pss_one (ps_ret (pe_op op_add (pe_op op_mulB (pe_cal c_most_faces (hr.mono (by decide)) rfl strictP.pass (pa_cons (pv 0) pa_nil (se rfl)) (he:=se rfl) (hpl:=na rfl)) (pe_op op_sub (pv 1) pe_int)) pe_int)))
   pss_nil)
  (pss_one (ps_ret (pe_cal c_part_bottom (hr.mono (by decide)) rfl strictP.pass (pa_cons (pv 0) pa_nil (se rfl)) (he:=se rfl) (hpl:=na rfl))))))),?_⟩
  have hq':=hq
  simp only[ptV] at hq'
  simp_all only[hq',spBo]
  refine⟨_,rfl,?_⟩
  rw[if_neg (by decide +kernel),if_neg (by decide +kernel)]
  exact⟨n,rfl,kk⟩
theorem sc_check_size:FnScope ["pool","count","bottom","part"] ["pool"] (defScope (top 22)):=⟨rfl,rfl,rfl,by decide +kernel,rfl,by decide +kernel,by decide +kernel⟩
theorem ok_ck (T:Txt K mg q_NoShare q_NoTable q_TooMany q_Course q_Finder):Cal P w K mg base (CX1 P w) 4 "check_size" ["pool"] spCk:=by
 have c_part_count:Cal P w K mg base (CX1 P w) 3 "part_count" ["part"] spCt:=ok_ct T
 have c_part_bottom:Cal P w K mg base (CX1 P w) 2 "part_bottom" ["part"] spBo:=ok_bo T
 refine T.d_check_size.cal (fun _ _ _ _ _ _ us hl=>match us,hl with | [_],_=>rfl) fun f fd F=>F.okX sc_check_size (fun vs H Q E h=>?_) (fun cdv A outer s H vs Q E hr h=>?_)
 ·obtain⟨_,_,_,rfl,_⟩:=h;rfl
 ·obtain⟨l,q,n,rfl,hl,hq,kk⟩:=h
  have nd:=sc_check_size.nd
  have hd0:A.handled=none:=hr.hd
  refine⟨_,(pss_cons (ps_set (i:=1) nd rfl (Or.inl rfl) pe_int)
  (pss_cons (ps_set (i:=2) nd rfl (Or.inl rfl) pe_int)
  (pss_cons (ps_for PassesOwn.leaving rfl (pi_listK (K:=K) (pv 0)) (pg_name (i:=3) nd rfl (Or.inl rfl)) (pss_cons (ps_set (i:=1) nd rfl (Or.inl rfl) (pe_op op_mulB (pv 1) (pe_cal c_part_count (hr.mono (by decide)) rfl strictP.pass (pa_cons (pv 3) pa_nil (se rfl)) (he:=se rfl) (hpl:=na rfl))))
  (pss_one (ps_set (i:=2) nd rfl (Or.inl rfl) (pe_op op_mulB (pv 2) (pe_cal c_part_bottom (hr.mono (by decide)) rfl strictP.pass (pa_cons (pv 3) pa_nil (se rfl)) (he:=se rfl) (hpl:=na rfl)))))))
  (pss_one (ps_if (PW.pt (pw_or (pt_cmpR op_gt (pv 1) (pe_globI rfl T.c_MOST_THROWS) (nomark _)) (pw_or1 (pt_cmpR op_gt (pv 2) (pe_globI rfl T.c_MOST_BOTTOM) (nomark _))))) (pss_one (ps_raise rfl T.k_TooMany T.x_TooMany hd0 (pa_cons pe_str pa_nil (se rfl)) (he:=se rfl) (hpl:=na rfl)))
   pss_nil))))),?_⟩
  simp_all only[]
  refine⟨⟨_,SqL.of hl⟩,for_src (src_list (Ok:=fun H'=>H=H') (fun H' e=>by subst e;exact SqL.of hl)) (fun i σ H'=>H=H'∧∃z,σ=[some (.ref l),some (.int 1),some (.int 1),z]) ⟨rfl,_,rfl⟩ (fun _ _ _ _ h=>h.1) ?_ ?_⟩
  ·rintro i x σ H' H'' hi ⟨rfl,z,rfl⟩ ⟨rfl,ex⟩
   rw[List.mem_singleton.mp (List.mem_of_getElem? ex)]
   simp_all only[spCt,spBo]
   exact⟨n,hq,mulOkL,n,hq,mulOkL,rfl,rfl,_,rfl⟩
  ·rintro σ H' ⟨rfl,z,rfl⟩
   simp_all only[]
   exact kk
theorem sc_dice_faces:FnScope ["dice","sides","found","turn","longer","faces"] ["dice","sides"] (defScope (top 23)):=⟨rfl,rfl,rfl,by decide +kernel,rfl,by decide +kernel,by decide +kernel⟩
theorem ok_df (T:Txt K mg q_NoShare q_NoTable q_TooMany q_Course q_Finder):Cal P w K mg base (CX1 P w) 1 "dice_faces" ["dice","sides"] spNo:=by
 refine T.d_dice_faces.cal (fun _ _ _ _ _ _ us hl=>match us,hl with | [_,_],_=>rfl) fun f fd F=>F.okC sc_dice_faces (fun vs H Q E h=>h.elim) (fun cdv A outer s H vs Q E hr h=>h.elim)
theorem sc_again_faces:FnScope ["low","sides","found","face"] ["low","sides"] (defScope (top 24)):=⟨rfl,rfl,rfl,by decide +kernel,rfl,by decide +kernel,by decide +kernel⟩
theorem ok_af (T:Txt K mg q_NoShare q_NoTable q_TooMany q_Course q_Finder):Cal P w K mg base (CX1 P w) 1 "again_faces" ["low","sides"] spNo:=by
 refine T.d_again_faces.cal (fun _ _ _ _ _ _ us hl=>match us,hl with | [_,_],_=>rfl) fun f fd F=>F.okC sc_again_faces (fun vs H Q E h=>h.elim) (fun cdv A outer s H vs Q E hr h=>h.elim)
theorem sc_burst_faces:FnScope ["most","sides","found","ahead"] ["most","sides"] (defScope (top 25)):=⟨rfl,rfl,rfl,by decide +kernel,rfl,by decide +kernel,by decide +kernel⟩
theorem ok_bf (T:Txt K mg q_NoShare q_NoTable q_TooMany q_Course q_Finder):Cal P w K mg base (CX1 P w) 1 "burst_faces" ["most","sides"] spNo:=by
 refine T.d_burst_faces.cal (fun _ _ _ _ _ _ us hl=>match us,hl with | [_,_],_=>rfl) fun f fd F=>F.okC sc_burst_faces (fun vs H Q E h=>h.elim) (fun cdv A outer s H vs Q E hr h=>h.elim)
theorem sc_part_faces:FnScope ["part"] ["part"] (defScope (top 26)):=⟨rfl,rfl,rfl,by decide +kernel,rfl,by decide +kernel,by decide +kernel⟩
theorem ok_pf (T:Txt K mg q_NoShare q_NoTable q_TooMany q_Course q_Finder):Cal P w K mg base (CX1 P w) 2 "part_faces" ["part"] spPf:=by
 have c_most_faces:Cal P w K mg base (CX1 P w) 1 "most_faces" ["part"] spMf:=ok_mf T
 have c_dice_faces:Cal P w K mg base (CX1 P w) 1 "dice_faces" ["dice","sides"] spNo:=ok_df T
 have c_again_faces:Cal P w K mg base (CX1 P w) 1 "again_faces" ["low","sides"] spNo:=ok_af T
 have c_burst_faces:Cal P w K mg base (CX1 P w) 1 "burst_faces" ["most","sides"] spNo:=ok_bf T
 refine T.d_part_faces.cal (fun _ _ _ _ _ _ us hl=>match us,hl with | [_],_=>rfl) fun f fd F=>F.okC sc_part_faces (fun vs H Q E h=>?_) (fun cdv A outer s H vs Q E hr h=>?_)
 ·obtain⟨_,_,rfl,_⟩:=h;rfl
 ·obtain⟨q,n,rfl,hq,kk⟩:=h
  have nd:=sc_part_faces.nd
  refine⟨_,(pss_cons (ps_if (pt_cmpR op_eq (pe_ix ix_tupH (pv 0) pe_int (fun _ _=>rfl)) pe_str (nomark _)) (pss_one (ps_ret (pe_lst (pa_cons (pe_lst pa_nil) pa_nil (se rfl)))))
   pss_nil)
  (pss_cons (ps_if (pt_cmpR op_eq (pe_ix ix_tupH (pv 0) pe_int (fun _ _=>rfl)) pe_str (nomark _)) (pss_one (ps_ret (pe_cal c_again_faces (hr.mono (by decide)) rfl strictP.pass (pa_cons (pe_ix ix_tupH (pv 0) pe_int (fun _ _=>rfl)) (pa_cons (pe_ix ix_tupH (pv 0) pe_int (fun _ _=>rfl)) pa_nil (se rfl)) (se rfl)) (he:=se rfl) (hpl:=na rfl))))
   pss_nil)
  (pss_cons (ps_if (pt_cmpR op_eq (pe_ix ix_tupH (pv 0) pe_int (fun _ _=>rfl)) pe_str (nomark _)) (pss_one (ps_ret (pe_cal c_burst_faces (hr.mono (by decide)) rfl strictP.pass (pa_cons (pe_cal c_most_faces (hr.mono (by decide)) rfl strictP.pass (pa_cons (pv 0) pa_nil (se rfl)) (he:=se rfl) (hpl:=na rfl)) (pa_cons (pe_ix ix_tupH (pv 0) pe_int (fun _ _=>rfl)) pa_nil (se rfl)) (se rfl)) (he:=se rfl) (hpl:=na rfl))))
   pss_nil)
  (pss_one (ps_ret (pe_cal c_dice_faces (hr.mono (by decide)) rfl strictP.pass (pa_cons (pe_ix ix_tupH (pv 0) (pe_un un_neg pe_int) (fun _ _=>rfl)) (pa_cons (pe_ix ix_tupH (pv 0) (pe_un un_neg pe_int) (fun _ _=>rfl)) pa_nil (se rfl)) (se rfl)) (he:=se rfl) (hpl:=na rfl))))))),?_⟩
  simp only[ptV] at hq
  simp_all only[hq]
  exact⟨Nat.zero_le _,fun e0 m0=>⟨by decide,fun l0 n0=>kk l0 e0 _ ((same_upd m0).trans (same_upd n0)) upd_same (same_upd n0 _ _ upd_same)⟩⟩
theorem sc_value_of:FnScope ["part","faces"] ["part","faces"] (defScope (top 27)):=⟨rfl,rfl,rfl,by decide +kernel,rfl,by decide +kernel,by decide +kernel⟩
theorem ok_vo (T:Txt K mg q_NoShare q_NoTable q_TooMany q_Course q_Finder):Cal P w K mg base (CX1 P w) 1 "value_of" ["part","faces"] spVo:=by
 refine T.d_value_of.cal (fun _ _ _ _ _ _ us hl=>match us,hl with | [_,_],_=>rfl) fun f fd F=>F.okC sc_value_of (fun vs H Q E h=>?_) (fun cdv A outer s H vs Q E hr h=>?_)
 ·obtain⟨_,_,_,rfl,_⟩:=h;rfl
 ·obtain⟨q,n,v,rfl,hq,kk⟩:=h
  have nd:=sc_value_of.nd
  refine⟨_,(pss_cons (ps_if (pt_cmpR op_eq (pe_ix ix_tupH (pv 0) pe_int (fun _ _=>rfl)) pe_str (nomark _)) (pss_one (ps_ret (pe_ix ix_tupH (pv 0) pe_int (fun _ _=>rfl))))
   pss_nil)
  (pss_cons (ps_if (pt_cmpR op_eq (pe_ix ix_tupH (pv 0) pe_int (fun _ _=>rfl)) pe_str (nomark _)) (pss_one (ps_ret (pe_callB (call_sum_lK (K:=K)) (by rfl) T.z_sum rfl (pa_cons (pe_slice (sl_listK (K:=K)) (pe_sortRK (K:=K) rfl T.z_sorted (pv 1) pe_bl (n1:=rfl)) po_none (po_some (pe_ix ix_tupH (pv 0) pe_int (fun _ _=>rfl)))) pa_nil (se rfl)) (he:=se rfl) (hpl:=na rfl))))
   pss_nil)
  (pss_cons (ps_if (pt_cmpR op_eq (pe_ix ix_tupH (pv 0) pe_int (fun _ _=>rfl)) pe_str (nomark _)) (pss_one (ps_ret (pe_callB (call_sum_lK (K:=K)) (by rfl) T.z_sum rfl (pa_cons (pe_slice (sl_listK (K:=K)) (pe_callB (call_sorted_lK (K:=K)) (by rfl) T.z_sorted rfl (pa_cons (pv 1) pa_nil (se rfl)) (he:=se rfl) (hpl:=na rfl)) po_none (po_some (pe_ix ix_tupH (pv 0) pe_int (fun _ _=>rfl)))) pa_nil (se rfl)) (he:=se rfl) (hpl:=na rfl))))
   pss_nil)
  (pss_cons (ps_if (pt_cmpR op_eq (pe_ix ix_tupH (pv 0) pe_int (fun _ _=>rfl)) pe_str (nomark _)) (pss_one (ps_ret (pe_callB call_lenL (by rfl) T.z_len PySem.boot_len (pa_cons (pe_comp rfl (N:=["part","faces"]) (so:=defScope (top 27)) (N':=["face","part"]) (k:=1) (fr:=[0]) rfl rfl ⟨rfl,by decide +kernel,by decide +kernel,by decide +kernel,rfl,by decide +kernel,by decide +kernel⟩ (pi_listK (K:=K) (pv 1)) (fun _ _ _ _ _=>(pg_name (i:=0) (show(["face","part"]:List Str).Nodup by decide +kernel) rfl (Or.inl rfl))) (fun _ _ _ _ _=>(pts_one (pt_cmpR op_ge (pv 0) (pe_ix ix_tupH (pv 1) pe_int (fun _ _=>rfl)) (nomark _))))
   (fun _ _ _ _ _=>(pv 0))) pa_nil (se rfl)) (he:=se rfl) (hpl:=na rfl))))
   pss_nil)
  (pss_cons (ps_if (pt_cmpR op_eq (pe_ix ix_tupH (pv 0) pe_int (fun _ _=>rfl)) pe_str (nomark _)) (pss_one (ps_ret (pe_ix ix_listH (pv 1) (pe_un un_neg pe_int) (fun _ _=>rfl))))
   pss_nil)
  (pss_one (ps_ret (pe_callB (call_sum_lK (K:=K)) (by rfl) T.z_sum rfl (pa_cons (pv 1) pa_nil (se rfl)) (he:=se rfl) (hpl:=na rfl))))))))),?_⟩
  simp only[ptV] at hq
  simp_all only[hq]
  exact kk
theorem sc_sides_product:FnScope ["part","faces","product","face"] ["part","faces"] (defScope (top 28)):=⟨rfl,rfl,rfl,by decide +kernel,rfl,by decide +kernel,by decide +kernel⟩
theorem ok_sp (T:Txt K mg q_NoShare q_NoTable q_TooMany q_Course q_Finder):Cal P w K mg base (CX1 P w) 1 "sides_product" ["part","faces"] spSp:=by
 refine T.d_sides_product.cal (fun _ _ _ _ _ _ us hl=>match us,hl with | [_,_],_=>rfl) fun f fd F=>F.okC sc_sides_product (fun vs H Q E h=>?_) (fun cdv A outer s H vs Q E hr h=>?_)
 ·obtain⟨_,_,rfl,_⟩:=h;rfl
 ·obtain⟨q,l,rfl,hl,kk⟩:=h
  have nd:=sc_sides_product.nd
  refine⟨_,(pss_cons (ps_set (i:=2) nd rfl (Or.inl rfl) pe_int)
  (pss_cons (ps_for PassesOwn.never rfl (pi_listK (K:=K) (pv 1)) (pg_name (i:=3) nd rfl (Or.inl rfl)) (pss_one (ps_set (i:=2) nd rfl (Or.inl rfl) (pe_op op_mulB (pv 2) (pe_ix ix_tupH (pv 0) (pe_un un_neg pe_int) (fun _ _=>rfl))))))
  (pss_one (ps_ret (pv 2))))),?_⟩
  simp_all only[]
  refine⟨⟨_,SqL.of hl⟩,for_src (src_list (Ok:=fun H'=>H=H') (fun H' e=>by subst e;exact SqL.of hl)) (fun i σ H'=>H=H'∧∃z,σ=[some (.ref q),some (.ref l),some (.int 1),z]) ⟨rfl,_,rfl⟩ (fun _ _ _ _ h=>h.1) ?_ ?_⟩
  ·rintro i x σ H' H'' hi
   exact absurd hi (Nat.not_lt_zero _)
  ·rintro σ H' ⟨rfl,z,rfl⟩
   simp_all only[]
   exact kk
theorem sc_part_throws:FnScope ["part"] ["part"] (defScope (top 29)):=⟨rfl,rfl,rfl,by decide +kernel,rfl,by decide +kernel,by decide +kernel⟩
theorem ok_pt (T:Txt K mg q_NoShare q_NoTable q_TooMany q_Course q_Finder):Cal P w K mg base (CX1 P w) 3 "part_throws" ["part"] spPt:=by
 have c_part_faces:Cal P w K mg base (CX1 P w) 2 "part_faces" ["part"] spPf:=ok_pf T
 have c_value_of:Cal P w K mg base (CX1 P w) 1 "value_of" ["part","faces"] spVo:=ok_vo T
 have c_sides_product:Cal P w K mg base (CX1 P w) 1 "sides_product" ["part","faces"] spSp:=ok_sp T
 refine T.d_part_throws.cal (fun _ _ _ _ _ _ us hl=>match us,hl with | [_],_=>rfl) fun f fd F=>F.okC sc_part_throws (fun vs H Q E h=>?_) (fun cdv A outer s H vs Q E hr h=>?_)
 ·obtain⟨_,_,rfl,_⟩:=h;rfl
 ·obtain⟨q,n,rfl,hq,kk⟩:=h
  have nd:=sc_part_throws.nd
  refine⟨_,(pss_one (ps_ret (pe_comp rfl (N:=["part"]) (so:=defScope (top 29)) (N':=["faces","part"]) (k:=1) (fr:=[0]) rfl rfl ⟨rfl,by decide +kernel,by decide +kernel,by decide +kernel,rfl,by decide +kernel,by decide +kernel⟩ (pi_listK (K:=K) (pe_cal c_part_faces (hr.mono (by decide)) rfl strictP.pass (pa_cons (pv 0) pa_nil (se rfl)) (he:=se rfl) (hpl:=na rfl))) (fun _ _ _ _ _=>(pg_name (i:=0) (show(["faces","part"]:List Str).Nodup by decide +kernel) rfl (Or.inl rfl))) (fun _ _ _ _ _=>pts_nil)
   (fun _ _ _ _ _=>(pe_tupS (pa_cons (pv 0) (pa_cons (pe_cal c_value_of (hr.mono (by decide)) rfl strictP.pass (pa_cons (pv 1) (pa_cons (pv 0) pa_nil (se rfl)) (se rfl)) (he:=se rfl) (hpl:=na rfl)) (pa_cons (pe_cal c_sides_product (hr.mono (by decide)) rfl strictP.pass (pa_cons (pv 1) (pa_cons (pv 0) pa_nil (se rfl)) (se rfl)) (he:=se rfl) (hpl:=na rfl)) pa_nil (se rfl)) (se rfl)) (se rfl))))))),?_⟩
  have sl:=sizeLine_eq
  simp_all only[spPf]
  refine⟨n,hq,fun l e H1 s1 hl he=>⟨⟨_,SqL.of hl⟩,?_⟩⟩
  refine comp_map (src_list (fun H2 s2=>SqL.of (s2 _ _ hl))) (fun _ _ _ _ h=>by rw[h.1];exact Same.refl _) (by rw[sl];exact show 1≤16777216 by decide) (fun i y H2=>∃t,y=.ref t∧H2 t=some (.tup [.ref e,.int (n:Int),.int 1])) (fun i y H2 H3 s3 ⟨t,e,h⟩=>⟨t,e,s3 _ _ h⟩) ?_ ?_
  ·rintro i x w0 H2 H3 Q2 hi s2 ⟨rfl,ex⟩ kq
   rw[List.mem_singleton.mp (List.mem_of_getElem? ex)]
   have hq2:=s2 _ _ (s1 _ _ hq)
   have he2:=s2 _ _ he
   simp_all only[spVo,spSp]
   exact⟨n,hq2,he2,by decide,fun a H5 s5 na e5=>kq _ _ s5 ⟨a,rfl,e5⟩⟩
  ·intro ys H2 s2 ly hy D n1 n2
   obtain⟨y,rfl⟩:∃y,ys=[y]:=by
    cases ys with
    | nil=>cases ly
    | cons y r=>cases r with | nil=>exact⟨y,rfl⟩ | cons _ _=>simp at ly
   obtain⟨t,rfl,ht⟩:=hy 0 y rfl
   exact kk D t e _ (s1.trans (s2.trans (same_upd n2))) upd_same (same_upd n2 _ _ ht) (same_upd n2 _ _ (s2 _ _ he))
theorem sc_throws_by_bottom:FnScope ["pool","found","part","behind","longer","faces","value","bottom"] ["pool"] (defScope (top 30)):=⟨rfl,rfl,rfl,by decide +kernel,rfl,by decide +kernel,by decide +kernel⟩
theorem ok_tb (T:Txt K mg q_NoShare q_NoTable q_TooMany q_Course q_Finder):Cal P w K mg base (CX1 P w) 5 "throws_by_bottom" ["pool"] spTb:=by
 have c_check_size:Cal P w K mg base (CX1 P w) 4 "check_size" ["pool"] spCk:=ok_ck T
 have c_part_throws:Cal P w K mg base (CX1 P w) 3 "part_throws" ["part"] spPt:=ok_pt T
 refine T.d_throws_by_bottom.cal (fun _ _ _ _ _ _ us hl=>match us,hl with | [_],_=>rfl) fun f fd F=>F.okC sc_throws_by_bottom (fun vs H Q E h=>?_) (fun cdv A outer s H vs Q E hr h=>?_)
 ·obtain⟨_,_,_,rfl,_⟩:=h;rfl
 ·obtain⟨a,q,n,rfl,ha,hq,kk⟩:=h
  have nd:=sc_throws_by_bottom.nd
  refine⟨_,(pss_cons (ps_expr (pe_cal c_check_size (hr.mono (by decide)) rfl strictP.pass (pa_cons (pv 0) pa_nil (se rfl)) (he:=se rfl) (hpl:=na rfl)))
  (pss_cons (ps_set (i:=1) nd rfl (Or.inl rfl) (pe_lst (pa_cons (pe_tupS (pa_cons (pe_lst pa_nil) (pa_cons pe_int (pa_cons pe_int pa_nil (se rfl)) (se rfl)) (se rfl))) pa_nil (se rfl))))
  (pss_cons (ps_for PassesOwn.never rfl (pi_listK (K:=K) (pv 0)) (pg_name (i:=2) nd rfl (Or.inl rfl)) (pss_cons (ps_set (i:=3) nd rfl (Or.inl rfl) (pe_cal c_part_throws (hr.mono (by decide)) rfl strictP.pass (pa_cons (pv 2) pa_nil (se rfl)) (he:=se rfl) (hpl:=na rfl)))
  (pss_cons (ps_set (i:=4) nd rfl (Or.inl rfl) (pe_lst pa_nil))
  (pss_cons (ps_for PassesOwn.never rfl (pi_listK (K:=K) (pv 1)) (pg_tupK (K:=K) (n:=3) rfl (pgs_cons (pg_name (i:=5) nd rfl (Or.inr rfl)) (pgs_cons (pg_name (i:=6) nd rfl (Or.inr rfl)) (pgs_cons (pg_name (i:=7) nd rfl (Or.inr rfl)) pgs_nil)))) (pss_one (ps_expr (pe_bm PySem.F.plainAttrs_list PySem.F.slot_list_extend PySem.F.type_list_extend mt_extend.r (pv 4) (pa_cons (pe_comp rfl (N:=["pool","found","part","behind","longer","faces","value","bottom"]) (so:=defScope (top 30)) (N':=["more","faces","value","bottom"]) (k:=1) (fr:=[5,6,7]) rfl rfl ⟨rfl,by decide +kernel,by decide +kernel,by decide +kernel,rfl,by decide +kernel,by decide +kernel⟩ (pi_listK (K:=K) (pv 3)) (fun _ _ _ _ _=>(pg_name (i:=0) (show(["more","faces","value","bottom"]:List Str).Nodup by decide +kernel) rfl (Or.inl rfl))) (fun _ _ _ _ _=>pts_nil)
   (fun _ _ _ _ _=>(pe_tupS (pa_cons (pe_op op_cat (pv 1) (pe_ix ix_tupH (pv 0) pe_int (fun _ _=>rfl))) (pa_cons (pe_op op_add (pv 2) (pe_ix ix_tupH (pv 0) pe_int (fun _ _=>rfl))) (pa_cons (pe_op op_mulB (pv 3) (pe_ix ix_tupH (pv 0) pe_int (fun _ _=>rfl))) pa_nil (se rfl)) (se rfl)) (se rfl))))) pa_nil (se rfl))))))
  (pss_one (ps_set (i:=1) nd rfl (Or.inl rfl) (pv 4)))))))
  (pss_one (ps_ret (pv 1)))))),?_⟩
  have sl:=sizeLine_eq
  change tSeq _ _ _ [some (.ref a),none,none,none,none,none,none,none] H
  refine seq_gen (fun σ' H1=>H=H1∧σ'=[some (.ref a),none,none,none,none,none,none,none]) ?_ (fun N hN=>?_)
  case refine_2=>
   simp_all only[spCk]
   exact⟨q,ha,n,hq,hN _ _ ⟨rfl,rfl⟩⟩
  rintro _ _ ⟨rfl,rfl⟩
  change tSeq _ _ _ [some (.ref a),none,none,none,none,none,none,none] H
  refine seq_gen (fun σ' H1=>Same H H1∧∃l t e,H1 l=some (.lst [.ref t])∧H1 t=some (.tup [.ref e,.int 0,.int 1])∧H1 e=some (.lst [])∧σ'=[some (.ref a),some (.ref l),none,none,none,none,none,none]) ?_ (fun N hN=>?_)
  case refine_2=>
   simp_all only[]
   exact⟨Nat.zero_le _,fun e0 m0=>⟨by decide,fun t H1 s1 nt e1=>⟨by decide,fun l n1=>hN _ _ ⟨(same_upd m0).trans (s1.trans (same_upd n1)),l,t,e0,upd_same,same_upd n1 _ _ e1,same_upd n1 _ _ (s1 _ _ upd_same),rfl⟩⟩⟩⟩
  rintro _ H1 ⟨s1,l,t,e,hl,ht,he,rfl⟩
  simp_all only[]
  refine⟨⟨_,SqL.of (s1 _ _ ha)⟩,for_src (src_list (Ok:=Same H) (fun H2 s2=>SqL.of (s2 _ _ ha))) (fun i σ H2=>Same H H2∧∃l t e z1 z2 z3 z4 z5 z6,H2 l=some (.lst [.ref t])∧H2 t=some (.tup [.ref e,.int (if i=0 then 0 else (n:Int)),.int 1])∧H2 e=some (.lst [])∧σ=[some (.ref a),some (.ref l),z1,z2,z3,z4,z5,z6]) ⟨s1,l,t,e,_,_,_,_,_,_,hl,ht,he,rfl⟩ (fun _ _ _ _ h=>h.1) ?_ ?_⟩
  ·clear hl ht he l t e s1 H1
   rintro i x σ H2 H3 hi ⟨s1,l,t,e,z1,z2,z3,z4,z5,z6,hl,ht,he,rfl⟩ ⟨rfl,ex⟩
   have i0:i=0:=Nat.lt_one_iff.mp hi
   subst i0
   cases ex
   rw[if_pos rfl] at ht
   simp only[gName,List.set_cons_succ,List.set_cons_zero]
   change tSeq _ _ _ [some (.ref a),some (.ref l),some (.ref q),z2,z3,z4,z5,z6] H3
   refine seq_gen (fun σ' H4=>Same H3 H4∧∃b u v,H4 b=some (.lst [.ref u])∧H4 u=some (.tup [.ref v,.int (n:Int),.int 1])∧H4 v=some (.lst [])∧σ'=[some (.ref a),some (.ref l),some (.ref q),some (.ref b),z3,z4,z5,z6]) ?_ (fun N hN=>?_)
   case refine_2=>
    simp_all only[spPt]
    exact⟨n,s1 _ _ hq,fun b u v H4 s4 hb hu hv=>hN _ _ ⟨s4,b,u,v,hb,hu,hv,rfl⟩⟩
   rintro _ H4 ⟨s4,b,u,v,hb,hu,hv,rfl⟩
   change tSeq _ _ _ [some (.ref a),some (.ref l),some (.ref q),some (.ref b),z3,z4,z5,z6] H4
   refine seq_gen (fun σ' H5=>Same H4 H5∧∃m,H4 m=none∧H5 m=some (.lst [])∧σ'=[some (.ref a),some (.ref l),some (.ref q),some (.ref b),some (.ref m),z4,z5,z6]) ?_ (fun N hN=>?_)
   case refine_2=>
    simp_all only[]
    exact⟨Nat.zero_le _,fun m nm=>hN _ _ ⟨same_upd nm,m,nm,upd_same,rfl⟩⟩
   rintro _ H5 ⟨s5,m,nm,hm,rfl⟩
   have hl5:=s5 _ _ (s4 _ _ hl)
   change tSeq _ _ _ [some (.ref a),some (.ref l),some (.ref q),some (.ref b),some (.ref m),z4,z5,z6] H5
   refine seq_gen (fun σ' H6=>Same H4 H6∧∃t e z4 z5 z6,H6 m=some (.lst [.ref t])∧H6 t=some (.tup [.ref e,.int (n:Int),.int 1])∧H6 e=some (.lst [])∧σ'=[some (.ref a),some (.ref l),some (.ref q),some (.ref b),some (.ref m),z4,z5,z6]) ?_ (fun N hN=>?_)
   case refine_2=>
    simp_all only[]
    refine⟨⟨_,SqL.of hl5⟩,for_src (src_list (Ok:=Same H4) (fun H2 s2=>SqL.of (s2 _ _ (s4 _ _ hl)))) (fun j σ H6=>Same H4 H6∧(j=0→H6 m=some (.lst []))∧(j=1→∃t e,H6 m=some (.lst [.ref t])∧H6 t=some (.tup [.ref e,.int (n:Int),.int 1])∧H6 e=some (.lst []))∧∃z4 z5 z6,σ=[some (.ref a),some (.ref l),some (.ref q),some (.ref b),some (.ref m),z4,z5,z6]) ⟨s5,fun _=>hm,(fun z=>by cases z),_,_,_,rfl⟩ (fun _ _ _ _ h=>h.1) ?_ ?_⟩
    ·rintro j x σ H6 H7 hj ⟨s6,hm0,_,z4,z5,z6,rfl⟩ ⟨rfl,ex⟩
     have j0:j=0:=Nat.lt_one_iff.mp hj
     subst j0
     cases ex
     have hm6:=hm0 rfl
     have ht6:=s6 _ _ (s4 _ _ ht)
     have he6:=s6 _ _ (s4 _ _ he)
     have hb6:=s6 _ _ hb
     refine⟨t,_,rfl,SqT.of ht6,rfl,_,_,rfl,_,_,rfl,_,_,rfl,rfl,?_⟩
     simp_all only[rExtend]
     refine⟨.inl ⟨rfl,_,SqL.of hm6⟩,⟨_,SqL.of hb6⟩,?_⟩
     refine comp_map (src_list (fun H2 s2=>SqL.of (s2 _ _ hb6))) (fun _ _ _ _ h=>by rw[h.1];exact Same.refl _) (by rw[sl];exact show 1≤16777216 by decide) (fun k y H8=>∃t e,y=.ref t∧t≠m∧e≠m∧H8 t=some (.tup [.ref e,.int (n:Int),.int 1])∧H8 e=some (.lst [])) (fun k y H8 H9 s9 ⟨t,e,a1,a2,a3,a4,a5⟩=>⟨t,e,a1,a2,a3,s9 _ _ a4,s9 _ _ a5⟩) ?_ ?_
     ·rintro k x w0 H8 H9 Q2 hk s8 ⟨rfl,ex⟩ kq
      rw[List.mem_singleton.mp (List.mem_of_getElem? ex)]
      have hu8:=s8 _ _ (s6 _ _ hu)
      have hv8:=s8 _ _ (s6 _ _ hv)
      have he8:=s8 _ _ he6
      simp_all only[rCat,hu8,hv8,he8]
      refine⟨by decide,fun a1 n1=>?_⟩
      have s9:=same_upd (o:=.lst []) n1
      have hm9:=s9 _ _ (s8 _ _ hm6)
      have a1m:a1≠m:=fun z=>by rw[z,s8 _ _ hm6] at n1;cases n1
      refine⟨_,s9 _ _ hu8,_,rfl,_,rfl,_,s9 _ _ hu8,_,rfl,_,rfl,mulOkL,by rw[sl];decide,fun t2 H10 s10 nt2 e10=>kq _ _ (s9.trans s10) ⟨t2,a1,rfl,(fun z=>by rw[z,hm9] at nt2;cases nt2),a1m,?_,s10 _ _ upd_same⟩⟩
      rw[e10,Int.zero_add]
      rfl
     ·intro ys H8 s8 ly hy D n1 n2
      obtain⟨y,rfl⟩:∃y,ys=[y]:=by
       cases ys with
       | nil=>cases ly
       | cons y r=>cases r with | nil=>exact⟨y,rfl⟩ | cons _ _=>simp at ly
      obtain⟨t',e',rfl,tm,em,ht',he'⟩:=hy 0 y rfl
      have hm8:=s8 _ _ hm6
      refine⟨_,same_upd n2 _ _ hm8,_,upd_same,by rw[sl];exact show 0+1≤16777216 by decide,?_⟩
      have s9:=s6.trans (s8.trans (same_upd (o:=.lst [V.ref t']) n2))
      exact⟨same_upd_of s9 nm,(fun z=>by cases z),fun _=>⟨t',upd_same,e',by rw[upd_ne tm];exact same_upd n2 _ _ ht',by rw[upd_ne em];exact same_upd n2 _ _ he'⟩,_,rfl⟩
    ·rintro σ H6 ⟨s6,_,h1,z4,z5,z6,rfl⟩
     obtain⟨t,e,a1,a2,a3⟩:=h1 rfl
     exact hN _ _ ⟨s6,t,e,_,_,_,a1,a2,a3,rfl⟩
   rintro _ H6 ⟨s6,t',e',z4,z5,z6,hm6,ht6,he6,rfl⟩
   simp_all only[]
   exact⟨s1.trans (s4.trans s6),m,t',hm6,e',by rw[if_neg (by decide)];exact ht6,he6,rfl,_,rfl⟩
  ·rintro σ H2 ⟨s2,l,t,e,z1,z2,z3,z4,z5,z6,hl,ht,he,rfl⟩
   simp_all only[]
   exact kk l t e H2 s2 hl ht
theorem sc_pool_table:FnScope ["pool","found","common","part"] ["pool"] (defScope (top 31)):=⟨rfl,rfl,rfl,by decide +kernel,rfl,by decide +kernel,by decide +kernel⟩
theorem ok_pl (T:Txt K mg q_NoShare q_NoTable q_TooMany q_Course q_Finder):Cal P w K mg base (CX1 P w) 6 "pool_table" ["pool"] spPl:=by
 have c_throws_by_bottom:Cal P w K mg base (CX1 P w) 5 "throws_by_bottom" ["pool"] spTb:=ok_tb T
 have c_part_bottom:Cal P w K mg base (CX1 P w) 2 "part_bottom" ["part"] spBo:=ok_bo T
 have c_table_of:Cal P w K mg base (CX1 P w) 4 "table_of" ["rows"] (spTO q_NoTable):=ok_to T
 refine T.d_pool_table.cal (fun _ _ _ _ _ _ us hl=>match us,hl with | [_],_=>rfl) fun f fd F=>F.okC sc_pool_table (fun vs H Q E h=>?_) (fun cdv A outer s H vs Q E hr h=>?_)
 ·obtain⟨_,_,rfl,_⟩:=h;rfl
 ·obtain⟨a,ps,rfl,⟨vs,ha,ap⟩,⟨n,n99,rfl⟩,l4,kk⟩:=h
  have nd:=sc_pool_table.nd
  refine⟨_,(pss_cons (ps_set (i:=1) nd rfl (Or.inl rfl) (pe_cal c_throws_by_bottom (hr.mono (by decide)) rfl strictP.pass (pa_cons (pv 0) pa_nil (se rfl)) (he:=se rfl) (hpl:=na rfl)))
  (pss_cons (ps_set (i:=2) nd rfl (Or.inr rfl) pe_int)
  (pss_cons (ps_for PassesOwn.never rfl (pi_listK (K:=K) (pv 0)) (pg_name (i:=3) nd rfl (Or.inl rfl)) (pss_one (ps_set (i:=2) nd rfl (Or.inr rfl) (pe_op op_mulB (pv 2) (pe_cal c_part_bottom (hr.mono (by decide)) rfl strictP.pass (pa_cons (pv 3) pa_nil (se rfl)) (he:=se rfl) (hpl:=na rfl))))))
  (pss_one (ps_ret (pe_cal c_table_of (hr.mono (by decide)) rfl strictP.pass (pa_cons (pe_comp rfl (N:=["pool","found","common","part"]) (so:=defScope (top 31)) (N':=["faces","value","bottom","common"]) (k:=3) (fr:=[2]) rfl rfl ⟨rfl,by decide +kernel,by decide +kernel,by decide +kernel,rfl,by decide +kernel,by decide +kernel⟩ (pi_listK (K:=K) (pv 1)) (fun _ _ _ _ _=>(pg_tupK (K:=K) (n:=3) rfl (pgs_cons (pg_name (i:=0) (show(["faces","value","bottom","common"]:List Str).Nodup by decide +kernel) rfl (Or.inl rfl)) (pgs_cons (pg_name (i:=1) (show(["faces","value","bottom","common"]:List Str).Nodup by decide +kernel) rfl (Or.inl rfl)) (pgs_cons (pg_name (i:=2) (show(["faces","value","bottom","common"]:List Str).Nodup by decide +kernel) rfl (Or.inl rfl)) pgs_nil))))) (fun _ _ _ _ _=>pts_nil)
   (fun _ _ _ _ _=>(pe_tupS (pa_cons (pv 1) (pa_cons (pe_op op_fdivB (pv 3) (pv 2)) pa_nil (se rfl)) (se rfl))))) pa_nil (se rfl)) (he:=se rfl) (hpl:=na rfl))))))),?_⟩
  have sl:=sizeLine_eq
  obtain⟨q,rfl,hq⟩:∃q,vs=[.ref q]∧H q=some (.tup (ptV (.num n))):=by
   cases vs with
   | nil=>exact ap.elim
   | cons v r=>
    obtain⟨⟨q,rfl,hq⟩,h⟩:=ap
    cases r with
    | nil=>exact⟨q,rfl,hq⟩
    | cons _ _=>exact h.elim
  change tSeq _ _ _ [some (.ref a),none,none,none] H
  refine seq_gen (fun σ' H1=>Same H H1∧∃l t e,H1 l=some (.lst [.ref t])∧H1 t=some (.tup [.ref e,.int (n:Int),.int 1])∧σ'=[some (.ref a),some (.ref l),none,none]) ?_ (fun N hN=>?_)
  case refine_2=>
   simp_all only[spTb]
   exact⟨q,ha,n,hq,fun l t e H1 s1 hl ht=>hN _ _ ⟨s1,l,t,e,hl,ht,rfl⟩⟩
  rintro _ H1 ⟨s1,l,t,e,hl,ht,rfl⟩
  change tSeq _ _ _ [some (.ref a),some (.ref l),none,none] H1
  refine seq_gen (fun σ' H2=>H1=H2∧σ'=[some (.ref a),some (.ref l),some (.int 1),none]) ?_ (fun N hN=>?_)
  case refine_2=>
   simp_all only[]
   exact hN _ _ ⟨rfl,rfl⟩
  rintro _ _ ⟨rfl,rfl⟩
  change tSeq _ _ _ [some (.ref a),some (.ref l),some (.int 1),none] H1
  refine seq_gen (fun σ' H2=>H1=H2∧∃z,σ'=[some (.ref a),some (.ref l),some (.int 1),z]) ?_ (fun N hN=>?_)
  case refine_2=>
   simp_all only[]
   refine⟨⟨_,SqL.of (s1 _ _ ha)⟩,for_src (src_list (Ok:=fun H'=>H1=H') (fun H' e=>by subst e;exact SqL.of (s1 _ _ ha))) (fun i σ H'=>H1=H'∧∃z,σ=[some (.ref a),some (.ref l),some (.int 1),z]) ⟨rfl,_,rfl⟩ (fun _ _ _ _ h=>h.1) ?_ ?_⟩
   ·rintro i x σ H' H'' hi ⟨rfl,z,rfl⟩ ⟨rfl,ex⟩
    rw[List.mem_singleton.mp (List.mem_of_getElem? ex)]
    simp_all only[spBo]
    exact⟨n,s1 _ _ hq,mulOkL,rfl,_,rfl⟩
   ·rintro σ H' ⟨rfl,z,rfl⟩
    exact hN _ _ ⟨rfl,_,rfl⟩
  rintro _ _ ⟨rfl,z,rfl⟩
  simp_all only[spTO]
  refine⟨⟨_,SqL.of hl⟩,?_⟩
  refine comp_map3 (K:=K) (src_list (fun H2 s2=>SqL.of (s2 _ _ hl))) (fun i u v b' H2=>v=.int (n:Int)∧b'=.int 1) ?_ (by rw[sl];exact show 1≤16777216 by decide) (fun i y H2=>Rep H2 (wrowD ((n:Int),1)) y) (fun i y H2 H3 s3 h=>h.mono s3) ?_ ?_
  ·rintro i x H2 H3 hi s2 ⟨rfl,ex⟩
   rw[List.mem_singleton.mp (List.mem_of_getElem? ex)]
   exact⟨Same.refl _,t,_,_,_,rfl,SqT.of (s2 _ _ ht),rfl,rfl⟩
  ·rintro i u v b' H2 Q2 hi s2 ⟨rfl,rfl⟩ kq
   simp_all only[]
   exact⟨CDivB.lit,by decide,fun t H3 s3 nt e3=>kq _ _ s3 (rep_wrow.mpr ⟨t,rfl,e3⟩)⟩
  ·intro ys H2 s2 ly hy D n1 n2
   obtain⟨y,rfl⟩:∃y,ys=[y]:=by
    cases ys with
    | nil=>cases ly
    | cons y r=>cases r with | nil=>exact⟨y,rfl⟩ | cons _ _=>simp at ly
   have rp:Rep (upd H2 D (.lst [y])) (wrowsD [((n:Int),1)]) (.ref D):=rep_lst.mpr ⟨D,[y],rfl,upd_same,repL_cons.mpr ⟨_,_,rfl,(hy 0 y rfl).mono (same_upd n2),repL_nil.mpr rfl⟩⟩
   have sD:Same H (upd H2 D (.lst [y])):=s1.trans (s2.trans (same_upd n2))
   have nb:¬Nm.bad [((n:Int),1)]:=fun b=>by
    rcases b with ⟨x,hx,c⟩ | c
    ·rw[List.mem_singleton.mp hx] at c;exact absurd c (show ¬(1:Int)<0 by decide)
    ·cases c
   have wf:Nm.wof [((n:Int),1)]=[((n:Int),1)]:=rfl
   have rw1:Nm.rowsOf [((n:Int),1)] 1=[((n:Int),1,1)]:=by
    unfold Nm.rowsOf
    show(Nm.srt [(n:Int)]).map _=_
    have s:Nm.srt [(n:Int)]=[(n:Int)]:=rfl
    have l:Nm.look [((n:Int),1)] (n:Int)=1:=by simp [Nm.look]
    rw[s,List.map_cons,List.map_nil]
    simp only[l]
    rfl
   refine⟨[((n:Int),1)],rp,show 1≤1296 by decide,fun p hp=>by rw[List.mem_singleton.mp hp];exact show(1:Int)≤10^12 by decide,by rw[wf];exact show 1<64 by decide,fun b=>absurd b nb,fun _ p H' s' np r'=>kk p H' (sD.trans s') (none_of sD np) ?_⟩
   rw[wf] at r'
   have tt:Nm.tot [((n:Int),1)]=1:=by simp [Nm.tot]
   rw[tt,rw1] at r'
   exact r'
theorem sc_common_bottom:FnScope ["several","common","one"] ["several"] (defScope (top 9)):=⟨rfl,rfl,rfl,by decide +kernel,rfl,by decide +kernel,by decide +kernel⟩
theorem ok_cb (T:Txt K mg q_NoShare q_NoTable q_TooMany q_Course q_Finder):Cal P w K mg base (CX1 P w) 2 "common_bottom" ["several"] spCB:=by
 have c_common_divisor:Cal P w K mg base (CX1 P w) 1 "common_divisor" ["one","other"] spCd:=ok_cd T
 refine T.d_common_bottom.cal (fun _ _ _ _ _ _ us hl=>match us,hl with | [_],_=>rfl) fun f fd F=>F.okC sc_common_bottom (fun vs H Q E h=>?_) (fun cdv A outer s H vs Q E hr h=>?_)
 ·obtain⟨_,_,_,rfl,_⟩:=h;rfl
 ·obtain⟨v,ps,W,rfl,rp,W0,W1,hz,good,k⟩:=h
  have nd:=sc_common_bottom.nd
  refine⟨_,(pss_cons (ps_set (i:=1) nd rfl (Or.inl rfl) pe_int)
  (pss_cons (ps_for PassesOwn.never rfl (pi_listK (K:=K) (pv 0)) (pg_name (i:=2) nd rfl (Or.inl rfl)) (pss_one (ps_set (i:=1) nd rfl (Or.inl rfl) (pe_op op_mulB (pe_op op_fdivB (pv 1) (pe_cal c_common_divisor (hr.mono (by decide)) rfl strictP.pass (pa_cons (pv 1) (pa_cons (pe_ix ix_tupH (pv 2) pe_int (fun _ _=>rfl)) pa_nil (se rfl)) (se rfl)) (he:=se rfl) (hpl:=na rfl))) (pe_ix ix_tupH (pv 2) pe_int (fun _ _=>rfl))))))
  (pss_one (ps_ret (pv 1))))),?_⟩
  obtain⟨l,xs,rfl,hl,rl⟩:=rep_lst.mp rp
  have len:=rl.length
  rw[List.length_map] at len
  simp_all only[]
  refine⟨⟨_,SqL.of hl⟩,for_src (src_list (Ok:=fun H2=>H2=H) (fun H2 e=>by rw[e];exact SqL.of hl)) (fun i σ H2=>H2=H∧∃B z,σ=[some (.ref l),some (.int B),z]∧0<B∧(∀M,(∀p∈ps,p.2∣M)→B∣M)∧∀p∈ps.take i,p.2∣B)
   ⟨rfl,1,none,rfl,by decide,fun _ _=>Int.one_dvd _,by simp⟩ (fun _ _ _ _ h=>h.1) ?_ ?_⟩
  ·rintro i x σ H2 H3 hi ⟨rfl,B,z,rfl,B0,bB,dv⟩ ⟨rfl,hx⟩
   obtain⟨d,ed,rd⟩:=rl.get hx
   obtain⟨p,ep,rfl⟩:=List.getElem?_map ..▸ed |>Option.map_eq_some_iff.mp
   obtain⟨a,rfl,ha⟩:=rep_wrow.mp rd
   obtain⟨p0,bp⟩:=good p (List.mem_of_getElem? ep)
   have g0:=Nm.g_pos (a:=B) (show p.2≠0 by omega)
   have p1:p.2≤1000000:=Int.le_trans (Int.le_of_dvd W0 bp) W1
   have gb:Bt 20 (Nm.g B p.2):=Bt.of 1000000 (by omega) (by have:=Nm.g_le (a:=B) p0;omega)
   simp_all only[spCd,ha]
   have e:B / Nm.g B p.2*p.2=B* (p.2 / Nm.g B p.2):=Nm.low_cross B p.2
   refine⟨CDivB.of g0 gb,mulOkR (by omega) (by omega),?_,?_,?_⟩
   ·exact Int.mul_pos (Int.ediv_pos_of_pos_of_dvd B0 (Nm.g_nn _ _) (Nm.g_dvd_l _ _)) p0
   ·exact fun M hM=>lcm_dvd' (bB M hM) (hM p (List.mem_of_getElem? ep))
   ·intro q hq
    rw[List.take_add_one,ep] at hq
    rcases List.mem_append.mp hq with hq | hq
    ·rw[e]
     exact Int.dvd_trans (dv q hq) (Int.dvd_mul_right _ _)
    ·have:q=p:=by simpa using hq
     subst this
     exact Int.dvd_mul_left _ _
  ·rintro σ H2 ⟨rfl,B,z,rfl,B0,bB,dv⟩
   simp_all only[]
   exact k B B0 bB (fun p hp=>dv p (by rw[List.take_of_length_le (by omega)];exact hp))
theorem sc_bottom_of:FnScope ["table"] ["table"] (defScope (top 13)):=⟨rfl,rfl,rfl,by decide +kernel,rfl,by decide +kernel,by decide +kernel⟩
theorem ok_bto (T:Txt K mg q_NoShare q_NoTable q_TooMany q_Course q_Finder):Cal P w K mg base (CX1 P w) 3 "bottom_of" ["table"] spBto:=by
 have c_common_bottom:Cal P w K mg base (CX1 P w) 2 "common_bottom" ["several"] spCB:=ok_cb T
 refine T.d_bottom_of.cal (fun _ _ _ _ _ _ us hl=>match us,hl with | [_],_=>rfl) fun f fd F=>F.okC sc_bottom_of (fun vs H Q E h=>?_) (fun cdv A outer s H vs Q E hr h=>?_)
 ·obtain⟨_,_,_,rfl,_⟩:=h;rfl
 ·obtain⟨v,rows,W,rfl,rp,⟨W0,W1,hz,good⟩,k⟩:=h
  have nd:=sc_bottom_of.nd
  refine⟨_,(pss_one (ps_ret (pe_cal c_common_bottom (hr.mono (by decide)) rfl strictP.pass (pa_cons (pe_comp rfl (N:=["table"]) (so:=defScope (top 13)) (N':=["value","part"]) (k:=2) (fr:=[]) rfl rfl ⟨rfl,by decide +kernel,by decide +kernel,by decide +kernel,rfl,by decide +kernel,by decide +kernel⟩ (pi_listK (K:=K) (pv 0)) (fun _ _ _ _ _=>(pg_tupK (K:=K) (n:=2) rfl (pgs_cons (pg_name (i:=0) (show(["value","part"]:List Str).Nodup by decide +kernel) rfl (Or.inl rfl)) (pgs_cons (pg_name (i:=1) (show(["value","part"]:List Str).Nodup by decide +kernel) rfl (Or.inl rfl)) pgs_nil)))) (fun _ _ _ _ _=>pts_nil)
   (fun _ _ _ _ _=>(pv 1))) pa_nil (se rfl)) (he:=se rfl) (hpl:=na rfl)))),?_⟩
  obtain⟨l,xs,rfl,hl,rl⟩:=rep_lst.mp rp
  have len:=rl.length
  rw[List.length_map] at len
  simp_all only[]
  refine⟨⟨_,SqL.of hl⟩,?_⟩
  refine comp_map2 (src_list (fun H2 s2=>s2.seq (SqL.of hl))) (fun i a b H3=>∀r,rows[i]?=some r→Rep H3 (wrowD r.2) b) ?_ (by rw[sizeLine_eq];omega) (fun i y H2=>∀r,rows[i]?=some r→Rep H2 (wrowD r.2) y) (fun i y H2 H3 s3 h r e=>(h r e).mono s3) ?_ ?_
  ·rintro i x H2 H3 hi s2 ⟨rfl,hx⟩
   obtain⟨d,ed,rd⟩:=rl.get hx
   rw[List.getElem?_map] at ed
   obtain⟨r,er,rfl⟩:=Option.map_eq_some_iff.mp ed
   obtain⟨p,q,rfl,hp,hq⟩:=rep_row.mp rd
   refine⟨Same.refl _,p,_,_,rfl,SqT.of (s2 _ _ hp),fun r' er'=>?_⟩
   rw[er] at er'
   cases er'
   exact rep_wrow.mpr ⟨q,rfl,s2 _ _ hq⟩
  ·intro i a b H3 Q2 hi s3 it kq
   simp_all only[]
   exact kq _ _ (Same.refl _) it
  ·intro ys H2 s2 ly hy D n1 n2
   simp_all only[spCB]
   have rp2:Rep (upd H2 D (.lst ys)) (wrowsD (rows.map (·.2))) (.ref D):=by
    refine rep_lst.mpr ⟨D,ys,rfl,upd_same,RepL.of ?_ fun i dd v e1 e2=>?_⟩
    ·rw[List.length_map,List.length_map,ly,len]
    ·rw[List.getElem?_map,List.getElem?_map] at e1
     obtain⟨p,ep,rfl⟩:=Option.map_eq_some_iff.mp e1
     obtain⟨r,er,rfl⟩:=Option.map_eq_some_iff.mp ep
     exact(hy i v e2 r er).mono (same_upd n2)
   refine⟨_,rp2,W,W0,W1,by rw[List.length_map];exact hz,fun p hp=>?_,fun B B0 bB dv=>?_⟩
   ·obtain⟨r,hr',rfl⟩:=List.mem_map.mp hp
    exact⟨(good r hr').1,(good r hr').2.1⟩
   ·refine k B _ (s2.trans (same_upd n2)) ⟨B0,fun r hr'=>dv _ (List.mem_map.mpr ⟨r,hr',rfl⟩),fun M hM=>bB M fun p hp=>by obtain⟨r,hr',rfl⟩:=List.mem_map.mp hp;exact hM r hr'⟩
theorem sc_weighed:FnScope ["table","bottom"] ["table","bottom"] (defScope (top 14)):=⟨rfl,rfl,rfl,by decide +kernel,rfl,by decide +kernel,by decide +kernel⟩
theorem ok_we (T:Txt K mg q_NoShare q_NoTable q_TooMany q_Course q_Finder):Cal P w K mg base (CX1 P w) 1 "weighed" ["table","bottom"] spWe:=by
 refine T.d_weighed.cal (fun _ _ _ _ _ _ us hl=>match us,hl with | [_,_],_=>rfl) fun f fd F=>F.okC sc_weighed (fun vs H Q E h=>?_) (fun cdv A outer s H vs Q E hr h=>?_)
 ·obtain⟨_,_,_,_,rfl,_⟩:=h;rfl
 ·obtain⟨v,rows,W,B,rfl,rp,gr,gb,k⟩:=h
  have b1:=isB_le gr gb
  obtain⟨W0,W1,hz,good⟩:=id gr
  obtain⟨B0,dv,bB⟩:=gb
  have nd:=sc_weighed.nd
  refine⟨_,(pss_one (ps_ret (pe_comp rfl (N:=["table","bottom"]) (so:=defScope (top 14)) (N':=["value","part","bottom"]) (k:=2) (fr:=[1]) rfl rfl ⟨rfl,by decide +kernel,by decide +kernel,by decide +kernel,rfl,by decide +kernel,by decide +kernel⟩ (pi_listK (K:=K) (pv 0)) (fun _ _ _ _ _=>(pg_tupK (K:=K) (n:=2) rfl (pgs_cons (pg_name (i:=0) (show(["value","part","bottom"]:List Str).Nodup by decide +kernel) rfl (Or.inl rfl)) (pgs_cons (pg_name (i:=1) (show(["value","part","bottom"]:List Str).Nodup by decide +kernel) rfl (Or.inl rfl)) pgs_nil)))) (fun _ _ _ _ _=>pts_nil)
   (fun _ _ _ _ _=>(pe_tupS (pa_cons (pv 0) (pa_cons (pe_op op_mulB (pe_ix ix_tupH (pv 1) pe_int (fun _ _=>rfl)) (pe_op op_fdivB (pv 2) (pe_ix ix_tupH (pv 1) pe_int (fun _ _=>rfl)))) pa_nil (se rfl)) (se rfl))))))),?_⟩
  obtain⟨l,xs,rfl,hl,rl⟩:=rep_lst.mp rp
  have len:=rl.length
  rw[List.length_map] at len
  simp_all only[]
  refine⟨⟨_,SqL.of hl⟩,?_⟩
  refine comp_map2 (src_list (fun H2 s2=>s2.seq (SqL.of hl))) (fun i a b H3=>∃r,rows[i]?=some r∧a=.int r.1∧Rep H3 (wrowD r.2) b) ?_ (by rw[sizeLine_eq];omega) (fun i y H2=>∀r,rows[i]?=some r→Rep H2 (wrowD (r.1,r.2.1* (B / r.2.2))) y) (fun i y H2 H3 s3 h r e=>(h r e).mono s3) ?_ ?_
  ·rintro i x H2 H3 hi s2 ⟨rfl,hx⟩
   obtain⟨d,ed,rd⟩:=rl.get hx
   rw[List.getElem?_map] at ed
   obtain⟨r,er,rfl⟩:=Option.map_eq_some_iff.mp ed
   obtain⟨p,q,rfl,hp,hq⟩:=rep_row.mp rd
   exact⟨Same.refl _,p,_,_,rfl,SqT.of (s2 _ _ hp),r,er,rfl,rep_wrow.mpr ⟨q,rfl,s2 _ _ hq⟩⟩
  ·rintro i a b H3 Q2 hi s3 ⟨r,er,rfl,rb⟩ kq
   obtain⟨q,rfl,hq⟩:=rep_wrow.mp rb
   obtain⟨g3,g2,g0,g1⟩:=good r (List.mem_of_getElem? er)
   have r1:r.2.2≤1000000:=Int.le_trans (Int.le_of_dvd W0 g2) W1
   simp_all only[hq]
   refine⟨CDivB.of (n:=20) g3 (Bt.of 1000000 (by omega) (by omega)),mulOkL (by omega) (by omega),by decide,fun p4 H4 s4 _ e4=>kq _ _ s4 fun r' er'=>?_⟩
   rw[er] at er'
   cases er'
   exact rep_wrow.mpr ⟨p4,rfl,e4⟩
  ·intro ys H2 s2 ly hy D n1 n2
   refine k _ _ (s2.trans (same_upd n2)) n1 (rep_lst.mpr ⟨D,ys,rfl,upd_same,RepL.of ?_ fun i dd v e1 e2=>?_⟩)
   ·rw[List.length_map,ly]
    unfold Nm.weigh
    rw[List.length_map,len]
   ·unfold Nm.weigh at e1
    rw[List.getElem?_map,List.getElem?_map] at e1
    obtain⟨p,ep,rfl⟩:=Option.map_eq_some_iff.mp e1
    obtain⟨r,er,rfl⟩:=Option.map_eq_some_iff.mp ep
    exact(hy i v e2 r er).mono (same_upd n2)
theorem sc_own_rows:FnScope ["rows"] ["rows"] (defScope (top 34)):=⟨rfl,rfl,rfl,by decide +kernel,rfl,by decide +kernel,by decide +kernel⟩
theorem ok_or (T:Txt K mg q_NoShare q_NoTable q_TooMany q_Course q_Finder):Cal P w K mg base (CX1 P w) 1 "own_rows" ["rows"] spOR:=by
 refine T.d_own_rows.cal (fun _ _ _ _ _ _ us hl=>match us,hl with | [_],_=>rfl) fun f fd F=>F.okC sc_own_rows (fun vs H Q E h=>?_) (fun cdv A outer s H vs Q E hr h=>?_)
 ·obtain⟨_,_,rfl,_⟩:=h;rfl
 ·obtain⟨v,rs,rfl,rp,lr,ll,kk⟩:=h
  have nd:=sc_own_rows.nd
  refine⟨_,(pss_one (ps_ret (pe_comp rfl (N:=["rows"]) (so:=defScope (top 34)) (N':=["row"]) (k:=1) (fr:=[]) rfl rfl ⟨rfl,by decide +kernel,by decide +kernel,by decide +kernel,rfl,by decide +kernel,by decide +kernel⟩ (pi_listK (K:=K) (pv 0)) (fun _ _ _ _ _=>(pg_name (i:=0) (show(["row"]:List Str).Nodup by decide +kernel) rfl (Or.inl rfl))) (fun _ _ _ _ _=>pts_nil)
   (fun _ _ _ _ _=>(pe_tupS (pa_cons (pe_ix ix_tupH (pv 0) pe_int (fun _ _=>rfl)) (pa_cons (pe_ix ix_tupH (pv 0) pe_int (fun _ _=>rfl)) (pa_cons (pe_callTy (call_list_ofK (K:=K)) (by rfl) T.z_list rfl (pa_cons (pe_ix ix_tupH (pv 0) pe_int (fun _ _=>rfl)) pa_nil (se rfl)) (he:=se rfl) (hpl:=na rfl)) (pa_cons (pe_ix ix_tupH (pv 0) pe_int (fun _ _=>rfl)) pa_nil (se rfl)) (se rfl)) (se rfl)) (se rfl))))))),?_⟩
  have sl:=sizeLine_eq
  obtain⟨l,xs,rfl,hl,rl⟩:=rep_lst.mp rp
  have len:=rl.length
  rw[List.length_map] at len
  simp_all only[]
  refine⟨⟨_,SqL.of hl⟩,?_⟩
  refine comp_map (src_list (K:=K) (fun H' s'=>SqL.of (s' _ _ hl))) (fun _ _ _ _ h=>by rw[h.1];exact Same.refl _) (by omega) (fun i y H4=>∀r,rs[i]?=some r→Rep H4 (r4D r) y) (fun i y H4 H5 s5 h r e=>(h r e).mono s5) ?_ ?_
  ·rintro i x w0 H4 H5 Q2 hi s4 ⟨rfl,ex⟩ kq
   obtain⟨d,ed,rd⟩:=rl.get ex
   rw[List.getElem?_map] at ed
   obtain⟨r,er,rfl⟩:=Option.map_eq_some_iff.mp ed
   obtain⟨p,a,b,c,d,rfl,hp,ra,rb,rc,rd'⟩:=rep_t4.mp (rd.mono s4)
   obtain⟨c',cs',rfl,hc,rcl⟩:=rep_lst.mp rc
   simp_all only[hp]
   refine⟨_,.inl (SqL.of hc),fun m nm=>⟨_,same_upd nm _ _ hp,_,rfl,by decide,fun t H6 s6 nt e6=>kq _ _ ((same_upd nm).trans s6) fun r' er'=>?_⟩⟩
   rw[er] at er'
   cases er'
   have sm:=(same_upd (o:=.lst cs') nm).trans s6
   exact rep_t4.mpr ⟨t,_,_,_,_,rfl,e6,ra.mono sm,rb.mono sm,rep_lst.mpr ⟨m,cs',rfl,s6 _ _ upd_same,rcl.mono sm⟩,rd'.mono sm⟩
  ·intro ys H5 s5 ly hy D n1 n2
   refine kk D _ (s5.trans (same_upd n2)) (rep_lst.mpr ⟨D,ys,rfl,upd_same,RepL.of (by rw[List.length_map];omega) fun i dd u e1 e2=>?_⟩)
   rw[List.getElem?_map] at e1
   obtain⟨r,er,rfl⟩:=Option.map_eq_some_iff.mp e1
   exact(hy i u e2 r er).mono (same_upd n2)
theorem sc_own_what:FnScope ["what"] ["what"] (defScope (top 35)):=⟨rfl,rfl,rfl,by decide +kernel,rfl,by decide +kernel,by decide +kernel⟩
theorem ok_ow (T:Txt K mg q_NoShare q_NoTable q_TooMany q_Course q_Finder):Cal P w K mg base (CX1 P w) 2 "own_what" ["what"] spOW:=by
 have c_own_rows:Cal P w K mg base (CX1 P w) 1 "own_rows" ["rows"] spOR:=ok_or T
 refine T.d_own_what.cal (fun _ _ _ _ _ _ us hl=>match us,hl with | [_],_=>rfl) fun f fd F=>F.okC sc_own_what (fun vs H Q E h=>?_) (fun cdv A outer s H vs Q E hr h=>?_)
 ·obtain⟨_,_,_,rfl,_⟩:=h;rfl
 ·obtain⟨v,x,cs,rfl,rp,gd,kk⟩:=h
  have nd:=sc_own_what.nd
  refine⟨_,(pss_cons (ps_if (pt_cmpR op_eq (pe_ix ix_tupH (pv 0) pe_int (fun _ _=>rfl)) pe_str (nomark _)) (pss_one (ps_ret (pe_tupS (pa_cons pe_str (pa_cons (pe_callTy (call_list_ofK (K:=K)) (by rfl) T.z_list rfl (pa_cons (pe_ix ix_tupH (pv 0) pe_int (fun _ _=>rfl)) pa_nil (se rfl)) (he:=se rfl) (hpl:=na rfl)) (pa_cons (pe_ix ix_tupH (pv 0) pe_int (fun _ _=>rfl)) (pa_cons (pe_cal c_own_rows (hr.mono (by decide)) rfl strictP.pass (pa_cons (pe_ix ix_tupH (pv 0) pe_int (fun _ _=>rfl)) pa_nil (se rfl)) (he:=se rfl) (hpl:=na rfl)) pa_nil (se rfl)) (se rfl)) (se rfl)) (se rfl)))))
   pss_nil)
  (pss_cons (ps_if (pt_cmpR op_eq (pe_ix ix_tupH (pv 0) pe_int (fun _ _=>rfl)) pe_str (nomark _)) (pss_one (ps_ret (pe_tupS (pa_cons pe_str (pa_cons (pe_ix ix_tupH (pv 0) pe_int (fun _ _=>rfl)) (pa_cons (pe_cal c_own_rows (hr.mono (by decide)) rfl strictP.pass (pa_cons (pe_ix ix_tupH (pv 0) pe_int (fun _ _=>rfl)) pa_nil (se rfl)) (he:=se rfl) (hpl:=na rfl)) pa_nil (se rfl)) (se rfl)) (se rfl)))))
   pss_nil)
  (pss_one (ps_ret (pv 0))))),?_⟩
  have sl:=sizeLine_eq
  cases x with
  | ask c k a b=>
   obtain⟨p,x1,x2,x3,x4,x5,rfl,hp,r1,r2,r3,r4,r5⟩:=rep_t5.mp (show Rep H (.tup _) v from rp)
   rw[rep_str] at r1
   subst r1
   simp_all only[spOR,hp]
   rw[if_neg (by decide +kernel),if_neg (by decide +kernel)]
   exact kk _ _ (Same.refl _) rp
  | fin t b=>
   obtain⟨p,x1,x2,rfl,hp,r1,r2⟩:=rep_t2.mp (show Rep H (.tup _) v from rp)
   rw[rep_str] at r1
   subst r1
   simp_all only[spOR,hp]
   rw[if_neg (by decide +kernel),if_neg (by decide +kernel)]
   exact kk _ _ (Same.refl _) rp
  | score c=>
   obtain⟨p,x1,x2,rfl,hp,r1,r2⟩:=rep_t2.mp (show Rep H (.tup _) v from rp)
   rw[rep_str] at r1
   subst r1
   simp_all only[spOR,hp]
   rw[if_neg (by decide +kernel),if_neg (by decide +kernel)]
   exact kk _ _ (Same.refl _) rp
  | pick w rs=>
   obtain⟨p,x1,x2,x3,rfl,hp,r1,r2,r3⟩:=rep_t3.mp (show Rep H (.tup _) v from rp)
   rw[rep_str] at r1
   subst r1
   simp_all only[spOR,hp]
   rw[if_neg (by decide +kernel)]
   obtain⟨g1,g2⟩:=gd
   refine⟨_,r3,by rw[List.length_map];exact g1,fun r hr'=>?_,fun m H1 s1 rm=>⟨by decide,fun t H2 s2 nt e2=>kk _ _ (s1.trans s2) ?_⟩⟩
   ·obtain⟨r0,h0,rfl⟩:=List.mem_map.mp hr'
    show(r0.ds.map ddD).length≤100
    rw[List.length_map]
    exact(g2 r0 h0).1
   ·exact rep_t3.mpr ⟨t,_,_,_,rfl,e2,rep_str.mpr rfl,r2.mono (s1.trans s2),rm.mono s2⟩
  | thr pool t b rs=>
   obtain⟨p,x1,x2,x3,x4,rfl,hp,r1,r2,r3,r4⟩:=rep_t4.mp (show Rep H (.tup _) v from rp)
   rw[rep_str] at r1
   subst r1
   simp_all only[spOR,hp]
   obtain⟨g1,g2,g3⟩:=gd
   obtain⟨l2,xs2,rfl,hl2,rl2⟩:=rep_lst.mp r2
   refine⟨_,rfl,_,.inl (SqL.of hl2),fun m nm=>?_⟩
   have sm:=same_upd (o:=.lst xs2) nm
   refine⟨_,sm _ _ hp,_,rfl,_,sm _ _ hp,_,rfl,_,r4.mono sm,by rw[List.length_map];exact g2,fun r hr'=>?_,fun n H1 s1 rn=>⟨by decide,fun t H2 s2 nt e2=>kk _ _ (sm.trans (s1.trans s2)) ?_⟩⟩
   ·obtain⟨r0,h0,rfl⟩:=List.mem_map.mp hr'
    show(r0.2.2.1.map ddD).length≤100
    rw[List.length_map]
    exact(g3 r0 h0).1
   ·have s02:=sm.trans (s1.trans s2)
    exact rep_t4.mpr ⟨t,_,_,_,_,rfl,e2,rep_str.mpr rfl,rep_lst.mpr ⟨m,xs2,rfl,s2 _ _ (s1 _ _ upd_same),rl2.mono s02⟩,r3.mono s02,rn.mono s2⟩
theorem sc_Course_put:FnScope ["self","counts","spot","number"] ["self","counts","spot","number"] (defScope (inClass (top 36) 1)):=⟨rfl,rfl,rfl,by decide +kernel,rfl,by decide +kernel,by decide +kernel⟩
theorem ok_put (T:Txt K mg q_NoShare q_NoTable q_TooMany q_Course q_Finder):MtCal P w K mg base (CX1 P w) 1 q_Course "put" ["self","counts","spot","number"] (spPut q_Course):=by
 refine T.dm_Course_put.cal (fun _ _ _ _ _ _ us hl=>match us,hl with | [_,_,_,_],_=>rfl) fun f fd F=>F.okC sc_Course_put (fun vs H Q E h=>?_) (fun cdv A outer s H vs Q E hr h=>?_)
 ·obtain⟨_,_,_,_,_,_,rfl,_⟩:=h;rfl
 ·obtain⟨c,l,i,k,g,ns,rfl,⟨dx,sp,mo,wh,tb,us,ft,h1,h2,h3,h4,h5,h6⟩,hl,il,ln,kk⟩:=h
  have nd:=sc_Course_put.nd
  refine⟨_,(pss_one (ps_asg (pe_callB (call_min2 rfl) (by rfl) T.z_min rfl (pa_cons (pv 3) (pa_cons (pe_ix ix_listH (pe_fld (pv 0) rfl) (pv 2) (fun _ _=>rfl)) pa_nil (se rfl)) (se rfl)) (he:=se rfl) (hpl:=na rfl)) (pg_sub (pv 1) (pv 2) set_list))),?_⟩
  have h1:=hid_sub _ _ h1
  have h3:=hid_sub _ _ h3
  simp_all only[tFld]
  refine⟨_,_,_,h1,T.cl_Course,T.na_Course_mosts,_,lk_mo,_,rfl,_,h3,_,most_at il,_,rfl,_,hl,_,ixN_nat (by rw[List.length_map];omega),?_⟩
  rw[←List.map_set]
  have e:(if most g.cs i<k then most g.cs i else k)=min k (most g.cs i):=by omega
  rw[e]
  exact kk
theorem sc_Course_do:FnScope ["self","counts","deed","value","spot","other"] ["self","counts","deed","value"] (defScope (inClass (top 36) 2)):=⟨rfl,rfl,rfl,by decide +kernel,rfl,by decide +kernel,by decide +kernel⟩
theorem ok_do (T:Txt K mg q_NoShare q_NoTable q_TooMany q_Course q_Finder):MtCal P w K mg base (CX1 P w) 2 q_Course "do" ["self","counts","deed","value"] (spDo q_Course):=by
 have m_Course_put:MtCal P w K mg base (CX1 P w) 1 q_Course "put" ["self","counts","spot","number"] (spPut q_Course):=ok_put T
 refine T.dm_Course_do.cal (fun _ _ _ _ _ _ us hl=>match us,hl with | [_,_,_,_],_=>rfl) fun f fd F=>F.okC sc_Course_do (fun vs H Q E h=>?_) (fun cdv A outer s H vs Q E hr h=>?_)
 ·obtain⟨_,_,_,_,_,_,_,rfl,_⟩:=h;rfl
 ·obtain⟨c,l,dv,v,g,ns,d,rfl,co,hl,rd,gd,ln,kk⟩:=h
  have nd:=sc_Course_do.nd
  refine⟨_,(pss_cons (ps_set (i:=4) nd rfl (Or.inl rfl) (pe_dget (hu_of hr) (pe_fld (pv 0) rfl) (pe_ix ix_tupH (pv 2) pe_int (fun _ _=>rfl)) (fun _ _=>rfl)))
  (pss_one (ps_if (pt_cmpR op_eq (pe_ix ix_tupH (pv 2) pe_int (fun _ _=>rfl)) pe_str (nomark _)) (pss_one (ps_expr (pe_mt m_Course_put T.cl_Course (pv 0) (hr.mono (by decide)) strictP.pass (pa_cons (pv 1) (pa_cons (pv 4) (pa_cons (pe_ix ix_tupH (pv 2) pe_int (fun _ _=>rfl)) pa_nil (se rfl)) (se rfl)) (se rfl)) (hst:=se rfl) (hpl:=na rfl))))
   (pss_one (ps_if (pt_cmpR op_eq (pe_ix ix_tupH (pv 2) pe_int (fun _ _=>rfl)) pe_str (nomark _)) (pss_one (ps_expr (pe_mt m_Course_put T.cl_Course (pv 0) (hr.mono (by decide)) strictP.pass (pa_cons (pv 1) (pa_cons (pv 4) (pa_cons (pe_op op_add (pe_ix ix_listH (pv 1) (pv 4) (fun _ _=>rfl)) (pe_ix ix_tupH (pv 2) pe_int (fun _ _=>rfl))) pa_nil (se rfl)) (se rfl)) (se rfl)) (hst:=se rfl) (hpl:=na rfl))))
   (pss_one (ps_if (pt_cmpR op_eq (pe_ix ix_tupH (pv 2) pe_int (fun _ _=>rfl)) pe_str (nomark _)) (pss_one (ps_expr (pe_mt m_Course_put T.cl_Course (pv 0) (hr.mono (by decide)) strictP.pass (pa_cons (pv 1) (pa_cons (pv 4) (pa_cons (pe_op op_add (pe_ix ix_listH (pv 1) (pv 4) (fun _ _=>rfl)) (pv 3)) pa_nil (se rfl)) (se rfl)) (se rfl)) (hst:=se rfl) (hpl:=na rfl))))
   (pss_cons (ps_set (i:=5) nd rfl (Or.inl rfl) (pe_dget (hu_of hr) (pe_fld (pv 0) rfl) (pe_ix ix_tupH (pv 2) pe_int (fun _ _=>rfl)) (fun _ _=>rfl)))
  (pss_cons (ps_expr (pe_mt m_Course_put T.cl_Course (pv 0) (hr.mono (by decide)) strictP.pass (pa_cons (pv 1) (pa_cons (pv 5) (pa_cons (pe_op op_add (pe_ix ix_listH (pv 1) (pv 5) (fun _ _=>rfl)) (pe_ix ix_listH (pv 1) (pv 4) (fun _ _=>rfl))) pa_nil (se rfl)) (se rfl)) (se rfl)) (hst:=se rfl) (hpl:=na rfl)))
  (pss_one (ps_asg pe_int (pg_sub (pv 1) (pv 4) set_list)))))))))))),?_⟩
  obtain⟨dx,sp,mo,wh,tb,us,ft,h1,h2,h3,h4,h5,h6⟩:=id co
  have h1:=hid_sub _ _ h1
  have h2:=hid_sub _ _ h2
  have lp:∀{a b c d e:V},List.lookup (Str.ofString "put") [(Str.ofString "spots",a),(Str.ofString "mosts",b),(Str.ofString "first",c),(Str.ofString "whats",d),(Str.ofString "tables",e)]=none:=lk_no (by decide +kernel) (by decide +kernel) (by decide +kernel) (by decide +kernel) (by decide +kernel)
  cases d with
  | set n k=>
   obtain⟨p,x1,x2,x3,rfl,hp,r1,r2,r3⟩:=rep_t3.mp (show Rep (hid H l) (.tup _) dv from rd)
   rw[rep_str] at r1 r2
   rw[rep_int] at r3
   subst r1 r2 r3
   have hp:=hid_sub _ _ hp
   have sl:=spot_lt (cs:=g.cs) gd
   change tSeq _ _ _ [some (.ref c),some (.ref l),some (.ref p),some (.int v),none,none] H
   refine seq_gen (fun σ' H'=>H=H'∧σ'=[some (.ref c),some (.ref l),some (.ref p),some (.int v),some (.int ((spot g.cs n:Nat):Int)),none]) ?_ (fun N hN=>by simp_all only[tFld,hp];exact⟨_,_,_,h1,T.cl_Course,T.na_Course_spots,_,lk_sp,_,rfl,_,sp_get h2 gd,hN _ _ ⟨rfl,rfl⟩⟩)
   rintro _ _ ⟨rfl,rfl⟩
   refine if_yes (fun Y N k=>by simp_all only[hp];first | exact k | (rw[if_pos (by decide +kernel)];exact k)) ?_
   simp_all only[tFld,tMeth,spPut,hp]
   exact⟨_,_,h1,lp,_,rfl,_,co,_,hl,sl,ln,kk⟩
  | plus n k=>
   obtain⟨p,x1,x2,x3,rfl,hp,r1,r2,r3⟩:=rep_t3.mp (show Rep (hid H l) (.tup _) dv from rd)
   rw[rep_str] at r1 r2
   rw[rep_int] at r3
   subst r1 r2 r3
   have hp:=hid_sub _ _ hp
   have sl:=spot_lt (cs:=g.cs) gd
   change tSeq _ _ _ [some (.ref c),some (.ref l),some (.ref p),some (.int v),none,none] H
   refine seq_gen (fun σ' H'=>H=H'∧σ'=[some (.ref c),some (.ref l),some (.ref p),some (.int v),some (.int ((spot g.cs n:Nat):Int)),none]) ?_ (fun N hN=>by simp_all only[tFld,hp];exact⟨_,_,_,h1,T.cl_Course,T.na_Course_spots,_,lk_sp,_,rfl,_,sp_get h2 gd,hN _ _ ⟨rfl,rfl⟩⟩)
   rintro _ _ ⟨rfl,rfl⟩
   refine if_no (fun Y N k=>by simp_all only[hp];first | exact k | (rw[if_neg (by decide +kernel)];exact k)) (if_yes (fun Y N k=>by simp_all only[hp];first | exact k | (rw[if_pos (by decide +kernel)];exact k)) ?_)
   simp_all only[tFld,tMeth,spPut,hp]
   exact⟨_,_,h1,lp,_,hl,_,at_ints (by omega),_,rfl,_,rfl,_,co,_,hl,sl,ln,kk⟩
  | face n=>
   obtain⟨p,x1,x2,rfl,hp,r1,r2⟩:=rep_t2.mp (show Rep (hid H l) (.tup _) dv from rd)
   rw[rep_str] at r1 r2
   subst r1 r2
   have hp:=hid_sub _ _ hp
   have sl:=spot_lt (cs:=g.cs) gd
   change tSeq _ _ _ [some (.ref c),some (.ref l),some (.ref p),some (.int v),none,none] H
   refine seq_gen (fun σ' H'=>H=H'∧σ'=[some (.ref c),some (.ref l),some (.ref p),some (.int v),some (.int ((spot g.cs n:Nat):Int)),none]) ?_ (fun N hN=>by simp_all only[tFld,hp];exact⟨_,_,_,h1,T.cl_Course,T.na_Course_spots,_,lk_sp,_,rfl,_,sp_get h2 gd,hN _ _ ⟨rfl,rfl⟩⟩)
   rintro _ _ ⟨rfl,rfl⟩
   refine if_no (fun Y N k=>by simp_all only[hp];first | exact k | (rw[if_neg (by decide +kernel)];exact k)) (if_no (fun Y N k=>by simp_all only[hp];first | exact k | (rw[if_neg (by decide +kernel)];exact k)) (if_yes (fun Y N k=>by simp_all only[hp];first | exact k | (rw[if_pos (by decide +kernel)];exact k)) ?_))
   simp_all only[tFld,tMeth,spPut,hp]
   exact⟨_,_,h1,lp,_,hl,_,at_ints (by omega),_,rfl,_,rfl,_,co,_,hl,sl,ln,kk⟩
  | move n m=>
   obtain⟨p,x1,x2,x3,rfl,hp,r1,r2,r3⟩:=rep_t3.mp (show Rep (hid H l) (.tup _) dv from rd)
   rw[rep_str] at r1 r2 r3
   subst r1 r2 r3
   have hp:=hid_sub _ _ hp
   have sl:=spot_lt (cs:=g.cs) gd.1
   have sl2:=spot_lt (cs:=g.cs) gd.2
   change tSeq _ _ _ [some (.ref c),some (.ref l),some (.ref p),some (.int v),none,none] H
   refine seq_gen (fun σ' H'=>H=H'∧σ'=[some (.ref c),some (.ref l),some (.ref p),some (.int v),some (.int ((spot g.cs n:Nat):Int)),none]) ?_ (fun N hN=>by simp_all only[tFld,hp];exact⟨_,_,_,h1,T.cl_Course,T.na_Course_spots,_,lk_sp,_,rfl,_,sp_get h2 gd.1,hN _ _ ⟨rfl,rfl⟩⟩)
   rintro _ _ ⟨rfl,rfl⟩
   refine if_no (fun Y N k=>by simp_all only[hp];first | exact k | (rw[if_neg (by decide +kernel)];exact k)) (if_no (fun Y N k=>by simp_all only[hp];first | exact k | (rw[if_neg (by decide +kernel)];exact k)) (if_no (fun Y N k=>by simp_all only[hp];first | exact k | (rw[if_neg (by decide +kernel)];exact k)) ?_))
   simp_all only[tFld,tMeth,spPut,hp]
   refine⟨_,_,_,h1,T.cl_Course,T.na_Course_spots,_,lk_sp,_,rfl,_,sp_get h2 gd.2,_,_,h1,lp,_,_,rfl,hl,_,at_ints (by omega),_,hl,_,at_ints (by omega),_,rfl,_,rfl,_,rfl,_,co,_,hl,sl2,ln,_,upd_same,_,ixN_nat (by rw[List.length_map,putC_len];omega),?_⟩
   rw[upd_upd,←List.map_set]
   exact kk
theorem sc_Course_asked:FnScope ["self","name","counts","what"] ["self","name","counts"] (defScope (inClass (top 36) 3)):=⟨rfl,rfl,rfl,by decide +kernel,rfl,by decide +kernel,by decide +kernel⟩
theorem ok_ask (T:Txt K mg q_NoShare q_NoTable q_TooMany q_Course q_Finder):MtCal P w K mg base (CX1 P w) 1 q_Course "asked" ["self","name","counts"] (spAsk q_Course):=by
 refine T.dm_Course_asked.cal (fun _ _ _ _ _ _ us hl=>match us,hl with | [_,_,_],_=>rfl) fun f fd F=>F.okC sc_Course_asked (fun vs H Q E h=>?_) (fun cdv A outer s H vs Q E hr h=>?_)
 ·obtain⟨_,_,_,_,_,_,_,rfl,_⟩:=h;rfl
 ·obtain⟨c,nm,l,g,ns,fu,nm',rfl,co,gg,hl,ln,ak,kk⟩:=h
  have nd:=sc_Course_asked.nd
  refine⟨_,(pss_cons (ps_set (i:=3) nd rfl (Or.inl rfl) (pe_dget (hu_of hr) (pe_fld (pv 0) rfl) (pv 1) (fun _ _=>rfl)))
  (pss_cons (ps_while PassesOwn.never (pt_cmpR op_eq (pe_ix ix_tupH (pv 3) pe_int (fun _ _=>rfl)) pe_str (nomark _)) (pss_cons (ps_set (i:=1) nd rfl (Or.inl rfl) (pe_ifExp (pt_cmpR op_ge (pe_ix ix_listH (pv 2) (pe_dget (hu_of hr) (pe_fld (pv 0) rfl) (pe_ix ix_tupH (pv 3) pe_int (fun _ _=>rfl)) (fun _ _=>rfl)) (fun _ _=>rfl)) (pe_ix ix_tupH (pv 3) pe_int (fun _ _=>rfl)) (nomark _)) (pe_ix ix_tupH (pv 3) pe_int (fun _ _=>rfl)) (pe_ix ix_tupH (pv 3) pe_int (fun _ _=>rfl))))
  (pss_one (ps_set (i:=3) nd rfl (Or.inl rfl) (pe_dget (hu_of hr) (pe_fld (pv 0) rfl) (pv 1) (fun _ _=>rfl))))))
  (pss_one (ps_ret (pe_tupS (pa_cons (pv 1) (pa_cons (pv 2) pa_nil (se rfl)) (se rfl))))))),?_⟩
  obtain⟨dx,sp,mo,wh,tb,us,ft,h1,h2,h3,h4,h5,h6⟩:=id co
  simp_all only[tFld]
  cases fu with
  | zero=>cases ak
  | succ fu=>
   rcases h5.val (n:=nm) with ⟨x,u,lk,vl,rx⟩ | ⟨lk,vl⟩
   ·refine⟨_,_,_,h1,T.cl_Course,T.na_Course_whats,_,lk_wh,_,rfl,_,.inl ⟨_,Sum.inr nm,.inl h4,rfl,vl.symm⟩,?_⟩
    refine while_m (fun m σ H'=>H=H'∧∃nm x u,askd g ns (m+1) nm=some nm'∧look g.ps nm=some x∧Rep H (wtD x) u∧σ=[some (V.ref c),some (V.str nm),some (V.ref l),some u]) (m:=fu) ⟨rfl,nm,x,u,ak,lk,rx,rfl⟩ ?_
    clear ak lk rx vl
    rintro m σ H' ⟨rfl,nm,x,u,ak,lk,rx,rfl⟩
    have gx:=gg.wt _ (look_mem lk)
    rw[askd,lk] at ak
    have fin:∀{p:Addr} {xs:List V} {y:Str},u=.ref p→H p=some (.tup (.str y::xs))→y≠Str.ofString "ask"→nm=nm'→∃b:Bool,(∀Q:Bool→Hp→Prop,Q b H→tTest (tOp rEq (tOp rIxTH (tVar 3) (tC (V.int 0))) (tC (V.str (Str.ofString "ask")))) [some (V.ref c),some (V.str nm),some (V.ref l),some u] H Q)∧b=false:=by
     intro p xs y e hp ny _
     refine⟨false,fun Q q=>?_,rfl⟩
     subst e
     simp_all only[hp]
     rw[decide_eq_false ny]
     exact q
    cases x with
    | ask c' k a b=>
     obtain⟨p,x1,x2,x3,x4,x5,rfl,hp,r1,r2,r3,r4,r5⟩:=rep_t5.mp (show Rep H (.tup _) u from rx)
     rw[rep_str] at r1 r2 r4 r5
     rw[rep_int] at r3
     subst r1 r2 r3 r4 r5
     refine⟨true,fun Q q=>?_,?_⟩
     ·simp_all only[hp]
      rw[decide_eq_true trivial]
      exact q
     ·rw[if_pos rfl]
      have hs:=spot_lt (cs:=g.cs) gx
      have step:∀y,askd g ns m y=some nm'→∃m' x u,m'<m∧askd g ns (m'+1) y=some nm'∧look g.ps y=some x∧Rep H (wtD x) u∧DGet H wh (.str y) (some u):=by
       intro y hy
       cases m with
       | zero=>cases hy
       | succ m'=>
        rcases h5.val (n:=y) with ⟨x,u,lk',vl,rx'⟩ | ⟨lk',vl⟩
        ·exact⟨m',x,u,Nat.lt_succ_self _,hy,lk',rx',.inl ⟨_,Sum.inr y,.inl h4,rfl,vl.symm⟩⟩
        ·rw[askd,lk'] at hy
         cases hy
      have ak:(if k≤ns.getD (spot g.cs c') 0 then askd g ns m a else askd g ns m b)=some nm':=ak
      simp_all only[tFld,hp]
      refine⟨_,_,_,h1,T.cl_Course,T.na_Course_spots,_,lk_sp,_,rfl,_,sp_get h2 gx,_,_,rfl,hl,_,at_ints (by omega),_,rfl,ite2 (fun c1=>?_) (fun c1=>?_)⟩
      ·rw[if_pos c1] at ak
       obtain⟨m',x,u,l1,l2,l3,l4,l5⟩:=step a ak
       refine⟨_,rfl,_,_,_,h1,T.cl_Course,T.na_Course_whats,_,lk_wh,_,rfl,_,l5,?_⟩
       exact⟨m',l1,a,l2,x,l3,u,l4,rfl,rfl⟩
      ·rw[if_neg c1] at ak
       obtain⟨m',x,u,l1,l2,l3,l4,l5⟩:=step b ak
       refine⟨_,rfl,_,_,_,h1,T.cl_Course,T.na_Course_whats,_,lk_wh,_,rfl,_,l5,?_⟩
       exact⟨m',l1,b,l2,x,l3,u,l4,rfl,rfl⟩
    | fin t b=>
     obtain⟨p,x1,x2,rfl,hp,r1,r2⟩:=rep_t2.mp (show Rep H (.tup _) u from rx)
     rw[rep_str] at r1
     subst r1
     have e:nm=nm':=by injection ak
     obtain⟨b',k1,rfl⟩:=fin rfl hp (by decide +kernel) e
     refine⟨false,k1,?_⟩
     rw[if_neg (by decide)]
     simp_all only[]
     exact⟨by decide,fun p H2 s2 np e2=>kk p H2 s2 np (by rw[←e];exact e2)⟩
    | score c'=>
     obtain⟨p,x1,x2,rfl,hp,r1,r2⟩:=rep_t2.mp (show Rep H (.tup _) u from rx)
     rw[rep_str] at r1
     subst r1
     have e:nm=nm':=by injection ak
     obtain⟨b',k1,rfl⟩:=fin rfl hp (by decide +kernel) e
     refine⟨false,k1,?_⟩
     rw[if_neg (by decide)]
     simp_all only[]
     exact⟨by decide,fun p H2 s2 np e2=>kk p H2 s2 np (by rw[←e];exact e2)⟩
    | pick w' rs=>
     obtain⟨p,x1,x2,x3,rfl,hp,r1,r2,r3⟩:=rep_t3.mp (show Rep H (.tup _) u from rx)
     rw[rep_str] at r1
     subst r1
     have e:nm=nm':=by injection ak
     obtain⟨b',k1,rfl⟩:=fin rfl hp (by decide +kernel) e
     refine⟨false,k1,?_⟩
     rw[if_neg (by decide)]
     simp_all only[]
     exact⟨by decide,fun p H2 s2 np e2=>kk p H2 s2 np (by rw[←e];exact e2)⟩
    | thr pool t b rs=>
     obtain⟨p,x1,x2,x3,x4,rfl,hp,r1,r2,r3,r4⟩:=rep_t4.mp (show Rep H (.tup _) u from rx)
     rw[rep_str] at r1
     subst r1
     have e:nm=nm':=by injection ak
     obtain⟨b',k1,rfl⟩:=fin rfl hp (by decide +kernel) e
     refine⟨false,k1,?_⟩
     rw[if_neg (by decide)]
     simp_all only[]
     exact⟨by decide,fun p H2 s2 np e2=>kk p H2 s2 np (by rw[←e];exact e2)⟩
   ·rw[askd,lk] at ak
    cases ak
theorem sc_Course_holds:FnScope ["self","when","counts","number"] ["self","when","counts"] (defScope (inClass (top 36) 9)):=⟨rfl,rfl,rfl,by decide +kernel,rfl,by decide +kernel,by decide +kernel⟩
theorem ok_hol (T:Txt K mg q_NoShare q_NoTable q_TooMany q_Course q_Finder):MtCal P w K mg base (CX1 P w) 1 q_Course "holds" ["self","when","counts"] (spHol q_Course):=by
 refine T.dm_Course_holds.cal (fun _ _ _ _ _ _ us hl=>match us,hl with | [_,_,_],_=>rfl) fun f fd F=>F.okC sc_Course_holds (fun vs H Q E h=>?_) (fun cdv A outer s H vs Q E hr h=>?_)
 ·obtain⟨_,_,_,_,_,_,rfl,_⟩:=h;rfl
 ·obtain⟨c,v,l,g,ns,wh',rfl,co,rv,hl,ln,kk⟩:=h
  have nd:=sc_Course_holds.nd
  refine⟨_,(pss_cons (ps_if (pt_cmpR op_isN (pv 1) pe_non (nomark _)) (pss_one (ps_ret pe_bl))
   pss_nil)
  (pss_cons (ps_if (pt_cmp (pc_dnotin (hu_of hr) (pe_ix ix_tupH (pv 1) pe_int (fun _ _=>rfl)) (pe_fld (pv 0) rfl))) (pss_one (ps_ret pe_bl))
   pss_nil)
  (pss_cons (ps_set (i:=3) nd rfl (Or.inl rfl) (pe_ix ix_listH (pv 2) (pe_dget (hu_of hr) (pe_fld (pv 0) rfl) (pe_ix ix_tupH (pv 1) pe_int (fun _ _=>rfl)) (fun _ _=>rfl)) (fun _ _=>rfl)))
  (pss_one (ps_ret (pe_ifExp (pt_cmpR op_eq (pe_ix ix_tupH (pv 1) pe_int (fun _ _=>rfl)) pe_str (nomark _)) (pe_cmpR op_ge (pv 3) (pe_ix ix_tupH (pv 1) pe_int (fun _ _=>rfl)) (nomark _)) (pe_cmpR op_lt (pv 3) (pe_ix ix_tupH (pv 1) pe_int (fun _ _=>rfl)) (nomark _)))))))),?_⟩
  obtain⟨dx,sp,mo,wh,tb,us,ft,h1,h2,h3,h4,h5,h6⟩:=id co
  cases wh' with
  | none=>
   have e:v=.non:=by rw[whD,Rep] at rv;exact rv
   subst e
   simp_all only[]
   exact kk
  | some x=>
   obtain⟨a,b,k⟩:=x
   obtain⟨p,x1,x2,x3,rfl,hp,r1,r2,r3⟩:=rep_t3.mp (show Rep H (.tup _) v from rv)
   rw[rep_str] at r1 r2
   rw[rep_int] at r3
   subst r1 r2 r3
   simp_all only[tFld,hp]
   rw[if_neg (by intro z;cases z)]
   by_cases hn:a∈g.cs.map (·.1)
   ·have hs:=spot_lt hn
    refine⟨_,_,_,h1,T.cl_Course,T.na_Course_spots,_,lk_sp,_,rfl,_,sp_get h2 hn,?_⟩
    rw[if_neg (by simp)]
    refine⟨_,_,_,h1,T.cl_Course,T.na_Course_spots,_,lk_sp,_,rfl,_,sp_get h2 hn,_,_,rfl,hl,_,at_ints (by omega),?_⟩
    have kk:Q (.bl (if a∈g.cs.map (·.1) then (if b=Str.ofString "from" then decide (k≤ns.getD (spot g.cs a) 0) else decide (ns.getD (spot g.cs a) 0<k)) else false)) H:=kk
    rw[if_pos hn] at kk
    by_cases c1:b=Str.ofString "from"
    ·rw[if_pos c1] at kk ⊢
     exact⟨_,rfl,kk⟩
    ·rw[if_neg c1] at kk ⊢
     exact⟨_,rfl,kk⟩
   ·refine⟨_,_,_,h1,T.cl_Course,T.na_Course_spots,_,lk_sp,_,rfl,_,.inl ⟨_,Sum.inr a,.inl h2,rfl,rfl⟩,?_⟩
    rw[spK_none hn,if_pos (by rfl)]
    have kk:Q (.bl (if a∈g.cs.map (·.1) then (if b=Str.ofString "from" then decide (k≤ns.getD (spot g.cs a) 0) else decide (ns.getD (spot g.cs a) 0<k)) else false)) H:=kk
    rw[if_neg hn] at kk
    exact kk
theorem sc_Course_start:FnScope ["self"] ["self"] (defScope (inClass (top 36) 4)):=⟨rfl,rfl,rfl,by decide +kernel,rfl,by decide +kernel,by decide +kernel⟩
theorem ok_sta (T:Txt K mg q_NoShare q_NoTable q_TooMany q_Course q_Finder):MtCal P w K mg base (CX1 P w) 2 q_Course "start" ["self"] (spSta q_Course):=by
 have m_Course_asked:MtCal P w K mg base (CX1 P w) 1 q_Course "asked" ["self","name","counts"] (spAsk q_Course):=ok_ask T
 refine T.dm_Course_start.cal (fun _ _ _ _ _ _ us hl=>match us,hl with | [_],_=>rfl) fun f fd F=>F.okC sc_Course_start (fun vs H Q E h=>?_) (fun cdv A outer s H vs Q E hr h=>?_)
 ·obtain⟨_,_,_,_,_,rfl,_⟩:=h;rfl
 ·obtain⟨c,g,fu,ft,nm',rfl,co,gg,hf,ak,kk⟩:=h
  have nd:=sc_Course_start.nd
  refine⟨_,(pss_one (ps_ret (pe_mt m_Course_asked T.cl_Course (pv 0) (hr.mono (by decide)) strictP.pass (pa_cons (pe_fld (pv 0) rfl) (pa_cons (pe_op op_rep (pe_lst (pa_cons pe_int pa_nil (se rfl))) (pe_callB call_lenL (by rfl) T.z_len PySem.boot_len (pa_cons (pe_fld (pv 0) rfl) pa_nil (se rfl)) (he:=se rfl) (hpl:=na rfl))) pa_nil (se rfl)) (se rfl)) (hst:=se rfl) (hpl:=na rfl)))),?_⟩
  have sl:=sizeLine_eq
  have lc:=gg.lc
  obtain⟨dx,sp,mo,wh,tb,us,ft',h1,h2,h3,h4,h5,h6⟩:=id co
  rw[h6] at hf
  cases hf
  have lp:∀{a b c d e:V},List.lookup (Str.ofString "asked") [(Str.ofString "spots",a),(Str.ofString "mosts",b),(Str.ofString "first",c),(Str.ofString "whats",d),(Str.ofString "tables",e)]=none:=lk_no (by decide +kernel) (by decide +kernel) (by decide +kernel) (by decide +kernel) (by decide +kernel)
  simp_all only[tFld,tMeth,spAsk,rRep]
  refine⟨_,_,h1,lp,_,_,_,h1,T.cl_Course,T.na_Course_first,_,lk_fi,by decide,fun p np=>?_⟩
  have sp':=same_upd (o:=.lst [V.int 0]) np
  refine⟨_,_,_,sp' _ _ h1,T.cl_Course,T.na_Course_mosts,_,lk_mo,_,rfl,_,sp' _ _ h3,_,upd_same,by simp only[List.length_map];omega,by simp only[List.length_map];omega,by simp only[List.length_map,List.length_cons,List.length_nil];omega,fun l nl=>?_⟩
  have el:(List.replicate (((List.map V.int (List.map (fun x=>x.snd) g.cs)).length:Nat):Int).toNat [V.int 0]).flatten=List.map V.int (List.replicate g.cs.length 0):=by rw[flat_rep,Int.toNat_natCast,List.length_map,List.length_map]
  rw[el]
  have sl':=sp'.trans (same_upd (o:=.lst (List.map V.int (List.replicate g.cs.length 0))) nl)
  exact⟨_,rfl,g,co.mono sl',gg,_,upd_same,by simp,fu,nm',ak,fun a H' s' na e'=>kk a l H' (sl'.trans s') (none_of sl' na) (none_of sp' nl) e' (s' _ _ upd_same)⟩
theorem sc_Course_what_at:FnScope ["self","state"] ["self","state"] (defScope (inClass (top 36) 5)):=⟨rfl,rfl,rfl,by decide +kernel,rfl,by decide +kernel,by decide +kernel⟩
theorem ok_wat (T:Txt K mg q_NoShare q_NoTable q_TooMany q_Course q_Finder):MtCal P w K mg base (CX1 P w) 1 q_Course "what_at" ["self","state"] (spWat q_Course):=by
 refine T.dm_Course_what_at.cal (fun _ _ _ _ _ _ us hl=>match us,hl with | [_,_],_=>rfl) fun f fd F=>F.okC sc_Course_what_at (fun vs H Q E h=>?_) (fun cdv A outer s H vs Q E hr h=>?_)
 ·obtain⟨_,_,_,_,_,_,_,rfl,_⟩:=h;rfl
 ·obtain⟨c,v,H0,g,nm,ns,x,rfl,s0,co,⟨a,l,rfl,ha,hl⟩,lk,kk⟩:=h
  have nd:=sc_Course_what_at.nd
  refine⟨_,(pss_one (ps_ret (pe_dget (hu_of hr) (pe_fld (pv 0) rfl) (pe_ix ix_tupH (pv 1) pe_int (fun _ _=>rfl)) (fun _ _=>rfl)))),?_⟩
  obtain⟨dx,sp,mo,wh,tb,us,ft',h1,h2,h3,h4,h5,h6⟩:=id co
  simp_all only[tFld,ha]
  rcases h5.val (n:=nm) with ⟨x',u,lk',vl,rx⟩ | ⟨lk',vl⟩
  ·rw[lk] at lk'
   cases lk'
   exact⟨_,_,_,s0 _ _ h1,T.cl_Course,T.na_Course_whats,_,lk_wh,_,rfl,_,.inl ⟨_,Sum.inr nm,.inl (s0 _ _ h4),rfl,vl.symm⟩,kk u rx⟩
  ·rw[lk] at lk'
   cases lk'
theorem sc_Course_by_row:FnScope ["self","state","row","value","counts","deed"] ["self","state","row","value"] (defScope (inClass (top 36) 6)):=⟨rfl,rfl,rfl,by decide +kernel,rfl,by decide +kernel,by decide +kernel⟩
theorem ok_byr (T:Txt K mg q_NoShare q_NoTable q_TooMany q_Course q_Finder):MtCal P w K mg base (CX1 P w) 3 q_Course "by_row" ["self","state","row","value"] (spByR q_Course):=by
 have m_Course_do:MtCal P w K mg base (CX1 P w) 2 q_Course "do" ["self","counts","deed","value"] (spDo q_Course):=ok_do T
 have m_Course_asked:MtCal P w K mg base (CX1 P w) 1 q_Course "asked" ["self","name","counts"] (spAsk q_Course):=ok_ask T
 refine T.dm_Course_by_row.cal (fun _ _ _ _ _ _ us hl=>match us,hl with | [_,_,_,_],_=>rfl) fun f fd F=>F.okC sc_Course_by_row (fun vs H Q E h=>?_) (fun cdv A outer s H vs Q E hr h=>?_)
 ·obtain⟨_,_,_,_,_,_,_,_,_,_,_,_,_,rfl,_⟩:=h;rfl
 ·obtain⟨c,sv,rv,v,g,nm,ns,a,b,ds,to,fu,nm',rfl,co,gg,⟨sa,l,rfl,hsa,hl⟩,rr,gd,ld,ln,ak,kk⟩:=h
  have nd:=sc_Course_by_row.nd
  refine⟨_,(pss_cons (ps_set (i:=4) nd rfl (Or.inl rfl) (pe_callTy (call_list_ofK (K:=K)) (by rfl) T.z_list rfl (pa_cons (pe_ix ix_tupH (pv 1) pe_int (fun _ _=>rfl)) pa_nil (se rfl)) (he:=se rfl) (hpl:=na rfl)))
  (pss_cons (ps_for PassesOwn.never rfl (pi_listK (K:=K) (pe_ix ix_tupH (pv 2) pe_int (fun _ _=>rfl))) (pg_name (i:=5) nd rfl (Or.inl rfl)) (pss_one (ps_expr (pe_mt m_Course_do T.cl_Course (pv 0) (hr.mono (by decide)) strictP.pass (pa_cons (pv 4) (pa_cons (pv 5) (pa_cons (pv 3) pa_nil (se rfl)) (se rfl)) (se rfl)) (hst:=se rfl) (hpl:=na rfl)))))
  (pss_one (ps_ret (pe_mt m_Course_asked T.cl_Course (pv 0) (hr.mono (by decide)) strictP.pass (pa_cons (pe_ix ix_tupH (pv 2) pe_int (fun _ _=>rfl)) (pa_cons (pv 4) pa_nil (se rfl)) (se rfl)) (hst:=se rfl) (hpl:=na rfl)))))),?_⟩
  have sl:=sizeLine_eq
  have lc:=gg.lc
  obtain⟨dx,sp,mo,wh,tb,us,ft',h1,h2,h3,h4,h5,h6⟩:=id co
  obtain⟨rp,x1,x2,x3,x4,rfl,hrp,r1,r2,r3,r4⟩:=rep_t4.mp (show Rep H (.tup _) rv from rr)
  rw[rep_str] at r4
  subst r4
  obtain⟨dl,dvs,rfl,hdl,rdl⟩:=rep_lst.mp r3
  have lp:∀{a b c d e:V},List.lookup (Str.ofString "asked") [(Str.ofString "spots",a),(Str.ofString "mosts",b),(Str.ofString "first",c),(Str.ofString "whats",d),(Str.ofString "tables",e)]=none:=lk_no (by decide +kernel) (by decide +kernel) (by decide +kernel) (by decide +kernel) (by decide +kernel)
  have lp2:∀{a b c d e:V},List.lookup (Str.ofString "do") [(Str.ofString "spots",a),(Str.ofString "mosts",b),(Str.ofString "first",c),(Str.ofString "whats",d),(Str.ofString "tables",e)]=none:=lk_no (by decide +kernel) (by decide +kernel) (by decide +kernel) (by decide +kernel) (by decide +kernel)
  change tSeq _ _ _ [some (.ref c),some (.ref sa),some (.ref rp),some (.int v),none,none] H
  refine seq_gen (fun σ' H1=>∃m,H m=none∧Same H H1∧hid H1 m=H∧H1 m=some (.lst (List.map V.int ns))∧σ'=[some (.ref c),some (.ref sa),some (.ref rp),some (.int v),some (.ref m),none]) ?_ (fun N hN=>?_)
  case refine_2=>
   simp_all only[hsa]
   exact⟨_,.inl (SqL.of hl),fun m nm=>hN _ _ ⟨m,nm,same_upd nm,by rw[hid_hid',hid_none nm],upd_same,rfl⟩⟩
  rintro _ H1 ⟨m,nm0,s1,hh,hm,rfl⟩
  have dlen:=rdl.length
  rw[List.length_map] at dlen
  change tSeq _ _ _ [some (.ref c),some (.ref sa),some (.ref rp),some (.int v),some (.ref m),none] H1
  refine seq_gen (fun σ' H2=>hid H2 m=H∧H2 m=some (.lst (List.map V.int (ds.foldl (doD g.cs v) ns)))∧∃z,σ'=[some (.ref c),some (.ref sa),some (.ref rp),some (.int v),some (.ref m),z]) ?_ (fun N hN=>?_)
  case refine_2=>
   simp_all only[s1 _ _ hrp]
   refine⟨⟨_,SqL.of (s1 _ _ hdl)⟩,for_src (src_list (Ok:=fun H'=>hid H' m=H) (fun H' e=>SqL.of (hid_same e _ _ hdl))) (fun i σ H'=>hid H' m=H∧H' m=some (.lst (List.map V.int ((ds.take i).foldl (doD g.cs v) ns)))∧∃z,σ=[some (.ref c),some (.ref sa),some (.ref rp),some (.int v),some (.ref m),z]) ⟨hh,by rw[List.take_zero];exact hm,_,rfl⟩ (fun _ _ _ _ h=>h.1) ?_ ?_⟩
   ·rintro i x σ H3 H2 hi ⟨e2,hm2,z,rfl⟩ ⟨rfl,ex⟩
    obtain⟨dd,ed,rd⟩:=rdl.get ex
    rw[List.getElem?_map] at ed
    obtain⟨d,e0,rfl⟩:=Option.map_eq_some_iff.mp ed
    have s2:=hid_same e2
    simp_all only[tMeth,spDo]
    refine⟨_,_,s2 _ _ h1,lp2,g,by rw[e2];exact co,_,hm2,d,by rw[e2];exact rd,gd d (List.mem_of_getElem? e0),by rw[foldD_len];exact ln,by rw[hid_hid'];exact e2,?_,_,rfl⟩
    rw[upd_same,List.take_add_one,e0,Option.toList_some,List.foldl_append]
    rfl
   ·rintro σ H2 ⟨e2,hm2,z,rfl⟩
    rw[←dlen,List.take_of_length_le (Nat.le_refl _)] at hm2
    exact hN _ _ ⟨e2,hm2,_,rfl⟩
  rintro _ H2 ⟨e2,hm2,z,rfl⟩
  have s2:=hid_same e2
  have lns:(ds.foldl (doD g.cs v) ns).length=g.cs.length:=by rw[foldD_len];exact ln
  simp_all only[tMeth,spAsk,s2 _ _ hrp]
  exact⟨_,_,s2 _ _ h1,lp,_,rfl,_,rfl,g,co.mono s2,gg,_,hm2,lns,fu,nm',ak,fun a H' s' na e'=>kk a m H' (s2.trans s') (none_of s2 na) nm0 e' (s' _ _ hm2)⟩
theorem sc_Course_open_rows:FnScope ["self","state","what"] ["self","state"] (defScope (inClass (top 36) 10)):=⟨rfl,rfl,rfl,by decide +kernel,rfl,by decide +kernel,by decide +kernel⟩
theorem ok_opn (T:Txt K mg q_NoShare q_NoTable q_TooMany q_Course q_Finder):MtCal P w K mg base (CX1 P w) 2 q_Course "open_rows" ["self","state"] (spOpn q_Course):=by
 have m_Course_what_at:MtCal P w K mg base (CX1 P w) 1 q_Course "what_at" ["self","state"] (spWat q_Course):=ok_wat T
 have m_Course_holds:MtCal P w K mg base (CX1 P w) 1 q_Course "holds" ["self","when","counts"] (spHol q_Course):=ok_hol T
 refine T.dm_Course_open_rows.cal (fun _ _ _ _ _ _ us hl=>match us,hl with | [_,_],_=>rfl) fun f fd F=>F.okC sc_Course_open_rows (fun vs H Q E h=>?_) (fun cdv A outer s H vs Q E hr h=>?_)
 ·obtain⟨_,_,_,_,_,_,_,rfl,_⟩:=h;rfl
 ·obtain⟨c,v,H0,g,nm,ns,x,rfl,s0,co0,gg,st,ln,lk,kk⟩:=h
  have co:=co0.mono s0
  have nd:=sc_Course_open_rows.nd
  refine⟨_,(pss_cons (ps_set (i:=2) nd rfl (Or.inl rfl) (pe_mt m_Course_what_at T.cl_Course (pv 0) (hr.mono (by decide)) strictP.pass (pa_cons (pv 1) pa_nil (se rfl)) (hst:=se rfl) (hpl:=na rfl)))
  (pss_cons (ps_if (pt_cmpR op_ne (pe_ix ix_tupH (pv 2) pe_int (fun _ _=>rfl)) pe_str (nomark _)) (pss_one (ps_ret (pe_lst pa_nil)))
   pss_nil)
  (pss_one (ps_ret (pe_comp rfl (N:=["self","state","what"]) (so:=defScope (inClass (top 36) 10)) (N':=["row","self","state"]) (k:=1) (fr:=[0,1]) rfl rfl ⟨rfl,by decide +kernel,by decide +kernel,by decide +kernel,rfl,by decide +kernel,by decide +kernel⟩ (pi_listK (K:=K) (pe_ix ix_tupH (pv 2) pe_int (fun _ _=>rfl))) (fun _ _ _ _ _=>(pg_name (i:=0) (show(["row","self","state"]:List Str).Nodup by decide +kernel) rfl (Or.inl rfl))) (fun _ _ _ _ _=>(pts_one (pt_val (pe_mt m_Course_holds T.cl_Course (pv 1) (hr.mono (by decide)) strictP.pass (pa_cons (pe_ix ix_tupH (pv 0) pe_int (fun _ _=>rfl)) (pa_cons (pe_ix ix_tupH (pv 2) pe_int (fun _ _=>rfl)) pa_nil (se rfl)) (se rfl)) (hst:=se rfl) (hpl:=na rfl)))))
   (fun _ _ _ _ _=>(pv 0))))))),?_⟩
  have sl:=sizeLine_eq
  obtain⟨dx,sp,mo,wh,tb,us,ft',h1,h2,h3,h4,h5,h6⟩:=id co
  obtain⟨sa,l,rfl,hsa,hl⟩:=id st
  have lp:∀{a b c d e:V},List.lookup (Str.ofString "what_at") [(Str.ofString "spots",a),(Str.ofString "mosts",b),(Str.ofString "first",c),(Str.ofString "whats",d),(Str.ofString "tables",e)]=none:=lk_no (by decide +kernel) (by decide +kernel) (by decide +kernel) (by decide +kernel) (by decide +kernel)
  have lp2:∀{a b c d e:V},List.lookup (Str.ofString "holds") [(Str.ofString "spots",a),(Str.ofString "mosts",b),(Str.ofString "first",c),(Str.ofString "whats",d),(Str.ofString "tables",e)]=none:=lk_no (by decide +kernel) (by decide +kernel) (by decide +kernel) (by decide +kernel) (by decide +kernel)
  have gx:=gg.wt _ (look_mem lk)
  change tSeq _ _ _ [some (.ref c),some (.ref sa),none] H
  refine seq_gen (fun σ' H1=>H=H1∧∃u,Rep H0 (wtD x) u∧σ'=[some (.ref c),some (.ref sa),some u]) ?_ (fun N hN=>?_)
  case refine_2=>
   simp_all only[tMeth,spWat]
   exact⟨_,_,h1,lp,H0,s0,g,co0,nm,ns,st,x,lk,fun u ru=>hN _ _ ⟨rfl,u,ru,rfl⟩⟩
  rintro _ _ ⟨rfl,u,ru,rfl⟩
  cases x with
  | pick w' rs=>
   obtain⟨p,x1,x2,x3,rfl,hp,r1,r2,r3⟩:=rep_t3.mp (show Rep H0 (.tup _) u from ru)
   rw[rep_str] at r1
   subst r1
   obtain⟨rl,xs,rfl,hrl,rxs⟩:=rep_lst.mp r3
   have len:=rxs.length
   rw[List.length_map,List.length_map] at len
   obtain⟨g1,g2⟩:=gx
   have zl:(xs.zip rs).length=xs.length:=by rw[List.length_zip];omega
   simp_all only[s0 _ _ hp]
   refine⟨⟨_,SqL.of (s0 _ _ hrl)⟩,?_⟩
   have S:Src (Itl K rl) (Same H) xs.length _:=src_list (fun H' s'=>SqL.of (s' _ _ (s0 _ _ hrl)))
   rw[←zl] at S
   refine comp_vals (xs.zip rs) (fun x=>if holdsW g.cs ns x.2.wh=true then some x.1 else none) S (fun _ _ _ _ h=>h.1) (by omega) ?_ ?_
   ·rintro i ⟨x,r⟩ y exr ⟨_,ey⟩ Y N y1 y2
    obtain⟨e1,e2⟩:=List.getElem?_zip_eq_some.mp exr
    rw[e1] at ey
    cases ey
    obtain⟨r',p',a',b',c',d',er,rfl,hp',rb,_⟩:=rw4_get rxs e1
    rw[e2] at er
    cases er
    simp_all only[tMeth,spHol,s0 _ _ hp',hsa]
    exact⟨_,_,h1,lp2,g,co,ns,_,rb.mono s0,hl,ln,ite2 (fun c=>y1 _ (if_pos c)) (fun c=>y2 (if_neg c))⟩
   ·intro D n1 n2
    exact kk D _ _ (same_upd n2) n2 upd_same (rep_filter rxs)
  | ask _ _ _ _=>
   obtain⟨p,x1,x2,x3,x4,x5,rfl,hp,r1,r2,r3,r4,r5⟩:=rep_t5.mp (show Rep H0 (.tup _) u from ru)
   rw[rep_str] at r1
   subst r1
   simp_all only[s0 _ _ hp]
   rw[if_pos (by decide +kernel)]
   exact⟨Nat.zero_le _,fun D nD=>kk D _ _ (same_upd nD) nD upd_same (repL_nil.mpr rfl)⟩
  | fin _ _=>
   obtain⟨p,x1,x2,rfl,hp,r1,r2⟩:=rep_t2.mp (show Rep H0 (.tup _) u from ru)
   rw[rep_str] at r1
   subst r1
   simp_all only[s0 _ _ hp]
   rw[if_pos (by decide +kernel)]
   exact⟨Nat.zero_le _,fun D nD=>kk D _ _ (same_upd nD) nD upd_same (repL_nil.mpr rfl)⟩
  | score _=>
   obtain⟨p,x1,x2,rfl,hp,r1,r2⟩:=rep_t2.mp (show Rep H0 (.tup _) u from ru)
   rw[rep_str] at r1
   subst r1
   simp_all only[s0 _ _ hp]
   rw[if_pos (by decide +kernel)]
   exact⟨Nat.zero_le _,fun D nD=>kk D _ _ (same_upd nD) nD upd_same (repL_nil.mpr rfl)⟩
  | thr _ _ _ _=>
   obtain⟨p,x1,x2,x3,x4,rfl,hp,r1,r2,r3,r4⟩:=rep_t4.mp (show Rep H0 (.tup _) u from ru)
   rw[rep_str] at r1
   subst r1
   simp_all only[s0 _ _ hp]
   rw[if_pos (by decide +kernel)]
   exact⟨Nat.zero_le _,fun D nD=>kk D _ _ (same_upd nD) nD upd_same (repL_nil.mpr rfl)⟩
theorem sc_Course_words_at:FnScope ["self","state"] ["self","state"] (defScope (inClass (top 36) 11)):=⟨rfl,rfl,rfl,by decide +kernel,rfl,by decide +kernel,by decide +kernel⟩
theorem ok_wds (T:Txt K mg q_NoShare q_NoTable q_TooMany q_Course q_Finder):MtCal P w K mg base (CX1 P w) 3 q_Course "words_at" ["self","state"] (spWds q_Course):=by
 have m_Course_open_rows:MtCal P w K mg base (CX1 P w) 2 q_Course "open_rows" ["self","state"] (spOpn q_Course):=ok_opn T
 refine T.dm_Course_words_at.cal (fun _ _ _ _ _ _ us hl=>match us,hl with | [_,_],_=>rfl) fun f fd F=>F.okC sc_Course_words_at (fun vs H Q E h=>?_) (fun cdv A outer s H vs Q E hr h=>?_)
 ·obtain⟨_,_,_,_,_,_,rfl,_⟩:=h;rfl
 ·obtain⟨c,v,g,nm,ns,x,rfl,co,gg,st,ln,lk,kk⟩:=h
  have nd:=sc_Course_words_at.nd
  refine⟨_,(pss_one (ps_ret (pe_comp rfl (N:=["self","state"]) (so:=defScope (inClass (top 36) 11)) (N':=["row"]) (k:=1) (fr:=[]) rfl rfl ⟨rfl,by decide +kernel,by decide +kernel,by decide +kernel,rfl,by decide +kernel,by decide +kernel⟩ (pi_listK (K:=K) (pe_mt m_Course_open_rows T.cl_Course (pv 0) (hr.mono (by decide)) strictP.pass (pa_cons (pv 1) pa_nil (se rfl)) (hst:=se rfl) (hpl:=na rfl))) (fun _ _ _ _ _=>(pg_name (i:=0) (show(["row"]:List Str).Nodup by decide +kernel) rfl (Or.inl rfl))) (fun _ _ _ _ _=>pts_nil)
   (fun _ _ _ _ _=>(pe_ix ix_tupH (pv 0) pe_int (fun _ _=>rfl)))))),?_⟩
  have sl:=sizeLine_eq
  obtain⟨dx,sp,mo,wh,tb,us,ft',h1,h2,h3,h4,h5,h6⟩:=id co
  have lp:∀{a b c d e:V},List.lookup (Str.ofString "open_rows") [(Str.ofString "spots",a),(Str.ofString "mosts",b),(Str.ofString "first",c),(Str.ofString "whats",d),(Str.ofString "tables",e)]=none:=lk_no (by decide +kernel) (by decide +kernel) (by decide +kernel) (by decide +kernel) (by decide +kernel)
  have gx:=gg.wt _ (look_mem lk)
  have few:(openR g.cs ns x).length≤100:=by
   cases x with
   | pick w' rs=>exact Nat.le_trans (List.length_filter_le _ _) gx.1
   | _=>exact Nat.zero_le _
  simp_all only[tMeth,spOpn]
  refine⟨_,_,h1,lp,H,Same.refl _,g,co,gg,nm,ns,st,ln,x,lk,fun rl xs H1 s1 n1 hrl rxs0=>?_⟩
  generalize openR g.cs ns x=rs at *
  have rxs:=rxs0.mono s1
  have len:=rxs.length
  rw[List.length_map,List.length_map] at len
  have zl:(xs.zip rs).length=xs.length:=by rw[List.length_zip];omega
  refine⟨⟨_,SqL.of hrl⟩,?_⟩
  have S:Src (Itl K rl) (Same H1) xs.length _:=src_list (fun H' s'=>SqL.of (s' _ _ hrl))
  rw[←zl] at S
  refine comp_vals (xs.zip rs) (fun x=>some (.str x.2.word)) S (fun _ _ _ _ h=>h.1) (by omega) ?_ ?_
  ·rintro i ⟨x,r⟩ y exr ⟨_,ey⟩ Y N y1 y2
   obtain⟨e1,e2⟩:=List.getElem?_zip_eq_some.mp exr
   rw[e1] at ey
   cases ey
   obtain⟨r',p',a',b',c',d',er,rfl,hp',rb,_⟩:=rw4_get rxs e1
   rw[e2] at er
   cases er
   simp_all only[tYes,hp']
   exact y1 _ rfl
  ·intro D n1' n2
   have e:(xs.zip rs).filterMap (fun x=>some (V.str x.2.word))=rs.map fun r=>V.str r.word:=by
    rw[fm_some]
    have:(xs.zip rs).map (fun x=>V.str x.2.word)=((xs.zip rs).map Prod.snd).map fun r=>V.str r.word:=by rw[List.map_map];rfl
    rw[this,List.map_snd_zip (by omega)]
   rw[e]
   exact kk D _ (s1.trans (same_upd n2)) (none_of s1 n2) (rep_lst.mpr ⟨D,_,rfl,upd_same,(rep_words rxs).mono (same_upd n2)⟩)
theorem sc_Course_end_worth:FnScope ["self","state","what"] ["self","state"] (defScope (inClass (top 36) 12)):=⟨rfl,rfl,rfl,by decide +kernel,rfl,by decide +kernel,by decide +kernel⟩
theorem ok_end (T:Txt K mg q_NoShare q_NoTable q_TooMany q_Course q_Finder):MtCal P w K mg base (CX1 P w) 2 q_Course "end_worth" ["self","state"] (spEnd q_Course):=by
 have m_Course_what_at:MtCal P w K mg base (CX1 P w) 1 q_Course "what_at" ["self","state"] (spWat q_Course):=ok_wat T
 refine T.dm_Course_end_worth.cal (fun _ _ _ _ _ _ us hl=>match us,hl with | [_,_],_=>rfl) fun f fd F=>F.okC sc_Course_end_worth (fun vs H Q E h=>?_) (fun cdv A outer s H vs Q E hr h=>?_)
 ·obtain⟨_,_,_,_,_,_,_,_,rfl,_⟩:=h;rfl
 ·obtain⟨c,v,g,nm,ns,x,t,b,rfl,co,gg,st,ln,lk,ew,kk⟩:=h
  have nd:=sc_Course_end_worth.nd
  refine⟨_,(pss_cons (ps_set (i:=2) nd rfl (Or.inl rfl) (pe_mt m_Course_what_at T.cl_Course (pv 0) (hr.mono (by decide)) strictP.pass (pa_cons (pv 1) pa_nil (se rfl)) (hst:=se rfl) (hpl:=na rfl)))
  (pss_one (ps_ret (pe_ifExp (pt_cmpR op_eq (pe_ix ix_tupH (pv 2) pe_int (fun _ _=>rfl)) pe_str (nomark _)) (pe_ix ix_tupH (pv 2) pe_int (fun _ _=>rfl)) (pe_tupS (pa_cons (pe_ix ix_listH (pe_ix ix_tupH (pv 1) pe_int (fun _ _=>rfl)) (pe_dget (hu_of hr) (pe_fld (pv 0) rfl) (pe_ix ix_tupH (pv 2) pe_int (fun _ _=>rfl)) (fun _ _=>rfl)) (fun _ _=>rfl)) (pa_cons pe_int pa_nil (se rfl)) (se rfl))))))),?_⟩
  have sl:=sizeLine_eq
  obtain⟨dx,sp,mo,wh,tb,us,ft',h1,h2,h3,h4,h5,h6⟩:=id co
  obtain⟨sa,l,rfl,hsa,hl⟩:=id st
  have lp:∀{a b c d e:V},List.lookup (Str.ofString "what_at") [(Str.ofString "spots",a),(Str.ofString "mosts",b),(Str.ofString "first",c),(Str.ofString "whats",d),(Str.ofString "tables",e)]=none:=lk_no (by decide +kernel) (by decide +kernel) (by decide +kernel) (by decide +kernel) (by decide +kernel)
  have gx:=gg.wt _ (look_mem lk)
  change tSeq _ _ _ [some (.ref c),some (.ref sa),none] H
  refine seq_gen (fun σ' H1=>H=H1∧∃u,Rep H (wtD x) u∧σ'=[some (.ref c),some (.ref sa),some u]) ?_ (fun N hN=>?_)
  case refine_2=>
   simp_all only[tMeth,spWat]
   exact⟨_,_,h1,lp,H,Same.refl _,g,co,nm,ns,st,x,lk,fun u ru=>hN _ _ ⟨rfl,u,ru,rfl⟩⟩
  rintro _ _ ⟨rfl,u,ru,rfl⟩
  cases x with
  | fin t' b'=>
   obtain⟨p,x1,x2,rfl,hp,r1,r2⟩:=rep_t2.mp (show Rep H (.tup _) u from ru)
   rw[rep_str] at r1
   subst r1
   cases ew
   simp_all only[tFld,hp]
   exact kk _ _ (Same.refl _) r2
  | score c'=>
   obtain⟨p,x1,x2,rfl,hp,r1,r2⟩:=rep_t2.mp (show Rep H (.tup _) u from ru)
   rw[rep_str] at r1 r2
   subst r1 r2
   cases ew
   have hs:=spot_lt (cs:=g.cs) gx
   simp_all only[tFld,hp,hsa]
   rw[if_neg (by decide +kernel)]
   refine⟨_,_,_,h1,T.cl_Course,T.na_Course_spots,_,lk_sp,_,rfl,_,sp_get h2 gx,_,_,rfl,hl,_,at_ints (by omega),by decide,fun p' H2 s2 np e2=>kk _ _ s2 (rep_t2.mpr ⟨p',_,_,rfl,e2,rep_int.mpr rfl,rep_int.mpr rfl⟩)⟩
  | ask _ _ _ _=>cases ew
  | pick _ _=>cases ew
  | thr _ _ _ _=>cases ew
theorem sc_Finder___init__:FnScope ["self"] ["self"] (defScope (inClass (top 37) 0)):=⟨rfl,rfl,rfl,by decide +kernel,rfl,by decide +kernel,by decide +kernel⟩
theorem ok_fi (T:Txt K mg q_NoShare q_NoTable q_TooMany q_Course q_Finder):MkCal P w K mg base (CX1 P w) 1 "Finder" q_Finder ["self"] (spFi P w q_Finder):=by
 refine T.di_Finder.cal (fun _ _ _ _ _ _ us hl=>match us,hl with | [_],_=>rfl) fun f fd F=>F.okC sc_Finder___init__ (fun vs H Q E h=>?_) (fun cdv A outer s H vs Q E hr h=>?_)
 ·obtain⟨_,_,rfl,_⟩:=h;rfl
 ·obtain⟨x,dx,rfl,hx,kk⟩:=h
  have nd:=sc_Finder___init__.nd
  refine⟨_,(pss_cons (ps_fld (pv 0) (pe_lst pa_nil) rfl)
  (pss_one (ps_fld (pv 0) (pe_dnewN (P:=P) (w:=w)) rfl))),?_⟩
  have sl:=sizeLine_eq
  simp_all only[sFld,tDNewN]
  refine⟨Nat.zero_le _,fun l nl=>?_⟩
  have lx:x≠l:=fun z=>by rw[←z,hx] at nl;cases nl
  have hx1:upd H l (.lst []) x=some (.ins q_Finder dx []):=by rw[upd_ne lx];exact hx
  refine⟨_,_,_,hx1,T.cl_Finder,T.na_Finder_states,by decide,fun n nn=>?_⟩
  have e1:putF (Str.ofString "states") (V.ref l) []=[(Str.ofString "states",V.ref l)]:=rfl
  have e2:putF (Str.ofString "numbers") (V.ref n) [(Str.ofString "states",V.ref l)]=[(Str.ofString "states",V.ref l),(Str.ofString "numbers",V.ref n)]:=by
   show(if Str.ofString "states"=Str.ofString "numbers" then _ else _)=_
   rw[if_neg (by decide +kernel)]
   rfl
  rw[e1] at nn ⊢
  have xn:n≠x:=fun z=>by rw[z,upd_same] at nn;cases nn
  rw[upd_ne xn] at nn
  have nl':n≠l:=fun z=>by rw[z,upd_same] at nn;cases nn
  rw[upd_ne nl'] at nn
  refine⟨_,_,_,by rw[upd_ne (Ne.symm xn),upd_same],T.cl_Finder,T.na_Finder_numbers,by show(1:Nat)<1000;decide,?_⟩
  rw[e2]
  refine kk l n _ nl nn (fun a o ax ha=>?_) fun Fr=>⟨dx,[],[],?_,Ne.symm nl',?_,trivial,?_,(fun p hp=>nomatch hp),rfl,Nat.zero_le _⟩
  ·have al:a≠l:=fun z=>by rw[z,nl] at ha;cases ha
   have an:a≠n:=fun z=>by rw[z,nn] at ha;cases ha
   rw[hid2_of al an,upd_ne ax,upd_ne an,upd_ne ax,upd_ne al]
   exact ha
  ·rw[hid2_of lx (Ne.symm xn),upd_same]
  ·rw[upd_ne (Ne.symm lx),upd_ne (Ne.symm nl'),upd_ne (Ne.symm lx),upd_same]
  ·rw[upd_ne xn,upd_same]
theorem sc_Finder_number_of:FnScope ["self","state","key"] ["self","state"] (defScope (inClass (top 37) 1)):=⟨rfl,rfl,rfl,by decide +kernel,rfl,by decide +kernel,by decide +kernel⟩
theorem ok_num (T:Txt K mg q_NoShare q_NoTable q_TooMany q_Course q_Finder):MtCal P w K mg base (CX1 P w) 1 q_Finder "number_of" ["self","state"] (spNum P w q_Finder):=by
 refine T.dm_Finder_number_of.cal (fun _ _ _ _ _ _ us hl=>match us,hl with | [_,_],_=>rfl) fun f fd F=>F.okC sc_Finder_number_of (fun vs H Q E h=>?_) (fun cdv A outer s H vs Q E hr h=>?_)
 ·obtain⟨_,_,_,_,_,_,_,rfl,_⟩:=h;rfl
 ·obtain⟨fa,sv,Fr,l,n,ss,st,rfl,⟨dx,xs,ks,hf,ln,hl,al,hn,an,nk,l120⟩,sth,hs,l100,fit,kk⟩:=h
  have nd:=sc_Finder_number_of.nd
  refine⟨_,(pss_cons (ps_set (i:=2) nd rfl (Or.inl rfl) (pe_tupS (pa_cons (pe_ix ix_tupH (pv 1) pe_int (fun _ _=>rfl)) (pa_cons (pe_callTy (call_tuple_ofK (K:=K)) (by rfl) T.z_tuple rfl (pa_cons (pe_ix ix_tupH (pv 1) pe_int (fun _ _=>rfl)) pa_nil (se rfl)) (he:=se rfl) (hpl:=na rfl)) pa_nil (se rfl)) (se rfl))))
  (pss_cons (ps_if (pt_cmp (pc_nnotin (P:=P) (w:=w) hr.units (pv 2) (pe_fld (pv 0) rfl))) (pss_cons (ps_if (pt_cmpR op_eq (pe_callB call_lenL (by rfl) T.z_len PySem.boot_len (pa_cons (pe_fld (pv 0) rfl) pa_nil (se rfl)) (he:=se rfl) (hpl:=na rfl)) (pe_globI rfl T.c_MOST_STATES) (nomark _)) (pss_one ps_never)
   pss_nil)
  (pss_cons (ps_nput (P:=P) (w:=w) hr.units (pe_fld (pv 0) rfl) (pv 2) (pe_callB call_lenL (by rfl) T.z_len PySem.boot_len (pa_cons (pe_fld (pv 0) rfl) pa_nil (se rfl)) (he:=se rfl) (hpl:=na rfl)) rfl)
  (pss_one (ps_expr (pe_bm PySem.F.plainAttrs_list PySem.F.slot_list_append PySem.F.type_list_append mt_append.r (pe_fld (pv 0) rfl) (pa_cons (pv 1) pa_nil (se rfl)))))))
   pss_nil)
  (pss_one (ps_ret (pe_nget (P:=P) (w:=w) hr.units (pe_fld (pv 0) rfl) (pv 2) (fun _ _=>rfl)))))),?_⟩
  have sl:=sizeLine_eq
  obtain⟨sa,cl,rfl,hsa,hcl,hfr⟩:=id sth
  have hf':=hid2_sub _ _ hf
  have hsa':=hid2_sub _ _ hsa
  have hcl':=hid2_sub _ _ hcl
  have klen:=nk.len
  have xlen:=al.length
  change tSeq _ _ _ [some (.ref fa),some (.ref sa),none] H
  refine seq_gen (fun σ' H1=>Same H H1∧∃b,KeyN (hid2 H1 l n) (keyD st) b∧σ'=[some (.ref fa),some (.ref sa),some (.ref b)]) ?_ (fun N hN=>?_)
  case refine_2=>
   simp_all only[hsa']
   refine⟨_,.inl ⟨SqL.of hcl',fun t nt=>⟨by decide,fun p H2 s2 np e2=>hN _ _ ⟨(same_upd nt).trans s2,p,?_,rfl⟩⟩⟩⟩
   have tl:t≠l:=fun z=>by rw[z,hl] at nt;cases nt
   have tn:t≠n:=fun z=>by rw[z,hn] at nt;cases nt
   have pl:p≠l:=fun z=>by rw[z,same_upd nt _ _ hl] at np;cases np
   have pn:p≠n:=fun z=>by rw[z,same_upd nt _ _ hn] at np;cases np
   exact key_ok hs (by rw[hid2_of pl pn];exact e2) (by rw[hid2_of tl tn];exact s2 _ _ upd_same)
  rintro _ H1 ⟨s1,b,kb,rfl⟩
  have lkn:=nk.look (s:=st)
  rw[Nat.zero_add] at lkn
  have al1:=al.imp fun _ _ k=>StF.mono (hid2_mono (l:=l) (n:=n) s1) k
  have an1:=an.mono (hid2_mono (l:=l) (n:=n) s1)
  change tSeq _ _ _ [some (.ref fa),some (.ref sa),some (.ref b)] H1
  refine seq_gen (fun σ' H2=>Same (hid2 H l n) (hid2 H2 l n)∧FiH P w q_Finder Fr H2 fa l n (addS ss st)∧KeyN (hid2 H2 l n) (keyD st) b∧σ'=[some (.ref fa),some (.ref sa),some (.ref b)]) ?_ (fun N hN=>?_)
  case refine_2=>
   have mst:=T.c_MOST_STATES
   simp_all only[tFld,tNNotIn,sNPut,rAppend]
   refine⟨_,_,_,s1 _ _ hf',T.cl_Finder,T.na_Finder_numbers,_,lk_nu,_,⟨n,b,keyD st,ks,rfl,rfl,s1 _ _ hn,an1.mono hid2_sub,kb.mono hid2_sub,rfl⟩,?_⟩
   rw[lkn]
   by_cases hm:st∈ss
   ·rw[if_pos hm,if_neg (by simp)]
    refine hN _ _ ⟨hid2_mono s1,?_,kb,rfl⟩
    have e:addS ss st=ss:=by unfold addS;rw[if_pos hm]
    rw[e]
    exact FiH.mono s1 ⟨dx,xs,ks,hf,ln,hl,al,hn,an,nk,l120⟩
   ·have lkn0:lookN ks (toP (keyD st))=none:=by rw[lkn,if_neg hm]
    have e:addS ss st=ss++ [st]:=by unfold addS;rw[if_neg hm]
    rw[if_neg hm,if_pos (by rfl)]
    have lt:=fit.resolve_left hm
    refine⟨_,_,_,s1 _ _ hf',T.cl_Finder,T.na_Finder_states,_,lk_st,_,rfl,_,s1 _ _ hl,?_⟩
    rw[if_neg (by omega)]
    refine⟨_,_,_,s1 _ _ hf',T.cl_Finder,T.na_Finder_states,_,lk_st,_,rfl,_,s1 _ _ hl,?_⟩
    have hl2:∀o,upd H1 n o l=some (.lst xs):=fun o=>by rw[upd_ne ln];exact s1 _ _ hl
    have ty:∀o,tyV K "list" (.ref l) (upd H1 n o):=fun o=>.inl ⟨rfl,_,SqL.of (hl2 o)⟩
    refine⟨_,_,_,s1 _ _ hf',T.cl_Finder,T.na_Finder_numbers,_,lk_nu,_,rfl,keyD st,ks,s1 _ _ hn,an1.mono hid2_sub,kb.mono hid2_sub,lkn0,by omega,_,_,_,by rw[upd_ne (hid2_out hf).2];exact s1 _ _ hf',T.cl_Finder,T.na_Finder_states,_,lk_st,ty _,_,rfl,_,hl2 _,by omega,hN _ _ ?_⟩
    have eh:hid2 (upd (upd H1 n (dnO P w n (ks++ [(keyD st,b,((xs.length:Nat):Int))]))) l (.lst (xs++ [V.ref sa]))) l n=hid2 H1 l n:=by rw[hid2_updl,hid2_updn ln]
    refine⟨by rw[eh];exact hid2_mono s1,?_,by rw[eh];exact kb,rfl⟩
    rw[e]
    refine⟨dx,_,_,by rw[eh];exact hid2_mono s1 _ _ hf,ln,upd_same,by rw[eh];exact al1.append (.one (sth.mono (hid2_mono s1))),by rw[upd_ne (Ne.symm ln),upd_same],?_,?_,by rw[List.length_append];simp only[List.length_cons,List.length_nil];omega⟩
    ·rw[eh]
     intro p hp
     rcases List.mem_append.mp hp with h | h
     ·exact an1 p h
     ·rw[List.mem_singleton.mp h];exact kb
    ·have:=nk.snoc (s:=st) (b:=b)
     rw[Nat.zero_add,←xlen] at this
     exact this
  rintro _ H2 ⟨s2,fi,kb2,rfl⟩
  obtain⟨dx2,xs2,ks2,g1,g2,g3,g4,g5,g6,g7,g8⟩:=id fi
  simp_all only[tFld,tNGet]
  refine⟨_,_,_,hid2_sub _ _ g1,T.cl_Finder,T.na_Finder_numbers,_,lk_nu,_,⟨n,b,keyD st,ks2,rfl,rfl,g5,g6.mono hid2_sub,kb2.mono hid2_sub,?_⟩,kk H2 s2 fi⟩
  rw[g7.look,if_pos (addS_mem _ _),addS_idx,Nat.zero_add]
theorem sc_Course___init__:FnScope ["self","game","spot","count","name","what"] ["self","game"] (defScope (inClass (top 36) 0)):=⟨rfl,rfl,rfl,by decide +kernel,rfl,by decide +kernel,by decide +kernel⟩
theorem ok_co (T:Txt K mg q_NoShare q_NoTable q_TooMany q_Course q_Finder):MkCal P w K mg base (CX1 P w) 3 "Course" q_Course ["self","game"] (spCo q_Course):=by
 have c_own_what:Cal P w K mg base (CX1 P w) 2 "own_what" ["what"] spOW:=ok_ow T
 refine T.di_Course.cal (fun _ _ _ _ _ _ us hl=>match us,hl with | [_,_],_=>rfl) fun f fd F=>F.okC sc_Course___init__ (fun vs H Q E h=>?_) (fun cdv A outer s H vs Q E hr h=>?_)
 ·obtain⟨_,_,_,_,rfl,_⟩:=h;rfl
 ·obtain⟨c,dx,gv,g,rfl,hc,rg,gg,kk⟩:=h
  have nd:=sc_Course___init__.nd
  refine⟨_,(pss_cons (ps_fld (pv 0) pe_dnewK rfl)
  (pss_cons (ps_fld (pv 0) (pe_lst pa_nil) rfl)
  (pss_cons (ps_for PassesOwn.never rfl (pi_enumerateK (K:=K) rfl T.z_enumerate (pa_cons (pe_ix ix_tupH (pv 1) pe_int (fun _ _=>rfl)) pa_nil (se rfl))) (pg_tupK (K:=K) (n:=2) rfl (pgs_cons (pg_name (i:=2) nd rfl (Or.inl rfl)) (pgs_cons (pg_name (i:=3) nd rfl (Or.inl rfl)) pgs_nil))) (pss_cons (ps_dput (hu_of hr) (pe_fld (pv 0) rfl) (pe_ix ix_tupH (pv 3) pe_int (fun _ _=>rfl)) (pv 2) rfl)
  (pss_one (ps_expr (pe_bm PySem.F.plainAttrs_list PySem.F.slot_list_append PySem.F.type_list_append mt_append.r (pe_fld (pv 0) rfl) (pa_cons (pe_ix ix_tupH (pv 3) pe_int (fun _ _=>rfl)) pa_nil (se rfl)))))))
  (pss_cons (ps_fld (pv 0) (pe_ix ix_tupH (pe_ix ix_listH (pe_ix ix_tupH (pv 1) pe_int (fun _ _=>rfl)) pe_int (fun _ _=>rfl)) pe_int (fun _ _=>rfl)) rfl)
  (pss_cons (ps_fld (pv 0) pe_dnewK rfl)
  (pss_cons (ps_for PassesOwn.never rfl (pi_listK (K:=K) (pe_ix ix_tupH (pv 1) pe_int (fun _ _=>rfl))) (pg_tupK (K:=K) (n:=2) rfl (pgs_cons (pg_name (i:=4) nd rfl (Or.inl rfl)) (pgs_cons (pg_name (i:=5) nd rfl (Or.inl rfl)) pgs_nil))) (pss_one (ps_dput (hu_of hr) (pe_fld (pv 0) rfl) (pv 4) (pe_cal c_own_what (hr.mono (by decide)) rfl strictP.pass (pa_cons (pv 5) pa_nil (se rfl)) (he:=se rfl) (hpl:=na rfl)) rfl)))
  (pss_one (ps_fld (pv 0) pe_dnewK rfl)))))))),?_⟩
  have sl:=sizeLine_eq
  have np:=gg.np
  have nc:=gg.nc
  have lc:=gg.lc
  have lpp:=gg.lp
  have p0:=gg.p0
  obtain⟨gp,g0,g1,rfl,hgp,rc,rp⟩:=rep_t2.mp (show Rep H (.tup _) gv from rg)
  obtain⟨cl,cvs,rfl,hcl,rcl⟩:=rep_lst.mp (show Rep H (.lst _) g0 from rc)
  obtain⟨pl,pvs,rfl,hpl,rpl⟩:=rep_lst.mp (show Rep H (.lst _) g1 from rp)
  have clen:=rcl.length
  rw[List.length_map] at clen
  have plen:=rpl.length
  rw[List.length_map] at plen
  change tSeq _ _ _ [some (.ref c),some (.ref gp),none,none,none,none] H
  let K1:Hp→Prop:=fun H1=>∀a o,a≠c→H a=some o→H1 a=some o
  have kp:∀{H1},K1 H1→Kp H H1:=fun {H1} k a=>by
   by_cases z:a=c
   ·subst z;rw[hc];exact⟨(fun _ e=>by cases e),(fun _ e=>by cases e)⟩
   ·exact⟨fun _=>k _ _ z,fun _=>k _ _ z⟩
  have tup1:∀{H1 a vs},K1 H1→H a=some (.tup vs)→H1 a=some (.tup vs):=fun k e=>((kp k) _).1 _ e
  have lst1:∀{H1 a vs},K1 H1→H a=some (.lst vs)→H1 a=some (.lst vs):=fun k e=>((kp k) _).2 _ e
  refine seq_gen (fun σ' H1=>K1 H1∧(∃sp,sp≠c∧H sp=none∧H1 c=some (.ins q_Course dx [(Str.ofString "spots",.ref sp)])∧H1 sp=some (.dK []))∧σ'=[some (.ref c),some (.ref gp),none,none,none,none]) ?_ (fun N hN=>?_)
  case refine_2=>
   simp_all only[sFld,tDNewK]
   intro sp nsp
   have e1:sp≠c:=fun z=>by rw[z,hc] at nsp;cases nsp
   refine⟨_,_,_,by rw[upd_ne (Ne.symm e1)];exact hc,T.cl_Course,T.na_Course_spots,by decide,hN _ _ ⟨fun a o ac ha=>?_,⟨sp,e1,nsp,upd_same,by rw[upd_ne e1,upd_same]⟩,rfl⟩⟩
   rw[upd_ne ac,upd_ne (fun z=>by rw[z,nsp] at ha;cases ha)]
   exact ha
  rintro _ H1 ⟨k1,⟨sp,spc,nsp,hc1,hsp1⟩,rfl⟩
  change tSeq _ _ _ [some (.ref c),some (.ref gp),none,none,none,none] H1
  refine seq_gen (fun σ' H2=>K1 H2∧(∃mo,mo≠c∧mo≠sp∧H mo=none∧H2 c=some (.ins q_Course dx [(Str.ofString "spots",.ref sp),(Str.ofString "mosts",.ref mo)])∧H2 sp=some (.dK [])∧H2 mo=some (.lst []))∧σ'=[some (.ref c),some (.ref gp),none,none,none,none]) ?_ (fun N hN=>?_)
  case refine_2=>
   simp_all only[sFld]
   refine⟨Nat.zero_le _,fun mo nmo=>?_⟩
   have e1:mo≠c:=fun z=>by rw[z,hc1] at nmo;cases nmo
   have e2:mo≠sp:=fun z=>by rw[z,hsp1] at nmo;cases nmo
   have n0:H mo=none:=by
    cases h0:H mo with
    | none=>rfl
    | some o=>rw[k1 _ _ e1 h0] at nmo;cases nmo
   refine⟨_,_,_,by rw[upd_ne (Ne.symm e1)];exact hc1,T.cl_Course,T.na_Course_mosts,by show(1:Nat)<1000;decide,hN _ _ ⟨fun a o ac ha=>?_,⟨mo,e1,e2,n0,?_,by rw[upd_ne spc,upd_ne (Ne.symm e2)];exact hsp1,by rw[upd_ne e1,upd_same]⟩,rfl⟩⟩
   ·rw[upd_ne ac,upd_ne (fun z=>by rw[z,n0] at ha;cases ha)]
    exact k1 _ _ ac ha
   ·rw[upd_same]
    show some (HO.ins _ _ (if Str.ofString "spots"=Str.ofString "mosts" then _ else _))=_
    rw[if_neg (by decide +kernel)]
    rfl
  rintro _ H2 ⟨k2,⟨mo,moc,mosp,nmo,hc2,hsp2,hmo2⟩,rfl⟩
  change tSeq _ _ _ [some (.ref c),some (.ref gp),none,none,none,none] H2
  refine seq_gen (fun σ' H3=>K1 H3∧H3 c=some (.ins q_Course dx [(Str.ofString "spots",.ref sp),(Str.ofString "mosts",.ref mo)])∧H3 sp=some (.dK (spK g.cs 0))∧H3 mo=some (.lst ((g.cs.map (·.2)).map V.int))∧∃z1 z2,σ'=[some (.ref c),some (.ref gp),z1,z2,none,none]) ?_ (fun N hN=>?_)
  case refine_2=>
   simp_all only[iEnum,tup1 k2 hgp]
   refine⟨⟨_,SqL.of (lst1 k2 hcl)⟩,for_src (src_enum (Ok:=K1) (fun H' k=>SqL.of (lst1 k hcl))) (fun i σ H'=>K1 H'∧H' c=some (.ins q_Course dx [(Str.ofString "spots",.ref sp),(Str.ofString "mosts",.ref mo)])∧H' sp=some (.dK (spK (g.cs.take i) 0))∧H' mo=some (.lst (((g.cs.take i).map (·.2)).map V.int))∧∃z1 z2,σ=[some (.ref c),some (.ref gp),z1,z2,none,none]) ⟨k2,hc2,hsp2,hmo2,_,_,rfl⟩ (fun _ _ _ _ h=>h.1) ?_ ?_⟩
   ·rintro i x σ H3 H4 hi ⟨k3,hc3,hsp3,hmo3,z1,z2,rfl⟩ ⟨t,y,nt,rfl,ey,rfl⟩
    obtain⟨d0,ed,rd⟩:=rcl.get ey
    rw[List.getElem?_map] at ed
    obtain⟨cn,ec,rfl⟩:=Option.map_eq_some_iff.mp ed
    obtain⟨cp,y1,y2,rfl,hcp,r1,r2⟩:=rep_t2.mp (show Rep H (.tup _) y from rd)
    rw[rep_str] at r1
    rw[rep_int] at r2
    subst r1 r2
    have tk:g.cs.take (i+1)=g.cs.take i++ [cn]:=by rw[List.take_add_one,ec];rfl
    have nn:cn.1∉(g.cs.take i).map (·.1):=by
     rw[List.map_take]
     exact nodup_at nc (by rw[List.getElem?_map,ec];rfl)
    have tc:t≠c:=fun z=>by rw[z,hc3] at nt;cases nt
    have ts:t≠sp:=fun z=>by rw[z,hsp3] at nt;cases nt
    have tm:t≠mo:=fun z=>by rw[z,hmo3] at nt;cases nt
    have k4:K1 (upd H3 t (.tup [.int (i:Int),.ref cp])):=fun a o ac ha=>same_upd nt _ _ (k3 a o ac ha)
    have hc4:upd H3 t (.tup [.int (i:Int),.ref cp]) c=_:=same_upd nt _ _ hc3
    have hsp4:upd H3 t (.tup [.int (i:Int),.ref cp]) sp=_:=same_upd nt _ _ hsp3
    have hmo4:upd H3 t (.tup [.int (i:Int),.ref cp]) mo=_:=same_upd nt _ _ hmo3
    refine⟨t,_,rfl,SqT.of upd_same,rfl,?_⟩
    generalize upd H3 t (.tup [.int (i:Int),.ref cp])=H4 at *
    have lsp:(spK (g.cs.take i) 0).length<sizeLine:=by rw[spK_len,List.length_take];omega
    have k5:K1 (upd H4 sp (.dK (putK (spK (g.cs.take i) 0) (Sum.inr cn.1) (.int (i:Int))))):=fun a o ac ha=>by
     rw[upd_ne (fun z=>by rw[z,nsp] at ha;cases ha)]
     exact k4 a o ac ha
    simp_all only[sDPut,tFld,rAppend,tup1 k4 hcp]
    have hsv:valV (spK (g.cs.take i) 0) (Sum.inr cn.1)=none:=spK_none nn
    rw[put_new hsv] at k5
    have lt:(g.cs.take i).length=i:=by rw[List.length_take];omega
    have hmo5:∀o,upd H4 sp o mo=some (.lst (((g.cs.take i).map (·.2)).map V.int)):=fun o=>by rw[upd_ne mosp];exact hmo4
    have ty:∀o,tyV K "list" (.ref mo) (upd H4 sp o):=fun o=>.inl ⟨rfl,_,SqL.of (hmo5 o)⟩
    refine⟨_,_,_,hc4,T.cl_Course,T.na_Course_spots,_,List.lookup_cons_self,_,rfl,_,.inl ⟨_,Sum.inr cn.1,hsp4,rfl,lsp,rfl⟩,?_⟩
    rw[put_new hsv]
    refine⟨_,_,_,by rw[upd_ne (Ne.symm spc)];exact hc4,T.cl_Course,T.na_Course_mosts,_,by rw[lk_ne (by decide +kernel)];exact List.lookup_cons_self,ty _,_,tup1 k5 hcp,_,rfl,_,rfl,_,hmo5 _,by rw[List.length_map,List.length_map];omega,?_⟩
    refine⟨?_,?_,?_,?_,_,rfl⟩
    ·intro a o ac ha
     rw[upd_ne (fun z=>by rw[z,nmo] at ha;cases ha)]
     exact k5 a o ac ha
    ·rw[upd_ne (Ne.symm moc),upd_ne (Ne.symm spc)];exact hc4
    ·rw[upd_ne (Ne.symm mosp),upd_same,tk,spK_snoc,lt,Nat.zero_add]
    ·rw[upd_same,tk,List.map_append,List.map_append]
     rfl
   ·rintro σ H3 ⟨k3,hc3,hsp3,hmo3,z1,z2,rfl⟩
    rw[←clen,List.take_of_length_le (Nat.le_refl _)] at hsp3 hmo3
    exact hN _ _ ⟨k3,hc3,hsp3,hmo3,_,_,rfl⟩
  rintro _ H3 ⟨k3,hc3,hsp3,hmo3,z1,z2,rfl⟩
  obtain⟨⟨n0,x0⟩,ex0⟩:∃x,g.ps[0]?=some x:=⟨_,List.getElem?_eq_getElem p0⟩
  obtain⟨v0,ev0,rv0⟩:=rpl.at (by rw[List.getElem?_map,ex0];rfl)
  change tSeq _ _ _ [some (.ref c),some (.ref gp),z1,z2,none,none] H3
  refine seq_gen (fun σ' H4=>K1 H4∧H4 c=some (.ins q_Course dx [(Str.ofString "spots",.ref sp),(Str.ofString "mosts",.ref mo),(Str.ofString "first",.str n0)])∧H4 sp=some (.dK (spK g.cs 0))∧H4 mo=some (.lst ((g.cs.map (·.2)).map V.int))∧σ'=[some (.ref c),some (.ref gp),z1,z2,none,none]) ?_ (fun N hN=>?_)
  case refine_2=>
   simp_all only[sFld,tup1 k3 hgp]
   obtain⟨q0,a1,a2,rfl,hq0,b1,_⟩:=rep_t2.mp (show Rep H (.tup _) v0 from rv0)
   rw[rep_str] at b1
   subst b1
   have at0:atI pvs 0=some (.ref q0):=(atI_nat ev0:atI pvs ((0:Nat):Int)=_)
   refine⟨_,lst1 k3 hpl,_,at0,_,rfl,_,tup1 k3 hq0,_,rfl,_,_,_,hc3,T.cl_Course,T.na_Course_first,by show(2:Nat)<1000;decide,hN _ _ ⟨fun a o ac ha=>?_,?_,by rw[upd_ne spc];exact hsp3,by rw[upd_ne moc];exact hmo3,rfl⟩⟩
   ·rw[upd_ne ac]
    exact k3 _ _ ac ha
   ·rw[upd_same]
    show some (HO.ins _ _ (if Str.ofString "spots"=Str.ofString "first" then _ else _::(if Str.ofString "mosts"=Str.ofString "first" then _ else _)))=_
    rw[if_neg (by decide +kernel),if_neg (by decide +kernel)]
    rfl
  rintro _ H4 ⟨k4,hc4,hsp4,hmo4,rfl⟩
  change tSeq _ _ _ [some (.ref c),some (.ref gp),z1,z2,none,none] H4
  refine seq_gen (fun σ' H5=>K1 H5∧(∃wh,wh≠c∧wh≠sp∧wh≠mo∧H wh=none∧H5 c=some (.ins q_Course dx [(Str.ofString "spots",.ref sp),(Str.ofString "mosts",.ref mo),(Str.ofString "first",.str n0),(Str.ofString "whats",.ref wh)])∧H5 sp=some (.dK (spK g.cs 0))∧H5 mo=some (.lst ((g.cs.map (·.2)).map V.int))∧H5 wh=some (.dK []))∧σ'=[some (.ref c),some (.ref gp),z1,z2,none,none]) ?_ (fun N hN=>?_)
  case refine_2=>
   simp_all only[sFld,tDNewK]
   intro wh nwh
   have e1:wh≠c:=fun z=>by rw[z,hc4] at nwh;cases nwh
   have e2:wh≠sp:=fun z=>by rw[z,hsp4] at nwh;cases nwh
   have e3:wh≠mo:=fun z=>by rw[z,hmo4] at nwh;cases nwh
   have n0:H wh=none:=by
    cases h0:H wh with
    | none=>rfl
    | some o=>rw[k4 _ _ e1 h0] at nwh;cases nwh
   refine⟨_,_,_,by rw[upd_ne (Ne.symm e1)];exact hc4,T.cl_Course,T.na_Course_whats,by show(3:Nat)<1000;decide,hN _ _ ⟨fun a o ac ha=>?_,⟨wh,e1,e2,e3,n0,?_,by rw[upd_ne spc,upd_ne (Ne.symm e2)];exact hsp4,by rw[upd_ne moc,upd_ne (Ne.symm e3)];exact hmo4,by rw[upd_ne e1,upd_same]⟩,rfl⟩⟩
   ·rw[upd_ne ac,upd_ne (fun z=>by rw[z,n0] at ha;cases ha)]
    exact k4 _ _ ac ha
   ·rw[upd_same]
    show some (HO.ins _ _ (if Str.ofString "spots"=Str.ofString "whats" then _ else _::(if Str.ofString "mosts"=Str.ofString "whats" then _ else _::(if Str.ofString "first"=Str.ofString "whats" then _ else _))))=_
    rw[if_neg (by decide +kernel),if_neg (by decide +kernel),if_neg (by decide +kernel)]
    rfl
  rintro _ H5 ⟨k5,⟨wh,whc,whsp,whmo,nwh,hc5,hsp5,hmo5,hwh5⟩,rfl⟩
  change tSeq _ _ _ [some (.ref c),some (.ref gp),z1,z2,none,none] H5
  refine seq_gen (fun σ' H6=>K1 H6∧H6 c=some (.ins q_Course dx [(Str.ofString "spots",.ref sp),(Str.ofString "mosts",.ref mo),(Str.ofString "first",.str n0),(Str.ofString "whats",.ref wh)])∧H6 sp=some (.dK (spK g.cs 0))∧H6 mo=some (.lst ((g.cs.map (·.2)).map V.int))∧(∃us,H6 wh=some (.dK us)∧WhK H6 g.ps us)∧∃z3 z4,σ'=[some (.ref c),some (.ref gp),z1,z2,z3,z4]) ?_ (fun N hN=>?_)
  case refine_2=>
   simp_all only[tup1 k5 hgp]
   refine⟨⟨_,SqL.of (lst1 k5 hpl)⟩,for_src (src_list (Ok:=K1) (fun H' k=>SqL.of (lst1 k hpl))) (fun i σ H'=>K1 H'∧H' c=some (.ins q_Course dx [(Str.ofString "spots",.ref sp),(Str.ofString "mosts",.ref mo),(Str.ofString "first",.str n0),(Str.ofString "whats",.ref wh)])∧H' sp=some (.dK (spK g.cs 0))∧H' mo=some (.lst ((g.cs.map (·.2)).map V.int))∧(∃us,H' wh=some (.dK us)∧WhK H' (g.ps.take i) us)∧∃z3 z4,σ=[some (.ref c),some (.ref gp),z1,z2,z3,z4]) ⟨k5,hc5,hsp5,hmo5,⟨[],hwh5,rfl⟩,_,_,rfl⟩ (fun _ _ _ _ h=>h.1) ?_ ?_⟩
   ·rintro i x σ H7 H6 hi ⟨k6,hc6,hsp6,hmo6,⟨us,hwh6,wk⟩,z3,z4,rfl⟩ ⟨rfl,ey⟩
    obtain⟨d0,ed,rd⟩:=rpl.get ey
    rw[List.getElem?_map] at ed
    obtain⟨pn,ec,rfl⟩:=Option.map_eq_some_iff.mp ed
    obtain⟨cp,y1,y2,rfl,hcp,r1,r2⟩:=rep_t2.mp (show Rep H (.tup _) x from rd)
    rw[rep_str] at r1
    subst r1
    have tk:g.ps.take (i+1)=g.ps.take i++ [pn]:=by rw[List.take_add_one,ec];rfl
    have nn:pn.1∉(g.ps.take i).map (·.1):=by
     rw[List.map_take]
     exact nodup_at np (by rw[List.getElem?_map,ec];rfl)
    have hsv:=wk.none nn
    have lus:us.length≤100:=by rw[wk.len,List.length_take];omega
    refine⟨cp,_,rfl,SqT.of (tup1 k6 hcp),rfl,?_⟩
    simp_all only[sDPut,tFld,spOW]
    refine⟨_,(kp k6).rep r2,_,gg.wt _ (List.mem_of_getElem? ec),fun u H7 s7 ru=>?_⟩
    refine⟨_,_,_,s7 _ _ hc6,T.cl_Course,T.na_Course_whats,_,by rw[lk_ne (by decide +kernel),lk_ne (by decide +kernel),lk_ne (by decide +kernel)];exact List.lookup_cons_self,_,rfl,_,.inl ⟨_,Sum.inr pn.1,s7 _ _ hwh6,rfl,by omega,rfl⟩,?_⟩
    rw[put_new hsv]
    have kq:Kp H7 (upd H7 wh (.dK (us++ [(Sum.inr pn.1,u)]))):=Kp.upd (fun vs e=>by rw[s7 _ _ hwh6] at e;cases e) (fun vs e=>by rw[s7 _ _ hwh6] at e;cases e)
    refine⟨fun a o ac ha=>?_,by rw[upd_ne (Ne.symm whc)];exact s7 _ _ hc6,by rw[upd_ne (Ne.symm whsp)];exact s7 _ _ hsp6,by rw[upd_ne (Ne.symm whmo)];exact s7 _ _ hmo6,⟨_,upd_same,?_⟩,_,rfl⟩
    ·rw[upd_ne (fun z=>by rw[z,nwh] at ha;cases ha)]
     exact s7 _ _ (k6 _ _ ac ha)
    ·rw[tk]
     exact WhK.snoc (kq.rep ru) (kq.whk (wk.mono s7))
   ·rintro σ H6 ⟨k6,hc6,hsp6,hmo6,⟨us,hwh6,wk⟩,z3,z4,rfl⟩
    rw[←plen,List.take_of_length_le (Nat.le_refl _)] at wk
    exact hN _ _ ⟨k6,hc6,hsp6,hmo6,⟨us,hwh6,wk⟩,_,_,rfl⟩
  rintro _ H6 ⟨k6,hc6,hsp6,hmo6,⟨us,hwh6,wk⟩,z3,z4,rfl⟩
  simp_all only[sFld,tDNewK]
  intro tb ntb
  have e1:tb≠c:=fun z=>by rw[z,hc6] at ntb;cases ntb
  have e2:tb≠sp:=fun z=>by rw[z,hsp6] at ntb;cases ntb
  have e3:tb≠mo:=fun z=>by rw[z,hmo6] at ntb;cases ntb
  have e4:tb≠wh:=fun z=>by rw[z,hwh6] at ntb;cases ntb
  have ntb0:H tb=none:=by
   cases h0:H tb with
   | none=>rfl
   | some o=>rw[k6 _ _ e1 h0] at ntb;cases ntb
  refine⟨_,_,_,by rw[upd_ne (Ne.symm e1)];exact hc6,T.cl_Course,T.na_Course_tables,by show(4:Nat)<1000;decide,kk tb _ (fun a o ac ha=>?_) ntb0 (by rw[upd_ne e1,upd_same]) ⟨dx,sp,mo,wh,us,n0,?_,by rw[hid_ne (Ne.symm e2),upd_ne spc,upd_ne (Ne.symm e2)];exact hsp6,by rw[hid_ne (Ne.symm e3),upd_ne moc,upd_ne (Ne.symm e3)];exact hmo6,by rw[hid_ne (Ne.symm e4),upd_ne whc,upd_ne (Ne.symm e4)];exact hwh6,?_,?_⟩⟩
  ·rw[upd_ne ac,upd_ne (fun z=>by rw[z,ntb0] at ha;cases ha)]
   exact k6 _ _ ac ha
  ·rw[hid_ne (Ne.symm e1),upd_same]
   show some (HO.ins _ _ (if Str.ofString "spots"=Str.ofString "tables" then _ else _::(if Str.ofString "mosts"=Str.ofString "tables" then _ else _::(if Str.ofString "first"=Str.ofString "tables" then _ else _::(if Str.ofString "whats"=Str.ofString "tables" then _ else _)))))=_
   rw[if_neg (by decide +kernel),if_neg (by decide +kernel),if_neg (by decide +kernel),if_neg (by decide +kernel)]
   rfl
  ·have hcc:upd H6 tb (.dK []) c=_:=(upd_ne (Ne.symm e1)).trans hc6
   refine((Kp.of (same_upd ntb)).trans ((Kp.upd (o:=_) (fun vs e=>by rw[hcc] at e;cases e) (fun vs e=>by rw[hcc] at e;cases e)).trans (Kp.hid (tb:=tb) (kvs:=[]) ?_))).whk wk
   rw[upd_ne e1,upd_same]
  ·rw[List.head?_map,List.head?_eq_getElem?,ex0]
   rfl
theorem sc_pick_ways:FnScope ["course","finder","state","rows"] ["course","finder","state"] (defScope (top 39)):=⟨rfl,rfl,rfl,by decide +kernel,rfl,by decide +kernel,by decide +kernel⟩
theorem ok_pkw (T:Txt K mg q_NoShare q_NoTable q_TooMany q_Course q_Finder):Cal P w K mg base (CX1 P w) 4 "pick_ways" ["course","finder","state"] (spPkw P w q_Course q_Finder):=by
 have m_Course_open_rows:MtCal P w K mg base (CX1 P w) 2 q_Course "open_rows" ["self","state"] (spOpn q_Course):=ok_opn T
 have m_Course_by_row:MtCal P w K mg base (CX1 P w) 3 q_Course "by_row" ["self","state","row","value"] (spByR q_Course):=ok_byr T
 have m_Finder_number_of:MtCal P w K mg base (CX1 P w) 1 q_Finder "number_of" ["self","state"] (spNum P w q_Finder):=ok_num T
 refine T.d_pick_ways.cal (fun _ _ _ _ _ _ us hl=>match us,hl with | [_,_,_],_=>rfl) fun f fd F=>F.okC sc_pick_ways (fun vs H Q E h=>?_) (fun cdv A outer s H vs Q E hr h=>?_)
 ·obtain⟨_,_,_,_,_,_,_,_,_,_,_,_,_,rfl,_⟩:=h;rfl
 ·obtain⟨c,fa,sv,Fr,l,n,g,ss,st,ts,wo,rs,SS,rfl,co,gg,fi,fr,sth,ln,lk,go,le,ahd,kk⟩:=h
  have nd:=sc_pick_ways.nd
  refine⟨_,(pss_cons (ps_set (i:=3) nd rfl (Or.inl rfl) (pe_mt m_Course_open_rows T.cl_Course (pv 0) (hr.mono (by decide)) strictP.pass (pa_cons (pv 2) pa_nil (se rfl)) (hst:=se rfl) (hpl:=na rfl)))
  (pss_cons (ps_if (pt_cmpR op_eq (pe_callB call_lenL (by rfl) T.z_len PySem.boot_len (pa_cons (pv 3) pa_nil (se rfl)) (he:=se rfl) (hpl:=na rfl)) pe_int (nomark _)) (pss_one ps_never)
   pss_nil)
  (pss_one (ps_ret (pe_comp rfl (N:=["course","finder","state","rows"]) (so:=defScope (top 39)) (N':=["row","course","finder","state"]) (k:=1) (fr:=[0,1,2]) rfl rfl ⟨rfl,by decide +kernel,by decide +kernel,by decide +kernel,rfl,by decide +kernel,by decide +kernel⟩ (pi_listK (K:=K) (pv 3)) (fun _ _ _ _ _=>(pg_name (i:=0) (show(["row","course","finder","state"]:List Str).Nodup by decide +kernel) rfl (Or.inl rfl))) (fun _ _ _ _ _=>pts_nil)
   (fun _ _ _ _ _=>(pe_mt m_Finder_number_of T.cl_Finder (pv 2) (hr.mono (by decide)) strictP.pass (pa_cons (pe_mt m_Course_by_row T.cl_Course (pv 1) (hr.mono (by decide)) strictP.pass (pa_cons (pv 3) (pa_cons (pv 0) (pa_cons pe_int pa_nil (se rfl)) (se rfl)) (se rfl)) (hst:=se rfl) (hpl:=na rfl)) pa_nil (se rfl)) (hst:=se rfl) (hpl:=na rfl)))))))),?_⟩
  have sl:=sizeLine_eq
  obtain⟨dx,sp,mo,wh,tb,us,ft',h1,h2,h3,h4,h5,h6⟩:=id co
  obtain⟨dxf,xs0,ks0,f1,f2,f3,f4,f5,f6,f7,f8⟩:=id fi
  obtain⟨sa,cl,rfl,hsa,hcl⟩:=id sth
  have gx:=gg.wt _ (look_mem lk)
  unfold Goes at go
  rw[lk] at go
  obtain⟨ne,tl,al⟩:=go
  have lp:∀{a b c d e:V},List.lookup (Str.ofString "open_rows") [(Str.ofString "spots",a),(Str.ofString "mosts",b),(Str.ofString "first",c),(Str.ofString "whats",d),(Str.ofString "tables",e)]=none:=lk_no (by decide +kernel) (by decide +kernel) (by decide +kernel) (by decide +kernel) (by decide +kernel)
  have lp2:∀{a b c d e:V},List.lookup (Str.ofString "by_row") [(Str.ofString "spots",a),(Str.ofString "mosts",b),(Str.ofString "first",c),(Str.ofString "whats",d),(Str.ofString "tables",e)]=none:=lk_no (by decide +kernel) (by decide +kernel) (by decide +kernel) (by decide +kernel) (by decide +kernel)
  have lp3:∀{a b:V},List.lookup (Str.ofString "number_of") [(Str.ofString "states",a),(Str.ofString "numbers",b)]=none:=lk_no2 (by decide +kernel) (by decide +kernel)
  change tSeq _ _ _ [some (.ref c),some (.ref fa),some (.ref sa),none] H
  refine seq_gen (fun σ' H1=>Same H H1∧∃p xs,H p=none∧H1 p=some (.lst xs)∧RepL (hid2 H l n) (((openR g.cs st.2 (.pick wo rs)).map rw4).map r4D) xs∧σ'=[some (.ref c),some (.ref fa),some (.ref sa),some (.ref p)]) ?_ (fun N hN=>?_)
  case refine_2=>
   simp_all only[tMeth,spOpn]
   refine⟨_,_,hid2_sub _ _ h1,lp,hid2 H l n,hid2_sub,g,co,gg,st.1,st.2,sth.mono hid2_sub,ln,_,lk,fun p xs H1 s1 n1 e1 r1=>hN _ _ ⟨s1,p,xs,n1,e1,r1,rfl⟩⟩
  rintro _ H1 ⟨s1,p,xs,np,hp,rxs,rfl⟩
  have xlen:=rxs.length
  rw[List.length_map,List.length_map] at xlen
  have few:(openR g.cs st.2 (.pick wo rs)).length≤100:=Nat.le_trans (List.length_filter_le _ _) gx.1
  have ne0:0< (openR g.cs st.2 (.pick wo rs)).length:=List.length_pos_iff.mpr ne
  have row:∀r∈openR g.cs st.2 (.pick wo rs),r.ds.length≤100∧∀d∈r.ds,GoodD g.cs d:=fun r hr=>gx.2 r (List.mem_filter.mp hr).1
  generalize openR g.cs st.2 (.pick wo rs)=os at *
  simp_all only[hp]
  rw[if_neg (by omega)]
  have pl:p≠l:=fun z=>by rw[z,f3] at np;cases np
  have pn:p≠n:=fun z=>by rw[z,f5] at np;cases np
  refine⟨⟨_,SqL.of hp⟩,block_ok (src_list (Ok:=fun H'=>hid2 H' l n p=some (.lst xs)) (fun H' k=>SqL.of (hid2_sub _ _ k))) (fun i ys σ H'=>Same (hid2 H l n) (hid2 H' l n)∧FiH P w q_Finder Fr H' fa l n (addAll ss (ts.take i))∧hid2 H' l n p=some (.lst xs)∧ys=(ts.take i).map (fun t=>V.int ((SS.idxOf t:Nat):Int))∧∃z,σ=[z,some (.ref c),some (.ref fa),some (.ref sa)]) ⟨hid2_mono s1,fi.mono s1,by rw[hid2_of pl pn];exact hp,rfl,_,rfl⟩ (fun _ _ _ _ h=>h.2.2.1) (by omega) ?_ ?_⟩
  ·rintro i x σ H3 ys H2 Q' N hi ⟨k2,fi2,hp2,rfl,z,rfl⟩ ⟨rfl,ex⟩ y1 _
   obtain⟨dd,ed,rd⟩:=rxs.get ex
   rw[List.getElem?_map,List.getElem?_map] at ed
   obtain⟨r4,e4,rfl⟩:=Option.map_eq_some_iff.mp ed
   obtain⟨r,er,rfl⟩:=Option.map_eq_some_iff.mp e4
   obtain⟨t,et,gr,ht⟩:=al i r er
   obtain⟨q1,q2⟩:=row r (List.mem_of_getElem? er)
   unfold goR at gr
   obtain⟨nm',ak,e9⟩:=Option.map_eq_some_iff.mp gr
   subst e9
   have tk:ts.take (i+1)=ts.take i++ [(nm',r.ds.foldl (doD g.cs 0) st.2)]:=by rw[List.take_add_one,et];rfl
   have ea:addAll ss (ts.take (i+1))=addS (addAll ss (ts.take i)) (nm',r.ds.foldl (doD g.cs 0) st.2):=by
    rw[tk]
    unfold addAll
    rw[List.foldl_append]
    rfl
   have ah:Ahd (addAll ss (ts.take (i+1))) (addAll ss ts):=by
    have:=addAll_ahd (ts.drop (i+1)) (addAll ss (ts.take (i+1)))
    unfold addAll at this ⊢
    rw[←List.foldl_append,List.take_append_drop] at this
    exact this
   have sub2:Same (hid2 H l n) H2:=k2.trans hid2_sub
   obtain⟨dx2,xs2,ks2,u1,u2,u3,u4,u5,u6,u7,u8⟩:=id fi2
   simp_all only[tMeth,tYes,spByR,spNum]
   refine⟨_,_,hid2_sub _ _ u1,lp3,_,_,sub2 _ _ h1,lp2,g,co.mono sub2,gg,st.1,st.2,sth.mono sub2,_,_,r.ds,r.to,rd.mono sub2,q2,q1,ln,_,nm',ak,fun a b H5 s5 na nb e1 e2=>?_⟩
   have al5:a≠l:=fun z=>by rw[z,u3] at na;cases na
   have an5:a≠n:=fun z=>by rw[z,u5] at na;cases na
   have bl5:b≠l:=fun z=>by rw[z,u3] at nb;cases nb
   have bn5:b≠n:=fun z=>by rw[z,u5] at nb;cases nb
   have frb:Fr b:=fr b (by
    cases h0:H b with
    | none=>rfl
    | some o=>rw[sub2 _ _ (by rw[hid2_of bl5 bn5];exact h0)] at nb;cases nb)
   have stf:StF Fr (hid2 H5 l n) (.ref a) nm' (r.ds.foldl (doD g.cs 0) st.2):=⟨a,b,rfl,by rw[hid2_of al5 an5];exact e1,by rw[hid2_of bl5 bn5];exact e2,frb⟩
   have lfd:(r.ds.foldl (doD g.cs 0) st.2).length≤100:=by rw[foldD_len,ln];exact gg.lc
   have fit:=addS_len (ss:=addAll ss (ts.take i)) (s:=(nm',r.ds.foldl (doD g.cs 0) st.2)) (by rw[←ea];exact Nat.le_trans ah.len le)
   refine⟨Fr,l,n,_,fi2.mono s5,(nm',_),stf,ht,lfd,fit,fun H6 s6 fi6=>y1 _ _ _ ⟨k2.trans ((hid2_mono s5).trans s6),by rw[ea];exact fi6,s6 _ _ (hid2_mono s5 _ _ hp2),?_,_,rfl⟩⟩
   have mem:(nm',r.ds.foldl (doD g.cs 0) st.2)∈addAll ss (ts.take (i+1)):=by rw[ea];exact addS_mem _ _
   rw[tk,List.map_append,List.map_cons,List.map_nil,(ah.trans ahd).idx mem,ea,addS_idx]
  ·rintro ys σ H2 ⟨k2,fi2,hp2,rfl,z,rfl⟩ D nD1 nD2
   rw[←xlen,←tl,List.take_of_length_le (Nat.le_refl _)] at fi2 ⊢
   obtain⟨dx2,xs2,ks2,u1,u2,u3,u4,u5,u6,u7,u8⟩:=id fi2
   have Dl:D≠l:=fun z=>by rw[z,u3] at nD2;cases nD2
   have Dn:D≠n:=fun z=>by rw[z,u5] at nD2;cases nD2
   exact kk D _ (k2.trans (hid2_mono (same_upd nD2))) (fi2.mono (same_upd nD2)) (none_of s1 nD1) (by rw[hid2_of Dl Dn,upd_same])
theorem sc_Course_table_at:FnScope ["self","state"] ["self","state"] (defScope (inClass (top 36) 8)):=⟨rfl,rfl,rfl,by decide +kernel,rfl,by decide +kernel,by decide +kernel⟩
theorem lk_tb {a b c d e:V}:List.lookup (Str.ofString "tables") [(Str.ofString "spots",a),(Str.ofString "mosts",b),(Str.ofString "first",c),(Str.ofString "whats",d),(Str.ofString "tables",e)]=some e:=by
 rw[lk_ne (by decide +kernel),lk_ne (by decide +kernel),lk_ne (by decide +kernel),lk_ne (by decide +kernel)];exact List.lookup_cons_self
theorem ok_tba (T:Txt K mg q_NoShare q_NoTable q_TooMany q_Course q_Finder):MtCal P w K mg base (CX1 P w) 7 q_Course "table_at" ["self","state"] (spTba q_Course):=by
 have m_Course_what_at:MtCal P w K mg base (CX1 P w) 1 q_Course "what_at" ["self","state"] (spWat q_Course):=ok_wat T
 have c_pool_table:Cal P w K mg base (CX1 P w) 6 "pool_table" ["pool"] spPl:=ok_pl T
 refine T.dm_Course_table_at.cal (fun _ _ _ _ _ _ us hl=>match us,hl with | [_,_],_=>rfl) fun f fd F=>F.okC sc_Course_table_at (fun vs H Q E h=>?_) (fun cdv A outer s H vs Q E hr h=>?_)
 ·obtain⟨_,_,_,_,_,_,_,_,_,_,_,rfl,_⟩:=h;rfl
 ·obtain⟨c,sv,g,nm,ns,tb,kvs,ps,t,b,rs,rfl,co,st,htb,l1000,lk,gl,l4,kF,kN⟩:=h
  have nd:=sc_Course_table_at.nd
  refine⟨_,(pss_cons (ps_if (pt_cmp (pc_dnotin (hu_of hr) (pe_ix ix_tupH (pv 1) pe_int (fun _ _=>rfl)) (pe_fld (pv 0) rfl))) (pss_one (ps_dput (hu_of hr) (pe_fld (pv 0) rfl) (pe_ix ix_tupH (pv 1) pe_int (fun _ _=>rfl)) (pe_cal c_pool_table (hr.mono (by decide)) rfl strictP.pass (pa_cons (pe_ix ix_tupH (pe_mt m_Course_what_at T.cl_Course (pv 0) (hr.mono (by decide)) strictP.pass (pa_cons (pv 1) pa_nil (se rfl)) (hst:=se rfl) (hpl:=na rfl)) pe_int (fun _ _=>rfl)) pa_nil (se rfl)) (he:=se rfl) (hpl:=na rfl)) rfl))
   pss_nil)
  (pss_one (ps_ret (pe_dget (hu_of hr) (pe_fld (pv 0) rfl) (pe_ix ix_tupH (pv 1) pe_int (fun _ _=>rfl)) (fun _ _=>rfl))))),?_⟩
  have sl:=sizeLine_eq
  obtain⟨dx,sp,mo,wh,us,ft',h1,h2,h3,h4,h5,h6⟩:=id co
  obtain⟨sa,cl,rfl,hsa,hcl⟩:=id st
  have h1':=hid_sub _ _ h1
  have lp:∀{a b c d e:V},List.lookup (Str.ofString "what_at") [(Str.ofString "spots",a),(Str.ofString "mosts",b),(Str.ofString "first",c),(Str.ofString "whats",d),(Str.ofString "tables",e)]=none:=lk_no (by decide +kernel) (by decide +kernel) (by decide +kernel) (by decide +kernel) (by decide +kernel)
  cases hv:valV kvs (Sum.inr nm) with
  | some v=>
   simp_all only[tFld,hsa]
   refine⟨_,_,_,h1',T.cl_Course,T.na_Course_tables,_,lk_tb,_,rfl,_,.inl ⟨kvs,Sum.inr nm,.inl htb,rfl,hv.symm⟩,?_⟩
   rw[if_neg (by simp)]
   exact⟨_,_,_,h1',T.cl_Course,T.na_Course_tables,_,lk_tb,_,rfl,_,.inl ⟨kvs,Sum.inr nm,.inl htb,rfl,hv.symm⟩,kF v hv⟩
  | none=>
   simp_all only[tFld,tMeth,hsa,spWat,spPl,sDPut]
   refine⟨_,_,_,h1',T.cl_Course,T.na_Course_tables,_,lk_tb,_,rfl,_,.inl ⟨kvs,Sum.inr nm,.inl htb,rfl,hv.symm⟩,?_⟩
   rw[if_pos (by rfl)]
   refine⟨_,_,h1',lp,hid H tb,hid_sub,g,co.co,nm,ns,st,_,lk,fun u ru=>?_⟩
   obtain⟨p,x1,x2,x3,x4,rfl,hp,r1,r2,r3,r4⟩:=rep_t4.mp (show Rep _ (.tup _) u from ru)
   obtain⟨a,rfl,pl⟩:=pl_back r2
   refine⟨_,rfl,_,hid_sub _ _ hp,_,rfl,_,rfl,ps,pl.mono hid_sub,gl,l4,fun p2 H1 s1 n1 rt=>?_⟩
   have ct:c≠tb:=fun z=>by rw[z] at h1;unfold hid at h1;rw[if_pos rfl] at h1;cases h1
   have sat:sa≠tb:=fun z=>by rw[z,htb] at hsa;cases hsa
   refine⟨_,_,_,s1 _ _ h1',T.cl_Course,T.na_Course_tables,_,lk_tb,_,s1 _ _ hsa,_,rfl,_,rfl,_,.inl ⟨kvs,Sum.inr nm,s1 _ _ htb,rfl,by omega,rfl⟩,?_⟩
   rw[put_new hv]
   refine⟨_,_,_,by rw[upd_ne ct];exact s1 _ _ h1',T.cl_Course,T.na_Course_tables,_,lk_tb,_,by rw[upd_ne sat];exact s1 _ _ hsa,_,rfl,_,rfl,_,.inl ⟨_,Sum.inr nm,.inl upd_same,rfl,?_⟩,kN hv p2 H1 s1 n1 rt⟩
   rw[val_snoc hv,if_pos rfl]
theorem sc_Course_by_value:FnScope ["self","state","value","rows"] ["self","state","value"] (defScope (inClass (top 36) 7)):=⟨rfl,rfl,rfl,by decide +kernel,rfl,by decide +kernel,by decide +kernel⟩
theorem ok_bv (T:Txt K mg q_NoShare q_NoTable q_TooMany q_Course q_Finder):MtCal P w K mg base (CX1 P w) 4 q_Course "by_value" ["self","state","value"] (spBv q_Course):=by
 have m_Course_what_at:MtCal P w K mg base (CX1 P w) 1 q_Course "what_at" ["self","state"] (spWat q_Course):=ok_wat T
 have m_Course_by_row:MtCal P w K mg base (CX1 P w) 3 q_Course "by_row" ["self","state","row","value"] (spByR q_Course):=ok_byr T
 refine T.dm_Course_by_value.cal (fun _ _ _ _ _ _ us hl=>match us,hl with | [_,_,_],_=>rfl) fun f fd F=>F.okC sc_Course_by_value (fun vs H Q E h=>?_) (fun cdv A outer s H vs Q E hr h=>?_)
 ·obtain⟨_,_,_,_,_,_,_,_,_,_,_,_,_,rfl,_⟩:=h;rfl
 ·obtain⟨c,sv,v,g,nm,ns,pool,t,b,rs,r,fu,nm',rfl,co,gg,st,ln,lk,ro,ak,kk⟩:=h
  have nd:=sc_Course_by_value.nd
  refine⟨_,(pss_cons (ps_setC (i:=3) rfl nd rfl rfl (N:=["self","state","value","rows"]) (so:=defScope (inClass (top 36) 7)) (N':=["row","value"]) (k:=1) (fr:=[2]) rfl rfl ⟨rfl,by decide +kernel,by decide +kernel,by decide +kernel,rfl,by decide +kernel,by decide +kernel⟩ (pi_listK (K:=K) (pe_ix ix_tupH (pe_mt m_Course_what_at T.cl_Course (pv 0) (hr.mono (by decide)) strictP.pass (pa_cons (pv 1) pa_nil (se rfl)) (hst:=se rfl) (hpl:=na rfl)) pe_int (fun _ _=>rfl))) (fun _ _ _ _ _=>(pg_name (i:=0) (show(["row","value"]:List Str).Nodup by decide +kernel) rfl (Or.inl rfl))) (fun _ _ _ _ _=>(pts_one (pt_chain op_le op_le (pe_ix ix_tupH (pv 0) pe_int (fun _ _=>rfl)) (pv 1) (pe_ix ix_tupH (pv 0) pe_int (fun _ _=>rfl)))))
   (fun _ _ _ _ _=>(pv 0)))
  (pss_one (ps_ret (pe_mt m_Course_by_row T.cl_Course (pv 0) (hr.mono (by decide)) strictP.pass (pa_cons (pv 1) (pa_cons (pe_ix ix_listH (pv 3) pe_int (fun _ _=>rfl)) (pa_cons (pv 2) pa_nil (se rfl)) (se rfl)) (se rfl)) (hst:=se rfl) (hpl:=na rfl))))),?_⟩
  have sl:=sizeLine_eq
  obtain⟨dx,sp,mo,wh,tb,us,ft',h1,h2,h3,h4,h5,h6⟩:=id co
  obtain⟨sa,cl,rfl,hsa,hcl⟩:=id st
  obtain⟨g0,g1,g2⟩:=gg.wt _ (look_mem lk)
  have lp:∀{a b c d e:V},List.lookup (Str.ofString "what_at") [(Str.ofString "spots",a),(Str.ofString "mosts",b),(Str.ofString "first",c),(Str.ofString "whats",d),(Str.ofString "tables",e)]=none:=lk_no (by decide +kernel) (by decide +kernel) (by decide +kernel) (by decide +kernel) (by decide +kernel)
  have lp2:∀{a b c d e:V},List.lookup (Str.ofString "by_row") [(Str.ofString "spots",a),(Str.ofString "mosts",b),(Str.ofString "first",c),(Str.ofString "whats",d),(Str.ofString "tables",e)]=none:=lk_no (by decide +kernel) (by decide +kernel) (by decide +kernel) (by decide +kernel) (by decide +kernel)
  change tSeq _ _ _ [some (.ref c),some (.ref sa),some (.int v),none] H
  refine seq_gen (fun σ' H1=>Same H H1∧∃p xs,H1 p=some (.lst xs)∧RepL H (((rs.filter fun r=>decide (r.1≤v) && decide (v≤r.2.1)).map tw4).map r4D) xs∧σ'=[some (.ref c),some (.ref sa),some (.int v),some (.ref p)]) ?_ (fun N hN=>?_)
  case refine_2=>
   simp_all only[tMeth,spWat]
   refine⟨_,_,h1,lp,H,Same.refl _,g,co,nm,ns,st,_,lk,fun u ru=>?_⟩
   obtain⟨p,x1,x2,x3,x4,rfl,hp,r1,r2,r3,r4⟩:=rep_t4.mp (show Rep H (.tup _) u from ru)
   obtain⟨rl,xs,rfl,hrl,rxs⟩:=rep_lst.mp r4
   have len:=rxs.length
   rw[List.length_map,List.length_map] at len
   have zl:(xs.zip rs).length=xs.length:=by rw[List.length_zip];omega
   refine⟨_,rfl,_,hp,_,rfl,_,rfl,⟨_,SqL.of hrl⟩,?_⟩
   have S:Src (Itl K rl) (Same H) xs.length _:=src_list (fun H' s'=>SqL.of (s' _ _ hrl))
   rw[←zl] at S
   refine comp_vals (xs.zip rs) (fun x=>if (decide (x.2.1≤v) && decide (v≤x.2.2.1))=true then some x.1 else none) S (fun _ _ _ _ h=>h.1) (by omega) ?_ ?_
   ·rintro i ⟨x,r'⟩ y exr ⟨_,ey⟩ Y N3 y1 y2
    obtain⟨e1,e2⟩:=List.getElem?_zip_eq_some.mp exr
    rw[e1] at ey
    cases ey
    obtain⟨dd,ed,rd⟩:=rxs.get e1
    rw[List.getElem?_map,List.getElem?_map,e2] at ed
    cases ed
    obtain⟨p',a',b',c',d',rfl,hp',q1,q2,q3,q4⟩:=rep_t4.mp (show Rep H (.tup _) x from rd)
    rw[show a'=.int r'.1 from rep_int.mp q1,show b'=.int r'.2.1 from rep_int.mp q2] at hp'
    simp_all only[hp']
    by_cases c1:r'.1≤v
    ·rw[if_pos c1]
     by_cases c2:v≤r'.2.1
     ·rw[if_pos c2];exact y1 _ (if_pos (by simp [c1,c2]))
     ·rw[if_neg c2];exact y2 (if_neg (by simp [c2]))
    ·rw[if_neg c1,if_neg (by decide)];exact y2 (if_neg (by simp [c1]))
   ·intro D n1 n2
    exact hN _ _ ⟨same_upd n2,D,_,upd_same,tw_filter rxs,rfl⟩
  rintro _ H1 ⟨s1,p,xs,hp,rxs,rfl⟩
  have hd:(rs.filter fun r=>decide (r.1≤v) && decide (v≤r.2.1)).head?=some r:=by rw[List.head?_filter];exact ro
  obtain⟨rest,er⟩:∃rest,(rs.filter fun r=>decide (r.1≤v) && decide (v≤r.2.1))=r::rest:=by
   cases h:rs.filter fun r=>decide (r.1≤v) && decide (v≤r.2.1) with
   | nil=>rw[h] at hd;cases hd
   | cons a l=>rw[h] at hd;cases hd;exact⟨l,rfl⟩
  rw[er] at rxs
  obtain⟨y,ys,rfl,ry,_⟩:=repL_cons.mp rxs
  have rmem:r∈rs:=List.mem_of_find?_eq_some ro
  obtain⟨q1,q2⟩:=g2 r rmem
  simp_all only[tMeth,spByR]
  refine⟨_,_,s1 _ _ h1,lp2,_,hp,_,(atI_nat rfl:atI (y::ys) ((0:Nat):Int)=_),g,co.mono s1,gg,nm,ns,st.mono s1,_,_,r.2.2.1,r.2.2.2,ry.mono s1,q2,q1,ln,fu,nm',ak,fun p' l' H' s' n1 n2 e1 e2=>kk p' l' H' (s1.trans s') (none_of s1 n1) (none_of s1 n2) e1 e2⟩
theorem sc_throw_ways:FnScope ["course","finder","state","table","ways","value","weight"] ["course","finder","state"] (defScope (top 38)):=⟨rfl,rfl,rfl,by decide +kernel,rfl,by decide +kernel,by decide +kernel⟩
theorem ok_thw (T:Txt K mg q_NoShare q_NoTable q_TooMany q_Course q_Finder):Cal P w K mg base (CX1 P w) 8 "throw_ways" ["course","finder","state"] (spThw P w q_Course q_Finder):=by
 have m_Course_table_at:MtCal P w K mg base (CX1 P w) 7 q_Course "table_at" ["self","state"] (spTba q_Course):=ok_tba T
 have m_Course_by_value:MtCal P w K mg base (CX1 P w) 4 q_Course "by_value" ["self","state","value"] (spBv q_Course):=ok_bv T
 have m_Finder_number_of:MtCal P w K mg base (CX1 P w) 1 q_Finder "number_of" ["self","state"] (spNum P w q_Finder):=ok_num T
 have c_bottom_of:Cal P w K mg base (CX1 P w) 3 "bottom_of" ["table"] spBto:=ok_bto T
 have c_weighed:Cal P w K mg base (CX1 P w) 1 "weighed" ["table","bottom"] spWe:=ok_we T
 refine T.d_throw_ways.cal (fun _ _ _ _ _ _ us hl=>match us,hl with | [_,_,_],_=>rfl) fun f fd F=>F.okC sc_throw_ways (fun vs H Q E h=>?_) (fun cdv A outer s H vs Q E hr h=>?_)
 ·obtain⟨_,_,_,_,_,_,_,_,_,_,_,_,_,_,_,_,_,rfl,_⟩:=h;rfl
 ·obtain⟨c,fa,sv,Fr,l,n,tb,g,ss,st,ts,pool,t,b,rs,SS,m,rfl,co,gg,fi,tbs,m200,fr,sth,ln,lk,go,le,ahd,kk⟩:=h
  have nd:=sc_throw_ways.nd
  refine⟨_,(pss_cons (ps_set (i:=3) nd rfl (Or.inl rfl) (pe_mt m_Course_table_at T.cl_Course (pv 0) (hr.mono (by decide)) strictP.pass (pa_cons (pv 2) pa_nil (se rfl)) (hst:=se rfl) (hpl:=na rfl)))
  (pss_cons (ps_set (i:=4) nd rfl (Or.inl rfl) (pe_lst pa_nil))
  (pss_cons (ps_for PassesOwn.never rfl (pi_listK (K:=K) (pe_cal c_weighed (hr.mono (by decide)) rfl strictP.pass (pa_cons (pv 3) (pa_cons (pe_cal c_bottom_of (hr.mono (by decide)) rfl strictP.pass (pa_cons (pv 3) pa_nil (se rfl)) (he:=se rfl) (hpl:=na rfl)) pa_nil (se rfl)) (se rfl)) (he:=se rfl) (hpl:=na rfl))) (pg_tupK (K:=K) (n:=2) rfl (pgs_cons (pg_name (i:=5) nd rfl (Or.inl rfl)) (pgs_cons (pg_name (i:=6) nd rfl (Or.inl rfl)) pgs_nil))) (pss_one (ps_expr (pe_bm PySem.F.plainAttrs_list PySem.F.slot_list_append PySem.F.type_list_append mt_append.r (pv 4) (pa_cons (pe_tupS (pa_cons (pv 6) (pa_cons (pe_mt m_Finder_number_of T.cl_Finder (pv 1) (hr.mono (by decide)) strictP.pass (pa_cons (pe_mt m_Course_by_value T.cl_Course (pv 0) (hr.mono (by decide)) strictP.pass (pa_cons (pv 2) (pa_cons (pv 5) pa_nil (se rfl)) (se rfl)) (hst:=se rfl) (hpl:=na rfl)) pa_nil (se rfl)) (hst:=se rfl) (hpl:=na rfl)) pa_nil (se rfl)) (se rfl))) pa_nil (se rfl))))))
  (pss_one (ps_ret (pv 4)))))),?_⟩
  have sl:=sizeLine_eq
  unfold GoesX at go
  rw[lk] at go
  obtain⟨ps,B,rfl,gl,l4,isB,tl,al⟩:=go
  obtain⟨dx,sp,mo,wh,us,ft',h1,h2,h3,h4,h5,h6⟩:=id co
  obtain⟨dxf,xs0,ks0,f1,f2,f3,f4,f5,f6,f7,f8⟩:=id fi
  obtain⟨sa,cl,rfl,hsa,hcl⟩:=id sth
  obtain⟨kvs,htb,lkv,tabs⟩:=id tbs
  have grt:=goodR_tab gl
  have tl1:(tabP ps).length≤1296:=grt.2.2.1
  have lp:∀{a b c d e:V},List.lookup (Str.ofString "table_at") [(Str.ofString "spots",a),(Str.ofString "mosts",b),(Str.ofString "first",c),(Str.ofString "whats",d),(Str.ofString "tables",e)]=none:=lk_no (by decide +kernel) (by decide +kernel) (by decide +kernel) (by decide +kernel) (by decide +kernel)
  have lp2:∀{a b c d e:V},List.lookup (Str.ofString "by_value") [(Str.ofString "spots",a),(Str.ofString "mosts",b),(Str.ofString "first",c),(Str.ofString "whats",d),(Str.ofString "tables",e)]=none:=lk_no (by decide +kernel) (by decide +kernel) (by decide +kernel) (by decide +kernel) (by decide +kernel)
  have lp3:∀{a b:V},List.lookup (Str.ofString "number_of") [(Str.ofString "states",a),(Str.ofString "numbers",b)]=none:=lk_no2 (by decide +kernel) (by decide +kernel)
  change tSeq _ _ _ [some (.ref c),some (.ref fa),some (.ref sa),none,none,none,none] H
  refine seq_gen (fun σ' H1=>∃u,Same (hid3 H l n tb) (hid3 H1 l n tb)∧FiH P w q_Finder Fr H1 fa l n ss∧TbS H1 (hid3 H1 l n tb) tb g (m+1) Fr∧(∀a,H1 a=none→H a=none)∧Rep (hid3 H1 l n tb) (rowsD (tabP ps)) u∧σ'=[some (.ref c),some (.ref fa),some (.ref sa),some u,none,none,none]) ?_ (fun N hN=>?_)
  case refine_2=>
   simp_all only[tMeth,spTba]
   refine⟨_,_,hid3_sub _ _ h1,lp,g,st.1,st.2,tb,co.mono hid3_hid,sth.mono hid3_sub,kvs,htb,by omega,ps,t,b,rs,lk,gl,l4,fun v hv=>?_,fun hv p H1 s1 np rt=>?_⟩
   ·obtain⟨ps',t',b',rs',lk',_,rep⟩:=tabs _ _ hv
    rw[lk] at lk'
    injection lk' with lk'
    injection lk' with lk' _ _ _
    rw[←pts_inj lk'] at rep
    exact hN _ _ ⟨v,Same.refl _,fi,tbs.mono (Same.refl _) (by omega),fun _ h=>h,rep,rfl⟩
   ·have sT:Same (hid H tb) (hid (upd H1 tb (.dK (kvs++ [(Sum.inr st.1,V.ref p)]))) tb):=by rw[hid_hid'];exact hid_mono s1
    have s3:=hid3_tb (l:=l) (n:=n) sT
    have kt:∀a vs,H1 a=some (.tup vs)→hid3 (upd H1 tb (.dK (kvs++ [(Sum.inr st.1,V.ref p)]))) l n tb a=some (.tup vs):=fun a vs e=>by
     have e1:a≠l:=fun z=>by rw[z,s1 _ _ f3] at e;cases e
     have e2:a≠n:=fun z=>by rw[z,s1 _ _ f5] at e;cases e
     have e3:a≠tb:=fun z=>by rw[z,s1 _ _ htb] at e;cases e
     rw[hid3_of e1 e2 e3,upd_ne e3]
     exact e
    have kp:∀o,H1 p=some o→hid3 (upd H1 tb (.dK (kvs++ [(Sum.inr st.1,V.ref p)]))) l n tb p=some o:=fun o e=>by
     have e1:p≠l:=fun z=>by rw[z,f3] at np;cases np
     have e2:p≠n:=fun z=>by rw[z,f5] at np;cases np
     have e3:p≠tb:=fun z=>by rw[z,htb] at np;cases np
     rw[hid3_of e1 e2 e3,upd_ne e3]
     exact e
    have rt':=rows_in rt kp kt
    refine hN _ _ ⟨.ref p,s3,fi.tb sT htb,⟨_,upd_same,by rw[List.length_append,List.length_singleton];omega,fun nm v e=>?_⟩,fun a ha=>?_,rt',rfl⟩
    ·rw[val_snoc hv] at e
     by_cases z:(Sum.inr st.1:Key)=Sum.inr nm
     ·rw[if_pos z] at e
      injection z with z
      injection e with e
      subst e
      exact⟨ps,t,b,rs,z▸lk,⟨p,rfl,fr p np⟩,rt'⟩
     ·rw[if_neg z] at e
      obtain⟨ps',t',b',rs',a1,fp,a2⟩:=tabs nm v e
      exact⟨ps',t',b',rs',a1,fp,a2.mono s3⟩
    ·have z:a≠tb:=fun z=>by rw[z,upd_same] at ha;cases ha
     rw[upd_ne z] at ha
     exact none_of s1 ha
  rintro _ H1 ⟨u,s1,fi1,tb1,no1,ru,rfl⟩
  obtain⟨kvs1,htb1,lkv1,tabs1⟩:=id tb1
  obtain⟨dxg,xs1,ks1,g1,g2,g3,g4,g5,g6,g7,g8⟩:=id fi1
  change tSeq _ _ _ [some (.ref c),some (.ref fa),some (.ref sa),some u,none,none,none] H1
  refine seq_gen (fun σ' H2=>Same H1 H2∧∃w',H1 w'=none∧H2 w'=some (.lst [])∧σ'=[some (.ref c),some (.ref fa),some (.ref sa),some u,some (.ref w'),none,none]) ?_ (fun N hN=>?_)
  case refine_2=>
   simp_all only[]
   exact⟨Nat.zero_le _,fun w' nw=>hN _ _ ⟨same_upd nw,w',nw,upd_same,rfl⟩⟩
  rintro _ H2 ⟨s2,w',nw,hw2,rfl⟩
  simp_all only[spBto,spWe]
  refine⟨_,(ru.mono hid3_sub).mono s2,_,grt,fun B' H3 s3 isB'=>?_⟩
  have eB:=isB_uniq isB' isB
  subst eB
  refine⟨_,(ru.mono hid3_sub).mono (s2.trans s3),_,grt,isB',fun wl H4 s4 nwl r4=>?_⟩
  have s14:Same H1 H4:=s2.trans (s3.trans s4)
  have s13:Same H1 H3:=s2.trans s3
  have wl1:w'≠l:=fun z=>by rw[z,g3] at nw;cases nw
  have wl2:w'≠n:=fun z=>by rw[z,g5] at nw;cases nw
  have wl3:w'≠tb:=fun z=>by rw[z,htb1] at nw;cases nw
  have hw4:H4 w'=some (.lst []):=(s3.trans s4) _ _ hw2
  let X:Hp→Hp:=fun H'=>hid (hid3 H' l n tb) w'
  have X_of:∀{H':Hp} {a:Addr},a≠l→a≠n→a≠tb→a≠w'→X H' a=H' a:=fun h1 h2 h3 h4=>by
   show hid (hid3 _ l n tb) w' _=_
   rw[hid_ne h4,hid3_of h1 h2 h3]
  have X_out:∀{H':Hp} {a:Addr} {o:HO},X H' a=some o→a≠l∧a≠n∧a≠tb∧a≠w':=fun {H' a o} e=>by
   have h4:a≠w':=fun z=>by
    have e:(if a=w' then none else hid3 H' l n tb a)=some o:=e
    rw[if_pos z] at e
    cases e
   have e:hid (hid3 H' l n tb) w' a=some o:=e
   rw[hid_ne h4] at e
   obtain⟨h1,h2,h3⟩:=hid3_out e
   exact⟨h1,h2,h3,h4⟩
  have X_sub:∀{H':Hp},Same (X H') H':=hid_sub.trans hid3_sub
  have s1X:Same (hid3 H1 l n tb) (X H4):=fun a o e=>by
   obtain⟨e1,e2,e3⟩:=hid3_out e
   rw[hid3_of e1 e2 e3] at e
   rw[X_of e1 e2 e3 (fun z=>by rw[z,nw] at e;cases e)]
   exact s14 _ _ e
  have r4':Rep (X H4) (wrowsD (Nm.weigh (tabP ps) B')) (.ref wl):=by
   refine wrows_in r4 (fun o e=>?_) fun a vs e=>?_
   ·rw[X_of (fun z=>by rw[z,s13 _ _ g3] at nwl;cases nwl) (fun z=>by rw[z,s13 _ _ g5] at nwl;cases nwl) (fun z=>by rw[z,s13 _ _ htb1] at nwl;cases nwl) (fun z=>by rw[z,s3 _ _ hw2] at nwl;cases nwl)]
    exact e
   ·rw[X_of (fun z=>by rw[z,s14 _ _ g3] at e;cases e) (fun z=>by rw[z,s14 _ _ g5] at e;cases e) (fun z=>by rw[z,s14 _ _ htb1] at e;cases e) (fun z=>by rw[z,hw4] at e;cases e)]
    exact e
  obtain⟨_,zs,ez,hwl,rz⟩:=rep_lst.mp r4'
  cases ez
  have zl:=rz.length
  rw[List.length_map] at zl
  have wlen:(Nm.weigh (tabP ps) B').length=(tabP ps).length:=by unfold Nm.weigh;rw[List.length_map]
  let Fr':Addr→Prop:=fun a=>Fr a∧a≠w'
  refine⟨⟨_,SqL.of (X_sub _ _ hwl)⟩,for_src (src_list (Ok:=fun H'=>X H' wl=some (.lst zs)) (fun H' k=>SqL.of (X_sub _ _ k))) (fun i σ H'=>Same (X H4) (X H')∧FiH P w q_Finder Fr' H' fa l n (addAll ss (sts (ts.take i)))∧H' tb=some (.dK kvs1)∧(∃xs,H' w'=some (.lst xs)∧xs.length=i∧RepL (X H') ((ts.take i).map (wayD SS)) xs)∧∃z1 z2,σ=[some (.ref c),some (.ref fa),some (.ref sa),some u,some (.ref w'),z1,z2]) ⟨Same.refl _,(fi1.fr fun a o ha h0=>⟨h0,(fun z=>by rw[z,nw] at ha;cases ha)⟩).mono s14,s14 _ _ htb1,⟨[],hw4,rfl,repL_nil.mpr rfl⟩,_,_,rfl⟩ (fun _ _ _ _ h=>h.1 _ _ hwl) ?_ ?_⟩
  ·rintro i x σ H6 H5 hi ⟨sX,fi5,htb5,⟨xs,hw5,xl,rx⟩,z1,z2,rfl⟩ ⟨rfl,ex⟩
   obtain⟨dd,ed,rd⟩:=rz.get ex
   rw[List.getElem?_map] at ed
   obtain⟨x0,e0,rfl⟩:=Option.map_eq_some_iff.mp ed
   obtain⟨q,rfl,hq⟩:=rep_wrow.mp rd
   obtain⟨r,s',ro,et,gt,hs'⟩:=al i x0 e0
   unfold goT at gt
   obtain⟨nm',ak,e9⟩:=Option.map_eq_some_iff.mp gt
   subst e9
   have subX:Same (X H4) H5:=sX.trans X_sub
   have s05:Same (hid3 H l n tb) H5:=s1.trans (s1X.trans subX)
   obtain⟨dx5,xs5,ks5,u1,u2,u3,u4,u5,u6,u7,u8⟩:=id fi5
   have tk:ts.take (i+1)=ts.take i++ [(x0.2,(nm',r.2.2.1.foldl (doD g.cs x0.1) st.2))]:=by rw[List.take_add_one,et];rfl
   have ea:addAll ss (sts (ts.take (i+1)))=addS (addAll ss (sts (ts.take i))) (nm',r.2.2.1.foldl (doD g.cs x0.1) st.2):=by
    rw[tk]
    unfold addAll sts
    rw[List.map_append,List.foldl_append]
    rfl
   have ah:Ahd (addAll ss (sts (ts.take (i+1)))) (addAll ss (sts ts)):=by
    have:=addAll_ahd (sts (ts.drop (i+1))) (addAll ss (sts (ts.take (i+1))))
    unfold addAll sts at this ⊢
    rw[←List.foldl_append,←List.map_append,List.take_append_drop] at this
    exact this
   have ty:tyV K "list" (.ref w') H5:=.inl ⟨rfl,_,SqL.of hw5⟩
   refine⟨q,_,rfl,SqT.of (subX _ _ hq),rfl,?_⟩
   have X_upd:∀{H':Hp} {o:HO},X (upd H' w' o)=X H':=fun {H' o}=>by
    funext a
    show(if a=w' then none else (if a=tb then none else if a=n then none else if a=l then none else upd H' w' o a))=if a=w' then none else (if a=tb then none else if a=n then none else if a=l then none else H' a)
    by_cases z:a=w'
    ·rw[if_pos z,if_pos z]
    ·rw[if_neg z,if_neg z,upd_ne z]
   have X_mono:∀{H' H'':Hp},Same H' H''→Same (X H') (X H''):=fun s=>hid_mono (hid_mono (hid2_mono s))
   simp_all only[tMeth,spBv,spNum,rAppend]
   refine⟨ty,_,_,hid2_sub _ _ u1,lp3,_,_,s05 _ _ h1,lp2,g,(co.mono s05).co,gg,st.1,st.2,sth.mono s05,ln,_,_,_,_,lk,r,ro,_,nm',ak,fun a b' H7 s7 na nb e1 e2=>?_⟩
   have al5:a≠l:=fun z=>by rw[z,u3] at na;cases na
   have an5:a≠n:=fun z=>by rw[z,u5] at na;cases na
   have bl5:b'≠l:=fun z=>by rw[z,u3] at nb;cases nb
   have bn5:b'≠n:=fun z=>by rw[z,u5] at nb;cases nb
   have bt5:b'≠tb:=fun z=>by rw[z,htb5] at nb;cases nb
   have bw5:b'≠w':=fun z=>by rw[z,hw5] at nb;cases nb
   have frb:Fr' b':=⟨fr b' (no1 b' (by
    cases h0:H1 b' with
    | none=>rfl
    | some o=>rw[(s1X.trans subX) _ _ (by rw[hid3_of bl5 bn5 bt5];exact h0)] at nb;cases nb)),bw5⟩
   have stf:StF Fr' (hid2 H7 l n) (.ref a) nm' (r.2.2.1.foldl (doD g.cs x0.1) st.2):=⟨a,b',rfl,by rw[hid2_of al5 an5];exact e1,by rw[hid2_of bl5 bn5];exact e2,frb⟩
   have lfd:(r.2.2.1.foldl (doD g.cs x0.1) st.2).length≤100:=by rw[foldD_len,ln];exact gg.lc
   have fit:=addS_len (ss:=addAll ss (sts (ts.take i))) (s:=(nm',r.2.2.1.foldl (doD g.cs x0.1) st.2)) (by rw[←ea];exact Nat.le_trans ah.len le)
   refine⟨Fr',l,n,_,fi5.mono s7,(nm',_),stf,hs',lfd,fit,fun H8 s8 fi8=>⟨by omega,fun e H9 s9 ne ee=>?_⟩⟩
   have tbl:tb≠l:=fun z=>by rw[z,g3] at htb1;cases htb1
   have tbn:tb≠n:=fun z=>by rw[z,g5] at htb1;cases htb1
   have htb8:H8 tb=some (.dK kvs1):=hid2_sub _ _ (s8 _ _ (by rw[hid2_of tbl tbn];exact s7 _ _ htb5))
   have hw8:H8 w'=some (.lst xs):=hid2_sub _ _ (s8 _ _ (by rw[hid2_of wl1 wl2];exact s7 _ _ hw5))
   obtain⟨dx8,xs8,ks8,v1,v2,v3,v4,v5,v6,v7,v8⟩:=id fi8
   have sX9:Same (X H5) (X H9):=(X_mono s7).trans ((hid_mono (hid_mono s8)).trans (X_mono s9))
   have mem:(nm',r.2.2.1.foldl (doD g.cs x0.1) st.2)∈addAll ss (sts (ts.take (i+1))):=by rw[ea];exact addS_mem _ _
   have hidx:SS.idxOf (nm',r.2.2.1.foldl (doD g.cs x0.1) st.2)=(addAll ss (sts (ts.take i))).idxOf (nm',r.2.2.1.foldl (doD g.cs x0.1) st.2):=by rw[(ah.trans ahd).idx mem,ea,addS_idx]
   refine⟨_,s9 _ _ hw8,by omega,by rw[X_upd];exact sX.trans sX9,by rw[ea];exact(fi8.mono s9).updb (fun a h=>h.2) (s9 _ _ hw8) wl1,by rw[upd_ne (Ne.symm wl3)];exact s9 _ _ htb8,⟨_,upd_same,by rw[List.length_append,xl];rfl,?_⟩,_,rfl⟩
   rw[X_upd,tk,List.map_append]
   refine(rx.mono sX9).append (repL_cons.mpr ⟨_,_,rfl,rep_t2.mpr ⟨e,_,_,rfl,?_,rep_int.mpr rfl,rep_int.mpr (by rw[hidx])⟩,repL_nil.mpr rfl⟩)
   rw[X_of (fun z=>by rw[z,v3] at ne;cases ne) (fun z=>by rw[z,v5] at ne;cases ne) (fun z=>by rw[z,htb8] at ne;cases ne) (fun z=>by rw[z,hw8] at ne;cases ne)]
   exact ee
  ·rintro σ H5 ⟨sX,fi5,htb5,⟨xs,hw5,xl,rx⟩,z1,z2,rfl⟩
   rw[←zl,wlen,←tl,List.take_of_length_le (Nat.le_refl _)] at fi5 rx
   simp_all only[]
   refine kk w' H5 (s1.trans (s1X.trans (sX.trans hid_sub))) (fi5.fr fun a o _ h=>h.1) ?_ (no1 _ nw) (rep_lst.mpr ⟨w',xs,rfl,by rw[hid3_of wl1 wl2 wl3];exact hw5,rx.mono hid_sub⟩)
   exact⟨kvs1,htb5,lkv1,fun nm v e=>by obtain⟨ps',t',b',rs',a1,fp,a2⟩:=tabs1 nm v e;exact⟨ps',t',b',rs',a1,fp,a2.mono (s1X.trans (sX.trans hid_sub))⟩⟩
theorem sc_taken_up:FnScope ["course","finder","state","what"] ["course","finder","state"] (defScope (top 40)):=⟨rfl,rfl,rfl,by decide +kernel,rfl,by decide +kernel,by decide +kernel⟩
noncomputable def WfV (H0 X:Hp) (b l:Addr) (v:V):Prop:=∃q vs,v=.ref q∧X q=some (.tup vs)∧∀x y w,vs=[x,y,.ref w]→H0 w=none∧w≠b∧w≠l
theorem WfV.mono {H0 X X':Hp} {b l:Addr} {v:V} (s:Same X X'):WfV H0 X b l v→WfV H0 X' b l v:=fun⟨q,vs,e,h,k⟩=>⟨q,vs,e,s _ _ h,k⟩
noncomputable def spTk3 (P:Program) (w:World) (qc qf:Addr):Sp:=fun vs H Q _=>∃c f sv Fr l n tb g ss st ts SS m,vs=[.ref c,.ref f,sv]∧CoT qc (hid3 H l n tb) c g tb∧GoodG g∧FiH P w qf Fr H f l n ss∧TbS H (hid3 H l n tb) tb g m Fr∧m≤200∧(∀a,H a=none→Fr a)∧StH (hid3 H l n tb) sv st.1 st.2∧st.2.length=g.cs.length∧
 GoesX g st ts∧(addAll ss (sts ts)).length≤120∧Ahd (addAll ss (sts ts)) SS∧∀u H',Same (hid3 H l n tb) (hid3 H' l n tb)→FiH P w qf Fr H' f l n (addAll ss (sts ts))→TbS H' (hid3 H' l n tb) tb g (m+1) Fr→(∀b ys,H b=some (.lst ys)→Rep (hid (hid3 H' l n tb) b) (plcX g SS st ts) u∧∃q vs,u=.ref q∧hid (hid3 H' l n tb) b q=some (.tup vs)∧∀x y w,vs=[x,y,.ref w]→H w=none)→Q u H'
noncomputable def spSpr3:Sp:=fun vs H Q _=>∃gv g ft nm F SS tss,vs=[gv]∧Rep H (gmD g) gv∧GoodG g∧(g.ps.map (·.1)).head?=some ft∧askd g (List.replicate g.cs.length 0) F ft=some nm∧hsh (.str nm)=true∧SprdW g SS 0 [(nm,List.replicate g.cs.length 0)] tss∧SS.length≤120∧
 ∀p b l wl bs xs ws H',Same H H'→H b=none→H' p=some (.tup [.ref b,.ref l,.ref wl])→H' b=some (.lst bs)→RepL H' (brdD g SS tss) bs→(∀v∈bs,WfV H H' b l v)→H' l=some (.lst xs)→Al (fun s v=>StF (fun a=>H a=none∧a≠b∧a≠l) H' v s.1 s.2) SS xs→H' wl=some (.lst ws)→RepL H' (SS.map (wordsD g)) ws→Q (.ref p) H'
theorem ok_tk (T:Txt K mg q_NoShare q_NoTable q_TooMany q_Course q_Finder):Cal P w K mg base (CX1 P w) 9 "taken_up" ["course","finder","state"] (spTk3 P w q_Course q_Finder):=by
 have m_Course_what_at:MtCal P w K mg base (CX1 P w) 1 q_Course "what_at" ["self","state"] (spWat q_Course):=ok_wat T
 have m_Course_end_worth:MtCal P w K mg base (CX1 P w) 2 q_Course "end_worth" ["self","state"] (spEnd q_Course):=ok_end T
 have c_pick_ways:Cal P w K mg base (CX1 P w) 4 "pick_ways" ["course","finder","state"] (spPkw P w q_Course q_Finder):=ok_pkw T
 have c_throw_ways:Cal P w K mg base (CX1 P w) 8 "throw_ways" ["course","finder","state"] (spThw P w q_Course q_Finder):=ok_thw T
 refine T.d_taken_up.cal (fun _ _ _ _ _ _ us hl=>match us,hl with | [_,_,_],_=>rfl) fun f fd F=>F.okC sc_taken_up (fun vs H Q E h=>?_) (fun cdv A outer s H vs Q E hr h=>?_)
 ·obtain⟨_,_,_,_,_,_,_,_,_,_,_,_,_,rfl,_⟩:=h;rfl
 ·obtain⟨c,fa,sv,Fr,l,n,tb,g,ss,st,ts,SS,m,rfl,cot,gg,fi,tbs,m200,fr,sth3,ln,go,le,ahd,kk⟩:=h
  have co:CoH q_Course (hid2 H l n) c g:=(cot.mono hid_sub).co
  have sth:StH (hid2 H l n) sv st.1 st.2:=sth3.mono hid_sub
  have nd:=sc_taken_up.nd
  refine⟨_,(pss_cons (ps_set (i:=3) nd rfl (Or.inl rfl) (pe_mt m_Course_what_at T.cl_Course (pv 0) (hr.mono (by decide)) strictP.pass (pa_cons (pv 2) pa_nil (se rfl)) (hst:=se rfl) (hpl:=na rfl)))
  (pss_cons (ps_if (pt_cmpR op_eq (pe_ix ix_tupH (pv 3) pe_int (fun _ _=>rfl)) pe_str (nomark _)) (pss_one (ps_ret (pe_tupS (pa_cons pe_str (pa_cons (pe_ix ix_tupH (pv 3) pe_int (fun _ _=>rfl)) (pa_cons (pe_cal c_throw_ways (hr.mono (by decide)) rfl strictP.pass (pa_cons (pv 0) (pa_cons (pv 1) (pa_cons (pv 2) pa_nil (se rfl)) (se rfl)) (se rfl)) (he:=se rfl) (hpl:=na rfl)) pa_nil (se rfl)) (se rfl)) (se rfl)))))
   pss_nil)
  (pss_cons (ps_if (pt_cmpR op_eq (pe_ix ix_tupH (pv 3) pe_int (fun _ _=>rfl)) pe_str (nomark _)) (pss_one (ps_ret (pe_tupS (pa_cons pe_str (pa_cons (pe_ix ix_tupH (pv 3) pe_int (fun _ _=>rfl)) (pa_cons (pe_cal c_pick_ways (hr.mono (by decide)) rfl strictP.pass (pa_cons (pv 0) (pa_cons (pv 1) (pa_cons (pv 2) pa_nil (se rfl)) (se rfl)) (se rfl)) (he:=se rfl) (hpl:=na rfl)) pa_nil (se rfl)) (se rfl)) (se rfl)))))
   pss_nil)
  (pss_one (ps_ret (pe_tupS (pa_cons pe_str (pa_cons (pe_mt m_Course_end_worth T.cl_Course (pv 0) (hr.mono (by decide)) strictP.pass (pa_cons (pv 2) pa_nil (se rfl)) (hst:=se rfl) (hpl:=na rfl)) pa_nil (se rfl)) (se rfl)))))))),?_⟩
  have sl:=sizeLine_eq
  obtain⟨kvs,htb,lkv,tabs⟩:=id tbs
  obtain⟨dx,sp,mo,wh,tb0,us,ft',h1,h2,h3,h4,h5,h6⟩:=id co
  obtain⟨dxf,xs0,ks0,f1,f2,f3,f4,f5,f6,f7,f8⟩:=id fi
  obtain⟨sa,cl,rfl,hsa,hcl⟩:=id sth
  have tbl:tb≠l:=fun z=>by rw[z,f3] at htb;cases htb
  have tbn:tb≠n:=fun z=>by rw[z,f5] at htb;cases htb
  have tb_to:∀{H':Hp},Same (hid2 H l n) (hid2 H' l n)→TbS H' (hid3 H' l n tb) tb g (m+1) Fr:=fun {H'} s=>⟨kvs,hid2_sub _ _ (s _ _ (by rw[hid2_of tbl tbn];exact htb)),by omega,fun nm v e=>by obtain⟨ps',t',b',rs',a1,fp,a2⟩:=tabs nm v e;exact⟨ps',t',b',rs',a1,fp,a2.mono (hid_mono s)⟩⟩
  have go0:=go
  unfold GoesX at go
  have lp:∀{a b c d e:V},List.lookup (Str.ofString "what_at") [(Str.ofString "spots",a),(Str.ofString "mosts",b),(Str.ofString "first",c),(Str.ofString "whats",d),(Str.ofString "tables",e)]=none:=lk_no (by decide +kernel) (by decide +kernel) (by decide +kernel) (by decide +kernel) (by decide +kernel)
  have lp2:∀{a b c d e:V},List.lookup (Str.ofString "end_worth") [(Str.ofString "spots",a),(Str.ofString "mosts",b),(Str.ofString "first",c),(Str.ofString "whats",d),(Str.ofString "tables",e)]=none:=lk_no (by decide +kernel) (by decide +kernel) (by decide +kernel) (by decide +kernel) (by decide +kernel)
  have kend:∀x t b,look g.ps st.1=some x→ts=[]→endW g.cs st.2 x=some (t,b)→(∀wo rs,x≠.pick wo rs)→∀p u H1,Same H H1→H p=none→H1 p=some (.tup [.str (Str.ofString "end"),u])→Rep H1 (.tup [.int t,.int b]) u→Q (.ref p) H1:=by
   intro x t b lk e0 ew np p u H1 s1 n1 e1 r1
   subst e0
   refine kk _ H1 (hid_mono (hid2_mono s1)) (fi.mono s1) (tb_to (hid2_mono s1)) fun b' ys hb=>?_
   have rd:plcX g SS st []=.tup [.str (Str.ofString "end"),.tup [.int t,.int b]]:=by
    unfold plcX plcD
    rw[lk]
    cases x with
    | pick wo rs=>exact absurd rfl (np wo rs)
    | fin _ _=>simp only[ew];rfl
    | score _=>simp only[ew];rfl
    | ask _ _ _ _=>cases ew
    | thr _ _ _ _=>cases ew
   rw[rd]
   obtain⟨q,y1,y2,rfl,hq,z1,z2⟩:=rep_t2.mp r1
   have tp:∀a vs,H1 a=some (.tup vs)→hid (hid3 H1 l n tb) b' a=some (.tup vs):=fun a vs ha=>by
    have al:a≠l:=fun z=>by rw[z,s1 _ _ f3] at ha;cases ha
    have an:a≠n:=fun z=>by rw[z,s1 _ _ f5] at ha;cases ha
    have ab:a≠b':=fun z=>by rw[z,s1 _ _ hb] at ha;cases ha
    have at':a≠tb:=fun z=>by rw[z,s1 _ _ htb] at ha;cases ha
    rw[hid_ne ab,hid3_of al an at']
    exact ha
   exact⟨rep_t2.mpr ⟨p,_,_,rfl,tp _ _ e1,rep_str.mpr rfl,rep_t2.mpr ⟨q,y1,y2,rfl,tp _ _ hq,rep_int.mpr (rep_int.mp z1),rep_int.mpr (rep_int.mp z2)⟩⟩,p,_,rfl,tp _ _ e1,fun x y w e=>by simp at e⟩
  cases lk:look g.ps st.1 with
  | none=>rw[lk] at go;exact go.elim
  | some x=>
  rw[lk] at go
  change tSeq _ _ _ [some (.ref c),some (.ref fa),some (.ref sa),none] H
  refine seq_gen (fun σ' H1=>H=H1∧∃u,Rep (hid2 H l n) (wtD x) u∧σ'=[some (.ref c),some (.ref fa),some (.ref sa),some u]) ?_ (fun N hN=>?_)
  case refine_2=>
   simp_all only[tMeth,spWat]
   exact⟨_,_,hid2_sub _ _ h1,lp,hid2 H l n,hid2_sub,g,co,st.1,st.2,sth.mono hid2_sub,x,lk,fun u ru=>hN _ _ ⟨rfl,u,ru,rfl⟩⟩
  rintro _ _ ⟨rfl,u,ru,rfl⟩
  cases x with
  | pick wo rs=>
   obtain⟨p,x1,x2,x3,rfl,hp,r1,r2,r3⟩:=rep_t3.mp (show Rep _ (.tup _) u from ru)
   rw[rep_str] at r1
   rw[rep_int] at r2
   subst r1 r2
   simp_all only[hid2_sub _ _ hp,spPkw]
   rw[if_neg (by decide +kernel)]
   refine⟨Fr,l,n,g,co,gg,ss,fi,fr,st,sth,ln,sts ts,wo,rs,lk,go,le,SS,ahd,fun p' H1 s1 fi1 np' hp'=>⟨by omega,fun p2 H2 s2 n2 e2=>kk _ H2 (hid_mono (s1.trans (hid2_mono s2))) (fi1.mono s2) (tb_to (s1.trans (hid2_mono s2))) fun b ys hb=>?_⟩⟩
   obtain⟨dx1,xs1,ks1,u1,u2,u3,u4,u5,u6,u7,u8⟩:=id fi1
   have rd:plcX g SS st ts=.tup [.str (Str.ofString "pick"),.int wo,.lst ((sts ts).map fun t=>.int ((SS.idxOf t:Nat):Int))]:=by
    unfold plcX plcD
    rw[lk]
    rfl
   rw[rd]
   have hb1:∃o,H1 b=some o:=by
    by_cases z:b=l
    ·exact⟨_,z▸u3⟩
    ·exact⟨_,hid2_sub _ _ (s1 _ _ (by rw[hid2_of z (fun z=>by rw[z,f5] at hb;cases hb)];exact hb))⟩
   obtain⟨o,hb1⟩:=hb1
   have pb:p'≠b:=fun z=>by rw[z,hb] at np';cases np'
   have p2b:p2≠b:=fun z=>by rw[z,hb1] at n2;cases n2
   have p2l:p2≠l:=fun z=>by rw[z,u3] at n2;cases n2
   have htb1:H1 tb=some (.dK kvs):=hid2_sub _ _ (s1 _ _ (by rw[hid2_of tbl tbn];exact htb))
   have p2t:p2≠tb:=fun z=>by rw[z,htb1] at n2;cases n2
   have pt:p'≠tb:=fun z=>by rw[z,htb] at np';cases np'
   have p2n:p2≠n:=fun z=>by rw[z,u5] at n2;cases n2
   refine⟨?_,p2,_,rfl,by rw[hid_ne p2b,hid3_of p2l p2n p2t];exact e2,fun x y w e=>by simp only[List.cons.injEq,V.ref.injEq] at e;obtain⟨_,_,e,_⟩:=e;exact e▸np'⟩
   refine rep_t3.mpr ⟨p2,_,_,_,rfl,by rw[hid_ne p2b,hid3_of p2l p2n p2t];exact e2,rep_str.mpr rfl,rep_int.mpr rfl,rep_lst.mpr ⟨p',_,rfl,by rw[hid_ne pb];show hid (hid2 H2 l n) tb p'=_;rw[hid_ne pt];exact hid2_mono s2 _ _ hp',?_⟩⟩
   have e:((sts ts).map fun t=>V.int ((SS.idxOf t:Nat):Int))=((sts ts).map fun t=>((SS.idxOf t:Nat):Int)).map V.int:=by rw[List.map_map];rfl
   have e':((sts ts).map fun t=>Dat.int ((SS.idxOf t:Nat):Int))=((sts ts).map fun t=>((SS.idxOf t:Nat):Int)).map Dat.int:=by rw[List.map_map];rfl
   rw[e,e']
   exact RepL.ints _
  | fin t b=>
   obtain⟨p,x1,x2,rfl,hp,r1,r2⟩:=rep_t2.mp (show Rep _ (.tup _) u from ru)
   rw[rep_str] at r1
   subst r1
   simp_all only[hid2_sub _ _ hp,tMeth,spEnd]
   rw[if_neg (by decide +kernel),if_neg (by decide +kernel)]
   refine⟨_,_,hid2_sub _ _ h1,lp2,g,co.mono hid2_sub,gg,st.1,st.2,sth.mono hid2_sub,ln,_,lk,_,_,rfl,fun u H1 s1 r1=>⟨by omega,fun p2 H2 s2 n2 e2=>kend _ _ _ lk go rfl (fun _ _ z=>by cases z) p2 u H2 (s1.trans s2) (none_of s1 n2) e2 (r1.mono s2)⟩⟩
  | score cn=>
   obtain⟨p,x1,x2,rfl,hp,r1,r2⟩:=rep_t2.mp (show Rep _ (.tup _) u from ru)
   rw[rep_str] at r1
   subst r1
   simp_all only[hid2_sub _ _ hp,tMeth,spEnd]
   rw[if_neg (by decide +kernel),if_neg (by decide +kernel)]
   refine⟨_,_,hid2_sub _ _ h1,lp2,g,co.mono hid2_sub,gg,st.1,st.2,sth.mono hid2_sub,ln,_,lk,_,_,rfl,fun u H1 s1 r1=>⟨by omega,fun p2 H2 s2 n2 e2=>kend _ _ _ lk go rfl (fun _ _ z=>by cases z) p2 u H2 (s1.trans s2) (none_of s1 n2) e2 (r1.mono s2)⟩⟩
  | ask _ _ _ _=>exact go.elim
  | thr pool t b rs=>
   obtain⟨p,x1,x2,x3,x4,rfl,hp,r1,r2,r3,r4⟩:=rep_t4.mp (show Rep _ (.tup _) u from ru)
   rw[rep_str] at r1
   subst r1
   simp_all only[hid2_sub _ _ hp,spThw]
   refine⟨Fr,l,n,tb,g,cot,gg,ss,fi,st,ts,pool,t,b,rs,SS,m,tbs,m200,fr,sth3,ln,lk,go0,le,ahd,fun p' H1 s1 fi1 tb1 np' rp'=>⟨by omega,fun p2 H2 s2 n2 e2=>kk _ H2 (s1.trans (hid_mono (hid2_mono s2))) (fi1.mono s2) ((tb1.heap fun _ h=>s2 _ _ h).mono (hid_mono (hid2_mono s2)) (Nat.le_refl _)) fun b' ys hb=>?_⟩⟩
   obtain⟨dx1,xs1,ks1,u1,u2,u3,u4,u5,u6,u7,u8⟩:=id fi1
   obtain⟨kvs1,htb1,_,_⟩:=id tb1
   have rd:plcX g SS st ts=.tup [.str (Str.ofString "throw"),.tup [.int t,.int b],.lst (ts.map (wayD SS))]:=by
    unfold plcX
    rw[lk]
   rw[rd]
   have b1:∀{a vs},hid3 H1 l n tb a=some (.tup vs)→hid (hid3 H2 l n tb) b' a=some (.tup vs):=fun {a vs} ha=>by
    obtain⟨e1,e2,e3⟩:=hid3_out ha
    have ab:a≠b':=fun z=>by
     subst z
     have:=s1 _ _ (by rw[hid3_of e1 e2 e3];exact hb)
     rw[this] at ha
     cases ha
    rw[hid_ne ab]
    exact hid_mono (hid2_mono s2) _ _ ha
   have hb1:∃o,H1 b'=some o:=by
    by_cases z:b'=l
    ·exact⟨_,z▸u3⟩
    ·exact⟨_,hid3_sub _ _ (s1 _ _ (by rw[hid3_of z (fun z=>by rw[z,f5] at hb;cases hb) (fun z=>by rw[z,htb] at hb;cases hb)];exact hb))⟩
   obtain⟨o,hb1⟩:=hb1
   have p2b:p2≠b':=fun z=>by rw[z,hb1] at n2;cases n2
   have p2l:p2≠l:=fun z=>by rw[z,u3] at n2;cases n2
   have p2n:p2≠n:=fun z=>by rw[z,u5] at n2;cases n2
   have p2t:p2≠tb:=fun z=>by rw[z,htb1] at n2;cases n2
   have pb:p'≠b':=fun z=>by rw[z,hb] at np';cases np'
   obtain⟨pa,y1,y2,rfl,hpa,q1,q2⟩:=rep_t2.mp r3
   have hpa3:hid3 H l n tb pa=some (.tup [y1,y2]):=by
    show hid (hid2 H l n) tb pa=_
    rw[hid_ne (fun z=>by have:=hid2_sub _ _ hpa;rw[z,htb] at this;cases this)]
    exact hpa
   obtain⟨p'',zs,ez,hp',rz⟩:=rep_lst.mp rp'
   cases ez
   refine⟨?_,p2,_,rfl,by rw[hid_ne p2b,hid3_of p2l p2n p2t];exact e2,fun x y w e=>by simp only[List.cons.injEq,V.ref.injEq] at e;obtain⟨_,_,e,_⟩:=e;exact e▸np'⟩
   refine rep_t3.mpr ⟨p2,_,_,_,rfl,by rw[hid_ne p2b,hid3_of p2l p2n p2t];exact e2,rep_str.mpr rfl,rep_t2.mpr ⟨pa,y1,y2,rfl,b1 (s1 _ _ hpa3),rep_int.mpr (rep_int.mp q1),rep_int.mpr (rep_int.mp q2)⟩,rep_lst.mpr ⟨p',zs,rfl,by rw[hid_ne pb];exact hid_mono (hid2_mono s2) _ _ hp',RepL.of rz.length fun i d v ed ev=>?_⟩⟩
   obtain⟨d',ed',rd'⟩:=rz.get ev
   rw[ed] at ed'
   cases ed'
   rw[List.getElem?_map] at ed
   obtain⟨x,_,rfl⟩:=Option.map_eq_some_iff.mp ed
   obtain⟨q,a1,a2,rfl,hq,c1,c2⟩:=rep_t2.mp (show Rep _ (.tup _) v from rd')
   exact rep_t2.mpr ⟨q,a1,a2,rfl,b1 hq,rep_int.mpr (rep_int.mp c1),rep_int.mpr (rep_int.mp c2)⟩
theorem sc_spread:FnScope ["game","course","finder","board"] ["game"] (defScope (top 41)):=⟨rfl,rfl,rfl,by decide +kernel,rfl,by decide +kernel,by decide +kernel⟩
theorem zip_snoc {α β:Type} {x:α} {y:β}:∀{as:List α} {bs:List β},as[bs.length]?=some x→as.zip (bs++ [y])=as.zip bs++ [(x,y)]
 | [],_,e=>by simp at e
 | a::as,[],e=>by
  have e:some a=some x:=e
  cases e
  simp
 | a::as,b::bs,e=>by
  rw[List.cons_append,List.zip_cons_cons,List.zip_cons_cons,zip_snoc (as:=as) (bs:=bs) (by simpa using e)]
  rfl
theorem ok_spr (T:Txt K mg q_NoShare q_NoTable q_TooMany q_Course q_Finder):Cal P w K mg base (CX1 P w) 10 "spread" ["game"] spSpr3:=by
 have m_Course_start:MtCal P w K mg base (CX1 P w) 2 q_Course "start" ["self"] (spSta q_Course):=ok_sta T
 have m_Course_words_at:MtCal P w K mg base (CX1 P w) 3 q_Course "words_at" ["self","state"] (spWds q_Course):=ok_wds T
 have m_Finder_number_of:MtCal P w K mg base (CX1 P w) 1 q_Finder "number_of" ["self","state"] (spNum P w q_Finder):=ok_num T
 have c_taken_up:Cal P w K mg base (CX1 P w) 9 "taken_up" ["course","finder","state"] (spTk3 P w q_Course q_Finder):=ok_tk T
 have m_Course:MkCal P w K mg base (CX1 P w) 3 "Course" q_Course ["self","game"] (spCo q_Course):=ok_co T
 have m_Finder:MkCal P w K mg base (CX1 P w) 1 "Finder" q_Finder ["self"] (spFi P w q_Finder):=ok_fi T
 refine T.d_spread.cal (fun _ _ _ _ _ _ us hl=>match us,hl with | [_],_=>rfl) fun f fd F=>F.okC sc_spread (fun vs H Q E h=>?_) (fun cdv A outer s H vs Q E hr h=>?_)
 ·obtain⟨_,_,_,_,_,_,_,rfl,_⟩:=h;rfl
 ·obtain⟨gv,g,ft,nm,fu,SS,tss,rfl,rg,gg,hd,ak,hsn,sp,l120,kk⟩:=h
  have nd:=sc_spread.nd
  refine⟨_,(pss_cons (ps_set (i:=1) nd rfl (Or.inr rfl) (pe_mk m_Course (hr.mono (by decide)) rfl strictP.pass (pa_cons (pv 0) pa_nil (se rfl)) (he:=se rfl) (hpl:=na rfl)))
  (pss_cons (ps_set (i:=2) nd rfl (Or.inl rfl) (pe_mk0 m_Finder (hr.mono (by decide)) rfl strictP.pass))
  (pss_cons (ps_expr (pe_mt m_Finder_number_of T.cl_Finder (pv 2) (hr.mono (by decide)) strictP.pass (pa_cons (pe_mt0 m_Course_start T.cl_Course (pv 1) (hr.mono (by decide)) strictP.pass) pa_nil (se rfl)) (hst:=se rfl) (hpl:=na rfl)))
  (pss_cons (ps_set (i:=3) nd rfl (Or.inl rfl) (pe_lst pa_nil))
  (pss_cons (ps_while PassesOwn.never (pt_cmpR op_lt (pe_callB call_lenL (by rfl) T.z_len PySem.boot_len (pa_cons (pv 3) pa_nil (se rfl)) (he:=se rfl) (hpl:=na rfl)) (pe_callB call_lenL (by rfl) T.z_len PySem.boot_len (pa_cons (pe_fld (pv 2) rfl) pa_nil (se rfl)) (he:=se rfl) (hpl:=na rfl)) (nomark _)) (pss_one (ps_expr (pe_bm PySem.F.plainAttrs_list PySem.F.slot_list_append PySem.F.type_list_append mt_append.r (pv 3) (pa_cons (pe_cal c_taken_up (hr.mono (by decide)) rfl strictP.pass (pa_cons (pv 1) (pa_cons (pv 2) (pa_cons (pe_ix ix_listH (pe_fld (pv 2) rfl) (pe_callB call_lenL (by rfl) T.z_len PySem.boot_len (pa_cons (pv 3) pa_nil (se rfl)) (he:=se rfl) (hpl:=na rfl)) (fun _ _=>rfl)) pa_nil (se rfl)) (se rfl)) (se rfl)) (he:=se rfl) (hpl:=na rfl)) pa_nil (se rfl))))))
  (pss_one (ps_ret (pe_tupS (pa_cons (pv 3) (pa_cons (pe_fld (pv 2) rfl) (pa_cons (pe_comp rfl (N:=["game","course","finder","board"]) (so:=defScope (top 41)) (N':=["state","course"]) (k:=1) (fr:=[1]) rfl rfl ⟨rfl,by decide +kernel,by decide +kernel,by decide +kernel,rfl,by decide +kernel,by decide +kernel⟩ (pi_listK (K:=K) (pe_fld (pv 2) rfl)) (fun _ _ _ _ _=>(pg_name (i:=0) (show(["state","course"]:List Str).Nodup by decide +kernel) rfl (Or.inl rfl))) (fun _ _ _ _ _=>pts_nil)
   (fun _ _ _ _ _=>(pe_mt m_Course_words_at T.cl_Course (pv 1) (hr.mono (by decide)) strictP.pass (pa_cons (pv 0) pa_nil (se rfl)) (hst:=se rfl) (hpl:=na rfl)))) pa_nil (se rfl)) (se rfl)) (se rfl)))))))))),?_⟩
  have sl:=sizeLine_eq
  have lc:=gg.lc
  change tSeq _ _ _ [some gv,none,none,none] H
  refine seq_gen (fun σ' H1=>∃tb c,Same H (hid H1 tb)∧H1 tb=some (.dK [])∧CoT q_Course (hid H1 tb) c g tb∧σ'=[some gv,some (.ref c),none,none]) ?_ (fun N hN=>?_)
  case refine_2=>
   simp_all only[tMake,spCo]
   intro c dx nc ndx dc
   have sm:Same H (upd (upd H dx (.own c)) c (.ins q_Course dx [])):=(same_upd ndx).trans (same_upd (by rw[upd_ne (Ne.symm dc)];exact nc))
   refine⟨_,upd_same,g,rg.mono sm,gg,fun tb H1 k1 ntb htb co=>hN _ _ ⟨tb,c,fun a o ha=>?_,htb,co,rfl⟩⟩
   rw[hid_ne (fun z=>by rw[z,none_of sm ntb] at ha;cases ha)]
   exact k1 a o (fun z=>by rw[z,nc] at ha;cases ha) (sm _ _ ha)
  rintro _ H1 ⟨tb,c,s1t,htb1,cot,rfl⟩
  have s1:Same H H1:=s1t.trans hid_sub
  have co:CoH q_Course H1 c g:=(cot.mono hid_sub).co
  have ntb:H tb=none:=by
   cases h0:H tb with
   | none=>rfl
   | some o=>have:=s1t _ _ h0;unfold hid at this;rw[if_pos rfl] at this;cases this
  change tSeq _ _ _ [some gv,some (.ref c),none,none] H1
  refine seq_gen (fun σ' H2=>∃fa l n,H1 l=none∧H1 n=none∧Same H1 (hid2 H2 l n)∧(∀Fr,FiH P w q_Finder Fr H2 fa l n [])∧σ'=[some gv,some (.ref c),some (.ref fa),none]) ?_ (fun N hN=>?_)
  case refine_2=>
   simp_all only[tMake,spFi]
   intro fa dx nf ndx dc
   have nf2:upd H1 dx (.own fa) fa=none:=by rw[upd_ne (Ne.symm dc)];exact nf
   have sm:Same H1 (upd (upd H1 dx (.own fa)) fa (.ins q_Finder dx [])):=(same_upd ndx).trans (same_upd nf2)
   refine⟨_,upd_same,fun l n H2 nl nn k2 fi=>hN _ _ ⟨fa,l,n,none_of sm nl,none_of sm nn,fun a o ha=>k2 a o (fun z=>by rw[z,nf] at ha;cases ha) (sm _ _ ha),fi,rfl⟩⟩
  rintro _ H2 ⟨fa,l,n,nl,nn,s2,fi2,rfl⟩
  have lpn:∀{a b:V},List.lookup (Str.ofString "number_of") [(Str.ofString "states",a),(Str.ofString "numbers",b)]=none:=lk_no2 (by decide +kernel) (by decide +kernel)
  have lps:∀{a b c d e:V},List.lookup (Str.ofString "start") [(Str.ofString "spots",a),(Str.ofString "mosts",b),(Str.ofString "first",c),(Str.ofString "whats",d),(Str.ofString "tables",e)]=none:=lk_no (by decide +kernel) (by decide +kernel) (by decide +kernel) (by decide +kernel) (by decide +kernel)
  have lpw:∀{a b c d e:V},List.lookup (Str.ofString "words_at") [(Str.ofString "spots",a),(Str.ofString "mosts",b),(Str.ofString "first",c),(Str.ofString "whats",d),(Str.ofString "tables",e)]=none:=lk_no (by decide +kernel) (by decide +kernel) (by decide +kernel) (by decide +kernel) (by decide +kernel)
  obtain⟨dx,sp0,mo,wh,us,ft',h1t,h2,h3,h4,h5,h6⟩:=id cot
  have h1:=hid_sub _ _ h1t
  change tSeq _ _ _ [some gv,some (.ref c),some (.ref fa),none] H2
  refine seq_gen (fun σ' H3=>Same H1 (hid2 H3 l n)∧FiH P w q_Finder (fun a=>H a=none) H3 fa l n [(nm,List.replicate g.cs.length 0)]∧σ'=[some gv,some (.ref c),some (.ref fa),none]) ?_ (fun N hN=>?_)
  case refine_2=>
   have s2':Same H1 H2:=s2.trans hid2_sub
   obtain⟨dxf,xsf,ksf,u1,u2,u3,u4,u5,u6,u7,u8⟩:=fi2 (fun a=>H a=none)
   simp_all only[tMeth,spSta,spNum]
   refine⟨_,_,hid2_sub _ _ u1,lpn,_,_,s2' _ _ h1,lps,g,co.mono s2',gg,fu,ft,hd,nm,ak,fun a b H3 s3 na nb e1 e2=>?_⟩
   have al5:a≠l:=fun z=>by rw[z,u3] at na;cases na
   have an5:a≠n:=fun z=>by rw[z,u5] at na;cases na
   have bl5:b≠l:=fun z=>by rw[z,u3] at nb;cases nb
   have bn5:b≠n:=fun z=>by rw[z,u5] at nb;cases nb
   refine⟨fun a=>H a=none,l,n,[],(fi2 _).mono s3,(nm,List.replicate g.cs.length 0),⟨a,b,rfl,by rw[hid2_of al5 an5];exact e1,by rw[hid2_of bl5 bn5];exact e2,none_of (s1.trans s2') nb⟩,hsn,by rw[List.length_replicate];exact lc,.inr (by decide),fun H4 s4 fi4=>hN _ _ ⟨s2.trans ((hid2_mono s3).trans s4),fi4,rfl⟩⟩
  rintro _ H3 ⟨s3,fi3,rfl⟩
  change tSeq _ _ _ [some gv,some (.ref c),some (.ref fa),none] H3
  refine seq_gen (fun σ' H4=>Same H1 (hid2 H4 l n)∧∃b,H1 b=none∧b≠l∧H4 b=some (.lst [])∧FiH P w q_Finder (fun a=>H a=none∧a≠b) H4 fa l n [(nm,List.replicate g.cs.length 0)]∧σ'=[some gv,some (.ref c),some (.ref fa),some (.ref b)]) ?_ (fun N hN=>?_)
  case refine_2=>
   obtain⟨dxf,xsf,ksf,u1,u2,u3,u4,u5,u6,u7,u8⟩:=id fi3
   simp_all only[]
   refine⟨Nat.zero_le _,fun b nb=>hN _ _ ⟨s3.trans (hid2_mono (same_upd nb)),b,none_of (s3.trans hid2_sub) nb,(fun z=>by rw[z,u3] at nb;cases nb),upd_same,(fi3.fr fun a o ha h0=>⟨h0,(fun z=>by rw[z,nb] at ha;cases ha)⟩).mono (same_upd nb),rfl⟩⟩
  rintro _ H4 ⟨s4,b,nb,bl,hb,fi4,rfl⟩
  change tSeq _ _ _ [some gv,some (.ref c),some (.ref fa),some (.ref b)] H4
  have tbl:tb≠l:=fun z=>by rw[z,nl] at htb1;cases htb1
  have tbn:tb≠n:=fun z=>by rw[z,nn] at htb1;cases htb1
  refine seq_gen (fun σ' H5=>Same (hid H1 tb) (hid3 H5 l n tb)∧FiH P w q_Finder (fun a=>H a=none∧a≠b) H5 fa l n SS∧(∃bs,H5 b=some (.lst bs)∧RepL H5 (brdD g SS tss) bs∧∀v∈bs,WfV H H5 b l v)∧σ'=[some gv,some (.ref c),some (.ref fa),some (.ref b)]) ?_ (fun N hN=>?_)
  case refine_2=>
   refine while_m (fun m σ H'=>∃dn rest ss bs,tss=dn++rest∧m=rest.length∧SprdW g SS dn.length ss rest∧Same (hid H1 tb) (hid3 H' l n tb)∧TbS H' (hid3 H' l n tb) tb g dn.length (fun a=>H a=none∧a≠b)∧FiH P w q_Finder (fun a=>H a=none∧a≠b) H' fa l n ss∧H' b=some (.lst bs)∧(∀v∈bs,WfV H (hid (hid3 H' l n tb) b) b l v)∧RepL (hid (hid3 H' l n tb) b) ((SS.zip dn).map fun x=>plcX g SS x.1 x.2) bs∧σ=[some gv,some (.ref c),some (.ref fa),some (.ref b)]) (m:=tss.length) ⟨[],tss,_,[],rfl,rfl,sp,hid_mono s4,⟨[],hid2_sub _ _ (s4 _ _ htb1),Nat.le_refl _,fun nm v e=>by cases e⟩,fi4,hb,(fun v hv=>by cases hv),by rw[List.zip_nil_right];exact repL_nil.mpr rfl,rfl⟩ ?_
   rintro m _ H5 ⟨dn,rest,ss,bs,et,rfl,sd,s5,tb5,fi5,hb5,wf5,rb,rfl⟩
   obtain⟨kvs5,htb5,lkv5,tabs5⟩:=id tb5
   obtain⟨dxf,xsf,ksf,u1,u2,u3,u4,u5,u6,u7,u8⟩:=id fi5
   obtain⟨ahd,len⟩:=sd.ahd
   have xl:=u4.length
   have bl5:bs.length=dn.length:=by
    have:=rb.length
    rw[List.length_map,List.length_zip] at this
    omega
   cases rest with
   | nil=>
    obtain⟨rfl,e2⟩:=sd
    refine⟨false,fun Q hq=>?_,?_⟩
    ·simp_all only[tFld]
     refine⟨_,hb5,_,_,_,hid2_sub _ _ u1,T.cl_Finder,T.na_Finder_states,_,lk_st,_,rfl,_,u3,?_⟩
     rw[decide_eq_false (by omega)]
     exact hq
    ·rw[if_neg (by simp)]
     rw[List.append_nil] at et
     exact hN _ _ ⟨s5,fi5,⟨bs,hb5,by rw[et];exact rb.mono (hid_sub.trans hid3_sub),fun v hv=>(wf5 v hv).mono (hid_sub.trans hid3_sub)⟩,rfl⟩
   | cons ts r=>
    obtain⟨st,es,ls,go,sr⟩:=sd
    have dlt:=(List.getElem?_eq_some_iff.mp es).1
    refine⟨true,fun Q hq=>?_,?_⟩
    ·simp_all only[tFld]
     refine⟨_,hb5,_,_,_,hid2_sub _ _ u1,T.cl_Finder,T.na_Finder_states,_,lk_st,_,rfl,_,u3,?_⟩
     rw[decide_eq_true (by omega)]
     exact hq
    ·rw[if_pos rfl]
     obtain⟨v,ev,rv⟩:=u4.at es
     have eS:SS[dn.length]?=some st:=by
      obtain⟨q,e⟩:=ahd
      rw[e,List.getElem?_append_left dlt]
      exact es
     have ahr:=sr.ahd.1
     have bn:b≠n:=fun z=>by rw[z,u5] at hb5;cases hb5
     have bt:b≠tb:=fun z=>by rw[z,htb5] at hb5;cases hb5
     have rv3:StH (hid3 H5 l n tb) v st.1 st.2:=by
      obtain⟨a,cc,e,q1,q2,q3⟩:=rv
      refine⟨a,cc,e,?_,?_⟩
      ·show hid (hid2 H5 l n) tb a=_
       rw[hid_ne (fun z=>by have:=hid2_sub _ _ q1;rw[z,htb5] at this;cases this)]
       exact q1
      ·show hid (hid2 H5 l n) tb cc=_
       rw[hid_ne (fun z=>by have:=hid2_sub _ _ q2;rw[z,htb5] at this;cases this)]
       exact q2
     have ty:tyV K "list" (.ref b) H5:=.inl ⟨rfl,_,SqL.of hb5⟩
     have dl:dn.length≤120:=by omega
     simp_all only[tFld,spTk3,rAppend]
     refine⟨ty,_,_,_,hid2_sub _ _ u1,T.cl_Finder,T.na_Finder_states,_,lk_st,_,hb5,_,rfl,_,u3,v,by rw[bl5];exact atI_nat ev,_,l,n,tb,g,cot.mono s5,gg,ss,fi5,st,ts,SS,dn.length,tb5,by omega,fun a ha=>⟨none_of (s1t.trans (s5.trans hid3_sub)) ha,fun z=>by rw[z,hb5] at ha;cases ha⟩,rv3,ls,go,Nat.le_trans ahr.len l120,ahr,fun u H6 s6 fi6 tb6 ru=>?_⟩
     have hb6:H6 b=some (.lst bs):=hid3_sub _ _ (s6 _ _ (by rw[hid3_of bl bn bt];exact hb5))
     obtain⟨kvs6,htb6,lkv6,tabs6⟩:=id tb6
     have eh:∀o,hid (hid3 (upd H6 b o) l n tb) b=hid (hid3 H6 l n tb) b:=fun o=>by
      funext a
      by_cases z:a=b
      ·rw[z];unfold hid;rw[if_pos rfl,if_pos rfl]
      ·rw[hid_ne z,hid_ne z]
       show(if a=tb then none else if a=n then none else if a=l then none else upd H6 b o a)=if a=tb then none else if a=n then none else if a=l then none else H6 a
       rw[upd_ne z]
     refine⟨_,hb6,by omega,r.length,by omega,dn++ [ts],r,by rw[List.append_assoc];exact et,rfl,addAll ss (sts ts),by rw[List.length_append,List.length_singleton];exact sr,?_,?_,fi6.updb (fun a h=>h.2) hb6 bl,_,upd_same,?_,?_⟩
     ·intro a o ha
      have ab:a≠b:=fun z=>by have:=hid_sub _ _ ha;rw[z,nb] at this;cases this
      have h6:=s6 _ _ (s5 _ _ ha)
      obtain⟨e1,e2,e3⟩:=hid3_out h6
      rw[hid3_of e1 e2 e3] at h6 ⊢
      rw[upd_ne ab]
      exact h6
     ·rw[List.length_append,List.length_singleton]
      refine⟨kvs6,by rw[upd_ne (Ne.symm bt)];exact htb6,lkv6,fun nm v e=>?_⟩
      obtain⟨ps',t',b',rs',a1,⟨p',ep,fp⟩,a2⟩:=tabs6 nm v e
      subst ep
      have kb:∀{a o},a≠b→hid3 H6 l n tb a=some o→hid3 (upd H6 b (.lst (bs++ [u]))) l n tb a=some o:=fun {a o} ab ha=>by
       obtain⟨e1,e2,e3⟩:=hid3_out ha
       rw[hid3_of e1 e2 e3] at ha ⊢
       rw[upd_ne ab]
       exact ha
      exact⟨ps',t',b',rs',a1,⟨p',rfl,fp⟩,rows_in a2 (fun o ho=>kb fp.2 ho) fun a vs ha=>kb (fun z=>by have:=hid3_sub _ _ ha;rw[z,hb6] at this;cases this) ha⟩
     ·rw[eh]
      intro v hv
      rcases List.mem_append.mp hv with hv | hv
      ·exact(wf5 v hv).mono (hid_mono s6)
      ·rw[List.mem_singleton.mp hv]
       obtain⟨_,q,eq,vs,hq,kq⟩:=ru b bs hb5
       refine⟨q,vs,eq,hq,fun x y w' e=>?_⟩
       have nw:=kq x y w' e
       exact⟨none_of (s1t.trans (s5.trans hid3_sub)) nw,(fun z=>by rw[z,hb5] at nw;cases nw),(fun z=>by rw[z,u3] at nw;cases nw)⟩
     ·rw[eh,zip_snoc eS,List.map_append]
      exact(rb.mono (hid_mono s6)).append (repL_cons.mpr ⟨u,[],rfl,(ru b bs hb5).1,repL_nil.mpr rfl⟩)
  rintro _ H5 ⟨s5,fi5,⟨bs,hb5,rb,wf5⟩,rfl⟩
  obtain⟨dxf,xsf,ksf,u1,u2,u3,u4,u5,u6,u7,u8⟩:=id fi5
  have xl:=u4.length
  have s5':Same (hid H1 tb) H5:=s5.trans hid3_sub
  simp_all only[tFld]
  refine⟨_,_,_,hid2_sub _ _ u1,T.cl_Finder,T.na_Finder_states,_,lk_st,_,_,_,hid2_sub _ _ u1,T.cl_Finder,T.na_Finder_states,_,lk_st,_,rfl,⟨_,SqL.of u3⟩,?_⟩
  refine comp_map (src_list (Ok:=Same H5) (fun H' k=>SqL.of (k _ _ u3))) (fun _ _ _ _ h=>h.1▸Same.refl _) (by omega) (fun i y H'=>∃st,SS[i]?=some st∧Rep H' (wordsD g st) y) (fun _ _ _ _ k ⟨st,e,r⟩=>⟨st,e,r.mono k⟩) ?_ ?_
  ·rintro i x z H7 H6 Q' hi s6 ⟨rfl,ex⟩ yy
   obtain⟨st,es,rst⟩:=u4.get ex
   obtain⟨st',ts',es',ls,go⟩:=sp.all i (Nat.zero_le _) (List.getElem?_eq_some_iff.mp es).1
   rw[es] at es'
   cases es'
   obtain⟨x0,lk⟩:=goesX_look go
   simp_all only[tMeth,spWds]
   refine⟨_,_,s6 _ _ (s5' _ _ h1t),lpw,g,(cot.mono (s5'.trans s6)).co,gg,st.1,st.2,rst.st.mono (hid2_sub.trans s6),ls,x0,lk,fun p H8 s8 n8 r8=>yy _ _ s8 ⟨st,es,?_⟩⟩
   unfold wordsD
   rw[lk]
   exact r8
  ·intro ys H6 s6 ly hy D nD1 nD2
   refine⟨by omega,fun p H7 s7 np e7=>kk p b l D bs xsf ys H7 (s1t.trans (s5'.trans (s6.trans ((same_upd nD2).trans s7)))) (none_of s1 nb) e7 ?_ ?_ ?_ ?_ ?_ (s7 _ _ upd_same) ?_⟩
   all_goals have s57:Same H5 H7:=s6.trans ((same_upd nD2).trans s7)
   ·exact s57 _ _ hb5
   ·exact rb.mono s57
   ·exact fun v hv=>(wf5 v hv).mono s57
   ·exact s57 _ _ u3
   ·exact u4.imp fun _ _ ⟨a,c',e,q1,q2,q3⟩=>⟨a,c',e,(hid2_sub.trans s57) _ _ q1,(hid2_sub.trans s57) _ _ q2,q3.1,q3.2,(hid2_out q2).1⟩
   ·refine RepL.of (by rw[List.length_map];omega) fun i d y ed ey=>?_
    rw[List.getElem?_map] at ed
    obtain⟨st,es,rfl⟩:=Option.map_eq_some_iff.mp ed
    obtain⟨st',es',r⟩:=hy i y ey
    rw[es] at es'
    cases es'
    exact r.mono ((same_upd nD2).trans s7)
theorem sc__law_at:FnScope ["_law_script","_law_k","_law_base"] ["_law_script","_law_k"] (defScope (top 43)):=⟨rfl,rfl,rfl,by decide +kernel,rfl,by decide +kernel,by decide +kernel⟩
theorem ok_at (T:Txt K mg q_NoShare q_NoTable q_TooMany q_Course q_Finder):Cal P w K mg base (CX1 P w) 1 "_law_at" ["_law_script","_law_k"] (spAt K):=by
 refine T.d__law_at.cal (fun _ _ _ _ _ _ us hl=>match us,hl with | [_,_],_=>rfl) fun f fd F=>F.okC sc__law_at (fun vs H Q E h=>?_) (fun cdv A outer s H vs Q E hr h=>?_)
 ·obtain⟨_,_,_,rfl,_⟩:=h;rfl
 ·obtain⟨a,ns,k,rfl,hS,k0,k1,kk⟩:=h
  have nd:=sc__law_at.nd
  refine⟨_,(pss_cons (ps_if (pt_cmpR op_lt (pv 1) (pe_callB (call_lenQK (K:=K)) (by rfl) T.z_len PySem.boot_len (pa_cons (pv 0) pa_nil (se rfl)) (he:=se rfl) (hpl:=na rfl)) (nomark _)) (pss_one (ps_ret (pe_ix (ix_listSK (K:=K)) (pv 0) (pv 1) (fun _ _=>rfl))))
   pss_nil)
  (pss_cons (ps_set (i:=2) nd rfl (Or.inl rfl) pe_int)
  (pss_cons (ps_if (pt_cmpR op_gt (pe_callB (call_lenQK (K:=K)) (by rfl) T.z_len PySem.boot_len (pa_cons (pv 0) pa_nil (se rfl)) (he:=se rfl) (hpl:=na rfl)) pe_int (nomark _)) (pss_one (ps_set (i:=2) nd rfl (Or.inl rfl) (pe_op op_modB (pe_ix (ix_listSK (K:=K)) (pv 0) (pe_op op_modB (pe_op op_add (pe_op op_mulB (pv 1) pe_int) pe_int) (pe_callB (call_lenQK (K:=K)) (by rfl) T.z_len PySem.boot_len (pa_cons (pv 0) pa_nil (se rfl)) (he:=se rfl) (hpl:=na rfl))) (fun _ _=>rfl)) pe_int)))
   pss_nil)
  (pss_one (ps_ret (pe_op op_modB (pe_op op_mulB (pe_op op_add (pe_op op_add (pv 2) (pe_op op_mulB pe_int (pv 1))) pe_int) (pe_op op_add (pe_op op_add (pe_op op_mulB (pv 2) pe_int) (pe_op op_mulB (pv 1) (pv 1))) pe_int)) pe_int)))))),?_⟩
  simp_all only[rIxQ]
  have kq:IntMulOk k k:=mulOkL (by omega) (by omega)
  refine⟨ns,hS,ite2 (fun c=>⟨ns,hS,k0,c,kk _⟩) (fun c=>⟨ns,hS,ite2 (fun z=>?_) (fun z=>?_)⟩)⟩
  ·have m1:=Int.emod_nonneg (ns.getD ((k*15+5) % (ns.length:Int)).toNat 0) (show(998813:Int)≠0 by decide)
   have m2:=Int.emod_lt_of_pos (ns.getD ((k*15+5) % (ns.length:Int)).toNat 0) (show(0:Int)<998813 by decide)
   exact⟨mulOkR,ns,hS,z,ns,hS,Int.emod_nonneg _ (by omega),Int.emod_lt_of_pos _ z,by decide,mulOkL,mulOkR,kq,mulOkL (by omega) (by omega),by decide,kk _⟩
  ·exact⟨mulOkL,mulOkL,kq,mulOkL (by omega) (by omega),by decide,kk _⟩
noncomputable def cN:List Str:=[Str.ofString "one",Str.ofString "two",Str.ofString "x",Str.ofString "go"]
noncomputable def GoodC (cs:List (Str×Int)):Prop:=1≤cs.length∧cs.length≤4∧∀(i:Nat) c,cs[i]?=some c→cN[i]?=some c.1∧1≤c.2∧c.2≤60
theorem good_nms {cs:List (Str×Int)} (g:GoodC cs):(cs.map (·.1)).Nodup∧∀n∈cs.map (·.1),hsh (.str n)=true:=by
 obtain⟨g1,g2,g3⟩:=g
 have e:cs.map (·.1)=cN.take cs.length:=by
  apply List.ext_getElem?
  intro i
  rw[List.getElem?_map]
  cases ei:cs[i]? with
  | none=>
   rw[List.getElem?_eq_none (l:=cN.take cs.length) (by rw[List.getElem?_eq_none_iff] at ei;rw[List.length_take];omega)]
   rfl
  | some x=>
   rw[List.getElem?_take,if_pos (List.getElem?_eq_some_iff.mp ei).1,(g3 i x ei).1]
   rfl
 rw[e]
 have:∀k∈[1,2,3,4],(cN.take k).Nodup∧∀n∈cN.take k,hsh (.str n)=true:=by decide +kernel
 exact this _ (by simp;omega)
noncomputable def DdOk (cs:List (Str×Int)) (th:Bool):Dd→Prop
 | .set n k=>n∈cs.map (·.1)∧0≤k
 | .plus n k=>n∈cs.map (·.1)∧0≤k
 | .face n=>n∈cs.map (·.1)∧th=true
 | .move n m=>n∈cs.map (·.1)∧m∈cs.map (·.1)
theorem DdOk.good {cs:List (Str×Int)} {th:Bool}:∀{d:Dd},DdOk cs th d→GoodD cs d
 | .set _ _,h=>h.1
 | .plus _ _,h=>h.1
 | .face _,h=>h.1
 | .move _ _,h=>h
noncomputable def GoodN (cs:List (Str×Int)) (ns:List Int):Prop:=ns.length=cs.length∧∀(i:Nat) c,cs[i]?=some c→0≤ns.getD i 0∧ns.getD i 0≤c.2
noncomputable def rawD (cs:List (Str×Int)) (x:Int) (ns:List Int):Dd→List Int
 | .set n k=>ns.set (spot cs n) k
 | .plus n k=>ns.set (spot cs n) (ns.getD (spot cs n) 0+k)
 | .face n=>ns.set (spot cs n) (ns.getD (spot cs n) 0+x)
 | .move n m=>(ns.set (spot cs m) (ns.getD (spot cs m) 0+ns.getD (spot cs n) 0)).set (spot cs n) 0
noncomputable def clip (cs:List (Str×Int)) (ms:List Int):List Int:=(ms.zip cs).map fun z=>min z.1 z.2.2
theorem clip_len {cs:List (Str×Int)} {ms:List Int} (h:ms.length=cs.length):(clip cs ms).length=cs.length:=by
 unfold clip
 rw[List.length_map,List.length_zip]
 omega
theorem clip_get {cs:List (Str×Int)} {ms:List Int} {i:Nat} {a:Int} {c:Str×Int} (h1:ms[i]?=some a) (h2:cs[i]?=some c):(clip cs ms)[i]?=some (min a c.2):=by
 unfold clip
 rw[List.getElem?_map,(List.getElem?_zip_eq_some (z:=(a,c))).mpr ⟨h1,h2⟩]
 rfl
theorem most_get {cs:List (Str×Int)} {i:Nat} {c:Str×Int} (h:cs[i]?=some c):most cs i=c.2:=by
 unfold most
 rw[List.getD_eq_getElem?_getD,List.getElem?_map,h]
 rfl
theorem clip_set {cs:List (Str×Int)} {ns:List Int} {i:Nat} {k:Int} (g:GoodN cs ns):clip cs (ns.set i k)=putC cs ns i k:=by
 obtain⟨l,g⟩:=g
 apply List.ext_getElem?
 intro j
 unfold putC
 by_cases hj:j<cs.length
 ·have ec:cs[j]?=some cs[j]:=List.getElem?_eq_getElem hj
  have hn:j<ns.length:=by omega
  have gj:=(g j _ ec).2
  rw[List.getD_eq_getElem?_getD,List.getElem?_eq_getElem hn] at gj
  have gj:ns[j]≤cs[j].2:=gj
  by_cases e:i=j
  ·subst e
   rw[clip_get (a:=k) (by rw[List.getElem?_set_self hn]) ec,List.getElem?_set_self hn,most_get ec]
  ·rw[clip_get (a:=ns[j]) (by rw[List.getElem?_set_ne e];exact List.getElem?_eq_getElem hn) ec,List.getElem?_set_ne e,List.getElem?_eq_getElem hn,Int.min_eq_left gj]
 ·rw[List.getElem?_eq_none (by rw[clip_len (by rw[List.length_set];exact l)];omega),List.getElem?_eq_none (by rw[List.length_set];omega)]
theorem putC_good {cs:List (Str×Int)} {ns:List Int} {i:Nat} {k:Int} (g:GoodN cs ns) (hk:0≤k) (hm:∀c∈cs,0≤c.2):GoodN cs (putC cs ns i k):=by
 obtain⟨l,g⟩:=g
 refine⟨by rw[putC_len,l],fun j c ec=>?_⟩
 have hj:=(List.getElem?_eq_some_iff.mp ec).1
 have hn:j<ns.length:=by omega
 have gj:=g j c ec
 have hc:=hm c (List.mem_of_getElem? ec)
 rw[List.getD_eq_getElem?_getD] at gj ⊢
 unfold putC
 by_cases e:i=j
 ·subst e
  rw[List.getElem?_set_self hn,most_get ec]
  show 0≤min k c.2∧min k c.2≤c.2
  omega
 ·rw[List.getElem?_set_ne e]
  exact gj
theorem set0_good {cs:List (Str×Int)} {ns:List Int} {i:Nat} (g:GoodN cs ns) (hm:∀c∈cs,0≤c.2):GoodN cs (ns.set i 0):=by
 obtain⟨l,g⟩:=g
 refine⟨by rw[List.length_set,l],fun j c ec=>?_⟩
 have hj:=(List.getElem?_eq_some_iff.mp ec).1
 have hn:j<ns.length:=by omega
 have gj:=g j c ec
 have hc:=hm c (List.mem_of_getElem? ec)
 rw[List.getD_eq_getElem?_getD] at gj ⊢
 by_cases e:i=j
 ·subst e
  rw[List.getElem?_set_self hn]
  show(0:Int)≤0∧(0:Int)≤c.2
  omega
 ·rw[List.getElem?_set_ne e]
  exact gj
theorem clip_set0 {cs:List (Str×Int)} {ms:List Int} {i:Nat} (l:ms.length=cs.length) (hm:∀c∈cs,0≤c.2):clip cs (ms.set i 0)=(clip cs ms).set i 0:=by
 apply List.ext_getElem?
 intro j
 by_cases hj:j<cs.length
 ·have ec:cs[j]?=some cs[j]:=List.getElem?_eq_getElem hj
  have hn:j<ms.length:=by omega
  have hl:j< (clip cs ms).length:=by rw[clip_len l];exact hj
  have hc:=hm cs[j] (List.getElem_mem hj)
  by_cases e:i=j
  ·subst e
   rw[clip_get (a:=0) (by rw[List.getElem?_set_self hn]) ec,List.getElem?_set_self hl,Int.min_eq_left hc]
  ·rw[clip_get (a:=ms[j]) (by rw[List.getElem?_set_ne e];exact List.getElem?_eq_getElem hn) ec,List.getElem?_set_ne e,clip_get (List.getElem?_eq_getElem hn) ec]
 ·rw[List.getElem?_eq_none (by rw[clip_len (by rw[List.length_set];exact l)];omega),List.getElem?_eq_none (by rw[List.length_set,clip_len l];omega)]
theorem getN {cs:List (Str×Int)} {ns:List Int} (g:GoodN cs ns) (i:Nat):0≤ns.getD i 0:=by
 by_cases h:i<cs.length
 ·exact(g.2 i _ (List.getElem?_eq_getElem h)).1
 ·rw[List.getD_eq_getElem?_getD,List.getElem?_eq_none (by have:=g.1;omega)]
  exact Int.le_refl _
theorem clip_raw {cs:List (Str×Int)} {ns:List Int} {x:Int} (g:GoodN cs ns) (hm:∀c∈cs,0≤c.2):∀d:Dd,clip cs (rawD cs x ns d)=doD cs x ns d
 | .set _ _=>clip_set g
 | .plus _ _=>clip_set g
 | .face _=>clip_set g
 | .move n m=>by
  unfold rawD doD
  rw[clip_set0 (by rw[List.length_set];exact g.1) hm,clip_set g]
theorem doD_good {cs:List (Str×Int)} {ns:List Int} {x:Int} {th:Bool} (g:GoodN cs ns) (hm:∀c∈cs,0≤c.2) (hx:0≤x):∀d:Dd,DdOk cs th d→GoodN cs (doD cs x ns d)
 | .set _ _,h=>putC_good g h.2 hm
 | .plus n _,h=>putC_good g (Int.add_nonneg (getN g (spot cs n)) h.2) hm
 | .face n,_=>putC_good g (Int.add_nonneg (getN g (spot cs n)) hx) hm
 | .move n m,_=>set0_good (putC_good g (Int.add_nonneg (getN g (spot cs m)) (getN g (spot cs n))) hm) hm
theorem fold_good {cs:List (Str×Int)} {x:Int} {th:Bool} (hm:∀c∈cs,0≤c.2) (hx:0≤x):∀(ds:List Dd) (ns:List Int),GoodN cs ns→(∀d∈ds,DdOk cs th d)→GoodN cs (ds.foldl (doD cs x) ns)
 | [],_,g,_=>g
 | d::ds,ns,g,h=>fold_good hm hx ds _ (doD_good g hm hx d (h d List.mem_cons_self)) fun e he=>h e (List.mem_cons_of_mem _ he)
theorem emod_at {α:Type} {l:List α} (n:Int) (h:0<l.length):∃(j:Nat) (x:α),n % (l.length:Int)=(j:Int)∧l[j]?=some x:=by
 have q1:=Int.emod_nonneg n (show(l.length:Int)≠0 by omega)
 have q2:=Int.emod_lt_of_pos n (show(0:Int)< (l.length:Int) by omega)
 refine⟨(n % (l.length:Int)).toNat,l[(n % (l.length:Int)).toNat]'(by omega),by omega,List.getElem?_eq_getElem _⟩
noncomputable def spDe (K:PySem.W.Frag):Sp:=fun vs H Q _=>∃a ns k v cs th,vs=[.ref a,.int k,v,.bl th]∧SqL K H a (List.map V.int ns)∧0≤k∧k<900∧Rep H (csD cs) v∧GoodC cs∧∀u ds H',Same H H'→H u=none→Rep H' (.lst (List.map ddD ds)) (.ref u)→ds.length≤6→(∀d∈ds,DdOk cs th d)→Q (.ref u) H'
theorem sc__law_deeds:FnScope ["_law_script","_law_at_here","_law_counts","_law_is_thrown","_law_deeds_here","_law_far","_law_j","_law_cell","_law_name","_law_other"] ["_law_script","_law_at_here","_law_counts","_law_is_thrown"] (defScope (top 44)):=⟨rfl,rfl,rfl,by decide +kernel,rfl,by decide +kernel,by decide +kernel⟩
theorem ok_de (T:Txt K mg q_NoShare q_NoTable q_TooMany q_Course q_Finder):Cal P w K mg base (CX1 P w) 2 "_law_deeds" ["_law_script","_law_at_here","_law_counts","_law_is_thrown"] (spDe K):=by
 have c__law_at:Cal P w K mg base (CX1 P w) 1 "_law_at" ["_law_script","_law_k"] (spAt K):=ok_at T
 refine T.d__law_deeds.cal (fun _ _ _ _ _ _ us hl=>match us,hl with | [_,_,_,_],_=>rfl) fun f fd F=>F.okC sc__law_deeds (fun vs H Q E h=>?_) (fun cdv A outer s H vs Q E hr h=>?_)
 ·obtain⟨_,_,_,_,_,_,rfl,_⟩:=h;rfl
 ·obtain⟨sa,sc,k0,v,cs,th,rfl,hS,k00,k09,rc,gc,kk⟩:=h
  have nd:=sc__law_deeds.nd
  refine⟨_,(pss_cons (ps_set (i:=4) nd rfl (Or.inl rfl) (pe_lst pa_nil))
  (pss_cons (ps_set (i:=5) nd rfl (Or.inl rfl) (pe_ix ix_listH (pe_lst (pa_cons pe_int (pa_cons pe_int (pa_cons pe_int pa_nil (se rfl)) (se rfl)) (se rfl))) (pe_op op_modB (pe_cal c__law_at (hr.mono (by decide)) rfl strictP.pass (pa_cons (pv 0) (pa_cons pe_int pa_nil (se rfl)) (se rfl)) (he:=se rfl) (hpl:=na rfl)) pe_int) (fun _ _=>rfl)))
  (pss_cons (ps_for PassesOwn.never rfl (pi_range1 rfl T.z_range (pa_cons (pe_op op_modB (pe_cal c__law_at (hr.mono (by decide)) rfl strictP.pass (pa_cons (pv 0) (pa_cons (pv 1) pa_nil (se rfl)) (se rfl)) (he:=se rfl) (hpl:=na rfl)) pe_int) pa_nil (se rfl))) (pg_name (i:=6) nd rfl (Or.inl rfl)) (pss_cons (ps_set (i:=7) nd rfl (Or.inl rfl) (pe_cal c__law_at (hr.mono (by decide)) rfl strictP.pass (pa_cons (pv 0) (pa_cons (pe_op op_add (pe_op op_add (pv 1) pe_int) (pv 6)) pa_nil (se rfl)) (se rfl)) (he:=se rfl) (hpl:=na rfl)))
  (pss_cons (ps_set (i:=8) nd rfl (Or.inl rfl) (pe_ix ix_tupH (pe_ix ix_listH (pv 2) (pe_op op_modB (pe_op op_fdivB (pv 7) pe_int) (pe_callB call_lenL (by rfl) T.z_len PySem.boot_len (pa_cons (pv 2) pa_nil (se rfl)) (he:=se rfl) (hpl:=na rfl))) (fun _ _=>rfl)) pe_int (fun _ _=>rfl)))
  (pss_cons (ps_set (i:=9) nd rfl (Or.inl rfl) (pe_ix ix_tupH (pe_ix ix_listH (pv 2) (pe_op op_modB (pe_op op_fdivB (pv 7) pe_int) (pe_callB call_lenL (by rfl) T.z_len PySem.boot_len (pa_cons (pv 2) pa_nil (se rfl)) (he:=se rfl) (hpl:=na rfl))) (fun _ _=>rfl)) pe_int (fun _ _=>rfl)))
  (pss_one (ps_if (PW.pt (pw_and (pt_cmpR op_eq (pe_op op_modB (pv 7) pe_int) pe_int (nomark _)) (pw_and1 (pt_cmpR op_ne (pv 9) (pv 8) (nomark _))))) (pss_one (ps_expr (pe_bm PySem.F.plainAttrs_list PySem.F.slot_list_append PySem.F.type_list_append mt_append.r (pv 4) (pa_cons (pe_tupS (pa_cons pe_str (pa_cons (pv 8) (pa_cons (pv 9) pa_nil (se rfl)) (se rfl)) (se rfl))) pa_nil (se rfl)))))
   (pss_one (ps_if (PW.pt (pw_and (pt_cmpR op_eq (pe_op op_modB (pv 7) pe_int) pe_int (nomark _)) (pw_and1 (pt_val (pv 3))))) (pss_one (ps_expr (pe_bm PySem.F.plainAttrs_list PySem.F.slot_list_append PySem.F.type_list_append mt_append.r (pv 4) (pa_cons (pe_tupS (pa_cons pe_str (pa_cons (pv 8) pa_nil (se rfl)) (se rfl))) pa_nil (se rfl)))))
   (pss_one (ps_expr (pe_bm PySem.F.plainAttrs_list PySem.F.slot_list_append PySem.F.type_list_append mt_append.r (pv 4) (pa_cons (pe_tupS (pa_cons (pe_ix ix_listH (pe_lst (pa_cons pe_str (pa_cons pe_str pa_nil (se rfl)) (se rfl))) (pe_op op_modB (pe_op op_fdivB (pv 7) pe_int) pe_int) (fun _ _=>rfl)) (pa_cons (pv 8) (pa_cons (pe_op op_modB (pe_op op_fdivB (pv 7) pe_int) (pv 5)) pa_nil (se rfl)) (se rfl)) (se rfl))) pa_nil (se rfl)))))))))))))
  (pss_one (ps_ret (pv 4)))))),?_⟩
  have sl:=sizeLine_eq
  obtain⟨c1,c4,cg⟩:=id gc
  obtain⟨cl,cvs,rfl,hcl,rcl⟩:=rep_lst.mp (show Rep H (.lst _) v from rc)
  have clen:=rcl.length
  rw[List.length_map] at clen
  have place:∀{i:Nat} {c},cs[i]?=some c→∃q,cvs[i]?=some (.ref q)∧H q=some (.tup [.str c.1,.int c.2]):=fun {i c} e=>by
   obtain⟨v,ev,rv⟩:=rcl.at (i:=i) (by rw[List.getElem?_map,e];rfl)
   obtain⟨q,a,b,rfl,hq,r1,r2⟩:=rep_t2.mp (show Rep H (.tup _) v from rv)
   rw[rep_str] at r1
   rw[rep_int] at r2
   subst r1 r2
   exact⟨q,ev,hq⟩
  change tSeq _ _ _ [some (.ref sa),some (.int k0),some (.ref cl),some (.bl th),none,none,none,none,none,none] H
  refine seq_gen (fun σ' H1=>Same H H1∧∃l,H l=none∧H1 l=some (.lst [])∧σ'=[some (.ref sa),some (.int k0),some (.ref cl),some (.bl th),some (.ref l),none,none,none,none,none]) ?_ (fun N hN=>?_)
  case refine_2=>
   simp_all only[]
   exact⟨Nat.zero_le _,fun l nl=>hN _ _ ⟨same_upd nl,l,nl,upd_same,rfl⟩⟩
  rintro _ H1 ⟨s1,l,nl0,hl,rfl⟩
  change tSeq _ _ _ [some (.ref sa),some (.int k0),some (.ref cl),some (.bl th),some (.ref l),none,none,none,none,none] H1
  refine seq_gen (fun σ' H2=>Same H1 H2∧∃far:Int,0<far∧far≤1000∧σ'=[some (.ref sa),some (.int k0),some (.ref cl),some (.bl th),some (.ref l),some (.int far),none,none,none,none]) ?_ (fun N hN=>?_)
  case refine_2=>
   simp_all only[spAt]
   refine⟨by omega,fun p np=>⟨sc,(s1.trans (same_upd np)).seq hS,by decide,by decide,fun n=>?_⟩⟩
   obtain⟨k,x,ek,ex⟩:=emod_at (l:=[(1000:Int),20,1000]) n (by decide)
   have ek:n % 3=(k:Int):=ek
   have hx:0<x∧x≤1000:=by
    have:=List.mem_of_getElem? ex
    simp at this
    omega
   have hat:atI [V.int 1000,V.int 20,V.int 1000] (n % 3)=some (.int x):=by rw[ek];exact atI_pl (f:=V.int) (as:=[(1000:Int),20,1000]) ex
   exact⟨by decide,_,upd_same,_,hat,hN _ _ ⟨same_upd np,x,hx.1,hx.2,rfl⟩⟩
  rintro _ H2 ⟨s2,far,f0,f1,rfl⟩
  have hl2:=s2 _ _ hl
  simp_all only[spAt]
  refine⟨sc,(s1.trans s2).seq hS,by omega,by omega,fun n8=>?_⟩
  have m1:=Int.emod_nonneg n8 (show(7:Int)≠0 by decide)
  have m2:=Int.emod_lt_of_pos n8 (show(0:Int)<7 by decide)
  refine⟨by decide,by omega,by omega,?_⟩
  obtain⟨m,hm⟩:∃m:Nat,m=(n8 % 7).toNat:=⟨_,rfl⟩
  rw[←hm]
  refine for_src (src_range (Ok:=fun _=>True)) (fun i σ H'=>Same H H'∧(∃(ds:List Dd) (xs:List V),ds.length=i∧H' l=some (.lst xs)∧RepL (hid H' l) (ds.map ddD) xs∧∀d∈ds,DdOk cs th d)∧∃z1 z2 z3 z4,σ=[some (.ref sa),some (.int k0),some (.ref cl),some (.bl th),some (.ref l),some (.int far),z1,z2,z3,z4]) ⟨s1.trans s2,⟨[],[],rfl,hl2,repL_nil.mpr rfl,fun r hr=>by cases hr⟩,_,_,_,_,rfl⟩ (fun _ _ _ _ _=>trivial) ?_ ?_
  ·rintro i x σ H4 H3 hi ⟨s3,⟨ds,xs,ld,hx,rx,gd⟩,z1,z2,z3,z4,rfl⟩ ⟨rfl,rfl⟩
   have xl:=rx.length
   rw[List.length_map] at xl
   have i6:i<6:=by omega
   have ty:tyV K "list" (.ref l) H3:=.inl ⟨rfl,_,SqL.of hx⟩
   simp only[gName,List.set_cons_succ,List.set_cons_zero]
   change tSeq _ _ _ [some (.ref sa),some (.int k0),some (.ref cl),some (.bl th),some (.ref l),some (.int far),some (.int (0+ (i:Int))),z2,z3,z4] H3
   refine seq_gen (fun σ' H'=>H3=H'∧∃n:Int,σ'=[some (.ref sa),some (.int k0),some (.ref cl),some (.bl th),some (.ref l),some (.int far),some (.int (0+ (i:Int))),some (.int n),z3,z4]) ?_ (fun N hN=>?_)
   case refine_2=>
    simp_all only[spAt]
    exact⟨sc,s3.seq hS,by omega,by omega,fun n=>hN _ _ ⟨rfl,n,rfl⟩⟩
   rintro _ _ ⟨rfl,n,rfl⟩
   change tSeq _ _ _ [some (.ref sa),some (.int k0),some (.ref cl),some (.bl th),some (.ref l),some (.int far),some (.int (0+ (i:Int))),some (.int n),z3,z4] H3
   refine seq_gen (fun σ' H'=>H3=H'∧∃c∈cs.map (·.1),σ'=[some (.ref sa),some (.int k0),some (.ref cl),some (.bl th),some (.ref l),some (.int far),some (.int (0+ (i:Int))),some (.int n),some (.str c),z4]) ?_ (fun N hN=>?_)
   case refine_2=>
    obtain⟨k,c,ek,ec⟩:=emod_at (l:=cs) (n / 4) (by omega)
    obtain⟨q,eq,hq⟩:=place ec
    have hat:atI cvs (n / 4 % (cvs.length:Int))=some (.ref q):=by rw[←clen,ek];exact atI_nat eq
    simp_all only[]
    exact⟨CDivB.lit,_,s3 _ _ hcl,by omega,_,s3 _ _ hcl,_,hat,_,rfl,_,s3 _ _ hq,_,rfl,hN _ _ ⟨rfl,_,List.mem_map.mpr ⟨_,List.mem_of_getElem? ec,rfl⟩,rfl⟩⟩
   rintro _ _ ⟨rfl,c,hc,rfl⟩
   change tSeq _ _ _ [some (.ref sa),some (.int k0),some (.ref cl),some (.bl th),some (.ref l),some (.int far),some (.int (0+ (i:Int))),some (.int n),some (.str c),z4] H3
   refine seq_gen (fun σ' H'=>H3=H'∧∃c'∈cs.map (·.1),σ'=[some (.ref sa),some (.int k0),some (.ref cl),some (.bl th),some (.ref l),some (.int far),some (.int (0+ (i:Int))),some (.int n),some (.str c),some (.str c')]) ?_ (fun N hN=>?_)
   case refine_2=>
    obtain⟨k,c',ek,ec⟩:=emod_at (l:=cs) (n / 16) (by omega)
    obtain⟨q,eq,hq⟩:=place ec
    have hat:atI cvs (n / 16 % (cvs.length:Int))=some (.ref q):=by rw[←clen,ek];exact atI_nat eq
    simp_all only[]
    exact⟨CDivB.lit,_,s3 _ _ hcl,by omega,_,s3 _ _ hcl,_,hat,_,rfl,_,s3 _ _ hq,_,rfl,hN _ _ ⟨rfl,_,List.mem_map.mpr ⟨_,List.mem_of_getElem? ec,rfl⟩,rfl⟩⟩
   rintro _ _ ⟨rfl,c',hc',rfl⟩
   have push:∀(d:Dd) (e:Addr) (H5:Hp),Same H3 H5→H3 e=none→Rep (hid H5 l) (ddD d) (.ref e)→DdOk cs th d→Same H (upd H5 l (.lst (xs++ [V.ref e])))∧(∃ds:List Dd,ds.length=i+1∧∃xs':List V,upd H5 l (.lst (xs++ [V.ref e])) l=some (.lst xs')∧RepL (hid (upd H5 l (.lst (xs++ [V.ref e]))) l) (ds.map ddD) xs'∧∀d∈ds,DdOk cs th d):=by
    intro d e H5 s5 ne re hd
    refine⟨same_upd_of (s3.trans s5) nl0,ds++ [d],by rw[List.length_append,ld];rfl,_,upd_same,?_,fun r hr=>?_⟩
    ·rw[List.map_append]
     exact rep_push (rx.mono (hid_mono s5)) re
    ·rcases List.mem_append.mp hr with hr | hr
     ·exact gd r hr
     ·rw[List.mem_singleton.mp hr];exact hd
   have q0:=Int.emod_nonneg (n / 64) (show far≠0 by omega)
   have two:∃w d,atI [V.str (Str.ofString "set"),V.str (Str.ofString "plus")] (n / 2 % 2)=some (.str w)∧ddD d=.tup [.str w,.str c,.int (n / 64 % far)]∧DdOk cs th d:=by
    have o:n / 2 % 2=0∨n / 2 % 2=1:=by omega
    rcases o with o | o
    ·rw[o];exact⟨_,.set c (n / 64 % far),rfl,rfl,hc,q0⟩
    ·rw[o];exact⟨_,.plus c (n / 64 % far),rfl,rfl,hc,q0⟩
   obtain⟨ww,dw,h2w,edw,odw⟩:=two
   simp_all only[rAppend]
   refine⟨by decide,?_⟩
   by_cases n0:n % 4=0
   ·rw[if_pos n0]
    by_cases cc:c'=c
    ·rw[if_neg (fun h=>h cc)]
     refine⟨by decide,?_⟩
     rw[if_neg (by omega)]
     refine⟨ty,by omega,fun p np=>⟨CDivB.lit,by decide,_,upd_same,_,h2w,CDivB.lit,f0,by omega,fun p1 H5 s5 np1 e5=>?_⟩⟩
     have s35:=(same_upd np).trans s5
     have pl:p1≠l:=fun z=>by rw[z,same_upd np _ _ hx] at np1;cases np1
     obtain⟨a1,a2⟩:=push dw p1 H5 s35 (none_of (same_upd np) np1) (by rw[edw];exact rep_t3.mpr ⟨p1,_,_,_,rfl,by rw[hid_ne pl];exact e5,rep_str.mpr rfl,rep_str.mpr rfl,rep_int.mpr rfl⟩) odw
     exact⟨_,s35 _ _ hx,by omega,a1,a2,_,rfl⟩
    ·rw[if_pos cc]
     refine⟨ty,by omega,fun p1 H5 s5 np1 e5=>?_⟩
     have pl:p1≠l:=fun z=>by rw[z,hx] at np1;cases np1
     obtain⟨a1,a2⟩:=push (.move c c') p1 H5 s5 np1 (rep_t3.mpr ⟨p1,_,_,_,rfl,by rw[hid_ne pl];exact e5,rep_str.mpr rfl,rep_str.mpr rfl,rep_str.mpr rfl⟩) ⟨hc,hc'⟩
     exact⟨_,s5 _ _ hx,by omega,a1,a2,_,rfl⟩
   ·rw[if_neg n0]
    refine⟨by decide,?_⟩
    by_cases n1:n % 4=1
    ·rw[if_pos n1]
     by_cases tt:th=true
     ·rw[if_pos tt]
      refine⟨ty,by omega,fun p1 H5 s5 np1 e5=>?_⟩
      have pl:p1≠l:=fun z=>by rw[z,hx] at np1;cases np1
      obtain⟨a1,a2⟩:=push (.face c) p1 H5 s5 np1 (rep_t2.mpr ⟨p1,_,_,rfl,by rw[hid_ne pl];exact e5,rep_str.mpr rfl,rep_str.mpr rfl⟩) ⟨hc,tt⟩
      exact⟨_,s5 _ _ hx,by omega,a1,a2,_,rfl⟩
     ·rw[if_neg tt]
      refine⟨ty,by omega,fun p np=>⟨CDivB.lit,by decide,_,upd_same,_,h2w,CDivB.lit,f0,by omega,fun p1 H5 s5 np1 e5=>?_⟩⟩
      have s35:=(same_upd np).trans s5
      have pl:p1≠l:=fun z=>by rw[z,same_upd np _ _ hx] at np1;cases np1
      obtain⟨a1,a2⟩:=push dw p1 H5 s35 (none_of (same_upd np) np1) (by rw[edw];exact rep_t3.mpr ⟨p1,_,_,_,rfl,by rw[hid_ne pl];exact e5,rep_str.mpr rfl,rep_str.mpr rfl,rep_int.mpr rfl⟩) odw
      exact⟨_,s35 _ _ hx,by omega,a1,a2,_,rfl⟩
    ·rw[if_neg n1]
     refine⟨ty,by omega,fun p np=>⟨CDivB.lit,by decide,_,upd_same,_,h2w,CDivB.lit,f0,by omega,fun p1 H5 s5 np1 e5=>?_⟩⟩
     have s35:=(same_upd np).trans s5
     have pl:p1≠l:=fun z=>by rw[z,same_upd np _ _ hx] at np1;cases np1
     obtain⟨a1,a2⟩:=push dw p1 H5 s35 (none_of (same_upd np) np1) (by rw[edw];exact rep_t3.mpr ⟨p1,_,_,_,rfl,by rw[hid_ne pl];exact e5,rep_str.mpr rfl,rep_str.mpr rfl,rep_int.mpr rfl⟩) odw
     exact⟨_,s35 _ _ hx,by omega,a1,a2,_,rfl⟩
  ·rintro σ H3 ⟨s3,⟨ds,xs,ld,hx,rx,gd⟩,z1,z2,z3,z4,rfl⟩
   simp_all only[]
   exact kk _ ds H3 s3 nl0 (rep_lst.mpr ⟨l,xs,rfl,hx,rx.mono hid_sub⟩) (by omega) gd
theorem good_pos {cs:List (Str×Int)} (g:GoodC cs):∀c∈cs,0≤c.2:=fun c hc=>by
 obtain⟨i,ei⟩:=List.getElem?_of_mem hc
 have:=(g.2.2 i c ei).2.1
 omega
noncomputable def ddV:Dd→List V
 | .set n k=>[.str (Str.ofString "set"),.str n,.int k]
 | .plus n k=>[.str (Str.ofString "plus"),.str n,.int k]
 | .face n=>[.str (Str.ofString "face"),.str n]
 | .move n m=>[.str (Str.ofString "move"),.str n,.str m]
noncomputable def nm1:Dd→Str
 | .set n _=>n
 | .plus n _=>n
 | .face n=>n
 | .move n _=>n
theorem dd_back {H:Hp} {v:V}:∀{d:Dd},Rep H (ddD d) v→∃q,v=.ref q∧H q=some (.tup (ddV d))
 | .set n k,h=>by obtain⟨q,x,y,z,e,hq,a,b,c⟩:=rep_t3.mp (show Rep H (.tup _) v from h);rw[rep_str.mp a,rep_str.mp b,rep_int.mp c] at hq;exact⟨q,e,hq⟩
 | .plus n k,h=>by obtain⟨q,x,y,z,e,hq,a,b,c⟩:=rep_t3.mp (show Rep H (.tup _) v from h);rw[rep_str.mp a,rep_str.mp b,rep_int.mp c] at hq;exact⟨q,e,hq⟩
 | .face n,h=>by obtain⟨q,x,y,e,hq,a,b⟩:=rep_t2.mp (show Rep H (.tup _) v from h);rw[rep_str.mp a,rep_str.mp b] at hq;exact⟨q,e,hq⟩
 | .move n m,h=>by obtain⟨q,x,y,z,e,hq,a,b,c⟩:=rep_t3.mp (show Rep H (.tup _) v from h);rw[rep_str.mp a,rep_str.mp b,rep_str.mp c] at hq;exact⟨q,e,hq⟩
theorem DdOk.mem {cs:List (Str×Int)} {th:Bool}:∀{d:Dd},DdOk cs th d→nm1 d∈cs.map (·.1)
 | .set _ _,h=>h.1
 | .plus _ _,h=>h.1
 | .face _,h=>h.1
 | .move _ _,h=>h.1
noncomputable def f1 (cs:List (Str×Int)) (x:Int) (ms:List Int):Dd→List Int
 | .set n k=>rawD cs x ms (.set n k)
 | _=>ms
noncomputable def f2 (cs:List (Str×Int)) (x:Int) (ms:List Int):Dd→List Int
 | .set n k=>rawD cs x ms (.set n k)
 | .plus n k=>rawD cs x ms (.plus n k)
 | _=>ms
noncomputable def f3 (cs:List (Str×Int)) (x:Int) (ms:List Int):Dd→List Int
 | .move _ _=>ms
 | d=>rawD cs x ms d
theorem idx_first:∀{l:List Str} {x:Str} {j:Nat},j<l.idxOf x→l[j]?≠some x
 | [],_,_,h=>by simp at h
 | y::l,x,j,h=>by
  rw[List.idxOf_cons] at h
  by_cases c:y=x
  ·rw[c,beq_self_eq_true] at h;exact absurd h (Nat.not_lt_zero _)
  ·rw[beq_false_of_ne c] at h
   cases j with
   | zero=>simpa using c
   | succ j=>rw[List.getElem?_cons_succ];exact idx_first (l:=l) (Nat.lt_of_succ_lt_succ h)
theorem toP_strs (l:List Str):(l.map Dat.str).map toP=l.map PyData.str:=by
 rw[List.map_map]
 exact List.map_congr_left fun a _=>by show toP (.str a)=_;rw[toP]
theorem idx_at {l:List Str} {x:Str} (h:x∈l):((l.map Dat.str).map toP)[l.idxOf x]?=some (toP (.str x))∧∀j,j<l.idxOf x→((l.map Dat.str).map toP)[j]?≠some (toP (.str x)):=by
 have hl:=List.idxOf_lt_length_of_mem h
 rw[toP_strs,show toP (.str x)=PyData.str x by rw[toP]]
 refine⟨by rw[List.getElem?_map,List.getElem?_eq_getElem hl,List.getElem_idxOf];rfl,fun j hj e=>?_⟩
 rw[List.getElem?_map] at e
 obtain⟨y,ey,e⟩:=Option.map_eq_some_iff.mp e
 injection e with e
 exact idx_first hj (e▸ey)
theorem rep_strs {H:Hp}:∀l:List Str,RepL H (l.map Dat.str) (l.map V.str)
 | []=>repL_nil.mpr rfl
 | _::l=>repL_cons.mpr ⟨_,_,rfl,rep_str.mpr rfl,rep_strs l⟩
noncomputable def spBe:Sp:=fun vs H Q _=>∃v nl dv x cs ns ds th,vs=[v,.ref nl,dv,.int x]∧Rep H (csD cs) v∧GoodC cs∧H nl=some (.lst (List.map V.int ns))∧GoodN cs ns∧Rep H (.lst (List.map ddD ds)) dv∧ds.length≤6∧(∀d∈ds,DdOk cs th d)∧0≤x∧x<1000∧∀l H',Same H H'→H l=none→H' l=some (.lst ((ds.foldl (doD cs x) ns).map V.int))→Q (.ref l) H'
theorem sc__law_behind:FnScope ["_law_counts","_law_numbers","_law_deeds_here","_law_thrown","_law_found","_law_names","_law_deed","_law_at_here","_law_to"] ["_law_counts","_law_numbers","_law_deeds_here","_law_thrown"] (defScope (top 45)):=⟨rfl,rfl,rfl,by decide +kernel,rfl,by decide +kernel,by decide +kernel⟩
theorem ok_be (T:Txt K mg q_NoShare q_NoTable q_TooMany q_Course q_Finder):Cal P w K mg base (CX1 P w) 1 "_law_behind" ["_law_counts","_law_numbers","_law_deeds_here","_law_thrown"] spBe:=by
 refine T.d__law_behind.cal (fun _ _ _ _ _ _ us hl=>match us,hl with | [_,_,_,_],_=>rfl) fun f fd F=>F.okC sc__law_behind (fun vs H Q E h=>?_) (fun cdv A outer s H vs Q E hr h=>?_)
 ·obtain⟨_,_,_,_,_,_,_,_,rfl,_⟩:=h;rfl
 ·obtain⟨v,nl,dv,x,cs,ns,ds,th,rfl,rc,gc,hn,gn,rdd,d6,gd,x0,x1,kk⟩:=h
  have nd:=sc__law_behind.nd
  refine⟨_,(pss_cons (ps_set (i:=4) nd rfl (Or.inl rfl) (pe_callTy (call_list_ofK (K:=K)) (by rfl) T.z_list rfl (pa_cons (pv 1) pa_nil (se rfl)) (he:=se rfl) (hpl:=na rfl)))
  (pss_cons (ps_setC (i:=5) rfl nd rfl rfl (N:=["_law_counts","_law_numbers","_law_deeds_here","_law_thrown","_law_found","_law_names","_law_deed","_law_at_here","_law_to"]) (so:=defScope (top 45)) (N':=["_law_name","_law_most"]) (k:=2) (fr:=[]) rfl rfl ⟨rfl,by decide +kernel,by decide +kernel,by decide +kernel,rfl,by decide +kernel,by decide +kernel⟩ (pi_listK (K:=K) (pv 0)) (fun _ _ _ _ _=>(pg_tupK (K:=K) (n:=2) rfl (pgs_cons (pg_name (i:=0) (show(["_law_name","_law_most"]:List Str).Nodup by decide +kernel) rfl (Or.inl rfl)) (pgs_cons (pg_name (i:=1) (show(["_law_name","_law_most"]:List Str).Nodup by decide +kernel) rfl (Or.inl rfl)) pgs_nil)))) (fun _ _ _ _ _=>pts_nil)
   (fun _ _ _ _ _=>(pv 0)))
  (pss_cons (ps_for PassesOwn.never rfl (pi_listK (K:=K) (pv 2)) (pg_name (i:=6) nd rfl (Or.inl rfl)) (pss_cons (ps_set (i:=7) nd rfl (Or.inl rfl) (pe_bm PySem.F.plainAttrs_list PySem.F.slot_list_index PySem.F.type_list_index (mt_nindex hr.units) (pv 5) (pa_cons (pe_ix ix_tupH (pv 6) pe_int (fun _ _=>rfl)) pa_nil (se rfl))))
  (pss_cons (ps_if (pt_cmpR op_eq (pe_ix ix_tupH (pv 6) pe_int (fun _ _=>rfl)) pe_str (nomark _)) (pss_one (ps_asg (pe_ix ix_tupH (pv 6) pe_int (fun _ _=>rfl)) (pg_sub (pv 4) (pv 7) set_list)))
   pss_nil)
  (pss_cons (ps_if (pt_cmpR op_eq (pe_ix ix_tupH (pv 6) pe_int (fun _ _=>rfl)) pe_str (nomark _)) (pss_one (ps_asg (pe_op op_add (pe_ix ix_listH (pv 4) (pv 7) (fun _ _=>rfl)) (pe_ix ix_tupH (pv 6) pe_int (fun _ _=>rfl))) (pg_sub (pv 4) (pv 7) set_list)))
   pss_nil)
  (pss_cons (ps_if (pt_cmpR op_eq (pe_ix ix_tupH (pv 6) pe_int (fun _ _=>rfl)) pe_str (nomark _)) (pss_one (ps_asg (pe_op op_add (pe_ix ix_listH (pv 4) (pv 7) (fun _ _=>rfl)) (pv 3)) (pg_sub (pv 4) (pv 7) set_list)))
   pss_nil)
  (pss_cons (ps_if (pt_cmpR op_eq (pe_ix ix_tupH (pv 6) pe_int (fun _ _=>rfl)) pe_str (nomark _)) (pss_cons (ps_set (i:=8) nd rfl (Or.inl rfl) (pe_bm PySem.F.plainAttrs_list PySem.F.slot_list_index PySem.F.type_list_index (mt_nindex hr.units) (pv 5) (pa_cons (pe_ix ix_tupH (pv 6) pe_int (fun _ _=>rfl)) pa_nil (se rfl))))
  (pss_cons (ps_asg (pe_op op_add (pe_ix ix_listH (pv 4) (pv 8) (fun _ _=>rfl)) (pe_ix ix_listH (pv 4) (pv 7) (fun _ _=>rfl))) (pg_sub (pv 4) (pv 8) set_list))
  (pss_one (ps_asg pe_int (pg_sub (pv 4) (pv 7) set_list)))))
   pss_nil)
  (pss_one (ps_setC (i:=4) rfl nd rfl rfl (N:=["_law_counts","_law_numbers","_law_deeds_here","_law_thrown","_law_found","_law_names","_law_deed","_law_at_here","_law_to"]) (so:=defScope (top 45)) (N':=["_law_number","_law_count"]) (k:=2) (fr:=[]) rfl rfl ⟨rfl,by decide +kernel,by decide +kernel,by decide +kernel,rfl,by decide +kernel,by decide +kernel⟩ (pi_zipK (K:=K) rfl T.z_zip (pa_cons (pv 4) (pa_cons (pv 0) pa_nil (se rfl)) (se rfl))) (fun _ _ _ _ _=>(pg_tupK (K:=K) (n:=2) rfl (pgs_cons (pg_name (i:=0) (show(["_law_number","_law_count"]:List Str).Nodup by decide +kernel) rfl (Or.inl rfl)) (pgs_cons (pg_name (i:=1) (show(["_law_number","_law_count"]:List Str).Nodup by decide +kernel) rfl (Or.inl rfl)) pgs_nil)))) (fun _ _ _ _ _=>pts_nil)
   (fun _ _ _ _ _=>(pe_callB (call_min2 rfl) (by rfl) T.z_min rfl (pa_cons (pv 0) (pa_cons (pe_ix ix_tupH (pv 1) pe_int (fun _ _=>rfl)) pa_nil (se rfl)) (se rfl)) (he:=se rfl) (hpl:=na rfl)))))))))))
  (pss_one (ps_ret (pv 4)))))),?_⟩
  have sl:=sizeLine_eq
  obtain⟨c1,c4,cg⟩:=id gc
  obtain⟨ndc,hsc⟩:=good_nms gc
  have pos:=good_pos gc
  obtain⟨cl,cvs,rfl,hcl,rcl⟩:=rep_lst.mp (show Rep H (.lst _) v from rc)
  obtain⟨dl,dvs,rfl,hdl,rdl⟩:=rep_lst.mp rdd
  have clen:=rcl.length
  rw[List.length_map] at clen
  have dlen:=rdl.length
  rw[List.length_map] at dlen
  change tSeq _ _ _ [some (.ref cl),some (.ref nl),some (.ref dl),some (.int x),none,none,none,none,none] H
  refine seq_gen (fun σ' H1=>Same H H1∧∃l,H l=none∧H1 l=some (.lst (List.map V.int ns))∧σ'=[some (.ref cl),some (.ref nl),some (.ref dl),some (.int x),some (.ref l),none,none,none,none]) ?_ (fun N hN=>?_)
  case refine_2=>
   simp_all only[]
   exact⟨_,.inl (SqL.of hn),fun l nl=>hN _ _ ⟨same_upd nl,l,nl,upd_same,rfl⟩⟩
  rintro _ H1 ⟨s1,l,nl0,hl,rfl⟩
  change tSeq _ _ _ [some (.ref cl),some (.ref nl),some (.ref dl),some (.int x),some (.ref l),none,none,none,none] H1
  refine seq_gen (fun σ' H2=>Same H1 H2∧∃nm,H1 nm=none∧H2 nm=some (.lst ((cs.map (·.1)).map V.str))∧σ'=[some (.ref cl),some (.ref nl),some (.ref dl),some (.int x),some (.ref l),some (.ref nm),none,none,none]) ?_ (fun N hN=>?_)
  case refine_2=>
   simp_all only[]
   refine⟨⟨_,SqL.of (s1 _ _ hcl)⟩,?_⟩
   refine comp_map2 (src_list (fun H2 s2=>s2.seq (SqL.of (s1 _ _ hcl)))) (fun i a b H3=>∃c,cs[i]?=some c∧a=.str c.1) ?_ (by omega) (fun i y H2=>∃c,cs[i]?=some c∧y=.str c.1) (fun i y H2 H3 s3 h=>h) ?_ ?_
   ·rintro i y H2 H3 hi s2 ⟨rfl,hy⟩
    obtain⟨d,ed,rd⟩:=rcl.get hy
    rw[List.getElem?_map] at ed
    obtain⟨c,ec,rfl⟩:=Option.map_eq_some_iff.mp ed
    obtain⟨q,a,b,rfl,hq,r1,r2⟩:=rep_t2.mp (show Rep H (.tup _) y from rd)
    exact⟨Same.refl _,q,_,_,rfl,SqT.of ((s1.trans s2) _ _ hq),c,ec,rep_str.mp r1⟩
   ·rintro i a b H3 Q2 hi s3 ⟨c,ec,rfl⟩ kq
    simp_all only[]
    exact kq _ _ (Same.refl _) ⟨c,ec,rfl⟩
   ·intro ys H2 s2 ly hy D n1 n2
    have e:ys=(cs.map (·.1)).map V.str:=by
     apply List.ext_getElem?
     intro i
     cases ei:ys[i]? with
     | none=>
      rw[List.getElem?_eq_none_iff] at ei
      rw[List.getElem?_eq_none (by rw[List.length_map,List.length_map];omega)]
     | some y=>
      obtain⟨c,ec,rfl⟩:=hy i y ei
      rw[List.getElem?_map,List.getElem?_map,ec]
      rfl
    rw[e]
    exact hN _ _ ⟨s2.trans (same_upd n2),D,n1,upd_same,rfl⟩
  rintro _ H2 ⟨s2,nm,nnm,hnm,rfl⟩
  have s02:=s1.trans s2
  simp_all only[]
  refine⟨⟨_,SqL.of (s02 _ _ hdl)⟩,for_src (src_list (Ok:=Same H) (fun H' k=>SqL.of (k _ _ hdl))) (fun i σ H'=>Same H H'∧H' nm=some (.lst ((cs.map (·.1)).map V.str))∧(∃l,H l=none∧l≠nm∧H' l=some (.lst (((ds.take i).foldl (doD cs x) ns).map V.int))∧∃z1 z2 z3,σ=[some (.ref cl),some (.ref nl),some (.ref dl),some (.int x),some (.ref l),some (.ref nm),z1,z2,z3])) ⟨s02,hnm,⟨l,nl0,(fun z=>by rw[←z,hl] at nnm;cases nnm),s2 _ _ hl,_,_,_,rfl⟩⟩ (fun _ _ _ _ h=>h.1) ?_ ?_⟩
  ·rintro i y σ H4 H3 hi ⟨s3,hnm3,l3,nl3,ln3,hl3,z1,z2,z3,rfl⟩ ⟨rfl,ey⟩
   obtain⟨dd,ed,rd⟩:=rdl.get ey
   rw[List.getElem?_map] at ed
   obtain⟨d,e0,rfl⟩:=Option.map_eq_some_iff.mp ed
   have gdi:=gd d (List.mem_of_getElem? e0)
   have gm:GoodN cs ((ds.take i).foldl (doD cs x) ns):=fold_good pos x0 _ _ gn fun d hd=>gd d (List.mem_of_mem_take hd)
   have tk:(ds.take (i+1)).foldl (doD cs x) ns=doD cs x ((ds.take i).foldl (doD cs x) ns) d:=by rw[List.take_add_one,e0,List.foldl_append];rfl
   rw[tk]
   generalize (ds.take i).foldl (doD cs x) ns=ms at *
   have ml:=gm.1
   obtain⟨q,rfl,hq⟩:=dd_back rd
   have hq3:=s3 _ _ hq
   have kds:∀e∈(cs.map (·.1)).map Dat.str,Kd e:=fun e he=>by
    obtain⟨n,hn,rfl⟩:=List.mem_map.mp he
    exact⟨hsc n hn,by rw[toP,PyData.depth];decide⟩
   have spl:∀n∈cs.map (·.1),spot cs n<cs.length:=fun n hn=>spot_lt hn
   simp only[gName,List.set_cons_succ,List.set_cons_zero]
   change tSeq _ _ _ [some (.ref cl),some (.ref nl),some (.ref dl),some (.int x),some (.ref l3),some (.ref nm),some (.ref q),z2,z3] H3
   refine seq_gen (fun σ' H'=>H3=H'∧σ'=[some (.ref cl),some (.ref nl),some (.ref dl),some (.int x),some (.ref l3),some (.ref nm),some (.ref q),some (.int ((spot cs (nm1 d):Nat):Int)),z3]) ?_ (fun N hN=>?_)
   case refine_2=>
    have ia:=idx_at gdi.mem
    have a1:atI (ddV d) 1=some (.str (nm1 d)):=by cases d <;>rfl
    have sp:=spl _ gdi.mem
    simp_all only[rNix,hq3,a1]
    refine⟨.inl ⟨rfl,_,SqL.of hnm3⟩,_,hnm3,(cs.map (·.1)).map Dat.str,rep_strs _,kds,.str (nm1 d),rep_str.mpr rfl,⟨hsc _ gdi.mem,by rw[toP,PyData.depth];decide⟩,_,ia.1,ia.2,?_,hN _ _ ⟨rfl,rfl⟩⟩
    show spot cs (nm1 d)<100000
    omega
   rintro _ _ ⟨rfl,rfl⟩
   have kp:∀{H5:Hp} {xs:List V},Same H H5→H5 nm=some (.lst ((cs.map (·.1)).map V.str))→Same H (upd H5 l3 (.lst xs))∧upd H5 l3 (.lst xs) nm=some (.lst ((cs.map (·.1)).map V.str)):=fun s h=>⟨same_upd_of s nl3,by rw[upd_ne (Ne.symm ln3)];exact h⟩
   have sp:=spl _ gdi.mem
   change tSeq _ _ _ [some (.ref cl),some (.ref nl),some (.ref dl),some (.int x),some (.ref l3),some (.ref nm),some (.ref q),some (.int ((spot cs (nm1 d):Nat):Int)),z3] H3
   refine seq_gen (fun σ' H'=>Same H H'∧H' nm=some (.lst ((cs.map (·.1)).map V.str))∧H' l3=some (.lst ((f1 cs x ms d).map V.int))∧σ'=[some (.ref cl),some (.ref nl),some (.ref dl),some (.int x),some (.ref l3),some (.ref nm),some (.ref q),some (.int ((spot cs (nm1 d):Nat):Int)),z3]) ?_ (fun N hN=>?_)
   case refine_2=>
    cases d with
    | set n k=>
     simp_all only[hq3,ddV,rSetL]
     refine⟨_,hl3,_,ixN_nat (by rw[List.length_map,ml];exact sp),?_⟩
     rw[←List.map_set]
     exact hN _ _ ⟨(kp s3 hnm3).1,(kp s3 hnm3).2,upd_same,rfl⟩
    | plus n k=>exact if_no (fun Y N k=>by simp_all only[hq3,ddV];first | exact k | (rw[if_neg (by decide +kernel)];exact k)) (hN _ _ ⟨s3,hnm3,hl3,rfl⟩)
    | face n=>exact if_no (fun Y N k=>by simp_all only[hq3,ddV];first | exact k | (rw[if_neg (by decide +kernel)];exact k)) (hN _ _ ⟨s3,hnm3,hl3,rfl⟩)
    | move n m=>exact if_no (fun Y N k=>by simp_all only[hq3,ddV];first | exact k | (rw[if_neg (by decide +kernel)];exact k)) (hN _ _ ⟨s3,hnm3,hl3,rfl⟩)
   rintro _ H4 ⟨s4,hnm4,hl4,rfl⟩
   have hq4:=s4 _ _ hq
   change tSeq _ _ _ [some (.ref cl),some (.ref nl),some (.ref dl),some (.int x),some (.ref l3),some (.ref nm),some (.ref q),some (.int ((spot cs (nm1 d):Nat):Int)),z3] H4
   refine seq_gen (fun σ' H'=>Same H H'∧H' nm=some (.lst ((cs.map (·.1)).map V.str))∧H' l3=some (.lst ((f2 cs x ms d).map V.int))∧σ'=[some (.ref cl),some (.ref nl),some (.ref dl),some (.int x),some (.ref l3),some (.ref nm),some (.ref q),some (.int ((spot cs (nm1 d):Nat):Int)),z3]) ?_ (fun N hN=>?_)
   case refine_2=>
    cases d with
    | plus n k=>
     simp_all only[hq4,ddV,rSetL]
     have hl':H4 l3=some (.lst (ms.map V.int)):=hl4
     refine⟨_,hl',_,at_ints (by rw[ml];exact sp),_,rfl,_,hl',_,ixN_nat (by rw[List.length_map,ml];exact sp),?_⟩
     rw[←List.map_set]
     exact hN _ _ ⟨(kp s4 hnm4).1,(kp s4 hnm4).2,upd_same,rfl⟩
    | set n k=>exact if_no (fun Y N k=>by simp_all only[hq4,ddV];first | exact k | (rw[if_neg (by decide +kernel)];exact k)) (hN _ _ ⟨s4,hnm4,hl4,rfl⟩)
    | face n=>exact if_no (fun Y N k=>by simp_all only[hq4,ddV];first | exact k | (rw[if_neg (by decide +kernel)];exact k)) (hN _ _ ⟨s4,hnm4,hl4,rfl⟩)
    | move n m=>exact if_no (fun Y N k=>by simp_all only[hq4,ddV];first | exact k | (rw[if_neg (by decide +kernel)];exact k)) (hN _ _ ⟨s4,hnm4,hl4,rfl⟩)
   rintro _ H5 ⟨s5,hnm5,hl5,rfl⟩
   have hq5:=s5 _ _ hq
   change tSeq _ _ _ [some (.ref cl),some (.ref nl),some (.ref dl),some (.int x),some (.ref l3),some (.ref nm),some (.ref q),some (.int ((spot cs (nm1 d):Nat):Int)),z3] H5
   refine seq_gen (fun σ' H'=>Same H H'∧H' nm=some (.lst ((cs.map (·.1)).map V.str))∧H' l3=some (.lst ((f3 cs x ms d).map V.int))∧σ'=[some (.ref cl),some (.ref nl),some (.ref dl),some (.int x),some (.ref l3),some (.ref nm),some (.ref q),some (.int ((spot cs (nm1 d):Nat):Int)),z3]) ?_ (fun N hN=>?_)
   case refine_2=>
    cases d with
    | face n=>
     simp_all only[hq5,ddV,rSetL]
     have hl':H5 l3=some (.lst (ms.map V.int)):=hl5
     refine⟨_,hl',_,at_ints (by rw[ml];exact sp),_,rfl,_,hl',_,ixN_nat (by rw[List.length_map,ml];exact sp),?_⟩
     rw[←List.map_set]
     exact hN _ _ ⟨(kp s5 hnm5).1,(kp s5 hnm5).2,upd_same,rfl⟩
    | set n k=>exact if_no (fun Y N k=>by simp_all only[hq5,ddV];first | exact k | (rw[if_neg (by decide +kernel)];exact k)) (hN _ _ ⟨s5,hnm5,hl5,rfl⟩)
    | plus n k=>exact if_no (fun Y N k=>by simp_all only[hq5,ddV];first | exact k | (rw[if_neg (by decide +kernel)];exact k)) (hN _ _ ⟨s5,hnm5,hl5,rfl⟩)
    | move n m=>exact if_no (fun Y N k=>by simp_all only[hq5,ddV];first | exact k | (rw[if_neg (by decide +kernel)];exact k)) (hN _ _ ⟨s5,hnm5,hl5,rfl⟩)
   rintro _ H6 ⟨s6,hnm6,hl6,rfl⟩
   have hq6:=s6 _ _ hq
   change tSeq _ _ _ [some (.ref cl),some (.ref nl),some (.ref dl),some (.int x),some (.ref l3),some (.ref nm),some (.ref q),some (.int ((spot cs (nm1 d):Nat):Int)),z3] H6
   refine seq_gen (fun σ' H'=>Same H H'∧H' nm=some (.lst ((cs.map (·.1)).map V.str))∧H' l3=some (.lst ((rawD cs x ms d).map V.int))∧∃z,σ'=[some (.ref cl),some (.ref nl),some (.ref dl),some (.int x),some (.ref l3),some (.ref nm),some (.ref q),some (.int ((spot cs (nm1 d):Nat):Int)),z]) ?_ (fun N hN=>?_)
   case refine_2=>
    cases d with
    | move n m=>
     simp_all only[hq6,ddV,rSetL,rNix]
     have hl':H6 l3=some (.lst (ms.map V.int)):=hl6
     have hm:m∈cs.map (·.1):=gdi.2
     have ia:=idx_at hm
     have sm:(cs.map (·.1)).idxOf m<cs.length:=spl m hm
     refine⟨.inl ⟨rfl,_,SqL.of hnm6⟩,_,hnm6,(cs.map (·.1)).map Dat.str,rep_strs _,kds,.str m,rep_str.mpr rfl,⟨hsc _ hm,by rw[toP,PyData.depth];decide⟩,_,ia.1,ia.2,by omega,_,hl',_,at_ints (by rw[ml];exact sm),_,hl',_,at_ints (by rw[ml];exact sp),_,rfl,_,rfl,_,hl',_,ixN_nat (by rw[List.length_map,ml];exact sm),_,upd_same,_,ixN_nat (by rw[List.length_set,List.length_map,ml];exact sp),?_⟩
     rw[←List.map_set,←List.map_set]
     have k1:=kp (xs:=(ms.set ((cs.map (·.1)).idxOf m) (ms.getD ((cs.map (·.1)).idxOf m) 0+ms.getD (spot cs (nm1 (Dd.move n m))) 0)).map V.int) s6 hnm6
     exact hN _ _ ⟨(kp k1.1 k1.2).1,(kp k1.1 k1.2).2,upd_same,_,rfl⟩
    | set n k=>exact if_no (fun Y N k=>by simp_all only[hq6,ddV];first | exact k | (rw[if_neg (by decide +kernel)];exact k)) (hN _ _ ⟨s6,hnm6,hl6,_,rfl⟩)
    | plus n k=>exact if_no (fun Y N k=>by simp_all only[hq6,ddV];first | exact k | (rw[if_neg (by decide +kernel)];exact k)) (hN _ _ ⟨s6,hnm6,hl6,_,rfl⟩)
    | face n=>exact if_no (fun Y N k=>by simp_all only[hq6,ddV];first | exact k | (rw[if_neg (by decide +kernel)];exact k)) (hN _ _ ⟨s6,hnm6,hl6,_,rfl⟩)
   rintro _ H7 ⟨s7,hnm7,hl7,z,rfl⟩
   have rl:(rawD cs x ms d).length=cs.length:=by cases d <;>simp [rawD,ml]
   simp_all only[]
   refine⟨⟨_,SqL.of hl7⟩,⟨_,SqL.of (s7 _ _ hcl)⟩,?_⟩
   refine comp_map2 (K:=K) (src_zip (Ok:=Same H7) (fun H' s'=>SqL.of (s' _ _ hl7)) (fun H' s'=>SqL.of (s' _ _ (s7 _ _ hcl)))) (fun i a b H3=>∃k c qq,(rawD cs x ms d)[i]?=some k∧cs[i]?=some c∧a=.int k∧b=.ref qq∧H3 qq=some (.tup [.str c.1,.int c.2])) ?_ (by rw[List.length_map];omega) (fun i y _=>∃k c,(rawD cs x ms d)[i]?=some k∧cs[i]?=some c∧y=.int (min k c.2)) (fun _ _ _ _ _ h=>h) ?_ ?_
   ·rintro j v Ha Hb hj sa ⟨p,u1,u2,np,rfl,e1,e2,rfl⟩
    rw[List.getElem?_map] at e1
    obtain⟨k,ek,rfl⟩:=Option.map_eq_some_iff.mp e1
    obtain⟨dd2,ed2,rd2⟩:=rcl.get e2
    rw[List.getElem?_map] at ed2
    obtain⟨c,ec,rfl⟩:=Option.map_eq_some_iff.mp ed2
    obtain⟨qq,a,b,rfl,hqq,r1,r2⟩:=rep_t2.mp (show Rep H (.tup _) u2 from rd2)
    rw[rep_str] at r1
    rw[rep_int] at r2
    subst r1 r2
    exact⟨same_upd np,p,_,_,rfl,SqT.of upd_same,k,c,qq,ek,ec,rfl,rfl,(s7.trans (sa.trans (same_upd np))) _ _ hqq⟩
   ·rintro j a b Hb Q2 hj sb ⟨k,c,qq,ek,ec,rfl,rfl,hqq⟩ kq
    simp_all only[hqq]
    have e:(if c.2<k then c.2 else k)=min k c.2:=by
     rw[Int.min_def]
     split <;>split <;>omega
    rw[e]
    exact kq _ _ (Same.refl _) ⟨k,c,ek,ec,rfl⟩
   ·intro ys Hb sb ly hy D n1 n2
    rw[List.length_map] at ly
    have e:ys=(doD cs x ms d).map V.int:=by
     rw[←clip_raw gm pos d]
     apply List.ext_getElem?
     intro j
     cases ej:ys[j]? with
     | none=>
      rw[List.getElem?_eq_none_iff] at ej
      rw[List.getElem?_eq_none (by rw[List.length_map,clip_len rl];omega)]
     | some y=>
      obtain⟨k,c,ek,ec,rfl⟩:=hy j y ej
      rw[List.getElem?_map,clip_get ek ec]
      rfl
    rw[e]
    have Dn:D≠nm:=fun z=>by rw[z,hnm7] at n1;cases n1
    exact⟨s7.trans (sb.trans (same_upd n2)),by rw[upd_ne (Ne.symm Dn)];exact sb _ _ hnm7,D,none_of s7 n1,Dn,upd_same,rfl,_,rfl⟩
  ·rintro σ H3 ⟨s3,hnm3,l3,nl3,ln3,hl3,z1,z2,z3,rfl⟩
   rw[←dlen,List.take_of_length_le (Nat.le_refl _)] at hl3
   simp_all only[]
   exact kk l3 H3 s3 nl3 hl3
theorem sc__law_game:FnScope ["_law_script","_law_counts","_law_k","_law_many","_law_thrown","_law_at_here","_law_names","_law_places","_law_goal","_law_deeds_here","_law_what"] ["_law_script"] (defScope (top 46)):=⟨rfl,rfl,rfl,by decide +kernel,rfl,by decide +kernel,by decide +kernel⟩
theorem look_at {ps:List (Str×Wt)} {i:Nat} {nm:Str} {x:Wt} (nd:(ps.map (·.1)).Nodup) (e:ps[i]?=some (nm,x)):look ps nm=some x:=by
 have m:=List.mem_of_getElem? e
 cases lk:look ps nm with
 | none=>
  unfold look at lk
  rw[Option.map_eq_none_iff,List.find?_eq_none] at lk
  exact absurd (lk _ m) (by simp)
 | some y=>
  obtain⟨j,hj,ej⟩:=List.getElem_of_mem (look_mem lk)
  obtain⟨hi,ei⟩:=List.getElem?_eq_some_iff.mp e
  have hj':j< (ps.map (·.1)).length:=by rw[List.length_map];exact hj
  have hi':i< (ps.map (·.1)).length:=by rw[List.length_map];exact hi
  have:(ps.map (·.1))[j]=(ps.map (·.1))[i]:=by rw[List.getElem_map,List.getElem_map,ej,ei]
  have:=(List.getElem_inj nd).mp this
  subst this
  rw[ei] at ej
  injection ej with _ ej
  rw[ej]
noncomputable def nmL:List Str:=[Str.ofString "a",Str.ofString "b",Str.ofString "c",Str.ofString "d",Str.ofString "e",Str.ofString "f"]
noncomputable def nE:Str:=Str.ofString "end"
noncomputable def nmK (m k:Nat):Str:=if k<m then nmL.getD k nE else nE
noncomputable def vK (ah thr k:Nat):Int:=if k=ah then (thr:Int) else 0
noncomputable def whK (m ah thr k:Nat) (ds:List Dd):Wt:=if k=ah then .thr [ptD (.num thr)] (k:Int) 1 [(0,999,ds,nmK m (k+1))] else .pick (1+ (k:Int) % 2) [⟨Str.ofString "on",none,ds,nmK m (k+1)⟩]
noncomputable def psK (m ah thr:Nat) (pcs:List (List Dd)):List (Str×Wt):=pcs.mapIdx fun k ds=>(nmK m k,whK m ah thr k ds)
noncomputable def gmK (cs:List (Str×Int)) (pcs:List (List Dd)) (ah thr:Nat) (last:Wt):Gm:=⟨cs,psK pcs.length ah thr pcs++ [(nE,last)]⟩
noncomputable def nsK (cs:List (Str×Int)) (pcs:List (List Dd)) (ah thr:Nat):Nat→List Int
 | 0=>List.replicate cs.length 0
 | k+1=>(pcs.getD k []).foldl (doD cs (vK ah thr k)) (nsK cs pcs ah thr k)
structure GoodK (cs:List (Str×Int)) (pcs:List (List Dd)) (ah thr:Nat) (last:Wt):Prop where
 gc:GoodC cs
 m1:1≤pcs.length
 m6:pcs.length≤6
 ha:ah<pcs.length
 ht:thr<100
 gd:∀(k:Nat) ds,pcs[k]?=some ds→ds.length≤6∧∀d∈ds,DdOk cs (decide (k=ah)) d
 gl:last=.fin 5 2∨∃c∈cs.map (·.1),last=.score c
theorem nmK_ok:∀m∈[1,2,3,4,5,6],((List.range (m+1)).map (nmK m)).Nodup∧∀k∈List.range (m+1),hsh (.str (nmK m k))=true:=by decide +kernel
section chV
variable {cs : List (Str × Int)} {pcs : List (List Dd)} {ah thr : Nat} {last : Wt}
theorem nmK_end (m:Nat):nmK m m=nE:=by unfold nmK;rw[if_neg (by omega)]
theorem ps_k {k:Nat} (h:k<pcs.length):(gmK cs pcs ah thr last).ps[k]?=some (nmK pcs.length k,whK pcs.length ah thr k (pcs.getD k [])):=by
 show(psK pcs.length ah thr pcs++ [(nE,last)])[k]?=_
 unfold psK
 rw[List.getElem?_append_left (by rw[List.length_mapIdx];exact h),List.getElem?_mapIdx,List.getElem?_eq_getElem h,List.getD_eq_getElem?_getD,List.getElem?_eq_getElem h]
 rfl
theorem ps_e:(gmK cs pcs ah thr last).ps[pcs.length]?=some (nmK pcs.length pcs.length,last):=by
 show(psK pcs.length ah thr pcs++ [(nE,last)])[pcs.length]?=_
 unfold psK
 rw[List.getElem?_append_right (by rw[List.length_mapIdx];exact Nat.le_refl _),List.length_mapIdx,Nat.sub_self,nmK_end]
 rfl
theorem ps_len:(gmK cs pcs ah thr last).ps.length=pcs.length+1:=by
 show(psK pcs.length ah thr pcs++ [(nE,last)]).length=_
 unfold psK
 rw[List.length_append,List.length_mapIdx]
 rfl
theorem ps_nms:(gmK cs pcs ah thr last).ps.map (·.1)=(List.range (pcs.length+1)).map (nmK pcs.length):=by
 apply List.ext_getElem?
 intro i
 rw[List.getElem?_map,List.getElem?_map]
 by_cases h:i<pcs.length
 ·rw[ps_k h,List.getElem?_range (by omega)];rfl
 ·by_cases e:i=pcs.length
  ·subst e;rw[ps_e,List.getElem?_range (by omega)];rfl
  ·rw[List.getElem?_eq_none (by rw[ps_len];omega),List.getElem?_eq_none (by rw[List.length_range];omega)];rfl
theorem nm_mem (G:GoodK cs pcs ah thr last):pcs.length∈[1,2,3,4,5,6]:=by
 have:=G.m1
 have:=G.m6
 simp
 omega
theorem ps_nd (G:GoodK cs pcs ah thr last):((gmK cs pcs ah thr last).ps.map (·.1)).Nodup:=by rw[ps_nms];exact(nmK_ok _ (nm_mem G)).1
theorem nm_hsh (G:GoodK cs pcs ah thr last) {k:Nat} (h:k≤pcs.length):hsh (.str (nmK pcs.length k))=true:=(nmK_ok _ (nm_mem G)).2 k (List.mem_range.mpr (by omega))
theorem look_k (G:GoodK cs pcs ah thr last) {k:Nat} (h:k<pcs.length):look (gmK cs pcs ah thr last).ps (nmK pcs.length k)=some (whK pcs.length ah thr k (pcs.getD k [])):=look_at (ps_nd G) (ps_k h)
theorem look_l (G:GoodK cs pcs ah thr last):look (gmK cs pcs ah thr last).ps (nmK pcs.length pcs.length)=some last:=look_at (ps_nd G) ps_e
theorem ask_k (G:GoodK cs pcs ah thr last) {k f:Nat} (h:k≤pcs.length) (ns:List Int):askd (gmK cs pcs ah thr last) ns (f+1) (nmK pcs.length k)=some (nmK pcs.length k):=by
 unfold askd
 by_cases e:k<pcs.length
 ·rw[look_k G e]
  unfold whK
  by_cases c:k=ah
  ·rw[if_pos c]
  ·rw[if_neg c]
 ·have:k=pcs.length:=by omega
  subst this
  rw[look_l G]
  rcases G.gl with e | ⟨c,_,e⟩
  ·rw[e]
  ·rw[e]
theorem good_k (G:GoodK cs pcs ah thr last):GoodG (gmK cs pcs ah thr last) where
 nc:=(good_nms G.gc).1
 np:=ps_nd G
 lc:=Nat.le_trans G.gc.2.1 (by decide)
 lp:=by rw[ps_len];have:=G.m6;omega
 p0:=by rw[ps_len];omega
 wt:=by
  intro p hp
  obtain⟨i,ei⟩:=List.getElem?_of_mem hp
  by_cases h:i<pcs.length
  ·rw[ps_k h] at ei
   cases ei
   have gd:=G.gd i pcs[i] (List.getElem?_eq_getElem h)
   have e:pcs.getD i []=pcs[i]:=by rw[List.getD_eq_getElem?_getD,List.getElem?_eq_getElem h];rfl
   rw[e]
   show GoodT cs (whK pcs.length ah thr i pcs[i])
   unfold whK
   by_cases c:i=ah
   ·rw[if_pos c]
    refine⟨show 1≤100 by decide,show 1≤100 by decide,fun r hr=>?_⟩
    rw[List.mem_singleton.mp hr]
    exact⟨Nat.le_trans gd.1 (by decide),fun d hd=>(gd.2 d hd).good⟩
   ·rw[if_neg c]
    refine⟨show 1≤100 by decide,fun r hr=>?_⟩
    rw[List.mem_singleton.mp hr]
    exact⟨Nat.le_trans gd.1 (by decide),fun d hd=>(gd.2 d hd).good⟩
  ·have hl:=(List.getElem?_eq_some_iff.mp ei).1
   rw[ps_len] at hl
   have:i=pcs.length:=by omega
   subst this
   rw[ps_e] at ei
   cases ei
   rcases G.gl with e | ⟨c,hc,e⟩
   ·show GoodT cs last;rw[e];trivial
   ·show GoodT cs last;rw[e];exact hc
theorem nsK_len:∀k,(nsK cs pcs ah thr k).length=cs.length
 | 0=>List.length_replicate
 | k+1=>by rw[nsK,foldD_len,nsK_len k]
theorem nsK_good (G:GoodK cs pcs ah thr last):∀k,k≤pcs.length→GoodN cs (nsK cs pcs ah thr k)
 | 0,_=>by
  refine⟨List.length_replicate,fun i c ec=>?_⟩
  have hi:=(List.getElem?_eq_some_iff.mp ec).1
  rw[nsK,List.getD_eq_getElem?_getD,List.getElem?_replicate,if_pos hi]
  have:=(G.gc.2.2 i c ec).2.1
  show(0:Int)≤0∧(0:Int)≤c.2
  omega
 | k+1,h=>by
  have hk:k<pcs.length:=by omega
  have e:pcs.getD k []=pcs[k]:=by rw[List.getD_eq_getElem?_getD,List.getElem?_eq_getElem hk];rfl
  rw[nsK,e]
  refine fold_good (good_pos G.gc) ?_ _ _ (nsK_good G k (by omega)) (G.gd k _ (List.getElem?_eq_getElem hk)).2
  unfold vK
  split <;>omega
noncomputable def sK (cs:List (Str×Int)) (pcs:List (List Dd)) (ah thr k:Nat):Sta:=(nmK pcs.length k,nsK cs pcs ah thr k)
noncomputable def SSk (cs:List (Str×Int)) (pcs:List (List Dd)) (ah thr:Nat):List Sta:=(List.range (pcs.length+1)).map (sK cs pcs ah thr)
noncomputable def tK (cs:List (Str×Int)) (pcs:List (List Dd)) (ah thr k:Nat):List (Int×Sta):=if k<pcs.length then [(if k=ah then 1 else 0,sK cs pcs ah thr (k+1))] else []
noncomputable def tsK (cs:List (Str×Int)) (pcs:List (List Dd)) (ah thr:Nat):List (List (Int×Sta)):=(List.range (pcs.length+1)).map (tK cs pcs ah thr)
theorem SSk_len:(SSk cs pcs ah thr).length=pcs.length+1:=by unfold SSk;rw[List.length_map,List.length_range]
theorem SSk_at {k:Nat} (h:k≤pcs.length):(SSk cs pcs ah thr)[k]?=some (sK cs pcs ah thr k):=by unfold SSk;rw[List.getElem?_map,List.getElem?_range (by omega)];rfl
theorem SSk_nd (G:GoodK cs pcs ah thr last):(SSk cs pcs ah thr).Nodup:=by
 have e:(SSk cs pcs ah thr).map (·.1)=(List.range (pcs.length+1)).map (nmK pcs.length):=by
  unfold SSk
  rw[List.map_map]
  rfl
 have:=(nmK_ok _ (nm_mem G)).1
 rw[←e] at this
 exact List.Pairwise.of_map _ (fun a b h z=>h (by rw[z])) this
theorem SSk_idx (G:GoodK cs pcs ah thr last) {k:Nat} (h:k≤pcs.length):(SSk cs pcs ah thr).idxOf (sK cs pcs ah thr k)=k:=by
 obtain⟨a1,a2⟩:=List.getElem?_eq_some_iff.mp (SSk_at (cs:=cs) (ah:=ah) (thr:=thr) h)
 rw[←a2,(SSk_nd G).idxOf_getElem]
theorem goes_k (G:GoodK cs pcs ah thr last) {k:Nat} (h:k≤pcs.length):GoesX (gmK cs pcs ah thr last) (sK cs pcs ah thr k) (tK cs pcs ah thr k):=by
 unfold GoesX
 by_cases hk:k<pcs.length
 ·have e:tK cs pcs ah thr k=[(if k=ah then 1 else 0,sK cs pcs ah thr (k+1))]:=by unfold tK;rw[if_pos hk]
  rw[show look (gmK cs pcs ah thr last).ps (sK cs pcs ah thr k).1=_ from look_k G hk,e]
  unfold whK
  by_cases c:k=ah
  ·rw[if_pos c,if_pos c]
   have tn:=tab_num thr
   refine⟨[.num thr],1,rfl,⟨thr,by have:=G.ht;omega,rfl⟩,show 1≤4 by decide,?_,?_,?_⟩
   ·rw[tn]
    exact⟨by decide,fun r hr=>by rw[List.mem_singleton.mp hr];exact Int.dvd_refl _,fun M _=>Int.one_dvd _⟩
   ·rw[tn];rfl
   ·intro i x ex
    rw[tn] at ex
    have hw:Nm.weigh [((thr:Int),1,1)] 1=[((thr:Int),1)]:=rfl
    rw[hw] at ex
    cases i with
    | succ i=>cases ex
    | zero=>
     cases ex
     have:=G.ht
     refine⟨(0,999,pcs.getD k [],nmK pcs.length (k+1)),sK cs pcs ah thr (k+1),?_,rfl,?_,nm_hsh G hk⟩
     ·unfold rowOf
      exact List.find?_cons_of_pos (by simp;omega)
     ·unfold goT
      show(askd _ ((pcs.getD k []).foldl (doD cs (thr:Int)) (nsK cs pcs ah thr k)) _ (nmK pcs.length (k+1))).map _=_
      rw[ask_k G hk]
      show some (_,_)=some (_,nsK cs pcs ah thr (k+1))
      rw[nsK,show vK ah thr k=(thr:Int) by unfold vK;rw[if_pos c]]
      rfl
  ·rw[if_neg c]
   show Goes (gmK cs pcs ah thr last) (sK cs pcs ah thr k) [sK cs pcs ah thr (k+1)]
   unfold Goes
   rw[show look (gmK cs pcs ah thr last).ps (sK cs pcs ah thr k).1=_ from look_k G hk]
   unfold whK
   rw[if_neg c]
   show openR cs (nsK cs pcs ah thr k) _≠[]∧_=(openR cs (nsK cs pcs ah thr k) _).length∧∀(i:Nat) r,(openR cs (nsK cs pcs ah thr k) _)[i]?=some r→_
   rw[show ∀w,openR cs (nsK cs pcs ah thr k) (.pick w [⟨Str.ofString "on",none,pcs.getD k [],nmK pcs.length (k+1)⟩])=[⟨Str.ofString "on",none,pcs.getD k [],nmK pcs.length (k+1)⟩] from fun w=>rfl]
   refine⟨by simp,rfl,fun i r er=>?_⟩
   cases i with
   | succ i=>cases er
   | zero=>
    cases er
    refine⟨_,rfl,?_,nm_hsh G hk⟩
    unfold goR
    show(askd _ ((pcs.getD k []).foldl (doD cs 0) (nsK cs pcs ah thr k)) _ (nmK pcs.length (k+1))).map _=_
    rw[ask_k G hk]
    show some (_,_)=some (_,nsK cs pcs ah thr (k+1))
    rw[nsK,show vK ah thr k=0 by unfold vK;rw[if_neg c]]
    rfl
 ·have:k=pcs.length:=by omega
  subst this
  have e:tK cs pcs ah thr pcs.length=[]:=by unfold tK;rw[if_neg (by omega)]
  rw[show look (gmK cs pcs ah thr last).ps (sK cs pcs ah thr pcs.length).1=_ from look_l G,e]
  rcases G.gl with e | ⟨c,_,e⟩
  ·rw[e]
  ·rw[e]
theorem spr_k (G:GoodK cs pcs ah thr last):SprdW (gmK cs pcs ah thr last) (SSk cs pcs ah thr) 0 [(nmK pcs.length 0,List.replicate cs.length 0)] (tsK cs pcs ah thr):=by
 have key:∀n k,k+n=pcs.length+1→SprdW (gmK cs pcs ah thr last) (SSk cs pcs ah thr) k ((SSk cs pcs ah thr).take (k+1)) ((tsK cs pcs ah thr).drop k):=by
  intro n
  induction n with
  | zero=>
   intro k hk
   rw[List.drop_of_length_le (by unfold tsK;rw[List.length_map,List.length_range];omega),List.take_of_length_le (by rw[SSk_len];omega)]
   exact⟨rfl,by rw[SSk_len];omega⟩
  | succ n ih=>
   intro k hk
   have hkl:k≤pcs.length:=by omega
   have et:(tsK cs pcs ah thr)[k]?=some (tK cs pcs ah thr k):=by unfold tsK;rw[List.getElem?_map,List.getElem?_range (by omega)];rfl
   obtain⟨hlt,hge⟩:=List.getElem?_eq_some_iff.mp et
   rw[List.drop_eq_getElem_cons hlt,hge]
   refine⟨sK cs pcs ah thr k,by rw[List.getElem?_take,if_pos (by omega)];exact SSk_at hkl,nsK_len k,goes_k G hkl,?_⟩
   have ea:addAll ((SSk cs pcs ah thr).take (k+1)) (sts (tK cs pcs ah thr k))=(SSk cs pcs ah thr).take (k+1+1):=by
    unfold tK
    by_cases c:k<pcs.length
    ·rw[if_pos c]
     show addS _ (sK cs pcs ah thr (k+1))=_
     unfold addS
     rw[if_neg (nodup_at (SSk_nd G) (SSk_at (by omega))),List.take_add_one (i:=k+1),SSk_at (by omega)]
     rfl
    ·rw[if_neg c]
     show(SSk cs pcs ah thr).take (k+1)=_
     rw[List.take_of_length_le (by rw[SSk_len];omega),List.take_of_length_le (by rw[SSk_len];omega)]
   rw[ea]
   exact ih (k+1) (by omega)
 have:=key (pcs.length+1) 0 (by omega)
 rw[List.drop_zero,List.take_add_one,List.take_zero,SSk_at (Nat.zero_le _)] at this
 exact this
noncomputable def rowK (ah k:Nat):Dat:=if k=ah then .tup [.str (Str.ofString "throw"),.tup [.int (k:Int),.int 1],.lst [.tup [.int 1,.int ((k:Int)+1)]]] else .tup [.str (Str.ofString "pick"),.int (1+ (k:Int) % 2),.lst [.int ((k:Int)+1)]]
noncomputable def lastK (cs:List (Str×Int)) (ns:List Int) (last:Wt):Dat:=.tup [.str (Str.ofString "end"),.tup [.int ((endW cs ns last).getD (0,1)).1,.int ((endW cs ns last).getD (0,1)).2]]
noncomputable def bdK (cs:List (Str×Int)) (pcs:List (List Dd)) (ah thr:Nat) (last:Wt) (k:Nat):Dat:=if k<pcs.length then rowK ah k else lastK cs (nsK cs pcs ah thr pcs.length) last
noncomputable def stK (cs:List (Str×Int)) (pcs:List (List Dd)) (ah thr k:Nat):Dat:=.tup [.str (nmK pcs.length k),.lst ((nsK cs pcs ah thr k).map .int)]
noncomputable def wdK (m ah k:Nat):Dat:=.lst (if k<m∧k≠ah then [.str (Str.ofString "on")] else [])
noncomputable def dueK (cs:List (Str×Int)) (pcs:List (List Dd)) (ah thr:Nat) (last:Wt):Dat:=.tup [.lst ((List.range (pcs.length+1)).map (bdK cs pcs ah thr last)),.lst ((List.range (pcs.length+1)).map (stK cs pcs ah thr)),.lst ((List.range (pcs.length+1)).map (wdK pcs.length ah))]
theorem brd_k (G:GoodK cs pcs ah thr last):brdD (gmK cs pcs ah thr last) (SSk cs pcs ah thr) (tsK cs pcs ah thr)=(List.range (pcs.length+1)).map (bdK cs pcs ah thr last):=by
 unfold brdD
 have z:(SSk cs pcs ah thr).zip (tsK cs pcs ah thr)=(List.range (pcs.length+1)).map fun k=>(sK cs pcs ah thr k,tK cs pcs ah thr k):=by
  unfold SSk tsK
  rw[List.zip_map']
 rw[z,List.map_map]
 refine List.map_congr_left fun k hk=>?_
 have hk:=List.mem_range.mp hk
 show plcX _ _ (sK cs pcs ah thr k) (tK cs pcs ah thr k)=_
 unfold plcX bdK
 by_cases c:k<pcs.length
 ·have et:tK cs pcs ah thr k=[(if k=ah then 1 else 0,sK cs pcs ah thr (k+1))]:=by unfold tK;rw[if_pos c]
  have hi:=SSk_idx G (k:=k+1) c
  rw[if_pos c,show look (gmK cs pcs ah thr last).ps (sK cs pcs ah thr k).1=_ from look_k G c,et]
  unfold whK rowK
  by_cases d:k=ah
  ·rw[if_pos d,if_pos d,if_pos d]
   show Dat.tup [_,_,.lst [wayD _ _]]=_
   unfold wayD
   simp only[hi]
   rfl
  ·rw[if_neg d,if_neg d,if_neg d]
   show plcD _ _ (sK cs pcs ah thr k) [sK cs pcs ah thr (k+1)]=_
   unfold plcD
   rw[show look (gmK cs pcs ah thr last).ps (sK cs pcs ah thr k).1=_ from look_k G c]
   unfold whK
   rw[if_neg d]
   show Dat.tup [_,_,.lst [.int _]]=_
   rw[hi]
   rfl
 ·have e:k=pcs.length:=by omega
  subst e
  have et:tK cs pcs ah thr pcs.length=[]:=by unfold tK;rw[if_neg (by omega)]
  have ll:look (gmK cs pcs ah thr last).ps (sK cs pcs ah thr pcs.length).1=some last:=look_l G
  rw[if_neg c,ll,et]
  rcases G.gl with e | ⟨c,_,e⟩
  ·rw[e] at ll ⊢
   show plcD _ _ _ _=_
   unfold plcD
   rw[ll]
   rfl
  ·rw[e] at ll ⊢
   show plcD _ _ _ _=_
   unfold plcD
   rw[ll]
   rfl
theorem wds_k (G:GoodK cs pcs ah thr last):(SSk cs pcs ah thr).map (wordsD (gmK cs pcs ah thr last))=(List.range (pcs.length+1)).map (wdK pcs.length ah):=by
 unfold SSk
 rw[List.map_map]
 refine List.map_congr_left fun k hk=>?_
 have hk:=List.mem_range.mp hk
 show wordsD _ (sK cs pcs ah thr k)=_
 unfold wordsD wdK
 by_cases c:k<pcs.length
 ·rw[show look (gmK cs pcs ah thr last).ps (sK cs pcs ah thr k).1=_ from look_k G c]
  unfold whK
  by_cases d:k=ah
  ·rw[if_pos d,if_neg (fun z=>z.2 d)];rfl
  ·rw[if_neg d,if_pos ⟨c,d⟩];rfl
 ·have e:k=pcs.length:=by omega
  subst e
  rw[show look (gmK cs pcs ah thr last).ps (sK cs pcs ah thr pcs.length).1=_ from look_l G,if_neg (fun z=>c z.1)]
  rcases G.gl with e | ⟨c,_,e⟩
  ·rw[e];rfl
  ·rw[e];rfl
theorem sts_k:(SSk cs pcs ah thr).map (fun s:Sta=>Dat.tup [.str s.1,.lst (s.2.map .int)])=(List.range (pcs.length+1)).map (stK cs pcs ah thr):=by
 unfold SSk
 rw[List.map_map]
 rfl
end chV
theorem nm_at {m k:Nat} (h:k<m) (h6:m≤6):(nmL++ [nE])[k]?=some (nmK m k):=by
 have hl:k<nmL.length:=by show k<6;omega
 unfold nmK
 rw[if_pos h,List.getElem?_append_left hl,List.getD_eq_getElem?_getD,List.getElem?_eq_getElem hl]
 rfl
theorem dd_fwd {H:Hp} {d:Dd} {q:Addr} (h:H q=some (.tup (ddV d))):Rep H (ddD d) (.ref q):=by
 cases d with
 | set n k=>exact rep_t3.mpr ⟨q,_,_,_,rfl,h,rep_str.mpr rfl,rep_str.mpr rfl,rep_int.mpr rfl⟩
 | plus n k=>exact rep_t3.mpr ⟨q,_,_,_,rfl,h,rep_str.mpr rfl,rep_str.mpr rfl,rep_int.mpr rfl⟩
 | face n=>exact rep_t2.mpr ⟨q,_,_,rfl,h,rep_str.mpr rfl,rep_str.mpr rfl⟩
 | move n m=>exact rep_t3.mpr ⟨q,_,_,_,rfl,h,rep_str.mpr rfl,rep_str.mpr rfl,rep_str.mpr rfl⟩
theorem rep_dds {H:Hp} {pl p:Addr} {xs:List V} {ds:List Dd} (hpl:H pl=some (.lst xs)) (hp:p≠pl) (r:Rep H (.lst (ds.map ddD)) (.ref p)):Rep (hid H pl) (.lst (ds.map ddD)) (.ref p):=by
 obtain⟨_,ys,e,hy,ry⟩:=rep_lst.mp r
 cases e
 refine rep_lst.mpr ⟨p,ys,rfl,by rw[hid_ne hp];exact hy,RepL.of ry.length fun i d v ed ev=>?_⟩
 obtain⟨d',ed',rd⟩:=ry.get ev
 rw[ed] at ed'
 cases ed'
 rw[List.getElem?_map] at ed
 obtain⟨d0,_,rfl⟩:=Option.map_eq_some_iff.mp ed
 obtain⟨q,rfl,hq⟩:=dd_back rd
 refine dd_fwd ?_
 rw[hid_ne (fun z=>by rw[z,hpl] at hq;cases hq)]
 exact hq
noncomputable def spGm (K:PySem.W.Frag):Sp:=fun vs H Q _=>∃a sc,vs=[.ref a]∧SqL K H a (List.map V.int sc)∧∀p gv cs pcs ah thr last H',Same H H'→H' p=some (.lst [gv,.int ((thr:Nat):Int)])→Rep H' (gmD (gmK cs pcs ah thr last)) gv→GoodK cs pcs ah thr last→Q (.ref p) H'
theorem ok_gm (T:Txt K mg q_NoShare q_NoTable q_TooMany q_Course q_Finder):Cal P w K mg base (CX1 P w) 3 "_law_game" ["_law_script"] (spGm K):=by
 have c__law_at:Cal P w K mg base (CX1 P w) 1 "_law_at" ["_law_script","_law_k"] (spAt K):=ok_at T
 have c__law_deeds:Cal P w K mg base (CX1 P w) 2 "_law_deeds" ["_law_script","_law_at_here","_law_counts","_law_is_thrown"] (spDe K):=ok_de T
 refine T.d__law_game.cal (fun _ _ _ _ _ _ us hl=>match us,hl with | [_],_=>rfl) fun f fd F=>F.okC sc__law_game (fun vs H Q E h=>?_) (fun cdv A outer s H vs Q E hr h=>?_)
 ·obtain⟨_,_,rfl,_⟩:=h;rfl
 ·obtain⟨sa,sc,rfl,hS,kk⟩:=h
  have nd:=sc__law_game.nd
  refine⟨_,(pss_cons (ps_set (i:=1) nd rfl (Or.inl rfl) (pe_lst pa_nil))
  (pss_cons (ps_for PassesOwn.never rfl (pi_range1 rfl T.z_range (pa_cons (pe_op op_add pe_int (pe_op op_modB (pe_cal c__law_at (hr.mono (by decide)) rfl strictP.pass (pa_cons (pv 0) (pa_cons pe_int pa_nil (se rfl)) (se rfl)) (he:=se rfl) (hpl:=na rfl)) pe_int)) pa_nil (se rfl))) (pg_name (i:=2) nd rfl (Or.inl rfl)) (pss_one (ps_expr (pe_bm PySem.F.plainAttrs_list PySem.F.slot_list_append PySem.F.type_list_append mt_append.r (pv 1) (pa_cons (pe_tupS (pa_cons (pe_ix ix_listH (pe_lst (pa_cons pe_str (pa_cons pe_str (pa_cons pe_str (pa_cons pe_str pa_nil (se rfl)) (se rfl)) (se rfl)) (se rfl))) (pv 2) (fun _ _=>rfl)) (pa_cons (pe_op op_add pe_int (pe_op op_modB (pe_cal c__law_at (hr.mono (by decide)) rfl strictP.pass (pa_cons (pv 0) (pa_cons (pe_op op_add pe_int (pv 2)) pa_nil (se rfl)) (se rfl)) (he:=se rfl) (hpl:=na rfl)) pe_int)) pa_nil (se rfl)) (se rfl))) pa_nil (se rfl))))))
  (pss_cons (ps_set (i:=3) nd rfl (Or.inl rfl) (pe_op op_add pe_int (pe_op op_modB (pe_cal c__law_at (hr.mono (by decide)) rfl strictP.pass (pa_cons (pv 0) (pa_cons pe_int pa_nil (se rfl)) (se rfl)) (he:=se rfl) (hpl:=na rfl)) pe_int)))
  (pss_cons (ps_set (i:=4) nd rfl (Or.inl rfl) (pe_op op_modB (pe_cal c__law_at (hr.mono (by decide)) rfl strictP.pass (pa_cons (pv 0) (pa_cons pe_int pa_nil (se rfl)) (se rfl)) (he:=se rfl) (hpl:=na rfl)) pe_int))
  (pss_cons (ps_set (i:=5) nd rfl (Or.inl rfl) (pe_op op_modB (pe_cal c__law_at (hr.mono (by decide)) rfl strictP.pass (pa_cons (pv 0) (pa_cons pe_int pa_nil (se rfl)) (se rfl)) (he:=se rfl) (hpl:=na rfl)) (pv 3)))
  (pss_cons (ps_set (i:=6) nd rfl (Or.inl rfl) (pe_lst (pa_cons pe_str (pa_cons pe_str (pa_cons pe_str (pa_cons pe_str (pa_cons pe_str (pa_cons pe_str (pa_cons pe_str pa_nil (se rfl)) (se rfl)) (se rfl)) (se rfl)) (se rfl)) (se rfl)) (se rfl))))
  (pss_cons (ps_set (i:=7) nd rfl (Or.inl rfl) (pe_lst pa_nil))
  (pss_cons (ps_for PassesOwn.never rfl (pi_range1 rfl T.z_range (pa_cons (pv 3) pa_nil (se rfl))) (pg_name (i:=2) nd rfl (Or.inl rfl)) (pss_cons (ps_set (i:=8) nd rfl (Or.inl rfl) (pe_ix ix_listH (pv 6) (pe_ix ix_listH (pe_lst (pa_cons (pe_op op_add (pv 2) pe_int) (pa_cons pe_int pa_nil (se rfl)) (se rfl))) (pe_callTy call_int_b (by rfl) T.z_int rfl (pa_cons (pe_cmpR op_eq (pe_op op_add (pv 2) pe_int) (pv 3) (nomark _)) pa_nil (se rfl)) (he:=se rfl) (hpl:=na rfl)) (fun _ _=>rfl)) (fun _ _=>rfl)))
  (pss_cons (ps_set (i:=9) nd rfl (Or.inl rfl) (pe_cal c__law_deeds (hr.mono (by decide)) rfl strictP.pass (pa_cons (pv 0) (pa_cons (pe_op op_add pe_int (pe_op op_mulB pe_int (pv 2))) (pa_cons (pv 1) (pa_cons (pe_cmpR op_eq (pv 2) (pv 5) (nomark _)) pa_nil (se rfl)) (se rfl)) (se rfl)) (se rfl)) (he:=se rfl) (hpl:=na rfl)))
  (pss_cons (ps_set (i:=10) nd rfl (Or.inl rfl) (pe_tupS (pa_cons pe_str (pa_cons (pe_op op_add pe_int (pe_op op_modB (pv 2) pe_int)) (pa_cons (pe_lst (pa_cons (pe_tupS (pa_cons pe_str (pa_cons pe_non (pa_cons (pv 9) (pa_cons (pv 8) pa_nil (se rfl)) (se rfl)) (se rfl)) (se rfl))) pa_nil (se rfl))) pa_nil (se rfl)) (se rfl)) (se rfl))))
  (pss_cons (ps_if (pt_cmpR op_eq (pv 2) (pv 5) (nomark _)) (pss_one (ps_set (i:=10) nd rfl (Or.inl rfl) (pe_tupS (pa_cons pe_str (pa_cons (pe_lst (pa_cons (pe_tupS (pa_cons pe_str (pa_cons (pv 4) pa_nil (se rfl)) (se rfl))) pa_nil (se rfl))) (pa_cons (pe_tupS (pa_cons (pv 2) (pa_cons pe_int pa_nil (se rfl)) (se rfl))) (pa_cons (pe_lst (pa_cons (pe_tupS (pa_cons pe_int (pa_cons pe_int (pa_cons (pv 9) (pa_cons (pv 8) pa_nil (se rfl)) (se rfl)) (se rfl)) (se rfl))) pa_nil (se rfl))) pa_nil (se rfl)) (se rfl)) (se rfl)) (se rfl)))))
   pss_nil)
  (pss_one (ps_expr (pe_bm PySem.F.plainAttrs_list PySem.F.slot_list_append PySem.F.type_list_append mt_append.r (pv 7) (pa_cons (pe_tupS (pa_cons (pe_ix ix_listH (pv 6) (pv 2) (fun _ _=>rfl)) (pa_cons (pv 10) pa_nil (se rfl)) (se rfl))) pa_nil (se rfl))))))))))
  (pss_cons (ps_set (i:=10) nd rfl (Or.inl rfl) (pe_tupS (pa_cons pe_str (pa_cons (pe_tupS (pa_cons pe_int (pa_cons pe_int pa_nil (se rfl)) (se rfl))) pa_nil (se rfl)) (se rfl))))
  (pss_cons (ps_if (pt_cmpR op_eq (pe_op op_modB (pe_cal c__law_at (hr.mono (by decide)) rfl strictP.pass (pa_cons (pv 0) (pa_cons pe_int pa_nil (se rfl)) (se rfl)) (he:=se rfl) (hpl:=na rfl)) pe_int) pe_int (nomark _)) (pss_one (ps_set (i:=10) nd rfl (Or.inl rfl) (pe_tupS (pa_cons pe_str (pa_cons (pe_ix ix_tupH (pe_ix ix_listH (pv 1) (pe_op op_modB (pe_op op_fdivB (pe_cal c__law_at (hr.mono (by decide)) rfl strictP.pass (pa_cons (pv 0) (pa_cons pe_int pa_nil (se rfl)) (se rfl)) (he:=se rfl) (hpl:=na rfl)) pe_int) (pe_callB call_lenL (by rfl) T.z_len PySem.boot_len (pa_cons (pv 1) pa_nil (se rfl)) (he:=se rfl) (hpl:=na rfl))) (fun _ _=>rfl)) pe_int (fun _ _=>rfl)) pa_nil (se rfl)) (se rfl)))))
   pss_nil)
  (pss_one (ps_ret (pe_lst (pa_cons (pe_tupS (pa_cons (pv 1) (pa_cons (pe_op op_cat (pv 7) (pe_lst (pa_cons (pe_tupS (pa_cons pe_str (pa_cons (pv 10) pa_nil (se rfl)) (se rfl))) pa_nil (se rfl)))) pa_nil (se rfl)) (se rfl))) (pa_cons (pv 4) pa_nil (se rfl)) (se rfl))))))))))))))),?_⟩
  have sl:=sizeLine_eq
  change tSeq _ _ _ [some (.ref sa),none,none,none,none,none,none,none,none,none,none] H
  refine seq_gen (fun σ' H1=>Same H H1∧∃l,H l=none∧H1 l=some (.lst [])∧σ'=[some (.ref sa),some (.ref l),none,none,none,none,none,none,none,none,none]) ?_ (fun N hN=>?_)
  case refine_2=>
   simp_all only[]
   exact⟨Nat.zero_le _,fun l nl=>hN _ _ ⟨same_upd nl,l,nl,upd_same,rfl⟩⟩
  rintro _ H1 ⟨s1,l,nl,hl,rfl⟩
  change tSeq _ _ _ [some (.ref sa),some (.ref l),none,none,none,none,none,none,none,none,none] H1
  refine seq_gen (fun σ' H2=>Same H H2∧∃cs z,Rep H2 (csD cs) (.ref l)∧GoodC cs∧σ'=[some (.ref sa),some (.ref l),z,none,none,none,none,none,none,none,none]) ?_ (fun N hN=>?_)
  case refine_2=>
   simp_all only[spAt]
   refine⟨sc,s1.seq hS,by decide,by decide,fun n=>?_⟩
   have m1:=Int.emod_nonneg n (show(4:Int)≠0 by decide)
   have m2:=Int.emod_lt_of_pos n (show(0:Int)<4 by decide)
   refine⟨by decide,by omega,by omega,?_⟩
   obtain⟨m,hm⟩:∃m:Nat,m=(1+n % 4).toNat:=⟨_,rfl⟩
   rw[←hm]
   refine for_src (src_range (Ok:=fun _=>True)) (fun i σ H'=>Same H H'∧(∃(cs:List (Str×Int)) (xs:List V),cs.length=i∧H' l=some (.lst xs)∧RepL (hid H' l) (cs.map fun c=>.tup [.str c.1,.int c.2]) xs∧∀(i:Nat) c,cs[i]?=some c→cN[i]?=some c.1∧1≤c.2∧c.2≤60)∧∃z,σ=[some (.ref sa),some (.ref l),z,none,none,none,none,none,none,none,none]) ⟨s1,⟨[],[],rfl,hl,repL_nil.mpr rfl,fun i c e=>by simp at e⟩,_,rfl⟩ (fun _ _ _ _ _=>trivial) ?_ ?_
   ·rintro i x σ H3 H2 hi ⟨s2,⟨cs,xs,lc,hx,rx,gc⟩,z,rfl⟩ ⟨rfl,rfl⟩
    have xl:=rx.length
    rw[List.length_map] at xl
    have ty:tyV K "list" (.ref l) H2:=.inl ⟨rfl,_,SqL.of hx⟩
    have i4:i<4:=by omega
    obtain⟨cn,hcn⟩:∃cn,cN[i]?=some cn:=⟨_,List.getElem?_eq_getElem (show i<cN.length from i4)⟩
    have hat:atI [V.str (Str.ofString "one"),V.str (Str.ofString "two"),V.str (Str.ofString "x"),V.str (Str.ofString "go")] (0+ (i:Int))=some (.str cn):=by
     rw[Int.zero_add]
     exact atI_pl (f:=V.str) (as:=cN) hcn
    simp_all only[spAt,rAppend,hat]
    refine⟨ty,by omega,fun p np=>⟨_,upd_same,_,hat,sc,(s2.trans (same_upd np)).seq hS,by omega,by omega,fun n'=>⟨by decide,by omega,fun q H4 s4 nq hq=>?_⟩⟩⟩
    have q1:=Int.emod_nonneg n' (show(60:Int)≠0 by decide)
    have q2:=Int.emod_lt_of_pos n' (show(0:Int)<60 by decide)
    have s24:Same H2 H4:=(same_upd np).trans s4
    have ql:q≠l:=fun z=>by rw[z,same_upd np _ _ hx] at nq;cases nq
    refine⟨_,s24 _ _ hx,by omega,same_upd_of (s2.trans s24) nl,⟨cs++ [(cn,1+n' % 60)],?_,_,upd_same,?_,?_⟩,_,rfl⟩
    ·rw[List.length_append,lc];rfl
    ·rw[List.map_append]
     exact rep_push (rx.mono (hid_mono s24)) (rep_t2.mpr ⟨q,_,_,rfl,by rw[hid_ne ql];exact hq,rep_str.mpr rfl,rep_int.mpr rfl⟩)
    ·intro j c e
     by_cases hj:j<cs.length
     ·rw[List.getElem?_append_left hj] at e
      exact gc j c e
     ·rw[List.getElem?_append_right (by omega)] at e
      have:j - cs.length=0:=by
       by_cases z:j - cs.length=0
       ·exact z
       ·rw[List.getElem?_eq_none (by simp;omega)] at e;cases e
      rw[this] at e
      cases e
      have:j=i:=by omega
      subst this
      exact⟨hcn,by omega,by omega⟩
   ·rintro σ H2 ⟨s2,⟨cs,xs,lc,hx,rx,gc⟩,z,rfl⟩
    exact hN _ _ ⟨s2,cs,z,rep_lst.mpr ⟨l,xs,rfl,hx,rx.mono hid_sub⟩,⟨by omega,by omega,gc⟩,rfl⟩
  rintro _ H2 ⟨s2,cs,z,rc,gc,rfl⟩
  change tSeq _ _ _ [some (.ref sa),some (.ref l),z,none,none,none,none,none,none,none,none] H2
  refine seq_gen (fun σ' H'=>H2=H'∧∃m:Nat,1≤m∧m≤6∧σ'=[some (.ref sa),some (.ref l),z,some (.int (m:Int)),none,none,none,none,none,none,none]) ?_ (fun N hN=>?_)
  case refine_2=>
   simp_all only[spAt]
   refine⟨sc,s2.seq hS,by decide,by decide,fun n=>⟨by decide,hN _ _ ⟨rfl,(1+n % 6).toNat,by omega,by omega,?_⟩⟩⟩
   rw[Int.toNat_of_nonneg (by omega)]
  rintro _ _ ⟨rfl,m,m1,m6,rfl⟩
  change tSeq _ _ _ [some (.ref sa),some (.ref l),z,some (.int (m:Int)),none,none,none,none,none,none,none] H2
  refine seq_gen (fun σ' H'=>H2=H'∧∃thr:Nat,thr<100∧σ'=[some (.ref sa),some (.ref l),z,some (.int (m:Int)),some (.int (thr:Int)),none,none,none,none,none,none]) ?_ (fun N hN=>?_)
  case refine_2=>
   simp_all only[spAt]
   refine⟨sc,s2.seq hS,by decide,by decide,fun n=>⟨by decide,hN _ _ ⟨rfl,(n % 100).toNat,by omega,?_⟩⟩⟩
   rw[Int.toNat_of_nonneg (by omega)]
  rintro _ _ ⟨rfl,thr,th1,rfl⟩
  change tSeq _ _ _ [some (.ref sa),some (.ref l),z,some (.int (m:Int)),some (.int (thr:Int)),none,none,none,none,none,none] H2
  refine seq_gen (fun σ' H'=>H2=H'∧∃ah:Nat,ah<m∧σ'=[some (.ref sa),some (.ref l),z,some (.int (m:Int)),some (.int (thr:Int)),some (.int (ah:Int)),none,none,none,none,none]) ?_ (fun N hN=>?_)
  case refine_2=>
   simp_all only[spAt]
   refine⟨sc,s2.seq hS,by decide,by decide,fun n=>?_⟩
   have q1:=Int.emod_nonneg n (show(m:Int)≠0 by omega)
   have q2:=Int.emod_lt_of_pos n (show(0:Int)< (m:Int) by omega)
   refine⟨by omega,hN _ _ ⟨rfl,(n % (m:Int)).toNat,by omega,?_⟩⟩
   rw[Int.toNat_of_nonneg q1]
  rintro _ _ ⟨rfl,ah,ha,rfl⟩
  change tSeq _ _ _ [some (.ref sa),some (.ref l),z,some (.int (m:Int)),some (.int (thr:Int)),some (.int (ah:Int)),none,none,none,none,none] H2
  refine seq_gen (fun σ' H3=>Same H2 H3∧∃nl,H3 nl=some (.lst ((nmL++ [nE]).map V.str))∧σ'=[some (.ref sa),some (.ref l),z,some (.int (m:Int)),some (.int (thr:Int)),some (.int (ah:Int)),some (.ref nl),none,none,none,none]) ?_ (fun N hN=>?_)
  case refine_2=>
   simp_all only[]
   exact⟨by omega,fun nl nn=>hN _ _ ⟨same_upd nn,nl,upd_same,rfl⟩⟩
  rintro _ H3 ⟨s3,nl',hnl,rfl⟩
  change tSeq _ _ _ [some (.ref sa),some (.ref l),z,some (.int (m:Int)),some (.int (thr:Int)),some (.int (ah:Int)),some (.ref nl'),none,none,none,none] H3
  refine seq_gen (fun σ' H4=>Same H3 H4∧∃pl,H3 pl=none∧H4 pl=some (.lst [])∧σ'=[some (.ref sa),some (.ref l),z,some (.int (m:Int)),some (.int (thr:Int)),some (.int (ah:Int)),some (.ref nl'),some (.ref pl),none,none,none]) ?_ (fun N hN=>?_)
  case refine_2=>
   simp_all only[]
   exact⟨by omega,fun nl nn=>hN _ _ ⟨same_upd nn,nl,nn,upd_same,rfl⟩⟩
  rintro _ H4 ⟨s4,pl,npl,hpl,rfl⟩
  have s03:=s2.trans s3
  have rc3:=rc.mono s3
  change tSeq _ _ _ [some (.ref sa),some (.ref l),z,some (.int (m:Int)),some (.int (thr:Int)),some (.int (ah:Int)),some (.ref nl'),some (.ref pl),none,none,none] H4
  refine seq_gen (fun σ' H5=>Same H3 H5∧∃pcs xs z1 z2 z3 z4,pcs.length=m∧H5 pl=some (.lst xs)∧RepL (hid H5 pl) ((psK m ah thr pcs).map fun p=>.tup [.str p.1,wtD p.2]) xs∧(∀(k:Nat) ds,pcs[k]?=some ds→ds.length≤6∧∀d∈ds,DdOk cs (decide (k=ah)) d)∧σ'=[some (.ref sa),some (.ref l),z1,some (.int (m:Int)),some (.int (thr:Int)),some (.int (ah:Int)),some (.ref nl'),some (.ref pl),z2,z3,z4]) ?_ (fun N hN=>?_)
  case refine_2=>
   simp_all only[]
   refine⟨by omega,by omega,?_⟩
   rw[Int.toNat_natCast]
   refine for_src (src_range (Ok:=fun _=>True)) (fun i σ H'=>Same H3 H'∧∃pcs xs z1 z2 z3 z4,pcs.length=i∧H' pl=some (.lst xs)∧RepL (hid H' pl) ((psK m ah thr pcs).map fun p=>.tup [.str p.1,wtD p.2]) xs∧(∀(k:Nat) ds,pcs[k]?=some ds→ds.length≤6∧∀d∈ds,DdOk cs (decide (k=ah)) d)∧σ=[some (.ref sa),some (.ref l),z1,some (.int (m:Int)),some (.int (thr:Int)),some (.int (ah:Int)),some (.ref nl'),some (.ref pl),z2,z3,z4]) ⟨s4,[],[],_,_,_,_,rfl,hpl,repL_nil.mpr rfl,(fun k ds e=>by simp at e),rfl⟩ (fun _ _ _ _ _=>trivial) ?_ ?_
   ·rintro i x σ H6 H5 hi ⟨s5,pcs,xs,z1,z2,z3,z4,lp,hx,rx,gd,rfl⟩ ⟨rfl,rfl⟩
    have xl:=rx.length
    unfold psK at xl
    rw[List.length_map,List.length_mapIdx] at xl
    simp only[gName,List.set_cons_succ,List.set_cons_zero,Int.zero_add]
    change tSeq _ _ _ [some (.ref sa),some (.ref l),some (.int (i:Int)),some (.int (m:Int)),some (.int (thr:Int)),some (.int (ah:Int)),some (.ref nl'),some (.ref pl),z2,z3,z4] H5
    refine seq_gen (fun σ' H'=>Same H5 H'∧σ'=[some (.ref sa),some (.ref l),some (.int (i:Int)),some (.int (m:Int)),some (.int (thr:Int)),some (.int (ah:Int)),some (.ref nl'),some (.ref pl),some (.str (nmK m (i+1))),z3,z4]) ?_ (fun N hN=>?_)
    case refine_2=>
     simp_all only[]
     refine⟨by omega,fun p np=>⟨_,upd_same,?_⟩⟩
     have hat:∃kk:Int,atI [V.int ((i:Int)+1),V.int 6] (if (i:Int)+1=(m:Int) then 1 else 0)=some (.int kk)∧atI ((nmL++ [nE]).map V.str) kk=some (.str (nmK m (i+1))):=by
      by_cases e:(i:Int)+1=(m:Int)
      ·rw[if_pos e]
       refine⟨6,rfl,?_⟩
       have:i+1=m:=by omega
       rw[this,nmK_end]
       exact atI_pl (f:=V.str) (as:=nmL++ [nE]) (i:=6) rfl
      ·rw[if_neg e]
       exact⟨(i:Int)+1,rfl,atI_pl (f:=V.str) (as:=nmL++ [nE]) (i:=i+1) (nm_at (by omega) m6)⟩
     obtain⟨kq,h1,h2⟩:=hat
     exact⟨_,h1,_,kq,rfl,(s5.trans (same_upd np)) _ _ hnl,_,h2,hN _ _ ⟨same_upd np,rfl⟩⟩
    rintro _ H6 ⟨s6,rfl⟩
    change tSeq _ _ _ [some (.ref sa),some (.ref l),some (.int (i:Int)),some (.int (m:Int)),some (.int (thr:Int)),some (.int (ah:Int)),some (.ref nl'),some (.ref pl),some (.str (nmK m (i+1))),z3,z4] H6
    refine seq_gen (fun σ' H'=>Same H6 H'∧∃u ds,Rep (hid H' pl) (.lst (List.map ddD ds)) u∧ds.length≤6∧(∀d∈ds,DdOk cs (decide (i=ah)) d)∧σ'=[some (.ref sa),some (.ref l),some (.int (i:Int)),some (.int (m:Int)),some (.int (thr:Int)),some (.int (ah:Int)),some (.ref nl'),some (.ref pl),some (.str (nmK m (i+1))),some u,z4]) ?_ (fun N hN=>?_)
    case refine_2=>
     simp_all only[spDe]
     refine⟨mulOkL,sc,(s03.trans (s5.trans s6)).seq hS,by omega,by omega,cs,rc3.mono (s5.trans s6),gc,fun u ds H7 s7 nu ru d6 gd'=>hN _ _ ⟨s7,_,ds,rep_dds (s7 _ _ (s6 _ _ hx)) (fun z=>by rw[z,s6 _ _ hx] at nu;cases nu) ru,d6,?_,rfl⟩⟩
     rw[show decide (i=ah)=decide ((i:Int)=(ah:Int)) from decide_eq_decide.mpr (by omega)]
     exact gd'
    rintro _ H7 ⟨s7,du,ds,rds,d6,gds,rfl⟩
    have hx7:=(s6.trans s7) _ _ hx
    change tSeq _ _ _ [some (.ref sa),some (.ref l),some (.int (i:Int)),some (.int (m:Int)),some (.int (thr:Int)),some (.int (ah:Int)),some (.ref nl'),some (.ref pl),some (.str (nmK m (i+1))),some du,z4] H7
    refine seq_gen (fun σ' H'=>Same H7 H'∧∃u,Rep (hid H' pl) (wtD (.pick (1+ (i:Int) % 2) [⟨Str.ofString "on",none,ds,nmK m (i+1)⟩])) u∧σ'=[some (.ref sa),some (.ref l),some (.int (i:Int)),some (.int (m:Int)),some (.int (thr:Int)),some (.int (ah:Int)),some (.ref nl'),some (.ref pl),some (.str (nmK m (i+1))),some du,some u]) ?_ (fun N hN=>?_)
    case refine_2=>
     simp_all only[]
     refine⟨by decide,by omega,fun p Ha sa' na ea=>⟨by omega,fun p1 n1=>⟨by omega,fun p2 Hb sb nb eb=>hN _ _ ⟨sa'.trans ((same_upd n1).trans sb),_,?_,rfl⟩⟩⟩⟩
     have pn:p≠pl:=fun z=>by rw[z,hx7] at na;cases na
     have p1n:p1≠pl:=fun z=>by rw[z,sa' _ _ hx7] at n1;cases n1
     have p2n:p2≠pl:=fun z=>by rw[z,same_upd n1 _ _ (sa' _ _ hx7)] at nb;cases nb
     refine rep_t3.mpr ⟨p2,_,_,_,rfl,by rw[hid_ne p2n];exact eb,rep_str.mpr rfl,rep_int.mpr rfl,rep_lst.mpr ⟨p1,_,rfl,by rw[hid_ne p1n];exact sb _ _ upd_same,repL_cons.mpr ⟨_,_,rfl,rep_t4.mpr ⟨p,_,_,_,_,rfl,by rw[hid_ne pn];exact sb _ _ (same_upd n1 _ _ ea),rep_str.mpr rfl,(by show Rep _ .non _;rw[Rep]),rds.mono (hid_mono (sa'.trans ((same_upd n1).trans sb))),rep_str.mpr rfl⟩,repL_nil.mpr rfl⟩⟩⟩
    rintro _ H8 ⟨s8,pu,rpu,rfl⟩
    have hx8:=s8 _ _ hx7
    change tSeq _ _ _ [some (.ref sa),some (.ref l),some (.int (i:Int)),some (.int (m:Int)),some (.int (thr:Int)),some (.int (ah:Int)),some (.ref nl'),some (.ref pl),some (.str (nmK m (i+1))),some du,some pu] H8
    refine seq_gen (fun σ' H'=>Same H8 H'∧∃u,Rep (hid H' pl) (wtD (whK m ah thr i ds)) u∧σ'=[some (.ref sa),some (.ref l),some (.int (i:Int)),some (.int (m:Int)),some (.int (thr:Int)),some (.int (ah:Int)),some (.ref nl'),some (.ref pl),some (.str (nmK m (i+1))),some du,some u]) ?_ (fun N hN=>?_)
    case refine_2=>
     simp_all only[]
     by_cases c:(i:Int)=(ah:Int)
     ·rw[if_pos c]
      have c':i=ah:=by omega
      refine⟨by omega,fun p Ha sa' na ea=>⟨by omega,fun p1 n1=>⟨by omega,fun p2 Hb sb nb eb=>⟨by omega,fun p3 Hc sc' nc ec=>⟨by omega,fun p4 n4=>⟨by omega,fun p5 Hd sd ndd ed=>hN _ _ ⟨sa'.trans ((same_upd n1).trans (sb.trans (sc'.trans ((same_upd n4).trans sd)))),_,?_,rfl⟩⟩⟩⟩⟩⟩⟩
      have xa:=sa' _ _ hx8
      have x1:=same_upd (o:=.lst [V.ref p]) n1 _ _ xa
      have xb:=sb _ _ x1
      have xc:=sc' _ _ xb
      have x4:=same_upd (o:=.lst [V.ref p3]) n4 _ _ xc
      have pn:p≠pl:=fun z=>by rw[z,hx8] at na;cases na
      have p1n:p1≠pl:=fun z=>by rw[z,xa] at n1;cases n1
      have p2n:p2≠pl:=fun z=>by rw[z,x1] at nb;cases nb
      have p3n:p3≠pl:=fun z=>by rw[z,xb] at nc;cases nc
      have p4n:p4≠pl:=fun z=>by rw[z,xc] at n4;cases n4
      have p5n:p5≠pl:=fun z=>by rw[z,x4] at ndd;cases ndd
      unfold whK
      rw[if_pos c']
      have sbd:=sb.trans (sc'.trans ((same_upd n4).trans sd))
      have scd:=(same_upd (o:=.lst [V.ref p3]) n4).trans sd
      refine rep_t4.mpr ⟨p5,_,_,_,_,rfl,by rw[hid_ne p5n];exact ed,rep_str.mpr rfl,rep_lst.mpr ⟨p1,_,rfl,by rw[hid_ne p1n];exact sbd _ _ upd_same,repL_cons.mpr ⟨_,_,rfl,rep_t2.mpr ⟨p,_,_,rfl,by rw[hid_ne pn];exact sbd _ _ (same_upd n1 _ _ ea),rep_str.mpr rfl,rep_int.mpr rfl⟩,repL_nil.mpr rfl⟩⟩,rep_t2.mpr ⟨p2,_,_,rfl,by rw[hid_ne p2n];exact sc'.trans scd _ _ eb,rep_int.mpr rfl,rep_int.mpr rfl⟩,rep_lst.mpr ⟨p4,_,rfl,by rw[hid_ne p4n];exact sd _ _ upd_same,repL_cons.mpr ⟨_,_,rfl,rep_t4.mpr ⟨p3,_,_,_,_,rfl,by rw[hid_ne p3n];exact scd _ _ ec,rep_int.mpr rfl,rep_int.mpr rfl,rds.mono (hid_mono (s8.trans (sa'.trans ((same_upd n1).trans sbd)))),rep_str.mpr rfl⟩,repL_nil.mpr rfl⟩⟩⟩
     ·rw[if_neg c]
      refine hN _ _ ⟨Same.refl _,_,?_,rfl⟩
      unfold whK
      rw[if_neg (fun z=>c (by omega))]
      exact rpu
    rintro _ H9 ⟨s9,wu,rwu,rfl⟩
    have hx9:=s9 _ _ hx8
    have s59:Same H5 H9:=s6.trans (s7.trans (s8.trans s9))
    simp_all only[rAppend]
    refine⟨.inl ⟨rfl,_,SqL.of hx9⟩,_,(s5.trans s59) _ _ hnl,_,atI_pl (f:=V.str) (as:=nmL++ [nE]) (nm_at hi m6),by omega,fun e Ha sa' na ea=>?_⟩
    have en:e≠pl:=fun z=>by rw[z,hx9] at na;cases na
    refine⟨_,sa' _ _ hx9,by omega,same_upd_of (s5.trans (s59.trans sa')) npl,pcs++ [ds],by rw[List.length_append,lp];rfl,_,upd_same,?_,fun k ds' ek=>?_,_,rfl⟩
    ·unfold psK
     rw[List.mapIdx_concat,List.map_append,lp]
     exact rep_push (rx.mono (hid_mono (s59.trans sa'))) (rep_t2.mpr ⟨e,_,_,rfl,by rw[hid_ne en];exact ea,rep_str.mpr rfl,rwu.mono (hid_mono sa')⟩)
    ·by_cases hk:k<pcs.length
     ·rw[List.getElem?_append_left hk] at ek
      exact gd k ds' ek
     ·rw[List.getElem?_append_right (by omega)] at ek
      have:k - pcs.length=0:=by
       by_cases z:k - pcs.length=0
       ·exact z
       ·rw[List.getElem?_eq_none (by simp;omega)] at ek;cases ek
      rw[this] at ek
      cases ek
      have:k=i:=by omega
      subst this
      exact⟨d6,gds⟩
   ·rintro σ H5 ⟨s5,pcs,xs,z1,z2,z3,z4,lp,hx,rx,gd,rfl⟩
    exact hN _ _ ⟨s5,pcs,xs,z1,z2,z3,z4,lp,hx,rx,gd,rfl⟩
  rintro _ H5 ⟨s5,pcs,xs,z1,z2,z3,z4,lp,hx,rx,gd,rfl⟩
  subst lp
  change tSeq _ _ _ [some (.ref sa),some (.ref l),z1,some (.int (pcs.length:Int)),some (.int (thr:Int)),some (.int (ah:Int)),some (.ref nl'),some (.ref pl),z2,z3,z4] H5
  refine seq_gen (fun σ' H6=>Same H5 H6∧∃u,Rep H6 (wtD (.fin 5 2)) u∧σ'=[some (.ref sa),some (.ref l),z1,some (.int (pcs.length:Int)),some (.int (thr:Int)),some (.int (ah:Int)),some (.ref nl'),some (.ref pl),z2,z3,some u]) ?_ (fun N hN=>?_)
  case refine_2=>
   simp_all only[]
   exact⟨by omega,fun p Hp sp np hp=>⟨by omega,fun p1 Hq sq nq hq=>hN _ _ ⟨sp.trans sq,_,rep_t2.mpr ⟨p1,_,_,rfl,hq,rep_str.mpr rfl,rep_t2.mpr ⟨p,_,_,rfl,sq _ _ hp,rep_int.mpr rfl,rep_int.mpr rfl⟩⟩,rfl⟩⟩⟩
  rintro _ H6 ⟨s6,u,ru,rfl⟩
  change tSeq _ _ _ [some (.ref sa),some (.ref l),z1,some (.int (pcs.length:Int)),some (.int (thr:Int)),some (.int (ah:Int)),some (.ref nl'),some (.ref pl),z2,z3,some u] H6
  refine seq_gen (fun σ' H7=>Same H6 H7∧∃last u,Rep H7 (wtD last) u∧(last=.fin 5 2∨∃c∈cs.map (·.1),last=.score c)∧σ'=[some (.ref sa),some (.ref l),z1,some (.int (pcs.length:Int)),some (.int (thr:Int)),some (.int (ah:Int)),some (.ref nl'),some (.ref pl),z2,z3,some u]) ?_ (fun N hN=>?_)
  case refine_2=>
   simp_all only[spAt]
   have s06:=s03.trans (s5.trans s6)
   refine⟨sc,s06.seq hS,by decide,by decide,fun n=>⟨by decide,?_⟩⟩
   by_cases o:n % 2=1
   ·rw[if_pos o]
    obtain⟨cl,cvs,ecl,hcl,rcl⟩:=rep_lst.mp (show Rep H3 (.lst _) (.ref l) from rc3)
    cases ecl
    have clen:=rcl.length
    rw[List.length_map] at clen
    refine⟨sc,s06.seq hS,by decide,by decide,fun n2=>?_⟩
    obtain⟨k,c,ek,ec⟩:=emod_at (l:=cs) (n2 / 2) (by have:=gc.1;omega)
    obtain⟨v,ev,rv⟩:=rcl.at (i:=k) (by rw[List.getElem?_map,ec];rfl)
    obtain⟨q,a,b,rfl,hq,r1,r2⟩:=rep_t2.mp (show Rep H3 (.tup _) v from rv)
    rw[rep_str] at r1
    subst r1
    have s36:=s5.trans s6
    have hat:atI cvs (n2 / 2 % (cvs.length:Int))=some (.ref q):=by rw[←clen,ek];exact atI_nat ev
    exact⟨CDivB.lit,_,s36 _ _ hcl,by have:=gc.1;omega,_,s36 _ _ hcl,_,hat,_,rfl,_,s36 _ _ hq,_,rfl,by omega,fun p Hp sp np hp=>hN _ _ ⟨sp,.score c.1,_,rep_t2.mpr ⟨p,_,_,rfl,hp,rep_str.mpr rfl,rep_str.mpr rfl⟩,.inr ⟨_,List.mem_map.mpr ⟨_,List.mem_of_getElem? ec,rfl⟩,rfl⟩,rfl⟩⟩
   ·rw[if_neg o]
    exact hN _ _ ⟨Same.refl _,_,_,ru,.inl rfl,rfl⟩
  rintro _ H7 ⟨s7,last,u,ru,gl,rfl⟩
  have xl:=rx.length
  unfold psK at xl
  rw[List.length_map,List.length_mapIdx] at xl
  simp_all only[rCat]
  have hx7:=(s6.trans s7) _ _ hx
  refine⟨by omega,fun p Ha sa' na ea=>⟨by omega,fun p1 n1=>⟨_,same_upd n1 _ _ (sa' _ _ hx7),_,upd_same,by rw[List.length_singleton];omega,fun p2 n2=>⟨by omega,fun p3 Hb sb nb eb=>⟨by omega,fun p4 n4=>?_⟩⟩⟩⟩⟩
  have s12:=(same_upd (o:=.lst [V.ref p]) n1).trans ((same_upd (o:=.lst (xs++ [V.ref p])) n2).trans (sb.trans (same_upd (o:=.lst [V.ref p3,V.int (thr:Int)]) n4)))
  have s5f:=s6.trans (s7.trans (sa'.trans s12))
  refine kk p4 _ cs pcs ah thr last _ (s03.trans (s5.trans s5f)) upd_same (rep_t2.mpr ⟨p3,_,_,rfl,same_upd n4 _ _ eb,rc3.mono (s5.trans s5f),rep_lst.mpr ⟨p2,_,rfl,same_upd n4 _ _ (sb _ _ upd_same),?_⟩⟩) ⟨gc,m1,m6,ha,th1,gd,gl⟩
  show RepL _ ((psK pcs.length ah thr pcs++ [(nE,last)]).map fun p=>Dat.tup [.str p.1,wtD p.2]) _
  rw[List.map_append]
  exact(rx.mono (hid_sub.trans s5f)).append (repL_cons.mpr ⟨_,_,rfl,rep_t2.mpr ⟨p,_,_,rfl,s12 _ _ ea,rep_str.mpr rfl,ru.mono (sa'.trans s12)⟩,repL_nil.mpr rfl⟩)
theorem sc__law_due:FnScope ["_law_game_here","_law_thrown","_law_counts","_law_places","_law_numbers","_law_board","_law_states","_law_words","_law_k","_law_name","_law_what"] ["_law_game_here","_law_thrown"] (defScope (top 47)):=⟨rfl,rfl,rfl,by decide +kernel,rfl,by decide +kernel,by decide +kernel⟩
theorem last_gen {a:TS} {D:Ends} {σ:L2.St} {H:Hp} (C:L2.St→Hp→Prop) (hb:∀σ' H',C σ' H'→D.nx σ' H') (ha:∀N:L2.St→Hp→Prop,(∀σ' H',C σ' H'→N σ' H')→a {D with nx:=N} σ H):a D σ H:=ha _ hb
theorem hid3_u1 {H:Hp} {b s w:Addr} {o:HO}:hid3 (upd H b o) b s w=hid3 H b s w:=by show hid (hid2 _ _ _) _=_;rw[hid2_updl]
theorem hid3_u2 {H:Hp} {b s w:Addr} {o:HO}:hid3 (upd H s o) b s w=hid3 H b s w:=by
 funext a
 show(if a=w then none else if a=s then none else if a=b then none else upd H s o a)=if a=w then none else if a=s then none else if a=b then none else H a
 by_cases c:a=s
 ·rw[if_pos c,if_pos c]
 ·rw[upd_ne c]
theorem hid3_u3 {H:Hp} {b s w:Addr} {o:HO}:hid3 (upd H w o) b s w=hid3 H b s w:=by
 funext a
 show(if a=w then none else if a=s then none else if a=b then none else upd H w o a)=if a=w then none else if a=s then none else if a=b then none else H a
 by_cases c:a=w
 ·rw[if_pos c,if_pos c]
 ·rw[if_neg c,if_neg c,upd_ne c]
theorem hid3_mono {H H':Hp} {b s w:Addr} (k:Same H H'):Same (hid3 H b s w) (hid3 H' b s w):=hid_mono (hid2_mono k)
noncomputable def spDu (K:PySem.W.Frag):Sp:=fun vs H Q _=>∃gv cs pcs ah thr last,vs=[gv,.int ((thr:Nat):Int)]∧Rep H (gmD (gmK cs pcs ah thr last)) gv∧GoodK cs pcs ah thr last∧∀u H',Same H H'→Rep H' (dueK cs pcs ah thr last) u→Q u H'
theorem ok_du (T:Txt K mg q_NoShare q_NoTable q_TooMany q_Course q_Finder):Cal P w K mg base (CX1 P w) 2 "_law_due" ["_law_game_here","_law_thrown"] (spDu K):=by
 have c__law_behind:Cal P w K mg base (CX1 P w) 1 "_law_behind" ["_law_counts","_law_numbers","_law_deeds_here","_law_thrown"] spBe:=ok_be T
 refine T.d__law_due.cal (fun _ _ _ _ _ _ us hl=>match us,hl with | [_,_],_=>rfl) fun f fd F=>F.okC sc__law_due (fun vs H Q E h=>?_) (fun cdv A outer s H vs Q E hr h=>?_)
 ·obtain⟨_,_,_,_,_,_,rfl,_⟩:=h;rfl
 ·obtain⟨gv,cs,pcs,ah,thr,last,rfl,rg,G,kk⟩:=h
  have nd:=sc__law_due.nd
  refine⟨_,(pss_cons (ps_asg (pv 0) (pg_tupK (K:=K) (n:=2) rfl (pgs_cons (pg_name (i:=2) nd rfl (Or.inl rfl)) (pgs_cons (pg_name (i:=3) nd rfl (Or.inl rfl)) pgs_nil))))
  (pss_cons (ps_setC (i:=4) rfl nd rfl rfl (N:=["_law_game_here","_law_thrown","_law_counts","_law_places","_law_numbers","_law_board","_law_states","_law_words","_law_k","_law_name","_law_what"]) (so:=defScope (top 47)) (N':=["_law_count"]) (k:=1) (fr:=[]) rfl rfl ⟨rfl,by decide +kernel,by decide +kernel,by decide +kernel,rfl,by decide +kernel,by decide +kernel⟩ (pi_listK (K:=K) (pv 2)) (fun _ _ _ _ _=>(pg_name (i:=0) (show(["_law_count"]:List Str).Nodup by decide +kernel) rfl (Or.inl rfl))) (fun _ _ _ _ _=>pts_nil)
   (fun _ _ _ _ _=>pe_int))
  (pss_cons (ps_set (i:=5) nd rfl (Or.inl rfl) (pe_lst pa_nil))
  (pss_cons (ps_set (i:=6) nd rfl (Or.inl rfl) (pe_lst pa_nil))
  (pss_cons (ps_set (i:=7) nd rfl (Or.inl rfl) (pe_lst pa_nil))
  (pss_cons (ps_for PassesOwn.never rfl (pi_range1 rfl T.z_range (pa_cons (pe_callB call_lenL (by rfl) T.z_len PySem.boot_len (pa_cons (pv 3) pa_nil (se rfl)) (he:=se rfl) (hpl:=na rfl)) pa_nil (se rfl))) (pg_name (i:=8) nd rfl (Or.inl rfl)) (pss_cons (ps_asg (pe_ix ix_listH (pv 3) (pv 8) (fun _ _=>rfl)) (pg_tupK (K:=K) (n:=2) rfl (pgs_cons (pg_name (i:=9) nd rfl (Or.inl rfl)) (pgs_cons (pg_name (i:=10) nd rfl (Or.inl rfl)) pgs_nil))))
  (pss_cons (ps_expr (pe_bm PySem.F.plainAttrs_list PySem.F.slot_list_append PySem.F.type_list_append mt_append.r (pv 6) (pa_cons (pe_tupS (pa_cons (pv 9) (pa_cons (pv 4) pa_nil (se rfl)) (se rfl))) pa_nil (se rfl))))
  (pss_cons (ps_expr (pe_bm PySem.F.plainAttrs_list PySem.F.slot_list_append PySem.F.type_list_append mt_append.r (pv 7) (pa_cons (pe_lst pa_nil) pa_nil (se rfl))))
  (pss_one (ps_if (pt_cmpR op_eq (pe_ix ix_tupH (pv 10) pe_int (fun _ _=>rfl)) pe_str (nomark _)) (pss_cons (ps_expr (pe_bm PySem.F.plainAttrs_list PySem.F.slot_list_append PySem.F.type_list_append mt_append.r (pv 5) (pa_cons (pe_tupS (pa_cons pe_str (pa_cons (pe_ix ix_tupH (pv 10) pe_int (fun _ _=>rfl)) (pa_cons (pe_lst (pa_cons (pe_op op_add (pv 8) pe_int) pa_nil (se rfl))) pa_nil (se rfl)) (se rfl)) (se rfl))) pa_nil (se rfl))))
  (pss_cons (ps_expr (pe_bm PySem.F.plainAttrs_list PySem.F.slot_list_append PySem.F.type_list_append mt_append.r (pe_ix ix_listH (pv 7) (pv 8) (fun _ _=>rfl)) (pa_cons pe_str pa_nil (se rfl))))
  (pss_one (ps_set (i:=4) nd rfl (Or.inl rfl) (pe_cal c__law_behind (hr.mono (by decide)) rfl strictP.pass (pa_cons (pv 2) (pa_cons (pv 4) (pa_cons (pe_ix ix_tupH (pe_ix ix_listH (pe_ix ix_tupH (pv 10) pe_int (fun _ _=>rfl)) pe_int (fun _ _=>rfl)) pe_int (fun _ _=>rfl)) (pa_cons pe_int pa_nil (se rfl)) (se rfl)) (se rfl)) (se rfl)) (he:=se rfl) (hpl:=na rfl))))))
   (pss_one (ps_if (pt_cmpR op_eq (pe_ix ix_tupH (pv 10) pe_int (fun _ _=>rfl)) pe_str (nomark _)) (pss_cons (ps_expr (pe_bm PySem.F.plainAttrs_list PySem.F.slot_list_append PySem.F.type_list_append mt_append.r (pv 5) (pa_cons (pe_tupS (pa_cons pe_str (pa_cons (pe_ix ix_tupH (pv 10) pe_int (fun _ _=>rfl)) (pa_cons (pe_lst (pa_cons (pe_tupS (pa_cons pe_int (pa_cons (pe_op op_add (pv 8) pe_int) pa_nil (se rfl)) (se rfl))) pa_nil (se rfl))) pa_nil (se rfl)) (se rfl)) (se rfl))) pa_nil (se rfl))))
  (pss_one (ps_set (i:=4) nd rfl (Or.inl rfl) (pe_cal c__law_behind (hr.mono (by decide)) rfl strictP.pass (pa_cons (pv 2) (pa_cons (pv 4) (pa_cons (pe_ix ix_tupH (pe_ix ix_listH (pe_ix ix_tupH (pv 10) pe_int (fun _ _=>rfl)) pe_int (fun _ _=>rfl)) pe_int (fun _ _=>rfl)) (pa_cons (pv 1) pa_nil (se rfl)) (se rfl)) (se rfl)) (se rfl)) (he:=se rfl) (hpl:=na rfl)))))
   (pss_one (ps_if (pt_cmpR op_eq (pe_ix ix_tupH (pv 10) pe_int (fun _ _=>rfl)) pe_str (nomark _)) (pss_one (ps_expr (pe_bm PySem.F.plainAttrs_list PySem.F.slot_list_append PySem.F.type_list_append mt_append.r (pv 5) (pa_cons (pe_tupS (pa_cons pe_str (pa_cons (pe_tupS (pa_cons (pe_ix ix_listH (pv 4) (pe_bm PySem.F.plainAttrs_list PySem.F.slot_list_index PySem.F.type_list_index (mt_nindex hr.units) (pe_comp rfl (N:=["_law_game_here","_law_thrown","_law_counts","_law_places","_law_numbers","_law_board","_law_states","_law_words","_law_k","_law_name","_law_what"]) (so:=defScope (top 47)) (N':=["_law_count"]) (k:=1) (fr:=[]) rfl rfl ⟨rfl,by decide +kernel,by decide +kernel,by decide +kernel,rfl,by decide +kernel,by decide +kernel⟩ (pi_listK (K:=K) (pv 2)) (fun _ _ _ _ _=>(pg_name (i:=0) (show(["_law_count"]:List Str).Nodup by decide +kernel) rfl (Or.inl rfl))) (fun _ _ _ _ _=>pts_nil)
   (fun _ _ _ _ _=>(pe_ix ix_tupH (pv 0) pe_int (fun _ _=>rfl)))) (pa_cons (pe_ix ix_tupH (pv 10) pe_int (fun _ _=>rfl)) pa_nil (se rfl))) (fun _ _=>rfl)) (pa_cons pe_int pa_nil (se rfl)) (se rfl))) pa_nil (se rfl)) (se rfl))) pa_nil (se rfl)))))
   (pss_one (ps_expr (pe_bm PySem.F.plainAttrs_list PySem.F.slot_list_append PySem.F.type_list_append mt_append.r (pv 5) (pa_cons (pv 10) pa_nil (se rfl)))))))))))))))
  (pss_one (ps_ret (pe_tupS (pa_cons (pv 5) (pa_cons (pv 6) (pa_cons (pv 7) pa_nil (se rfl)) (se rfl)) (se rfl))))))))))),?_⟩
  have sl:=sizeLine_eq
  obtain⟨gc,m1,m6,ha,ht,gd,gl⟩:=id G
  obtain⟨c1,c4,cg⟩:=id gc
  obtain⟨ndc,hsc⟩:=good_nms gc
  obtain⟨ga,cv,pv,rfl,hga,rcv,rpv⟩:=rep_t2.mp (show Rep H (.tup _) gv from rg)
  obtain⟨cl,cvs,rfl,hcl,rcl⟩:=rep_lst.mp (show Rep H (.lst _) cv from rcv)
  obtain⟨pl,pvs,rfl,hpl,rpl⟩:=rep_lst.mp (show Rep H (.lst _) pv from rpv)
  have clen:=rcl.length
  rw[List.length_map] at clen
  have plen:=rpl.length
  rw[List.length_map,ps_len] at plen
  have clen:cs.length=cvs.length:=clen
  change tSeq _ _ _ [some (.ref ga),some (.int (thr:Int)),none,none,none,none,none,none,none,none,none] H
  refine seq_gen (fun σ' H1=>H=H1∧σ'=[some (.ref ga),some (.int (thr:Int)),some (.ref cl),some (.ref pl),none,none,none,none,none,none,none]) ?_ (fun N hN=>?_)
  case refine_2=>
   simp_all only[]
   refine⟨ga,_,rfl,SqT.of hga,rfl,?_⟩
   simp_all only[]
   exact hN _ _ ⟨rfl,rfl⟩
  rintro _ _ ⟨rfl,rfl⟩
  change tSeq _ _ _ [some (.ref ga),some (.int (thr:Int)),some (.ref cl),some (.ref pl),none,none,none,none,none,none,none] H
  refine seq_gen (fun σ' H1=>Same H H1∧∃nl,H nl=none∧H1 nl=some (.lst ((nsK cs pcs ah thr 0).map V.int))∧σ'=[some (.ref ga),some (.int (thr:Int)),some (.ref cl),some (.ref pl),some (.ref nl),none,none,none,none,none,none]) ?_ (fun N hN=>?_)
  case refine_2=>
   simp_all only[]
   refine⟨⟨_,SqL.of hcl⟩,?_⟩
   refine comp_map (src_list (Ok:=Same H) (fun H' k=>SqL.of (k _ _ hcl))) (fun _ _ _ _ h=>by rw[h.1];exact Same.refl _) (by omega) (fun i y H'=>y=.int 0) (fun _ _ _ _ k h=>h) ?_ ?_
   ·rintro i x z H3 H2 Q' hi s2 h yy
    simp_all only[]
    exact yy _ _ (Same.refl _) rfl
   ·intro ys H2 s2 ly hy D nD1 nD2
    have e:ys=(nsK cs pcs ah thr 0).map V.int:=by
     apply List.ext_getElem?
     intro i
     rw[nsK]
     cases ei:ys[i]? with
     | none=>
      rw[List.getElem?_eq_none_iff] at ei
      rw[List.getElem?_eq_none (by rw[List.length_map,List.length_replicate];omega)]
     | some y=>
      have hi:=(List.getElem?_eq_some_iff.mp ei).1
      rw[hy i y ei,List.getElem?_map,List.getElem?_replicate,if_pos (by omega)]
      rfl
    rw[e]
    exact hN _ _ ⟨s2.trans (same_upd nD2),D,nD1,upd_same,rfl⟩
  rintro _ H1 ⟨s1,nl,nnl,hnl,rfl⟩
  change tSeq _ _ _ [some (.ref ga),some (.int (thr:Int)),some (.ref cl),some (.ref pl),some (.ref nl),none,none,none,none,none,none] H1
  refine seq_gen (fun σ' H2=>Same H1 H2∧∃b,H1 b=none∧H2 b=some (.lst [])∧σ'=[some (.ref ga),some (.int (thr:Int)),some (.ref cl),some (.ref pl),some (.ref nl),some (.ref b),none,none,none,none,none]) ?_ (fun N hN=>?_)
  case refine_2=>
   simp_all only[]
   exact⟨Nat.zero_le _,fun l nl=>hN _ _ ⟨same_upd nl,l,nl,upd_same,rfl⟩⟩
  rintro _ H2 ⟨s2,b,nb,hb,rfl⟩
  change tSeq _ _ _ [some (.ref ga),some (.int (thr:Int)),some (.ref cl),some (.ref pl),some (.ref nl),some (.ref b),none,none,none,none,none] H2
  refine seq_gen (fun σ' H3=>Same H2 H3∧∃st,H2 st=none∧H3 st=some (.lst [])∧σ'=[some (.ref ga),some (.int (thr:Int)),some (.ref cl),some (.ref pl),some (.ref nl),some (.ref b),some (.ref st),none,none,none,none]) ?_ (fun N hN=>?_)
  case refine_2=>
   simp_all only[]
   exact⟨Nat.zero_le _,fun l nl=>hN _ _ ⟨same_upd nl,l,nl,upd_same,rfl⟩⟩
  rintro _ H3 ⟨s3,st,nst,hst,rfl⟩
  change tSeq _ _ _ [some (.ref ga),some (.int (thr:Int)),some (.ref cl),some (.ref pl),some (.ref nl),some (.ref b),some (.ref st),none,none,none,none] H3
  refine seq_gen (fun σ' H4=>Same H3 H4∧∃wd,H3 wd=none∧H4 wd=some (.lst [])∧σ'=[some (.ref ga),some (.int (thr:Int)),some (.ref cl),some (.ref pl),some (.ref nl),some (.ref b),some (.ref st),some (.ref wd),none,none,none]) ?_ (fun N hN=>?_)
  case refine_2=>
   simp_all only[]
   exact⟨Nat.zero_le _,fun l nl=>hN _ _ ⟨same_upd nl,l,nl,upd_same,rfl⟩⟩
  rintro _ H4 ⟨s4,wd,nwd,hwd,rfl⟩
  have bs1:b≠st:=fun z=>by rw[←z,hb] at nst;cases nst
  have bw1:b≠wd:=fun z=>by rw[←z,s3 _ _ hb] at nwd;cases nwd
  have sw1:st≠wd:=fun z=>by rw[←z,hst] at nwd;cases nwd
  have nb0:H b=none:=none_of s1 nb
  have nst0:H st=none:=none_of (s1.trans s2) nst
  have nwd0:H wd=none:=none_of (s1.trans (s2.trans s3)) nwd
  have s04:Same H H4:=s1.trans (s2.trans (s3.trans s4))
  have toY:∀{H':Hp},Same H H'→Same H (hid3 H' b st wd):=fun {H'} k a o e=>by
   rw[hid3_of (fun z=>by rw[z,nb0] at e;cases e) (fun z=>by rw[z,nst0] at e;cases e) (fun z=>by rw[z,nwd0] at e;cases e)]
   exact k _ _ e
  have nlY:hid3 H4 b st wd nl=some (.lst ((nsK cs pcs ah thr 0).map V.int)):=by
   rw[hid3_of (fun z=>by rw[←z,hnl] at nb;cases nb) (fun z=>by rw[←z,s2 _ _ hnl] at nst;cases nst) (fun z=>by rw[←z,(s2.trans s3) _ _ hnl] at nwd;cases nwd)]
   exact(s2.trans (s3.trans s4)) _ _ hnl
  simp_all only[]
  refine⟨_,s04 _ _ hpl,by omega,by omega,?_⟩
  rw[Int.toNat_natCast]
  refine for_src (src_range (Ok:=fun _=>True)) (fun i σ H'=>Same H H'∧∃bs xs ws nl z1 z2 z3,H' b=some (.lst bs)∧H' st=some (.lst xs)∧H' wd=some (.lst ws)∧RepL (hid3 H' b st wd) ((List.range i).map (bdK cs pcs ah thr last)) bs∧RepL (hid3 H' b st wd) ((List.range i).map (stK cs pcs ah thr)) xs∧RepL (hid3 H' b st wd) ((List.range i).map (wdK pcs.length ah)) ws∧(i≤pcs.length→hid3 H' b st wd nl=some (.lst ((nsK cs pcs ah thr i).map V.int)))∧σ=[some (.ref ga),some (.int (thr:Int)),some (.ref cl),some (.ref pl),some (.ref nl),some (.ref b),some (.ref st),some (.ref wd),z1,z2,z3]) ⟨s04,[],[],[],nl,_,_,_,(s3.trans s4) _ _ hb,s4 _ _ hst,hwd,repL_nil.mpr rfl,repL_nil.mpr rfl,repL_nil.mpr rfl,fun _=>nlY,rfl⟩ (fun _ _ _ _ _=>trivial) ?_ ?_
  ·rintro i x σ H6 H5 hi ⟨s5,bs,xs,ws,nl,z1,z2,z3,hb5,hst5,hwd5,rb,rx,rw',hnl5,rfl⟩ ⟨rfl,rfl⟩
   have him:i≤pcs.length:=by omega
   have hnl5:=hnl5 him
   have bl5:=rb.length
   have xl5:=rx.length
   have wl5:=rw'.length
   rw[List.length_map,List.length_range] at bl5 xl5 wl5
   obtain⟨xx,exx⟩:∃xx,(gmK cs pcs ah thr last).ps[i]?=some (nmK pcs.length i,xx):=by
    by_cases c:i<pcs.length
    ·exact⟨_,ps_k c⟩
    ·have:i=pcs.length:=by omega
     subst this
     exact⟨_,ps_e⟩
   obtain⟨pvi,epi,rpi⟩:=rpl.at (i:=i) (by rw[List.getElem?_map,exx];rfl)
   obtain⟨pq,u1,wv,rfl,hpq,r1,rwv⟩:=rep_t2.mp (show Rep H (.tup _) pvi from rpi)
   rw[rep_str] at r1
   subst r1
   simp only[gName,List.set_cons_succ,List.set_cons_zero,Int.zero_add]
   change tSeq _ _ _ [some (.ref ga),some (.int (thr:Int)),some (.ref cl),some (.ref pl),some (.ref nl),some (.ref b),some (.ref st),some (.ref wd),some (.int (i:Int)),z2,z3] H5
   refine seq_gen (fun σ' H'=>H5=H'∧σ'=[some (.ref ga),some (.int (thr:Int)),some (.ref cl),some (.ref pl),some (.ref nl),some (.ref b),some (.ref st),some (.ref wd),some (.int (i:Int)),some (.str (nmK pcs.length i)),some wv]) ?_ (fun N hN=>?_)
   case refine_2=>
    simp_all only[]
    refine⟨_,s5 _ _ hpl,_,atI_nat epi,?_⟩
    refine⟨pq,_,rfl,SqT.of (s5 _ _ hpq),rfl,?_⟩
    simp_all only[]
    exact hN _ _ ⟨rfl,rfl⟩
   rintro _ _ ⟨rfl,rfl⟩
   change tSeq _ _ _ [some (.ref ga),some (.int (thr:Int)),some (.ref cl),some (.ref pl),some (.ref nl),some (.ref b),some (.ref st),some (.ref wd),some (.int (i:Int)),some (.str (nmK pcs.length i)),some wv] H5
   refine seq_gen (fun σ' H'=>Same H H'∧Same (hid3 H5 b st wd) (hid3 H' b st wd)∧H' b=some (.lst bs)∧H' wd=some (.lst ws)∧(∃e,H' st=some (.lst (xs++ [.ref e]))∧hid3 H' b st wd e=some (.tup [.str (nmK pcs.length i),.ref nl]))∧σ'=[some (.ref ga),some (.int (thr:Int)),some (.ref cl),some (.ref pl),some (.ref nl),some (.ref b),some (.ref st),some (.ref wd),some (.int (i:Int)),some (.str (nmK pcs.length i)),some wv]) ?_ (fun N hN=>?_)
   case refine_2=>
    simp_all only[rAppend]
    refine⟨.inl ⟨rfl,_,SqL.of hst5⟩,by omega,fun e Ha sa' na ea=>⟨_,sa' _ _ hst5,by omega,hN _ _ ⟨same_upd_of (s5.trans sa') nst0,by rw[hid3_u2];exact hid3_mono sa',by rw[upd_ne bs1];exact sa' _ _ hb5,by rw[upd_ne (Ne.symm sw1)];exact sa' _ _ hwd5,⟨e,upd_same,?_⟩,rfl⟩⟩⟩
    rw[hid3_u2,hid3_of (fun z=>by rw[z,hb5] at na;cases na) (fun z=>by rw[z,hst5] at na;cases na) (fun z=>by rw[z,hwd5] at na;cases na)]
    exact ea
   rintro _ H6 ⟨s6,y6,hb6,hwd6,⟨e,hst6,he6⟩,rfl⟩
   change tSeq _ _ _ [some (.ref ga),some (.int (thr:Int)),some (.ref cl),some (.ref pl),some (.ref nl),some (.ref b),some (.ref st),some (.ref wd),some (.int (i:Int)),some (.str (nmK pcs.length i)),some wv] H6
   refine seq_gen (fun σ' H'=>Same H H'∧Same (hid3 H6 b st wd) (hid3 H' b st wd)∧H' b=some (.lst bs)∧H' st=some (.lst (xs++ [.ref e]))∧(∃q,H6 q=none∧H' wd=some (.lst (ws++ [.ref q]))∧hid3 H' b st wd q=some (.lst []))∧σ'=[some (.ref ga),some (.int (thr:Int)),some (.ref cl),some (.ref pl),some (.ref nl),some (.ref b),some (.ref st),some (.ref wd),some (.int (i:Int)),some (.str (nmK pcs.length i)),some wv]) ?_ (fun N hN=>?_)
   case refine_2=>
    simp_all only[rAppend]
    refine⟨.inl ⟨rfl,_,SqL.of hwd6⟩,by omega,fun q nq=>⟨_,same_upd nq _ _ hwd6,by omega,hN _ _ ⟨same_upd_of (s6.trans (same_upd nq)) nwd0,by rw[hid3_u3];exact hid3_mono (same_upd nq),by rw[upd_ne bw1];exact same_upd nq _ _ hb6,by rw[upd_ne sw1];exact same_upd nq _ _ hst6,⟨q,nq,upd_same,?_⟩,rfl⟩⟩⟩
    rw[hid3_u3,hid3_of (fun z=>by rw[z,hb6] at nq;cases nq) (fun z=>by rw[z,hst6] at nq;cases nq) (fun z=>by rw[z,hwd6] at nq;cases nq)]
    exact upd_same
   rintro _ H7 ⟨s7,y7,hb7,hst7,⟨q,nq6,hwd7,hq7⟩,rfl⟩
   refine last_gen (fun σ' H'=>Same H H'∧Same (hid (hid3 H7 b st wd) q) (hid3 H' b st wd)∧∃d u nl',H' b=some (.lst (bs++ [u]))∧H' st=some (.lst (xs++ [.ref e]))∧H' wd=some (.lst (ws++ [.ref q]))∧d=bdK cs pcs ah thr last i∧Rep (hid3 H' b st wd) d u∧(∃ys,hid3 H' b st wd q=some (.lst ys)∧RepL (hid3 H' b st wd) (if i<pcs.length∧i≠ah then [.str (Str.ofString "on")] else []) ys)∧(i+1≤pcs.length→hid3 H' b st wd nl'=some (.lst ((nsK cs pcs ah thr (i+1)).map V.int)))∧σ'=[some (.ref ga),some (.int (thr:Int)),some (.ref cl),some (.ref pl),some (.ref nl'),some (.ref b),some (.ref st),some (.ref wd),some (.int (i:Int)),some (.str (nmK pcs.length i)),some wv]) ?_ (fun N hN=>?_)
   ·rintro _ H8 ⟨s8,y8,d,u,nl',hb8,hst8,hwd8,rfl,ru,⟨ys,hq8,ry⟩,hnl8,rfl⟩
    have y57:Same (hid3 H5 b st wd) (hid3 H8 b st wd):=fun a o ea=>by
     have e6:=y6 _ _ ea
     refine y8 _ _ ?_
     rw[hid_ne (fun z=>by rw[z] at e6;rw[hid3_sub _ _ e6] at nq6;cases nq6)]
     exact y7 _ _ e6
    have he8:hid3 H8 b st wd e=some (.tup [.str (nmK pcs.length i),.ref nl]):=y8 _ _ (by
     rw[hid_ne (fun z=>by rw[z] at he6;rw[hid3_sub _ _ he6] at nq6;cases nq6)]
     exact y7 _ _ he6)
    refine⟨s8,_,_,_,nl',_,_,_,hb8,hst8,hwd8,?_,?_,?_,hnl8,rfl⟩
    ·rw[List.range_succ,List.map_append]
     exact(rb.mono y57).append (repL_cons.mpr ⟨_,_,rfl,ru,repL_nil.mpr rfl⟩)
    ·rw[List.range_succ,List.map_append]
     exact(rx.mono y57).append (repL_cons.mpr ⟨_,_,rfl,rep_t2.mpr ⟨e,_,_,rfl,he8,rep_str.mpr rfl,rep_lst.mpr ⟨nl,_,rfl,y57 _ _ hnl5,RepL.ints _⟩⟩,repL_nil.mpr rfl⟩)
    ·rw[List.range_succ,List.map_append]
     exact(rw'.mono y57).append (repL_cons.mpr ⟨_,_,rfl,rep_lst.mpr ⟨q,ys,rfl,hq8,ry⟩,repL_nil.mpr rfl⟩)
   ·have hnY:hid3 H7 b st wd nl=some (.lst ((nsK cs pcs ah thr i).map V.int)):=y7 _ _ (y6 _ _ hnl5)
    have hnl7:H7 nl=some (.lst ((nsK cs pcs ah thr i).map V.int)):=hid3_sub _ _ hnY
    obtain⟨nlb,nls,nlw⟩:=hid3_out hnY
    have nlq:nl≠q:=fun z=>by rw[←z,hid3_sub _ _ (y6 _ _ hnl5)] at nq6;cases nq6
    obtain⟨qb,qs,qw⟩:=hid3_out hq7
    have hq7':H7 q=some (.lst []):=hid3_sub _ _ hq7
    have nq0:H q=none:=none_of s6 nq6
    have gni:=nsK_good G i him
    have stepY:∀{H':Hp},(∀a o,a≠b→a≠q→H7 a=some o→H' a=some o)→Same (hid (hid3 H7 b st wd) q) (hid3 H' b st wd):=fun {H'} k a o e=>by
     have aq:a≠q:=fun z=>by
      have e:(if a=q then none else hid3 H7 b st wd a)=some o:=e
      rw[if_pos z] at e
      cases e
     rw[hid_ne aq] at e
     obtain⟨e1,e2,e3⟩:=hid3_out e
     rw[hid3_of e1 e2 e3] at e ⊢
     exact k a o e1 aq e
    have newY:∀{X H':Hp} {a:Addr} {o:HO},Same H7 X→X a=none→H' a=some o→hid3 H' b st wd a=some o:=fun {X H' a o} k na e=>by
     rw[hid3_of (fun z=>by rw[z,k _ _ hb7] at na;cases na) (fun z=>by rw[z,k _ _ hst7] at na;cases na) (fun z=>by rw[z,k _ _ hwd7] at na;cases na)]
     exact e
    by_cases c:i<pcs.length
    ·rw[ps_k c] at exx
     cases exx
     have gdi:=gd i pcs[i] (List.getElem?_eq_getElem c)
     have egd:pcs.getD i []=pcs[i]:=by rw[List.getD_eq_getElem?_getD,List.getElem?_eq_getElem c];rfl
     rw[egd] at rwv
     unfold whK at rwv
     by_cases d:i=ah
     ·rw[if_pos d] at rwv
      obtain⟨r,x1,x2,x3,x4,rfl,hr,r1,r2,r3,r4⟩:=rep_t4.mp (show Rep H (.tup _) wv from rwv)
      rw[rep_str] at r1
      subst r1
      obtain⟨rl,rvs,rfl,hrl,rrl⟩:=rep_lst.mp r4
      obtain⟨v1,vr,rfl,rv1,rnil⟩:=repL_cons.mp rrl
      rw[repL_nil.mp rnil] at hrl
      obtain⟨rr,a1,a2,dv,a4,rfl,hrr,b1,b2,b3,b4⟩:=rep_t4.mp (show Rep H (.tup _) v1 from rv1)
      have hr7:=s7 _ _ hr
      refine if_no (fun Y N k=>by simp_all only[hr7];first | exact k | (rw[if_neg (by decide +kernel)];exact k)) (if_yes (fun Y N k=>by simp_all only[hr7];first | exact k | (rw[if_pos (by decide +kernel)];exact k)) ?_)
      simp_all only[rAppend,spBe,hr7]
      refine⟨.inl ⟨rfl,_,SqL.of hb7⟩,by omega,fun p Ha sa' na ea=>⟨by omega,fun p1 n1=>⟨by omega,fun p2 Hb sb nb' eb=>?_⟩⟩⟩
      have s7a:=sa'.trans (same_upd (o:=.lst [V.ref p]) n1)
      have s7b:=s7a.trans sb
      have sH8:Same H (upd Hb b (.lst (bs++ [V.ref p2]))):=same_upd_of (s7.trans s7b) nb0
      refine⟨_,s7b _ _ hb7,by omega,_,sH8 _ _ hr,_,rfl,_,rfl,_,sH8 _ _ hrl,_,rfl,_,rfl,_,sH8 _ _ hrr,_,rfl,cs,rcv.mono sH8,gc,nsK cs pcs ah thr i,by rw[upd_ne nlb];exact s7b _ _ hnl7,gni,pcs[i],b3.mono sH8,gdi.1,_,gdi.2,by omega,by omega,fun l' H9 s9 n9 h9=>?_⟩
      have up:∀a o,a≠b→a≠q→H7 a=some o→H9 a=some o:=fun a o e1 e2 e3=>s9 _ _ (by rw[upd_ne e1];exact s7b _ _ e3)
      have lb:l'≠b:=fun z=>by rw[z,upd_same] at n9;cases n9
      have n9':Hb l'=none:=by rw[upd_ne lb] at n9;exact n9
      have ups:∀{a o},a≠b→Hb a=some o→H9 a=some o:=fun e1 e2=>s9 _ _ (by rw[upd_ne e1];exact e2)
      have p2b:p2≠b:=fun z=>by rw[z,s7a _ _ hb7] at nb';cases nb'
      have p1b:p1≠b:=fun z=>by rw[z,sa' _ _ hb7] at n1;cases n1
      have pb:p≠b:=fun z=>by rw[z,hb7] at na;cases na
      refine hN _ _ ⟨sH8.trans s9,stepY up,_,_,l',s9 _ _ upd_same,up _ _ (Ne.symm bs1) (Ne.symm qs) hst7,up _ _ (Ne.symm bw1) (Ne.symm qw) hwd7,rfl,?_,⟨[],?_,?_⟩,fun _=>?_,rfl⟩
      ·unfold bdK rowK
       rw[if_pos c,if_pos d]
       exact rep_t3.mpr ⟨p2,_,_,_,rfl,newY s7a nb' (ups p2b eb),rep_str.mpr rfl,r3.mono (toY (sH8.trans s9)),rep_lst.mpr ⟨p1,_,rfl,newY sa' n1 (ups p1b (sb _ _ upd_same)),repL_cons.mpr ⟨_,_,rfl,rep_t2.mpr ⟨p,_,_,rfl,newY (Same.refl _) na (ups pb (sb _ _ (same_upd n1 _ _ ea))),rep_int.mpr rfl,rep_int.mpr rfl⟩,repL_nil.mpr rfl⟩⟩⟩
      ·rw[hid3_of qb qs qw]
       exact s9 _ _ (by rw[upd_ne qb];exact s7b _ _ hq7')
      ·rw[if_neg (fun z=>z.2 d)]
       exact repL_nil.mpr rfl
      ·rw[newY s7b n9' h9,nsK,egd,show vK ah thr i=(thr:Int) by unfold vK;rw[if_pos d]]
     ·rw[if_neg d] at rwv
      obtain⟨r,x1,x2,x3,rfl,hr,r1,r2,r3⟩:=rep_t3.mp (show Rep H (.tup _) wv from rwv)
      rw[rep_str] at r1
      rw[rep_int] at r2
      subst r1 r2
      obtain⟨rl,rvs,rfl,hrl,rrl⟩:=rep_lst.mp r3
      obtain⟨v1,vr,rfl,rv1,rnil⟩:=repL_cons.mp rrl
      rw[repL_nil.mp rnil] at hrl
      obtain⟨rr,a1,a2,dv,a4,rfl,hrr,b1,b2,b3,b4⟩:=rep_t4.mp (show Rep H (.tup _) v1 from rv1)
      have hr7:=s7 _ _ hr
      refine if_yes (fun Y N k=>by simp_all only[hr7];first | exact k | (rw[if_pos (by decide +kernel)];exact k)) ?_
      simp_all only[rAppend,spBe,hr7]
      refine⟨.inl ⟨rfl,_,SqL.of hb7⟩,by omega,fun p np=>⟨by omega,fun p1 Ha sa' na ea=>?_⟩⟩
      have s7b:=(same_upd np).trans sa'
      have hwd8:upd Ha b (.lst (bs++ [V.ref p1])) wd=some (.lst (ws++ [.ref q])):=by rw[upd_ne (Ne.symm bw1)];exact s7b _ _ hwd7
      have hq8:upd Ha b (.lst (bs++ [V.ref p1])) q=some (.lst []):=by rw[upd_ne qb];exact s7b _ _ hq7'
      have atq:atI (ws++ [V.ref q]) (i:Int)=some (.ref q):=atI_nat (by rw[List.getElem?_append_right (by omega),←wl5,Nat.sub_self];rfl)
      have sH9:Same H (upd (upd Ha b (.lst (bs++ [V.ref p1]))) q (.lst ([]++ [V.str (Str.ofString "on")]))):=same_upd_of (same_upd_of (s7.trans s7b) nb0) nq0
      refine⟨_,s7b _ _ hb7,by omega,_,hwd8,_,atq,.inl ⟨rfl,_,SqL.of hq8⟩,_,rfl,_,hq8,by rw[List.length_nil];omega,_,sH9 _ _ hr,_,rfl,_,rfl,_,sH9 _ _ hrl,_,rfl,_,rfl,_,sH9 _ _ hrr,_,rfl,cs,rcv.mono sH9,gc,nsK cs pcs ah thr i,by rw[upd_ne nlq,upd_ne nlb];exact s7b _ _ hnl7,gni,pcs[i],b3.mono sH9,gdi.1,_,gdi.2,by decide,by decide,fun l' H9 s9 n9 h9=>?_⟩
      have up:∀a o,a≠b→a≠q→H7 a=some o→H9 a=some o:=fun a o e1 e2 e3=>s9 _ _ (by rw[upd_ne e2,upd_ne e1];exact s7b _ _ e3)
      have lq:l'≠q:=fun z=>by rw[z,upd_same] at n9;cases n9
      have lb:l'≠b:=fun z=>by rw[upd_ne lq,z,upd_same] at n9;cases n9
      have n9':Ha l'=none:=by rw[upd_ne lq,upd_ne lb] at n9;exact n9
      have ups:∀{a o},a≠b→a≠q→Ha a=some o→H9 a=some o:=fun e1 e0 e2=>s9 _ _ (by rw[upd_ne e0,upd_ne e1];exact e2)
      have p1b:p1≠b:=fun z=>by rw[z,same_upd np _ _ hb7] at na;cases na
      have p1q:p1≠q:=fun z=>by rw[z,same_upd np _ _ hq7'] at na;cases na
      have pb:p≠b:=fun z=>by rw[z,hb7] at np;cases np
      have pq':p≠q:=fun z=>by rw[z,hq7'] at np;cases np
      refine hN _ _ ⟨sH9.trans s9,stepY up,_,_,l',s9 _ _ (by rw[upd_ne (Ne.symm qb)];exact upd_same),up _ _ (Ne.symm bs1) (Ne.symm qs) hst7,up _ _ (Ne.symm bw1) (Ne.symm qw) hwd7,rfl,?_,⟨[]++ [V.str (Str.ofString "on")],?_,?_⟩,fun _=>?_,rfl⟩
      ·unfold bdK rowK
       rw[if_pos c,if_neg d]
       exact rep_t3.mpr ⟨p1,_,_,_,rfl,newY (same_upd np) na (ups p1b p1q ea),rep_str.mpr rfl,rep_int.mpr rfl,rep_lst.mpr ⟨p,_,rfl,newY (Same.refl _) np (ups pb pq' (sa' _ _ upd_same)),repL_cons.mpr ⟨_,_,rfl,rep_int.mpr rfl,repL_nil.mpr rfl⟩⟩⟩
      ·rw[hid3_of qb qs qw]
       exact s9 _ _ upd_same
      ·rw[if_pos ⟨c,d⟩]
       exact repL_cons.mpr ⟨_,_,rfl,rep_str.mpr rfl,repL_nil.mpr rfl⟩
      ·rw[newY s7b n9' h9,nsK,egd,show vK ah thr i=0 by unfold vK;rw[if_neg d]]
    ·have him':i=pcs.length:=by omega
     subst him'
     rw[ps_e] at exx
     cases exx
     rcases gl with el | ⟨cn,hcn,el⟩
     ·rw[el] at rwv
      obtain⟨r,x1,x2,rfl,hr,r1,r2⟩:=rep_t2.mp (show Rep H (.tup _) wv from rwv)
      rw[rep_str] at r1
      subst r1
      have hr7:=s7 _ _ hr
      refine if_no (fun Y N k=>by simp_all only[hr7];first | exact k | (rw[if_neg (by decide +kernel)];exact k)) (if_no (fun Y N k=>by simp_all only[hr7];first | exact k | (rw[if_neg (by decide +kernel)];exact k)) (if_no (fun Y N k=>by simp_all only[hr7];first | exact k | (rw[if_neg (by decide +kernel)];exact k)) ?_))
      simp_all only[rAppend,hr7]
      refine⟨.inl ⟨rfl,_,SqL.of hb7⟩,_,hb7,by omega,?_⟩
      have sH8:Same H (upd H7 b (.lst (bs++ [V.ref r]))):=same_upd_of s7 nb0
      refine hN _ _ ⟨sH8,stepY (fun a o e1 _ e3=>by rw[upd_ne e1];exact e3),_,_,nl,upd_same,by rw[upd_ne (Ne.symm bs1)];exact hst7,by rw[upd_ne (Ne.symm bw1)];exact hwd7,rfl,?_,⟨[],by rw[hid3_u1];exact hq7,by rw[if_neg (fun z=>c z.1)];exact repL_nil.mpr rfl⟩,fun z=>absurd z (by omega),rfl⟩
      unfold bdK
      rw[if_neg c,el]
      exact rep_t2.mpr ⟨r,_,_,rfl,toY sH8 _ _ hr,rep_str.mpr rfl,r2.mono (toY sH8)⟩
     ·rw[el] at rwv
      obtain⟨r,x1,x2,rfl,hr,r1,r2⟩:=rep_t2.mp (show Rep H (.tup _) wv from rwv)
      rw[rep_str] at r1 r2
      subst r1 r2
      have hr7:=s7 _ _ hr
      refine if_no (fun Y N k=>by simp_all only[hr7];first | exact k | (rw[if_neg (by decide +kernel)];exact k)) (if_no (fun Y N k=>by simp_all only[hr7];first | exact k | (rw[if_neg (by decide +kernel)];exact k)) (if_yes (fun Y N k=>by simp_all only[hr7];first | exact k | (rw[if_pos (by decide +kernel)];exact k)) ?_))
      simp_all only[rAppend,hr7]
      refine⟨.inl ⟨rfl,_,SqL.of hb7⟩,⟨_,SqL.of (s7 _ _ hcl)⟩,?_⟩
      refine comp_map (src_list (Ok:=Same H7) (fun H' k=>SqL.of (k _ _ (s7 _ _ hcl)))) (fun _ _ _ _ h=>by rw[h.1];exact Same.refl _) (by omega) (fun j y H'=>∃cc,cs[j]?=some cc∧y=.str cc.1) (fun _ _ _ _ k h=>h) ?_ ?_
      ·rintro j x z H9 H8 Q' hj s8 ⟨rfl,ex⟩ yy
       obtain⟨dd2,ed2,rd2⟩:=rcl.get ex
       rw[List.getElem?_map] at ed2
       obtain⟨cc,ec,rfl⟩:=Option.map_eq_some_iff.mp ed2
       obtain⟨qq,a,a',rfl,hqq,r1,r2⟩:=rep_t2.mp (show Rep H (.tup _) x from rd2)
       rw[rep_str] at r1
       subst r1
       simp_all only[]
       exact⟨_,(s7.trans s8) _ _ hqq,_,rfl,yy _ _ (Same.refl _) ⟨cc,ec,rfl⟩⟩
      ·intro ys H8 s8 ly hy D nD1 nD2
       have e:ys=(cs.map (·.1)).map V.str:=by
        apply List.ext_getElem?
        intro j
        cases ej:ys[j]? with
        | none=>
         rw[List.getElem?_eq_none_iff] at ej
         rw[List.getElem?_eq_none (by rw[List.length_map,List.length_map];omega)]
        | some y=>
         obtain⟨cc,ec,rfl⟩:=hy j y ej
         rw[List.getElem?_map,List.getElem?_map,ec]
         rfl
       subst e
       simp only[rNix]
       have s7c:Same H7 (upd H8 D (.lst ((cs.map (·.1)).map V.str))):=s8.trans (same_upd nD2)
       have ia:=idx_at hcn
       have kds:∀e∈(cs.map (·.1)).map Dat.str,Kd e:=fun e he=>by
        obtain⟨n,hn,rfl⟩:=List.mem_map.mp he
        exact⟨hsc n hn,by rw[toP,PyData.depth];decide⟩
       have sp:(cs.map (·.1)).idxOf cn<cs.length:=spot_lt hcn
       refine⟨.inl ⟨rfl,_,SqL.of upd_same⟩,_,s7c _ _ hr7,_,rfl,D,_,(cs.map (·.1)).map Dat.str,_,.str cn,(cs.map (·.1)).idxOf cn,rfl,rfl,upd_same,rep_strs _,kds,rep_str.mpr rfl,⟨hsc _ hcn,by rw[toP,PyData.depth];decide⟩,ia.1,ia.2,by omega,_,_,rfl,s7c _ _ hnl7,_,at_ints (by rw[gni.1];exact sp),by omega,fun p Ha sa' na ea=>⟨by omega,fun p1 Hb sb nb' eb=>?_⟩⟩
       have s7b:=s7c.trans (sa'.trans sb)
       refine⟨_,s7b _ _ hb7,by omega,?_⟩
       have sH8:Same H (upd Hb b (.lst (bs++ [V.ref p1]))):=same_upd_of (s7.trans s7b) nb0
       have p1b:p1≠b:=fun z=>by rw[z,(s7c.trans sa') _ _ hb7] at nb';cases nb'
       have pb:p≠b:=fun z=>by rw[z,s7c _ _ hb7] at na;cases na
       refine hN _ _ ⟨sH8,stepY (fun a o e1 _ e3=>by rw[upd_ne e1];exact s7b _ _ e3),_,_,nl,upd_same,by rw[upd_ne (Ne.symm bs1)];exact s7b _ _ hst7,by rw[upd_ne (Ne.symm bw1)];exact s7b _ _ hwd7,rfl,?_,⟨[],by rw[hid3_u1];exact hid3_mono s7b _ _ hq7,by rw[if_neg (fun z=>c z.1)];exact repL_nil.mpr rfl⟩,fun z=>absurd z (by omega),rfl⟩
       unfold bdK
       rw[if_neg c,el]
       exact rep_t2.mpr ⟨p1,_,_,rfl,newY (s7c.trans sa') nb' (by rw[upd_ne p1b];exact eb),rep_str.mpr rfl,rep_t2.mpr ⟨p,_,_,rfl,newY s7c na (by rw[upd_ne pb];exact sb _ _ ea),rep_int.mpr rfl,rep_int.mpr rfl⟩⟩
  ·rintro σ H5 ⟨s5,bs,xs,ws,nl,z1,z2,z3,hb5,hst5,hwd5,rb,rx,rw',hnl5,rfl⟩
   simp_all only[]
   rw[←plen] at rb rx rw'
   refine⟨by omega,fun p H6 s6 np hp=>kk _ H6 (s5.trans s6) (rep_t3.mpr ⟨p,_,_,_,rfl,hp,rep_lst.mpr ⟨b,bs,rfl,s6 _ _ hb5,rb.mono (hid3_sub.trans s6)⟩,rep_lst.mpr ⟨st,xs,rfl,s6 _ _ hst5,rx.mono (hid3_sub.trans s6)⟩,rep_lst.mpr ⟨wd,ws,rfl,s6 _ _ hwd5,rw'.mono (hid3_sub.trans s6)⟩⟩)⟩
theorem sc_law:FnScope ["_law_script","_law_game_here","_law_thrown","_law_due_here","_law_found","_law_name","_law_numbers","_law_place"] ["_law_script"] (defScope (top 48)):=⟨rfl,rfl,rfl,by decide +kernel,rfl,by decide +kernel,by decide +kernel⟩
theorem dep_ints (ns:List Int):depth.dL (ns.map Dat.int)≤0:=depth_flat fun d hd=>by obtain⟨c,_,rfl⟩:=List.mem_map.mp hd;simp [depth]
theorem spr_rep {Fr:Addr→Prop} {H:Hp} {p b l wl:Addr} {bs xs ws:List V} {rows words:List Dat} {SS:List Sta} (hp:H p=some (.tup [.ref b,.ref l,.ref wl])) (hb:H b=some (.lst bs)) (rb:RepL H rows bs) (hl:H l=some (.lst xs)) (al:Al (fun s v=>StF Fr H v s.1 s.2) SS xs) (hw:H wl=some (.lst ws)) (rw:RepL H words ws):
  Rep H (.tup [.lst rows,.lst (SS.map fun s:Sta=>.tup [.str s.1,.lst (s.2.map .int)]),.lst words]) (.ref p):=by
 refine rep_t3.mpr ⟨p,_,_,_,rfl,hp,rep_lst.mpr ⟨b,bs,rfl,hb,rb⟩,rep_lst.mpr ⟨l,xs,rfl,hl,Al.repL (al.imp fun s v ⟨a,c,e,h1,h2,_⟩=>?_)⟩,rep_lst.mpr ⟨wl,ws,rfl,hw,rw⟩⟩
 rw[e]
 exact rep_t2.mpr ⟨a,_,_,rfl,h1,rep_str.mpr rfl,rep_lst.mpr ⟨c,_,rfl,h2,RepL.ints _⟩⟩
theorem dep_due {cs:List (Str×Int)} {pcs:List (List Dd)} {ah thr:Nat} {last:Wt}:depth (dueK cs pcs ah thr last)≤40:=by
 have r:depth.dL ((List.range (pcs.length+1)).map (bdK cs pcs ah thr last))≤5:=depth_flat fun d hd=>by
  obtain⟨k,_,rfl⟩:=List.mem_map.mp hd
  unfold bdK rowK lastK
  split
  ·split <;>(simp only[depth,depth.dL];omega)
  ·simp only[depth,depth.dL];omega
 have s:depth.dL ((List.range (pcs.length+1)).map (stK cs pcs ah thr))≤5:=depth_flat fun d hd=>by
  obtain⟨k,_,rfl⟩:=List.mem_map.mp hd
  have:=dep_ints (nsK cs pcs ah thr k)
  unfold stK
  simp only[depth,depth.dL];omega
 have u:depth.dL ((List.range (pcs.length+1)).map (wdK pcs.length ah))≤5:=depth_flat fun d hd=>by
  obtain⟨k,_,rfl⟩:=List.mem_map.mp hd
  unfold wdK
  split <;>(simp only[depth,depth.dL];omega)
 unfold dueK
 simp only[depth,depth.dL]
 omega
noncomputable def BrO (H0 X:Hp) (b l:Addr) (v:V):Prop:=∃q,v=.ref q∧((∃x,X q=some (.tup [.str (Str.ofString "end"),x]))∨∃k x w ys,k≠Str.ofString "end"∧X q=some (.tup [.str k,x,.ref w])∧X w=some (.lst ys)∧H0 w=none∧w≠b∧w≠l)
theorem BrO.mono {H0 X X':Hp} {b l:Addr} {v:V} (s:Same X X'):BrO H0 X b l v→BrO H0 X' b l v:=fun⟨q,e,h⟩=>⟨q,e,h.imp (fun⟨x,h⟩=>⟨x,s _ _ h⟩) (fun⟨k,x,w,ys,nk,h1,h2,h3⟩=>⟨k,x,w,ys,nk,s _ _ h1,s _ _ h2,h3⟩)⟩
theorem BrO.put {H0 X:Hp} {b l a:Addr} {v:V} {ys zs:List V} (ha:X a=some (.lst ys)):BrO H0 X b l v→BrO H0 (upd X a (.lst zs)) b l v:=fun⟨q,e,h⟩=>by
 refine⟨q,e,?_⟩
 have tp:∀{q:Addr} {vs:List V},X q=some (.tup vs)→upd X a (.lst zs) q=some (.tup vs):=fun {q vs} h=>by
  rw[upd_ne (fun z=>by rw[z,ha] at h;cases h)]
  exact h
 rcases h with ⟨x,h⟩ | ⟨k,x,w,us,nk,h1,h2,h3⟩
 ·exact .inl ⟨x,tp h⟩
 ·by_cases c:w=a
  ·subst c
   exact .inr ⟨k,x,w,zs,nk,tp h1,upd_same,h3⟩
  ·exact .inr ⟨k,x,w,us,nk,tp h1,by rw[upd_ne c];exact h2,h3⟩
noncomputable def StO (H0 X:Hp) (b l:Addr) (m:Nat) (v:V):Prop:=∃a c nm ns,v=.ref a∧X a=some (.tup [.str nm,.ref c])∧X c=some (.lst (List.map V.int ns))∧ns.length≤m∧H0 c=none∧c≠b∧c≠l
theorem StO.mono {H0 X X':Hp} {b l:Addr} {v:V} {m:Nat} (s:Same X X'):StO H0 X b l m v→StO H0 X' b l m v:=fun⟨a,c,nm,ns,e,h1,h2,h3⟩=>⟨a,c,nm,ns,e,s _ _ h1,s _ _ h2,h3⟩
theorem StO.put {H0 X:Hp} {b l a:Addr} {v:V} {ys:List V} {zs:List Int} {m:Nat} (ha:X a=some (.lst ys)) (hz:zs.length≤m+1):StO H0 X b l m v→StO H0 (upd X a (.lst (zs.map V.int))) b l (m+1) v:=fun⟨q,c,nm,ns,e,h1,h2,h3,h4⟩=>by
 have tp:upd X a (.lst (zs.map V.int)) q=some (.tup [.str nm,.ref c]):=by
  rw[upd_ne (fun z=>by rw[z,ha] at h1;cases h1)]
  exact h1
 by_cases d:c=a
 ·subst d
  exact⟨q,c,nm,zs,e,tp,upd_same,hz,h4⟩
 ·exact⟨q,c,nm,ns,e,tp,by rw[upd_ne d];exact h2,by omega,h4⟩
theorem ok_law (T:Txt K mg q_NoShare q_NoTable q_TooMany q_Course q_Finder) {f:Addr} {fd:FuncData} (F:Fun K "law" "law" (top 48) f fd):FnOk P w K mg base (CX1 P w) 11 f fd ["_law_script"] (spLaw K):=by
 have c__law_game:Cal P w K mg base (CX1 P w) 3 "_law_game" ["_law_script"] (spGm K):=ok_gm T
 have c__law_due:Cal P w K mg base (CX1 P w) 2 "_law_due" ["_law_game_here","_law_thrown"] (spDu K):=ok_du T
 have c_spread:Cal P w K mg base (CX1 P w) 10 "spread" ["game"] spSpr3:=ok_spr T
 refine F.okC sc_law (fun vs H Q E h=>?_) (fun cdv A outer s H vs Q E hr h=>?_)
 ·obtain⟨_,_,rfl,_⟩:=h;rfl
 ·obtain⟨sa,sc,rfl,hS,l63,kk⟩:=h
  have nd:=sc_law.nd
  refine⟨_,(pss_cons (ps_asg (pe_cal c__law_game (hr.mono (by decide)) rfl strictP.pass (pa_cons (pv 0) pa_nil (se rfl)) (he:=se rfl) (hpl:=na rfl)) (pg_lstK (K:=K) (n:=2) rfl (pgs_cons (pg_name (i:=1) nd rfl (Or.inl rfl)) (pgs_cons (pg_name (i:=2) nd rfl (Or.inl rfl)) pgs_nil))))
  (pss_cons (ps_set (i:=3) nd rfl (Or.inl rfl) (pe_cal c__law_due (hr.mono (by decide)) rfl strictP.pass (pa_cons (pv 1) (pa_cons (pv 2) pa_nil (se rfl)) (se rfl)) (he:=se rfl) (hpl:=na rfl)))
  (pss_cons (ps_set (i:=4) nd rfl (Or.inl rfl) (pe_cal c_spread (hr.mono (by decide)) rfl strictP.pass (pa_cons (pv 1) pa_nil (se rfl)) (he:=se rfl) (hpl:=na rfl)))
  (pss_cons (ps_if (PW.pt (pw_or (pt_not (pt_val (pe_callB (call_isTK (K:=K)) (by rfl) T.z_isinstance rfl (pa_cons (pv 4) (pa_cons (pe_bltn (v:=V.ty "tuple") rfl T.z_tuple rfl rfl) pa_nil (se rfl)) (se rfl)) (he:=se rfl) (hpl:=na rfl)))) (pw_or1 (pt_cmpR (op_neD hr.units) (pv 4) (pv 3) (nomark _))))) (pss_one (ps_ret pe_bl))
   pss_nil)
  (pss_cons (ps_for PassesOwn.never rfl (pi_listK (K:=K) (pe_ix ix_tupH (pv 4) pe_int (fun _ _=>rfl))) (pg_tupK (K:=K) (n:=2) rfl (pgs_cons (pg_name (i:=5) nd rfl (Or.inl rfl)) (pgs_cons (pg_name (i:=6) nd rfl (Or.inl rfl)) pgs_nil))) (pss_cons (ps_if (pt_cmpR (op_in_seqK (K:=K)) pe_bl (pe_comp rfl (N:=["_law_script","_law_game_here","_law_thrown","_law_due_here","_law_found","_law_name","_law_numbers","_law_place"]) (so:=defScope (top 48)) (N':=["_law_number"]) (k:=1) (fr:=[]) rfl rfl ⟨rfl,by decide +kernel,by decide +kernel,by decide +kernel,rfl,by decide +kernel,by decide +kernel⟩ (pi_listK (K:=K) (pv 6)) (fun _ _ _ _ _=>(pg_name (i:=0) (show(["_law_number"]:List Str).Nodup by decide +kernel) rfl (Or.inl rfl))) (fun _ _ _ _ _=>pts_nil)
   (fun _ _ _ _ _=>(pe_or (pe_callB (call_isTK (K:=K)) (by rfl) T.z_isinstance rfl (pa_cons (pv 0) (pa_cons (pe_bltn (v:=V.ty "bool") rfl T.z_bool rfl rfl) pa_nil (se rfl)) (se rfl)) (he:=se rfl) (hpl:=na rfl)) (pe_one (pe_not (pe_callB (call_isTK (K:=K)) (by rfl) T.z_isinstance rfl (pa_cons (pv 0) (pa_cons (pe_bltn (v:=V.ty "int") rfl T.z_int rfl rfl) pa_nil (se rfl)) (se rfl)) (he:=se rfl) (hpl:=na rfl))))))) rfl) (pss_one (ps_ret pe_bl))
   pss_nil)
  (pss_one (ps_expr (pe_bm PySem.F.plainAttrs_list PySem.F.slot_list_append PySem.F.type_list_append mt_append.r (pv 6) (pa_cons pe_int pa_nil (se rfl)))))))
  (pss_cons (ps_for PassesOwn.never rfl (pi_listK (K:=K) (pe_ix ix_tupH (pv 4) pe_int (fun _ _=>rfl))) (pg_name (i:=7) nd rfl (Or.inl rfl)) (pss_one (ps_if (pt_cmpR op_ne (pe_ix ix_tupH (pv 7) pe_int (fun _ _=>rfl)) pe_str (nomark _)) (pss_one (ps_expr (pe_bm0 PySem.F.plainAttrs_list PySem.F.slot_list_clear PySem.F.type_list_clear mt_clear.r (pe_ix ix_tupH (pv 7) pe_int (fun _ _=>rfl)))))
   pss_nil)))
  (pss_one (ps_ret (pe_cmpR (op_eqD hr.units) (pe_cal c_spread (hr.mono (by decide)) rfl strictP.pass (pa_cons (pv 1) pa_nil (se rfl)) (he:=se rfl) (hpl:=na rfl)) (pv 3) (nomark _)))))))))),?_⟩
  have sl:=sizeLine_eq
  change tSeq _ _ _ [some (.ref sa),none,none,none,none,none,none,none] H
  refine seq_gen (fun σ' H1=>Same H H1∧∃gv cs pcs ah thr last,Rep H1 (gmD (gmK cs pcs ah thr last)) gv∧GoodK cs pcs ah thr last∧σ'=[some (.ref sa),some gv,some (.int ((thr:Nat):Int)),none,none,none,none,none]) ?_ (fun N hN=>?_)
  case refine_2=>
   simp_all only[spGm]
   refine⟨sc,hS,fun p gv cs pcs ah thr last H' s' hp rg G=>?_⟩
   refine⟨p,_,rfl,SqL.of hp,rfl,?_⟩
   simp_all only[]
   exact hN _ _ ⟨s',gv,cs,pcs,ah,thr,last,rg,G,rfl⟩
  rintro _ H1 ⟨s1,gv,cs,pcs,ah,thr,last,rg,G,rfl⟩
  change tSeq _ _ _ [some (.ref sa),some gv,some (.int ((thr:Nat):Int)),none,none,none,none,none] H1
  refine seq_gen (fun σ' H2=>Same H1 H2∧∃dv,Rep H2 (dueK cs pcs ah thr last) dv∧σ'=[some (.ref sa),some gv,some (.int ((thr:Nat):Int)),some dv,none,none,none,none]) ?_ (fun N hN=>?_)
  case refine_2=>
   simp_all only[spDu]
   exact⟨cs,pcs,ah,thr,rfl,last,rg,G,fun u H' s' r'=>hN _ _ ⟨s',u,r',rfl⟩⟩
  rintro _ H2 ⟨s2,dv,rd,rfl⟩
  have rg2:=rg.mono s2
  have gg:=good_k G
  have hd0:((gmK cs pcs ah thr last).ps.map (·.1)).head?=some (nmK pcs.length 0):=by rw[ps_nms,List.range_succ_eq_map];rfl
  have ak:askd (gmK cs pcs ah thr last) (List.replicate (gmK cs pcs ah thr last).cs.length 0) 1 (nmK pcs.length 0)=some (nmK pcs.length 0):=ask_k G (Nat.zero_le _) _
  have hb0:hsh (.str (nmK pcs.length 0))=true:=nm_hsh G (Nat.zero_le _)
  have l120:(SSk cs pcs ah thr).length≤120:=by rw[SSk_len];have:=G.m6;omega
  change tSeq _ _ _ [some (.ref sa),some gv,some (.int ((thr:Nat):Int)),some dv,none,none,none,none] H2
  refine seq_gen (fun σ' H3=>Same H2 H3∧∃p b l wl bs xs,H3 p=some (.tup [.ref b,.ref l,.ref wl])∧Rep H3 (dueK cs pcs ah thr last) (.ref p)∧H3 b=some (.lst bs)∧H3 l=some (.lst xs)∧bs.length≤7∧xs.length≤7∧(∀v∈bs,BrO H2 H3 b l v)∧(∀v∈xs,StO H2 H3 b l 4 v)∧σ'=[some (.ref sa),some gv,some (.int ((thr:Nat):Int)),some dv,some (.ref p),none,none,none]) ?_ (fun N hN=>?_)
  case refine_2=>
   simp_all only[spSpr3]
   refine⟨_,rg2,gg,_,hd0,_,1,ak,hb0,_,_,spr_k G,l120,fun p b l wl bs xs ws H3 s3 nb hp hb rb wf hl al hw rw'=>hN _ _ ⟨s3,p,b,l,wl,bs,xs,hp,?_,hb,hl,?_,?_,fun v hv=>?_,fun v hv=>?_,rfl⟩⟩
   ·rw[brd_k G] at rb
    rw[wds_k G] at rw'
    have:=spr_rep hp hb rb hl al hw rw'
    rw[sts_k] at this
    exact this
   ·rw[brd_k G] at rb
    have:=rb.length
    rw[List.length_map,List.length_range] at this
    have:=G.m6
    omega
   ·have:=al.length
    rw[SSk_len] at this
    have:=G.m6
    omega
   ·rw[brd_k G] at rb
    obtain⟨j,ej⟩:=List.getElem?_of_mem hv
    obtain⟨d,ed,rd'⟩:=rb.get ej
    obtain⟨q,vs,rfl,hq,k3⟩:=wf v hv
    rw[List.getElem?_map] at ed
    obtain⟨k,_,rfl⟩:=Option.map_eq_some_iff.mp ed
    refine⟨q,rfl,?_⟩
    unfold bdK rowK lastK at rd'
    split at rd'
    ·split at rd'
     ·obtain⟨q',x,y,z,e,hq',r1,r2,r3⟩:=rep_t3.mp rd'
      cases e
      rw[rep_str] at r1
      subst r1
      obtain⟨w',ys,rfl,hw',_⟩:=rep_lst.mp r3
      rw[hq'] at hq
      cases hq
      obtain⟨e1,e2,e3⟩:=k3 _ _ _ rfl
      exact .inr ⟨_,_,w',ys,by decide +kernel,hq',hw',e1,e2,e3⟩
     ·obtain⟨q',x,y,z,e,hq',r1,r2,r3⟩:=rep_t3.mp rd'
      cases e
      rw[rep_str] at r1
      subst r1
      obtain⟨w',ys,rfl,hw',_⟩:=rep_lst.mp r3
      rw[hq'] at hq
      cases hq
      obtain⟨e1,e2,e3⟩:=k3 _ _ _ rfl
      exact .inr ⟨_,_,w',ys,by decide +kernel,hq',hw',e1,e2,e3⟩
    ·obtain⟨q',x,y,e,hq',r1,r2⟩:=rep_t2.mp rd'
     cases e
     rw[rep_str] at r1
     subst r1
     exact .inl ⟨_,hq'⟩
   ·obtain⟨j,ej⟩:=List.getElem?_of_mem hv
    obtain⟨st,est,a,c,rfl,h1,h2,h3⟩:=al.get ej
    refine⟨a,c,_,_,rfl,h1,h2,?_,h3⟩
    obtain⟨k,_,rfl⟩:=List.mem_map.mp (List.mem_of_getElem? est)
    show(nsK cs pcs ah thr k).length≤4
    rw[nsK_len]
    exact G.gc.2.1
  rintro _ H3 ⟨s3,p,b,l,wl,bs,xs,hp,rp,hb,hl,bl,xl,bro,sto,rfl⟩
  change tSeq _ _ _ [some (.ref sa),some gv,some (.int ((thr:Nat):Int)),some dv,some (.ref p),none,none,none] H3
  refine seq_gen (fun σ' H'=>H3=H'∧σ'=[some (.ref sa),some gv,some (.int ((thr:Nat):Int)),some dv,some (.ref p),none,none,none]) ?_ (fun N hN=>?_)
  case refine_2=>
   simp_all only[rEqD]
   refine⟨_,TyOf.tup hp,_,kit_tt,?_⟩
   rw[if_neg (by decide)]
   refine⟨_,rp,rd.mono s3,⟨_,rfl⟩,dep_due,?_⟩
   rw[if_neg (by decide)]
   exact hN _ _ ⟨rfl,rfl⟩
  rintro _ _ ⟨rfl,rfl⟩
  change tSeq _ _ _ [some (.ref sa),some gv,some (.int ((thr:Nat):Int)),some dv,some (.ref p),none,none,none] H3
  refine seq_gen (fun σ' H'=>Same H2 H'∧H' p=some (.tup [.ref b,.ref l,.ref wl])∧H' b=some (.lst bs)∧(∀v∈bs,BrO H2 H' b l v)∧∃z1 z2 z3,σ'=[some (.ref sa),some gv,some (.int ((thr:Nat):Int)),some dv,some (.ref p),z1,z2,z3]) ?_ (fun N hN=>?_)
  case refine_2=>
   simp_all only[]
   refine⟨_,hp,_,rfl,_,rfl,⟨_,SqL.of hl⟩,for_src (src_list (Ok:=fun H'=>H' l=some (.lst xs)) (fun H' k=>SqL.of k)) (fun i σ H'=>Same H2 H'∧H' p=some (.tup [.ref b,.ref l,.ref wl])∧H' b=some (.lst bs)∧H' l=some (.lst xs)∧(∀v∈bs,BrO H2 H' b l v)∧(∀v∈xs,StO H2 H' b l (4+i) v)∧∃z1 z2,σ=[some (.ref sa),some gv,some (.int ((thr:Nat):Int)),some dv,some (.ref p),z1,z2,none]) ⟨s3,hp,hb,hl,bro,sto,_,_,rfl⟩ (fun _ _ _ _ h=>h.2.2.2.1) ?_ ?_⟩
   ·rintro i x σ H5 H4 hi ⟨s4,hp4,hb4,hl4,bro4,sto4,z1,z2,rfl⟩ ⟨rfl,ex⟩
    obtain⟨a,c,nm,ns,rfl,h1,h2,h3,nc,cb,cl⟩:=sto4 x (List.mem_of_getElem? ex)
    refine⟨a,_,rfl,SqT.of h1,rfl,?_⟩
    simp only[gName,gCons,gNil,List.set_cons_succ,List.set_cons_zero]
    refine⟨_,_,rfl,_,_,rfl,rfl,?_⟩
    change tSeq _ _ _ [some (.ref sa),some gv,some (.int ((thr:Nat):Int)),some dv,some (.ref p),some (.str nm),some (.ref c),none] H4
    refine seq_gen (fun σ' H'=>Same H4 H'∧σ'=[some (.ref sa),some gv,some (.int ((thr:Nat):Int)),some dv,some (.ref p),some (.str nm),some (.ref c),none]) ?_ (fun N hN=>?_)
    case refine_2=>
     simp_all only[rIn]
     refine⟨⟨_,SqL.of h2⟩,?_⟩
     refine comp_map (src_list (Ok:=Same H4) (fun H' k=>SqL.of (k _ _ h2))) (fun _ _ _ _ h=>by rw[h.1];exact Same.refl _) (by rw[List.length_map];omega) (fun j y H'=>y=.bl false) (fun _ _ _ _ k h=>h) ?_ ?_
     ·rintro j x z H9 H8 Q' hj s8 ⟨rfl,ex⟩ yy
      rw[List.getElem?_map] at ex
      obtain⟨n,en,rfl⟩:=Option.map_eq_some_iff.mp ex
      simp_all only[]
      refine⟨_,TyOf.int _,_,kit_ib,?_⟩
      rw[if_neg (by decide)]
      exact⟨_,TyOf.int _,_,kit_ii,yy _ _ (Same.refl _) rfl⟩
     ·intro ys H8 s8 ly hy D nD1 nD2
      have fx:∀y∈ys,y=.bl false:=fun y hm=>by
       obtain⟨j,ej⟩:=List.getElem?_of_mem hm
       exact hy j y ej
      have e:inV (V.bl true) ys=false:=List.any_eq_false.mpr fun y hy=>by rw[fx y hy];decide
      have fl:ys.all flatV=true:=List.all_eq_true.mpr fun y hy=>by rw[fx y hy];rfl
      refine⟨ys,.inl (SqL.of upd_same),rfl,fl,?_⟩
      rw[e,if_neg (by decide)]
      exact hN _ _ ⟨s8.trans (same_upd nD2),rfl⟩
    rintro _ H5 ⟨s5,rfl⟩
    have h25:=s5 _ _ h2
    simp_all only[rAppend]
    refine⟨.inl ⟨rfl,_,SqL.of h25⟩,_,h25,by rw[List.length_map];omega,?_⟩
    have ez:ns.map V.int++ [V.int 0]=(ns++ [0]).map V.int:=by rw[List.map_append];rfl
    rw[ez]
    refine⟨same_upd_of (s4.trans s5) nc,?_,?_,?_,fun v hv=>?_,fun v hv=>?_,_,rfl⟩
    ·rw[upd_ne (fun z=>by rw[z,h2] at hp4;cases hp4)];exact s5 _ _ hp4
    ·rw[upd_ne (Ne.symm cb)];exact s5 _ _ hb4
    ·rw[upd_ne (Ne.symm cl)];exact s5 _ _ hl4
    ·exact((bro4 v hv).mono s5).put h25
    ·have le:(ns++ [0]).length≤4+i+1:=by rw[List.length_append,List.length_singleton];omega
     exact((sto4 v hv).mono s5).put h25 le
   ·rintro σ H4 ⟨s4,hp4,hb4,hl4,bro4,sto4,z1,z2,rfl⟩
    exact hN _ _ ⟨s4,hp4,hb4,bro4,_,_,_,rfl⟩
  rintro _ H4 ⟨s4,hp4,hb4,bro4,z1,z2,z3,rfl⟩
  change tSeq _ _ _ [some (.ref sa),some gv,some (.int ((thr:Nat):Int)),some dv,some (.ref p),z1,z2,z3] H4
  refine seq_gen (fun σ' H'=>Same H2 H'∧∃z1 z2 z3,σ'=[some (.ref sa),some gv,some (.int ((thr:Nat):Int)),some dv,some (.ref p),z1,z2,z3]) ?_ (fun N hN=>?_)
  case refine_2=>
   simp_all only[]
   refine⟨_,hp4,_,rfl,_,rfl,⟨_,SqL.of hb4⟩,for_src (src_list (Ok:=fun H'=>H' b=some (.lst bs)) (fun H' k=>SqL.of k)) (fun i σ H'=>Same H2 H'∧H' b=some (.lst bs)∧(∀v∈bs,BrO H2 H' b l v)∧∃z1 z2 z3,σ=[some (.ref sa),some gv,some (.int ((thr:Nat):Int)),some dv,some (.ref p),z1,z2,z3]) ⟨s4,hb4,bro4,_,_,_,rfl⟩ (fun _ _ _ _ h=>h.2.1) ?_ ?_⟩
   ·rintro i x σ H6 H5 hi ⟨s5,hb5,bro5,z1,z2,z3,rfl⟩ ⟨rfl,ex⟩
    obtain⟨q,rfl,⟨x,hq⟩ | ⟨k,x,w',ys,nk,hq,hw,nw,wb,wl'⟩⟩:=bro5 x (List.mem_of_getElem? ex)
    ·simp_all only[hq]
     rw[if_neg (by simp)]
     exact⟨s5,hb5,bro5,_,rfl⟩
    ·simp_all only[rClear,tBM0,hq]
     rw[if_pos nk]
     refine⟨.inl ⟨rfl,_,SqL.of hw⟩,_,hw,?_⟩
     exact⟨same_upd_of s5 nw,by rw[upd_ne (Ne.symm wb)];exact hb5,fun v hv=>(bro5 v hv).put hw,_,rfl⟩
   ·rintro σ H5 ⟨s5,hb5,bro5,z1,z2,z3,rfl⟩
    exact hN _ _ ⟨s5,_,_,_,rfl⟩
  rintro _ H5 ⟨s5,z1,z2,z3,rfl⟩
  simp_all only[spSpr3,rEqD]
  refine⟨_,rg2.mono s5,gg,_,hd0,_,1,ak,hb0,_,_,spr_k G,l120,fun p b l wl bs xs ws H3 s3 nb hp hb rb wf hl al hw rw'=>⟨_,?_,rd.mono (s5.trans s3),⟨_,rfl⟩,dep_due,kk _⟩⟩
  rw[brd_k G] at rb
  rw[wds_k G] at rw'
  have:=spr_rep hp hb rb hl al hw rw'
  rw[sts_k] at this
  exact this
end
theorem all_mk {l:PySem.W.OpenLaw} {w:World} {K:PySem.W.Frag} {h:Heap} {mg:Str→Option Value} {fa:Addr} (X:K.In h) (G:h.Ns mainGlobals mg) (hfa:mg "law"=some (.ref fa))
  {f0:Addr} {od0 an0:Option Addr} {sl0:Array (Option Value)} {oc0 kV0 dc0 pm0 cd0 ct0:Value} {f1:Addr} {od1 an1:Option Addr} {sl1:Array (Option Value)} {oc1 kV1 dc1 pm1 cd1 ct1:Value} {f2:Addr} {od2 an2:Option Addr} {sl2:Array (Option Value)} {oc2 kV2 dc2 pm2 cd2 ct2:Value} {f3:Addr} {od3 an3:Option Addr} {sl3:Array (Option Value)} {oc3 kV3 dc3 pm3 cd3 ct3:Value} {f4:Addr} {od4 an4:Option Addr} {sl4:Array (Option Value)} {oc4 kV4 dc4 pm4 cd4 ct4:Value} {f5:Addr} {od5 an5:Option Addr} {sl5:Array (Option Value)} {oc5 kV5 dc5 pm5 cd5 ct5:Value} {f6:Addr} {od6 an6:Option Addr} {sl6:Array (Option Value)} {oc6 kV6 dc6 pm6 cd6 ct6:Value} {f7:Addr} {od7 an7:Option Addr} {sl7:Array (Option Value)} {oc7 kV7 dc7 pm7 cd7 ct7:Value} {f8:Addr} {od8 an8:Option Addr} {sl8:Array (Option Value)} {oc8 kV8 dc8 pm8 cd8 ct8:Value} {f9:Addr} {od9 an9:Option Addr} {sl9:Array (Option Value)} {oc9 kV9 dc9 pm9 cd9 ct9:Value} {f10:Addr} {od10 an10:Option Addr} {sl10:Array (Option Value)} {oc10 kV10 dc10 pm10 cd10 ct10:Value} {f11:Addr} {od11 an11:Option Addr} {sl11:Array (Option Value)} {oc11 kV11 dc11 pm11 cd11 ct11:Value} {f12:Addr} {od12 an12:Option Addr} {sl12:Array (Option Value)} {oc12 kV12 dc12 pm12 cd12 ct12:Value} {f13:Addr} {od13 an13:Option Addr} {sl13:Array (Option Value)} {oc13 kV13 dc13 pm13 cd13 ct13:Value} {f14:Addr} {od14 an14:Option Addr} {sl14:Array (Option Value)} {oc14 kV14 dc14 pm14 cd14 ct14:Value} {f15:Addr} {od15 an15:Option Addr} {sl15:Array (Option Value)} {oc15 kV15 dc15 pm15 cd15 ct15:Value} {f16:Addr} {od16 an16:Option Addr} {sl16:Array (Option Value)} {oc16 kV16 dc16 pm16 cd16 ct16:Value} {f17:Addr} {od17 an17:Option Addr} {sl17:Array (Option Value)} {oc17 kV17 dc17 pm17 cd17 ct17:Value} {f18:Addr} {od18 an18:Option Addr} {sl18:Array (Option Value)} {oc18 kV18 dc18 pm18 cd18 ct18:Value} {f19:Addr} {od19 an19:Option Addr} {sl19:Array (Option Value)} {oc19 kV19 dc19 pm19 cd19 ct19:Value} {f20:Addr} {od20 an20:Option Addr} {sl20:Array (Option Value)} {oc20 kV20 dc20 pm20 cd20 ct20:Value} {f21:Addr} {od21 an21:Option Addr} {sl21:Array (Option Value)} {oc21 kV21 dc21 pm21 cd21 ct21:Value} {f22:Addr} {od22 an22:Option Addr} {sl22:Array (Option Value)} {oc22 kV22 dc22 pm22 cd22 ct22:Value} {f23:Addr} {od23 an23:Option Addr} {sl23:Array (Option Value)} {oc23 kV23 dc23 pm23 cd23 ct23:Value} {f24:Addr} {od24 an24:Option Addr} {sl24:Array (Option Value)} {oc24 kV24 dc24 pm24 cd24 ct24:Value} {f25:Addr} {od25 an25:Option Addr} {sl25:Array (Option Value)} {oc25 kV25 dc25 pm25 cd25 ct25:Value} {f26:Addr} {od26 an26:Option Addr} {sl26:Array (Option Value)} {oc26 kV26 dc26 pm26 cd26 ct26:Value} {f27:Addr} {od27 an27:Option Addr} {sl27:Array (Option Value)} {oc27 kV27 dc27 pm27 cd27 ct27:Value} {f28:Addr} {od28 an28:Option Addr} {sl28:Array (Option Value)} {oc28 kV28 dc28 pm28 cd28 ct28:Value} {f29:Addr} {od29 an29:Option Addr} {sl29:Array (Option Value)} {oc29 kV29 dc29 pm29 cd29 ct29:Value} {f30:Addr} {od30 an30:Option Addr} {sl30:Array (Option Value)} {oc30 kV30 dc30 pm30 cd30 ct30:Value} {f31:Addr} {od31 an31:Option Addr} {sl31:Array (Option Value)} {oc31 kV31 dc31 pm31 cd31 ct31:Value} {f32:Addr} {od32 an32:Option Addr} {sl32:Array (Option Value)} {oc32 kV32 dc32 pm32 cd32 ct32:Value} {vt_MOST_THROWS:Tok} {vt_MOST_BOTTOM:Tok} {vt_MOST_STATES:Tok} {q_NoShare q_NoTable q_TooMany q_Course q_Finder:Addr} {fI_Course:Addr} {odI_Course anI_Course:Option Addr} {slI_Course:Array (Option Value)} {ocI_Course kVI_Course dcI_Course pmI_Course cdI_Course ctI_Course:Value} {fI_Finder:Addr} {odI_Finder anI_Finder:Option Addr} {slI_Finder:Array (Option Value)} {ocI_Finder kVI_Finder dcI_Finder pmI_Finder cdI_Finder ctI_Finder:Value} {fM_Course_asked:Addr} {odM_Course_asked anM_Course_asked:Option Addr} {slM_Course_asked:Array (Option Value)} {ocM_Course_asked kVM_Course_asked dcM_Course_asked pmM_Course_asked cdM_Course_asked ctM_Course_asked:Value} {fM_Course_by_row:Addr} {odM_Course_by_row anM_Course_by_row:Option Addr} {slM_Course_by_row:Array (Option Value)} {ocM_Course_by_row kVM_Course_by_row dcM_Course_by_row pmM_Course_by_row cdM_Course_by_row ctM_Course_by_row:Value} {fM_Course_by_value:Addr} {odM_Course_by_value anM_Course_by_value:Option Addr} {slM_Course_by_value:Array (Option Value)} {ocM_Course_by_value kVM_Course_by_value dcM_Course_by_value pmM_Course_by_value cdM_Course_by_value ctM_Course_by_value:Value} {fM_Course_do:Addr} {odM_Course_do anM_Course_do:Option Addr} {slM_Course_do:Array (Option Value)} {ocM_Course_do kVM_Course_do dcM_Course_do pmM_Course_do cdM_Course_do ctM_Course_do:Value} {fM_Course_end_worth:Addr} {odM_Course_end_worth anM_Course_end_worth:Option Addr} {slM_Course_end_worth:Array (Option Value)} {ocM_Course_end_worth kVM_Course_end_worth dcM_Course_end_worth pmM_Course_end_worth cdM_Course_end_worth ctM_Course_end_worth:Value} {fM_Course_holds:Addr} {odM_Course_holds anM_Course_holds:Option Addr} {slM_Course_holds:Array (Option Value)} {ocM_Course_holds kVM_Course_holds dcM_Course_holds pmM_Course_holds cdM_Course_holds ctM_Course_holds:Value} {fM_Course_open_rows:Addr} {odM_Course_open_rows anM_Course_open_rows:Option Addr} {slM_Course_open_rows:Array (Option Value)} {ocM_Course_open_rows kVM_Course_open_rows dcM_Course_open_rows pmM_Course_open_rows cdM_Course_open_rows ctM_Course_open_rows:Value} {fM_Course_put:Addr} {odM_Course_put anM_Course_put:Option Addr} {slM_Course_put:Array (Option Value)} {ocM_Course_put kVM_Course_put dcM_Course_put pmM_Course_put cdM_Course_put ctM_Course_put:Value} {fM_Course_start:Addr} {odM_Course_start anM_Course_start:Option Addr} {slM_Course_start:Array (Option Value)} {ocM_Course_start kVM_Course_start dcM_Course_start pmM_Course_start cdM_Course_start ctM_Course_start:Value} {fM_Course_table_at:Addr} {odM_Course_table_at anM_Course_table_at:Option Addr} {slM_Course_table_at:Array (Option Value)} {ocM_Course_table_at kVM_Course_table_at dcM_Course_table_at pmM_Course_table_at cdM_Course_table_at ctM_Course_table_at:Value} {fM_Course_what_at:Addr} {odM_Course_what_at anM_Course_what_at:Option Addr} {slM_Course_what_at:Array (Option Value)} {ocM_Course_what_at kVM_Course_what_at dcM_Course_what_at pmM_Course_what_at cdM_Course_what_at ctM_Course_what_at:Value} {fM_Course_words_at:Addr} {odM_Course_words_at anM_Course_words_at:Option Addr} {slM_Course_words_at:Array (Option Value)} {ocM_Course_words_at kVM_Course_words_at dcM_Course_words_at pmM_Course_words_at cdM_Course_words_at ctM_Course_words_at:Value} {fM_Finder_number_of:Addr} {odM_Finder_number_of anM_Finder_number_of:Option Addr} {slM_Finder_number_of:Array (Option Value)} {ocM_Finder_number_of kVM_Finder_number_of dcM_Finder_number_of pmM_Finder_number_of cdM_Finder_number_of ctM_Finder_number_of:Value}
  (a0:PySem.W.nsIn K mainGlobals "common_divisor"=some (some (.ref f0))) (l0:K.lookup f0=some ⟨oc0,od0,.func (PySem.W.fnOf "common_divisor" "common_divisor" (defArgs (top 7)) (defBody (top 7)) (defScope (top 7)) .none kV0 dc0 pm0 an0 cd0 ct0),sl0⟩) (e0:PySem.W.codeIn K cd0 "common_divisor"=true) (k0:PySem.W.keepIn K (.ref f0)=true)
  (a1:PySem.W.nsIn K mainGlobals "share"=some (some (.ref f1))) (l1:K.lookup f1=some ⟨oc1,od1,.func (PySem.W.fnOf "share" "share" (defArgs (top 8)) (defBody (top 8)) (defScope (top 8)) .none kV1 dc1 pm1 an1 cd1 ct1),sl1⟩) (e1:PySem.W.codeIn K cd1 "share"=true) (k1:PySem.W.keepIn K (.ref f1)=true)
  (a2:PySem.W.nsIn K mainGlobals "common_bottom"=some (some (.ref f2))) (l2:K.lookup f2=some ⟨oc2,od2,.func (PySem.W.fnOf "common_bottom" "common_bottom" (defArgs (top 9)) (defBody (top 9)) (defScope (top 9)) .none kV2 dc2 pm2 an2 cd2 ct2),sl2⟩) (e2:PySem.W.codeIn K cd2 "common_bottom"=true) (k2:PySem.W.keepIn K (.ref f2)=true)
  (a3:PySem.W.nsIn K mainGlobals "table_by_weights"=some (some (.ref f3))) (l3:K.lookup f3=some ⟨oc3,od3,.func (PySem.W.fnOf "table_by_weights" "table_by_weights" (defArgs (top 11)) (defBody (top 11)) (defScope (top 11)) .none kV3 dc3 pm3 an3 cd3 ct3),sl3⟩) (e3:PySem.W.codeIn K cd3 "table_by_weights"=true) (k3:PySem.W.keepIn K (.ref f3)=true)
  (a4:PySem.W.nsIn K mainGlobals "table_of"=some (some (.ref f4))) (l4:K.lookup f4=some ⟨oc4,od4,.func (PySem.W.fnOf "table_of" "table_of" (defArgs (top 12)) (defBody (top 12)) (defScope (top 12)) .none kV4 dc4 pm4 an4 cd4 ct4),sl4⟩) (e4:PySem.W.codeIn K cd4 "table_of"=true) (k4:PySem.W.keepIn K (.ref f4)=true)
  (a5:PySem.W.nsIn K mainGlobals "bottom_of"=some (some (.ref f5))) (l5:K.lookup f5=some ⟨oc5,od5,.func (PySem.W.fnOf "bottom_of" "bottom_of" (defArgs (top 13)) (defBody (top 13)) (defScope (top 13)) .none kV5 dc5 pm5 an5 cd5 ct5),sl5⟩) (e5:PySem.W.codeIn K cd5 "bottom_of"=true) (k5:PySem.W.keepIn K (.ref f5)=true)
  (a6:PySem.W.nsIn K mainGlobals "weighed"=some (some (.ref f6))) (l6:K.lookup f6=some ⟨oc6,od6,.func (PySem.W.fnOf "weighed" "weighed" (defArgs (top 14)) (defBody (top 14)) (defScope (top 14)) .none kV6 dc6 pm6 an6 cd6 ct6),sl6⟩) (e6:PySem.W.codeIn K cd6 "weighed"=true) (k6:PySem.W.keepIn K (.ref f6)=true)
  (a7:PySem.W.nsIn K mainGlobals "power"=some (some (.ref f7))) (l7:K.lookup f7=some ⟨oc7,od7,.func (PySem.W.fnOf "power" "power" (defArgs (top 18)) (defBody (top 18)) (defScope (top 18)) .none kV7 dc7 pm7 an7 cd7 ct7),sl7⟩) (e7:PySem.W.codeIn K cd7 "power"=true) (k7:PySem.W.keepIn K (.ref f7)=true)
  (a8:PySem.W.nsIn K mainGlobals "most_faces"=some (some (.ref f8))) (l8:K.lookup f8=some ⟨oc8,od8,.func (PySem.W.fnOf "most_faces" "most_faces" (defArgs (top 19)) (defBody (top 19)) (defScope (top 19)) .none kV8 dc8 pm8 an8 cd8 ct8),sl8⟩) (e8:PySem.W.codeIn K cd8 "most_faces"=true) (k8:PySem.W.keepIn K (.ref f8)=true)
  (a9:PySem.W.nsIn K mainGlobals "part_bottom"=some (some (.ref f9))) (l9:K.lookup f9=some ⟨oc9,od9,.func (PySem.W.fnOf "part_bottom" "part_bottom" (defArgs (top 20)) (defBody (top 20)) (defScope (top 20)) .none kV9 dc9 pm9 an9 cd9 ct9),sl9⟩) (e9:PySem.W.codeIn K cd9 "part_bottom"=true) (k9:PySem.W.keepIn K (.ref f9)=true)
  (a10:PySem.W.nsIn K mainGlobals "part_count"=some (some (.ref f10))) (l10:K.lookup f10=some ⟨oc10,od10,.func (PySem.W.fnOf "part_count" "part_count" (defArgs (top 21)) (defBody (top 21)) (defScope (top 21)) .none kV10 dc10 pm10 an10 cd10 ct10),sl10⟩) (e10:PySem.W.codeIn K cd10 "part_count"=true) (k10:PySem.W.keepIn K (.ref f10)=true)
  (a11:PySem.W.nsIn K mainGlobals "check_size"=some (some (.ref f11))) (l11:K.lookup f11=some ⟨oc11,od11,.func (PySem.W.fnOf "check_size" "check_size" (defArgs (top 22)) (defBody (top 22)) (defScope (top 22)) .none kV11 dc11 pm11 an11 cd11 ct11),sl11⟩) (e11:PySem.W.codeIn K cd11 "check_size"=true) (k11:PySem.W.keepIn K (.ref f11)=true)
  (a12:PySem.W.nsIn K mainGlobals "dice_faces"=some (some (.ref f12))) (l12:K.lookup f12=some ⟨oc12,od12,.func (PySem.W.fnOf "dice_faces" "dice_faces" (defArgs (top 23)) (defBody (top 23)) (defScope (top 23)) .none kV12 dc12 pm12 an12 cd12 ct12),sl12⟩) (e12:PySem.W.codeIn K cd12 "dice_faces"=true) (k12:PySem.W.keepIn K (.ref f12)=true)
  (a13:PySem.W.nsIn K mainGlobals "again_faces"=some (some (.ref f13))) (l13:K.lookup f13=some ⟨oc13,od13,.func (PySem.W.fnOf "again_faces" "again_faces" (defArgs (top 24)) (defBody (top 24)) (defScope (top 24)) .none kV13 dc13 pm13 an13 cd13 ct13),sl13⟩) (e13:PySem.W.codeIn K cd13 "again_faces"=true) (k13:PySem.W.keepIn K (.ref f13)=true)
  (a14:PySem.W.nsIn K mainGlobals "burst_faces"=some (some (.ref f14))) (l14:K.lookup f14=some ⟨oc14,od14,.func (PySem.W.fnOf "burst_faces" "burst_faces" (defArgs (top 25)) (defBody (top 25)) (defScope (top 25)) .none kV14 dc14 pm14 an14 cd14 ct14),sl14⟩) (e14:PySem.W.codeIn K cd14 "burst_faces"=true) (k14:PySem.W.keepIn K (.ref f14)=true)
  (a15:PySem.W.nsIn K mainGlobals "part_faces"=some (some (.ref f15))) (l15:K.lookup f15=some ⟨oc15,od15,.func (PySem.W.fnOf "part_faces" "part_faces" (defArgs (top 26)) (defBody (top 26)) (defScope (top 26)) .none kV15 dc15 pm15 an15 cd15 ct15),sl15⟩) (e15:PySem.W.codeIn K cd15 "part_faces"=true) (k15:PySem.W.keepIn K (.ref f15)=true)
  (a16:PySem.W.nsIn K mainGlobals "value_of"=some (some (.ref f16))) (l16:K.lookup f16=some ⟨oc16,od16,.func (PySem.W.fnOf "value_of" "value_of" (defArgs (top 27)) (defBody (top 27)) (defScope (top 27)) .none kV16 dc16 pm16 an16 cd16 ct16),sl16⟩) (e16:PySem.W.codeIn K cd16 "value_of"=true) (k16:PySem.W.keepIn K (.ref f16)=true)
  (a17:PySem.W.nsIn K mainGlobals "sides_product"=some (some (.ref f17))) (l17:K.lookup f17=some ⟨oc17,od17,.func (PySem.W.fnOf "sides_product" "sides_product" (defArgs (top 28)) (defBody (top 28)) (defScope (top 28)) .none kV17 dc17 pm17 an17 cd17 ct17),sl17⟩) (e17:PySem.W.codeIn K cd17 "sides_product"=true) (k17:PySem.W.keepIn K (.ref f17)=true)
  (a18:PySem.W.nsIn K mainGlobals "part_throws"=some (some (.ref f18))) (l18:K.lookup f18=some ⟨oc18,od18,.func (PySem.W.fnOf "part_throws" "part_throws" (defArgs (top 29)) (defBody (top 29)) (defScope (top 29)) .none kV18 dc18 pm18 an18 cd18 ct18),sl18⟩) (e18:PySem.W.codeIn K cd18 "part_throws"=true) (k18:PySem.W.keepIn K (.ref f18)=true)
  (a19:PySem.W.nsIn K mainGlobals "throws_by_bottom"=some (some (.ref f19))) (l19:K.lookup f19=some ⟨oc19,od19,.func (PySem.W.fnOf "throws_by_bottom" "throws_by_bottom" (defArgs (top 30)) (defBody (top 30)) (defScope (top 30)) .none kV19 dc19 pm19 an19 cd19 ct19),sl19⟩) (e19:PySem.W.codeIn K cd19 "throws_by_bottom"=true) (k19:PySem.W.keepIn K (.ref f19)=true)
  (a20:PySem.W.nsIn K mainGlobals "pool_table"=some (some (.ref f20))) (l20:K.lookup f20=some ⟨oc20,od20,.func (PySem.W.fnOf "pool_table" "pool_table" (defArgs (top 31)) (defBody (top 31)) (defScope (top 31)) .none kV20 dc20 pm20 an20 cd20 ct20),sl20⟩) (e20:PySem.W.codeIn K cd20 "pool_table"=true) (k20:PySem.W.keepIn K (.ref f20)=true)
  (a21:PySem.W.nsIn K mainGlobals "own_rows"=some (some (.ref f21))) (l21:K.lookup f21=some ⟨oc21,od21,.func (PySem.W.fnOf "own_rows" "own_rows" (defArgs (top 34)) (defBody (top 34)) (defScope (top 34)) .none kV21 dc21 pm21 an21 cd21 ct21),sl21⟩) (e21:PySem.W.codeIn K cd21 "own_rows"=true) (k21:PySem.W.keepIn K (.ref f21)=true)
  (a22:PySem.W.nsIn K mainGlobals "own_what"=some (some (.ref f22))) (l22:K.lookup f22=some ⟨oc22,od22,.func (PySem.W.fnOf "own_what" "own_what" (defArgs (top 35)) (defBody (top 35)) (defScope (top 35)) .none kV22 dc22 pm22 an22 cd22 ct22),sl22⟩) (e22:PySem.W.codeIn K cd22 "own_what"=true) (k22:PySem.W.keepIn K (.ref f22)=true)
  (a23:PySem.W.nsIn K mainGlobals "throw_ways"=some (some (.ref f23))) (l23:K.lookup f23=some ⟨oc23,od23,.func (PySem.W.fnOf "throw_ways" "throw_ways" (defArgs (top 38)) (defBody (top 38)) (defScope (top 38)) .none kV23 dc23 pm23 an23 cd23 ct23),sl23⟩) (e23:PySem.W.codeIn K cd23 "throw_ways"=true) (k23:PySem.W.keepIn K (.ref f23)=true)
  (a24:PySem.W.nsIn K mainGlobals "pick_ways"=some (some (.ref f24))) (l24:K.lookup f24=some ⟨oc24,od24,.func (PySem.W.fnOf "pick_ways" "pick_ways" (defArgs (top 39)) (defBody (top 39)) (defScope (top 39)) .none kV24 dc24 pm24 an24 cd24 ct24),sl24⟩) (e24:PySem.W.codeIn K cd24 "pick_ways"=true) (k24:PySem.W.keepIn K (.ref f24)=true)
  (a25:PySem.W.nsIn K mainGlobals "taken_up"=some (some (.ref f25))) (l25:K.lookup f25=some ⟨oc25,od25,.func (PySem.W.fnOf "taken_up" "taken_up" (defArgs (top 40)) (defBody (top 40)) (defScope (top 40)) .none kV25 dc25 pm25 an25 cd25 ct25),sl25⟩) (e25:PySem.W.codeIn K cd25 "taken_up"=true) (k25:PySem.W.keepIn K (.ref f25)=true)
  (a26:PySem.W.nsIn K mainGlobals "spread"=some (some (.ref f26))) (l26:K.lookup f26=some ⟨oc26,od26,.func (PySem.W.fnOf "spread" "spread" (defArgs (top 41)) (defBody (top 41)) (defScope (top 41)) .none kV26 dc26 pm26 an26 cd26 ct26),sl26⟩) (e26:PySem.W.codeIn K cd26 "spread"=true) (k26:PySem.W.keepIn K (.ref f26)=true)
  (a27:PySem.W.nsIn K mainGlobals "_law_at"=some (some (.ref f27))) (l27:K.lookup f27=some ⟨oc27,od27,.func (PySem.W.fnOf "_law_at" "_law_at" (defArgs (top 43)) (defBody (top 43)) (defScope (top 43)) .none kV27 dc27 pm27 an27 cd27 ct27),sl27⟩) (e27:PySem.W.codeIn K cd27 "_law_at"=true) (k27:PySem.W.keepIn K (.ref f27)=true)
  (a28:PySem.W.nsIn K mainGlobals "_law_deeds"=some (some (.ref f28))) (l28:K.lookup f28=some ⟨oc28,od28,.func (PySem.W.fnOf "_law_deeds" "_law_deeds" (defArgs (top 44)) (defBody (top 44)) (defScope (top 44)) .none kV28 dc28 pm28 an28 cd28 ct28),sl28⟩) (e28:PySem.W.codeIn K cd28 "_law_deeds"=true) (k28:PySem.W.keepIn K (.ref f28)=true)
  (a29:PySem.W.nsIn K mainGlobals "_law_behind"=some (some (.ref f29))) (l29:K.lookup f29=some ⟨oc29,od29,.func (PySem.W.fnOf "_law_behind" "_law_behind" (defArgs (top 45)) (defBody (top 45)) (defScope (top 45)) .none kV29 dc29 pm29 an29 cd29 ct29),sl29⟩) (e29:PySem.W.codeIn K cd29 "_law_behind"=true) (k29:PySem.W.keepIn K (.ref f29)=true)
  (a30:PySem.W.nsIn K mainGlobals "_law_game"=some (some (.ref f30))) (l30:K.lookup f30=some ⟨oc30,od30,.func (PySem.W.fnOf "_law_game" "_law_game" (defArgs (top 46)) (defBody (top 46)) (defScope (top 46)) .none kV30 dc30 pm30 an30 cd30 ct30),sl30⟩) (e30:PySem.W.codeIn K cd30 "_law_game"=true) (k30:PySem.W.keepIn K (.ref f30)=true)
  (a31:PySem.W.nsIn K mainGlobals "_law_due"=some (some (.ref f31))) (l31:K.lookup f31=some ⟨oc31,od31,.func (PySem.W.fnOf "_law_due" "_law_due" (defArgs (top 47)) (defBody (top 47)) (defScope (top 47)) .none kV31 dc31 pm31 an31 cd31 ct31),sl31⟩) (e31:PySem.W.codeIn K cd31 "_law_due"=true) (k31:PySem.W.keepIn K (.ref f31)=true)
  (a32:PySem.W.nsIn K mainGlobals "law"=some (some (.ref f32))) (l32:K.lookup f32=some ⟨oc32,od32,.func (PySem.W.fnOf "law" "law" (defArgs (top 48)) (defBody (top 48)) (defScope (top 48)) .none kV32 dc32 pm32 an32 cd32 ct32),sl32⟩) (e32:PySem.W.codeIn K cd32 "law"=true) (k32:PySem.W.keepIn K (.ref f32)=true)
  (z_abs:PySem.W.nsIn K mainGlobals "abs"=some none)
  (z_bool:PySem.W.nsIn K mainGlobals "bool"=some none)
  (z_enumerate:PySem.W.nsIn K mainGlobals "enumerate"=some none)
  (z_int:PySem.W.nsIn K mainGlobals "int"=some none)
  (z_isinstance:PySem.W.nsIn K mainGlobals "isinstance"=some none)
  (z_len:PySem.W.nsIn K mainGlobals "len"=some none)
  (z_list:PySem.W.nsIn K mainGlobals "list"=some none)
  (z_max:PySem.W.nsIn K mainGlobals "max"=some none)
  (z_min:PySem.W.nsIn K mainGlobals "min"=some none)
  (z_range:PySem.W.nsIn K mainGlobals "range"=some none)
  (z_sorted:PySem.W.nsIn K mainGlobals "sorted"=some none)
  (z_sum:PySem.W.nsIn K mainGlobals "sum"=some none)
  (z_tuple:PySem.W.nsIn K mainGlobals "tuple"=some none)
  (z_zip:PySem.W.nsIn K mainGlobals "zip"=some none)
  (c_MOST_THROWS:PySem.W.nsIn K mainGlobals "MOST_THROWS"=some (some (.int 1296 vt_MOST_THROWS)))
  (c_MOST_BOTTOM:PySem.W.nsIn K mainGlobals "MOST_BOTTOM"=some (some (.int 1000000 vt_MOST_BOTTOM)))
  (c_MOST_STATES:PySem.W.nsIn K mainGlobals "MOST_STATES"=some (some (.int 120 vt_MOST_STATES)))
  (k_NoShare:PySem.W.nsIn K mainGlobals "NoShare"=some (some (.ref q_NoShare)))
  (k_NoTable:PySem.W.nsIn K mainGlobals "NoTable"=some (some (.ref q_NoTable)))
  (k_TooMany:PySem.W.nsIn K mainGlobals "TooMany"=some (some (.ref q_TooMany)))
  (k_Course:PySem.W.nsIn K mainGlobals "Course"=some (some (.ref q_Course)))
  (k_Finder:PySem.W.nsIn K mainGlobals "Finder"=some (some (.ref q_Finder)))
  (x_NoShare:PySem.W.excIn K q_NoShare bmVE newVE=true)
  (x_NoTable:PySem.W.excIn K q_NoTable bmVE newVE=true)
  (x_TooMany:PySem.W.excIn K q_TooMany bmVE newVE=true)
  (cl_Coursepg:PySem.W.plainGet K q_Course Str.empty=true)
  (cl_Coursehd:PySem.W.hasDictIn K q_Course=true)
  (cl_Coursepo:PySem.W.plainOver K q_Course=true)
  (cl_Coursesa:PySem.W.findIn K (.ref q_Course) "__setattr__"=some (some (.builtin "object.__setattr__")))
  (cl_Finderpg:PySem.W.plainGet K q_Finder Str.empty=true)
  (cl_Finderhd:PySem.W.hasDictIn K q_Finder=true)
  (cl_Finderpo:PySem.W.plainOver K q_Finder=true)
  (cl_Findersa:PySem.W.findIn K (.ref q_Finder) "__setattr__"=some (some (.builtin "object.__setattr__")))
  (na_Course_first:PySem.W.findIn K (.ref q_Course) "first"=some none)
  (na_Course_mosts:PySem.W.findIn K (.ref q_Course) "mosts"=some none)
  (na_Course_spots:PySem.W.findIn K (.ref q_Course) "spots"=some none)
  (na_Course_tables:PySem.W.findIn K (.ref q_Course) "tables"=some none)
  (na_Course_whats:PySem.W.findIn K (.ref q_Course) "whats"=some none)
  (na_Finder_numbers:PySem.W.findIn K (.ref q_Finder) "numbers"=some none)
  (na_Finder_states:PySem.W.findIn K (.ref q_Finder) "states"=some none)
  (dia_Course:PySem.W.findIn K (.ref q_Course) "__init__"=some (some (.ref fI_Course)))
  (dii_Course:PySem.W.isFn K (.ref fI_Course)=true)
  (dil_Course:K.lookup fI_Course=some ⟨ocI_Course,odI_Course,.func (PySem.W.fnOf "__init__" "Course.__init__" (defArgs (inClass (top 36) 0)) (defBody (inClass (top 36) 0)) (defScope (inClass (top 36) 0)) .none kVI_Course dcI_Course pmI_Course anI_Course cdI_Course ctI_Course),slI_Course⟩)
  (dic_Course:PySem.W.codeIn K cdI_Course "Course.__init__"=true)
  (dik_Course:PySem.W.keepIn K (.ref fI_Course)=true)
  (dim_Course:PySem.W.makesIn K q_Course=true)
  (diq_Course:PySem.W.keepIn K (.ref q_Course)=true)
  (dia_Finder:PySem.W.findIn K (.ref q_Finder) "__init__"=some (some (.ref fI_Finder)))
  (dii_Finder:PySem.W.isFn K (.ref fI_Finder)=true)
  (dil_Finder:K.lookup fI_Finder=some ⟨ocI_Finder,odI_Finder,.func (PySem.W.fnOf "__init__" "Finder.__init__" (defArgs (inClass (top 37) 0)) (defBody (inClass (top 37) 0)) (defScope (inClass (top 37) 0)) .none kVI_Finder dcI_Finder pmI_Finder anI_Finder cdI_Finder ctI_Finder),slI_Finder⟩)
  (dic_Finder:PySem.W.codeIn K cdI_Finder "Finder.__init__"=true)
  (dik_Finder:PySem.W.keepIn K (.ref fI_Finder)=true)
  (dim_Finder:PySem.W.makesIn K q_Finder=true)
  (diq_Finder:PySem.W.keepIn K (.ref q_Finder)=true)
  (dma_Course_asked:PySem.W.findIn K (.ref q_Course) "asked"=some (some (.ref fM_Course_asked)))
  (dmi_Course_asked:PySem.W.isFn K (.ref fM_Course_asked)=true)
  (dml_Course_asked:K.lookup fM_Course_asked=some ⟨ocM_Course_asked,odM_Course_asked,.func (PySem.W.fnOf "asked" "Course.asked" (defArgs (inClass (top 36) 3)) (defBody (inClass (top 36) 3)) (defScope (inClass (top 36) 3)) .none kVM_Course_asked dcM_Course_asked pmM_Course_asked anM_Course_asked cdM_Course_asked ctM_Course_asked),slM_Course_asked⟩)
  (dmc_Course_asked:PySem.W.codeIn K cdM_Course_asked "Course.asked"=true)
  (dmk_Course_asked:PySem.W.keepIn K (.ref fM_Course_asked)=true)
  (dma_Course_by_row:PySem.W.findIn K (.ref q_Course) "by_row"=some (some (.ref fM_Course_by_row)))
  (dmi_Course_by_row:PySem.W.isFn K (.ref fM_Course_by_row)=true)
  (dml_Course_by_row:K.lookup fM_Course_by_row=some ⟨ocM_Course_by_row,odM_Course_by_row,.func (PySem.W.fnOf "by_row" "Course.by_row" (defArgs (inClass (top 36) 6)) (defBody (inClass (top 36) 6)) (defScope (inClass (top 36) 6)) .none kVM_Course_by_row dcM_Course_by_row pmM_Course_by_row anM_Course_by_row cdM_Course_by_row ctM_Course_by_row),slM_Course_by_row⟩)
  (dmc_Course_by_row:PySem.W.codeIn K cdM_Course_by_row "Course.by_row"=true)
  (dmk_Course_by_row:PySem.W.keepIn K (.ref fM_Course_by_row)=true)
  (dma_Course_by_value:PySem.W.findIn K (.ref q_Course) "by_value"=some (some (.ref fM_Course_by_value)))
  (dmi_Course_by_value:PySem.W.isFn K (.ref fM_Course_by_value)=true)
  (dml_Course_by_value:K.lookup fM_Course_by_value=some ⟨ocM_Course_by_value,odM_Course_by_value,.func (PySem.W.fnOf "by_value" "Course.by_value" (defArgs (inClass (top 36) 7)) (defBody (inClass (top 36) 7)) (defScope (inClass (top 36) 7)) .none kVM_Course_by_value dcM_Course_by_value pmM_Course_by_value anM_Course_by_value cdM_Course_by_value ctM_Course_by_value),slM_Course_by_value⟩)
  (dmc_Course_by_value:PySem.W.codeIn K cdM_Course_by_value "Course.by_value"=true)
  (dmk_Course_by_value:PySem.W.keepIn K (.ref fM_Course_by_value)=true)
  (dma_Course_do:PySem.W.findIn K (.ref q_Course) "do"=some (some (.ref fM_Course_do)))
  (dmi_Course_do:PySem.W.isFn K (.ref fM_Course_do)=true)
  (dml_Course_do:K.lookup fM_Course_do=some ⟨ocM_Course_do,odM_Course_do,.func (PySem.W.fnOf "do" "Course.do" (defArgs (inClass (top 36) 2)) (defBody (inClass (top 36) 2)) (defScope (inClass (top 36) 2)) .none kVM_Course_do dcM_Course_do pmM_Course_do anM_Course_do cdM_Course_do ctM_Course_do),slM_Course_do⟩)
  (dmc_Course_do:PySem.W.codeIn K cdM_Course_do "Course.do"=true)
  (dmk_Course_do:PySem.W.keepIn K (.ref fM_Course_do)=true)
  (dma_Course_end_worth:PySem.W.findIn K (.ref q_Course) "end_worth"=some (some (.ref fM_Course_end_worth)))
  (dmi_Course_end_worth:PySem.W.isFn K (.ref fM_Course_end_worth)=true)
  (dml_Course_end_worth:K.lookup fM_Course_end_worth=some ⟨ocM_Course_end_worth,odM_Course_end_worth,.func (PySem.W.fnOf "end_worth" "Course.end_worth" (defArgs (inClass (top 36) 12)) (defBody (inClass (top 36) 12)) (defScope (inClass (top 36) 12)) .none kVM_Course_end_worth dcM_Course_end_worth pmM_Course_end_worth anM_Course_end_worth cdM_Course_end_worth ctM_Course_end_worth),slM_Course_end_worth⟩)
  (dmc_Course_end_worth:PySem.W.codeIn K cdM_Course_end_worth "Course.end_worth"=true)
  (dmk_Course_end_worth:PySem.W.keepIn K (.ref fM_Course_end_worth)=true)
  (dma_Course_holds:PySem.W.findIn K (.ref q_Course) "holds"=some (some (.ref fM_Course_holds)))
  (dmi_Course_holds:PySem.W.isFn K (.ref fM_Course_holds)=true)
  (dml_Course_holds:K.lookup fM_Course_holds=some ⟨ocM_Course_holds,odM_Course_holds,.func (PySem.W.fnOf "holds" "Course.holds" (defArgs (inClass (top 36) 9)) (defBody (inClass (top 36) 9)) (defScope (inClass (top 36) 9)) .none kVM_Course_holds dcM_Course_holds pmM_Course_holds anM_Course_holds cdM_Course_holds ctM_Course_holds),slM_Course_holds⟩)
  (dmc_Course_holds:PySem.W.codeIn K cdM_Course_holds "Course.holds"=true)
  (dmk_Course_holds:PySem.W.keepIn K (.ref fM_Course_holds)=true)
  (dma_Course_open_rows:PySem.W.findIn K (.ref q_Course) "open_rows"=some (some (.ref fM_Course_open_rows)))
  (dmi_Course_open_rows:PySem.W.isFn K (.ref fM_Course_open_rows)=true)
  (dml_Course_open_rows:K.lookup fM_Course_open_rows=some ⟨ocM_Course_open_rows,odM_Course_open_rows,.func (PySem.W.fnOf "open_rows" "Course.open_rows" (defArgs (inClass (top 36) 10)) (defBody (inClass (top 36) 10)) (defScope (inClass (top 36) 10)) .none kVM_Course_open_rows dcM_Course_open_rows pmM_Course_open_rows anM_Course_open_rows cdM_Course_open_rows ctM_Course_open_rows),slM_Course_open_rows⟩)
  (dmc_Course_open_rows:PySem.W.codeIn K cdM_Course_open_rows "Course.open_rows"=true)
  (dmk_Course_open_rows:PySem.W.keepIn K (.ref fM_Course_open_rows)=true)
  (dma_Course_put:PySem.W.findIn K (.ref q_Course) "put"=some (some (.ref fM_Course_put)))
  (dmi_Course_put:PySem.W.isFn K (.ref fM_Course_put)=true)
  (dml_Course_put:K.lookup fM_Course_put=some ⟨ocM_Course_put,odM_Course_put,.func (PySem.W.fnOf "put" "Course.put" (defArgs (inClass (top 36) 1)) (defBody (inClass (top 36) 1)) (defScope (inClass (top 36) 1)) .none kVM_Course_put dcM_Course_put pmM_Course_put anM_Course_put cdM_Course_put ctM_Course_put),slM_Course_put⟩)
  (dmc_Course_put:PySem.W.codeIn K cdM_Course_put "Course.put"=true)
  (dmk_Course_put:PySem.W.keepIn K (.ref fM_Course_put)=true)
  (dma_Course_start:PySem.W.findIn K (.ref q_Course) "start"=some (some (.ref fM_Course_start)))
  (dmi_Course_start:PySem.W.isFn K (.ref fM_Course_start)=true)
  (dml_Course_start:K.lookup fM_Course_start=some ⟨ocM_Course_start,odM_Course_start,.func (PySem.W.fnOf "start" "Course.start" (defArgs (inClass (top 36) 4)) (defBody (inClass (top 36) 4)) (defScope (inClass (top 36) 4)) .none kVM_Course_start dcM_Course_start pmM_Course_start anM_Course_start cdM_Course_start ctM_Course_start),slM_Course_start⟩)
  (dmc_Course_start:PySem.W.codeIn K cdM_Course_start "Course.start"=true)
  (dmk_Course_start:PySem.W.keepIn K (.ref fM_Course_start)=true)
  (dma_Course_table_at:PySem.W.findIn K (.ref q_Course) "table_at"=some (some (.ref fM_Course_table_at)))
  (dmi_Course_table_at:PySem.W.isFn K (.ref fM_Course_table_at)=true)
  (dml_Course_table_at:K.lookup fM_Course_table_at=some ⟨ocM_Course_table_at,odM_Course_table_at,.func (PySem.W.fnOf "table_at" "Course.table_at" (defArgs (inClass (top 36) 8)) (defBody (inClass (top 36) 8)) (defScope (inClass (top 36) 8)) .none kVM_Course_table_at dcM_Course_table_at pmM_Course_table_at anM_Course_table_at cdM_Course_table_at ctM_Course_table_at),slM_Course_table_at⟩)
  (dmc_Course_table_at:PySem.W.codeIn K cdM_Course_table_at "Course.table_at"=true)
  (dmk_Course_table_at:PySem.W.keepIn K (.ref fM_Course_table_at)=true)
  (dma_Course_what_at:PySem.W.findIn K (.ref q_Course) "what_at"=some (some (.ref fM_Course_what_at)))
  (dmi_Course_what_at:PySem.W.isFn K (.ref fM_Course_what_at)=true)
  (dml_Course_what_at:K.lookup fM_Course_what_at=some ⟨ocM_Course_what_at,odM_Course_what_at,.func (PySem.W.fnOf "what_at" "Course.what_at" (defArgs (inClass (top 36) 5)) (defBody (inClass (top 36) 5)) (defScope (inClass (top 36) 5)) .none kVM_Course_what_at dcM_Course_what_at pmM_Course_what_at anM_Course_what_at cdM_Course_what_at ctM_Course_what_at),slM_Course_what_at⟩)
  (dmc_Course_what_at:PySem.W.codeIn K cdM_Course_what_at "Course.what_at"=true)
  (dmk_Course_what_at:PySem.W.keepIn K (.ref fM_Course_what_at)=true)
  (dma_Course_words_at:PySem.W.findIn K (.ref q_Course) "words_at"=some (some (.ref fM_Course_words_at)))
  (dmi_Course_words_at:PySem.W.isFn K (.ref fM_Course_words_at)=true)
  (dml_Course_words_at:K.lookup fM_Course_words_at=some ⟨ocM_Course_words_at,odM_Course_words_at,.func (PySem.W.fnOf "words_at" "Course.words_at" (defArgs (inClass (top 36) 11)) (defBody (inClass (top 36) 11)) (defScope (inClass (top 36) 11)) .none kVM_Course_words_at dcM_Course_words_at pmM_Course_words_at anM_Course_words_at cdM_Course_words_at ctM_Course_words_at),slM_Course_words_at⟩)
  (dmc_Course_words_at:PySem.W.codeIn K cdM_Course_words_at "Course.words_at"=true)
  (dmk_Course_words_at:PySem.W.keepIn K (.ref fM_Course_words_at)=true)
  (dma_Finder_number_of:PySem.W.findIn K (.ref q_Finder) "number_of"=some (some (.ref fM_Finder_number_of)))
  (dmi_Finder_number_of:PySem.W.isFn K (.ref fM_Finder_number_of)=true)
  (dml_Finder_number_of:K.lookup fM_Finder_number_of=some ⟨ocM_Finder_number_of,odM_Finder_number_of,.func (PySem.W.fnOf "number_of" "Finder.number_of" (defArgs (inClass (top 37) 1)) (defBody (inClass (top 37) 1)) (defScope (inClass (top 37) 1)) .none kVM_Finder_number_of dcM_Finder_number_of pmM_Finder_number_of anM_Finder_number_of cdM_Finder_number_of ctM_Finder_number_of),slM_Finder_number_of⟩)
  (dmc_Finder_number_of:PySem.W.codeIn K cdM_Finder_number_of "Finder.number_of"=true)
  (dmk_Finder_number_of:PySem.W.keepIn K (.ref fM_Finder_number_of)=true)
  :∃fd:FuncData,(∀(s:Shared) (v:Value),BindsTo s fd ⟨[v],[]⟩ [("_law_script",v)])∧∀base:Heap,K.In base→base.Ns mainGlobals mg→FnOk l.prog w K mg base (CX1 l.prog w) 30 fa fd ["_law_script"] (spLaw K):=by
 have e:=hfa.symm.trans (PySem.W.mg_of X G a32)
 cases e
 have T:Txt K mg q_NoShare q_NoTable q_TooMany q_Course q_Finder:=⟨PySem.W.mg_none_of X G z_abs,PySem.W.mg_none_of X G z_bool,PySem.W.mg_none_of X G z_enumerate,PySem.W.mg_none_of X G z_int,PySem.W.mg_none_of X G z_isinstance,PySem.W.mg_none_of X G z_len,PySem.W.mg_none_of X G z_list,PySem.W.mg_none_of X G z_max,PySem.W.mg_none_of X G z_min,PySem.W.mg_none_of X G z_range,PySem.W.mg_none_of X G z_sorted,PySem.W.mg_none_of X G z_sum,PySem.W.mg_none_of X G z_tuple,PySem.W.mg_none_of X G z_zip,⟨_,_,fun_mk l0 e0 k0,PySem.W.mg_of X G a0⟩,⟨_,_,fun_mk l1 e1 k1,PySem.W.mg_of X G a1⟩,⟨_,_,fun_mk l2 e2 k2,PySem.W.mg_of X G a2⟩,⟨_,_,fun_mk l3 e3 k3,PySem.W.mg_of X G a3⟩,⟨_,_,fun_mk l4 e4 k4,PySem.W.mg_of X G a4⟩,⟨_,_,fun_mk l5 e5 k5,PySem.W.mg_of X G a5⟩,⟨_,_,fun_mk l6 e6 k6,PySem.W.mg_of X G a6⟩,⟨_,_,fun_mk l7 e7 k7,PySem.W.mg_of X G a7⟩,⟨_,_,fun_mk l8 e8 k8,PySem.W.mg_of X G a8⟩,⟨_,_,fun_mk l9 e9 k9,PySem.W.mg_of X G a9⟩,⟨_,_,fun_mk l10 e10 k10,PySem.W.mg_of X G a10⟩,⟨_,_,fun_mk l11 e11 k11,PySem.W.mg_of X G a11⟩,⟨_,_,fun_mk l12 e12 k12,PySem.W.mg_of X G a12⟩,⟨_,_,fun_mk l13 e13 k13,PySem.W.mg_of X G a13⟩,⟨_,_,fun_mk l14 e14 k14,PySem.W.mg_of X G a14⟩,⟨_,_,fun_mk l15 e15 k15,PySem.W.mg_of X G a15⟩,⟨_,_,fun_mk l16 e16 k16,PySem.W.mg_of X G a16⟩,⟨_,_,fun_mk l17 e17 k17,PySem.W.mg_of X G a17⟩,⟨_,_,fun_mk l18 e18 k18,PySem.W.mg_of X G a18⟩,⟨_,_,fun_mk l19 e19 k19,PySem.W.mg_of X G a19⟩,⟨_,_,fun_mk l20 e20 k20,PySem.W.mg_of X G a20⟩,⟨_,_,fun_mk l21 e21 k21,PySem.W.mg_of X G a21⟩,⟨_,_,fun_mk l22 e22 k22,PySem.W.mg_of X G a22⟩,⟨_,_,fun_mk l23 e23 k23,PySem.W.mg_of X G a23⟩,⟨_,_,fun_mk l24 e24 k24,PySem.W.mg_of X G a24⟩,⟨_,_,fun_mk l25 e25 k25,PySem.W.mg_of X G a25⟩,⟨_,_,fun_mk l26 e26 k26,PySem.W.mg_of X G a26⟩,⟨_,_,fun_mk l27 e27 k27,PySem.W.mg_of X G a27⟩,⟨_,_,fun_mk l28 e28 k28,PySem.W.mg_of X G a28⟩,⟨_,_,fun_mk l29 e29 k29,PySem.W.mg_of X G a29⟩,⟨_,_,fun_mk l30 e30 k30,PySem.W.mg_of X G a30⟩,⟨_,_,fun_mk l31 e31 k31,PySem.W.mg_of X G a31⟩,⟨_,PySem.W.mg_of X G c_MOST_THROWS⟩,⟨_,PySem.W.mg_of X G c_MOST_BOTTOM⟩,⟨_,PySem.W.mg_of X G c_MOST_STATES⟩,PySem.W.mg_of X G k_NoShare,PySem.W.mg_of X G k_NoTable,PySem.W.mg_of X G k_TooMany,PySem.W.mg_of X G k_Course,PySem.W.mg_of X G k_Finder,x_NoShare,x_NoTable,x_TooMany,⟨cl_Coursepg,cl_Coursehd,cl_Coursepo,cl_Coursesa⟩,⟨cl_Finderpg,cl_Finderhd,cl_Finderpo,cl_Findersa⟩,na_Course_first,na_Course_mosts,na_Course_spots,na_Course_tables,na_Course_whats,na_Finder_numbers,na_Finder_states,⟨_,_,fun_mk dil_Course dic_Course dik_Course,⟨dim_Course,dia_Course,dii_Course,diq_Course⟩,PySem.W.mg_of X G k_Course⟩,⟨_,_,fun_mk dil_Finder dic_Finder dik_Finder,⟨dim_Finder,dia_Finder,dii_Finder,diq_Finder⟩,PySem.W.mg_of X G k_Finder⟩,⟨_,_,fun_mk dml_Course_asked dmc_Course_asked dmk_Course_asked,⟨dma_Course_asked,dmi_Course_asked,dmk_Course_asked⟩⟩,⟨_,_,fun_mk dml_Course_by_row dmc_Course_by_row dmk_Course_by_row,⟨dma_Course_by_row,dmi_Course_by_row,dmk_Course_by_row⟩⟩,⟨_,_,fun_mk dml_Course_by_value dmc_Course_by_value dmk_Course_by_value,⟨dma_Course_by_value,dmi_Course_by_value,dmk_Course_by_value⟩⟩,⟨_,_,fun_mk dml_Course_do dmc_Course_do dmk_Course_do,⟨dma_Course_do,dmi_Course_do,dmk_Course_do⟩⟩,⟨_,_,fun_mk dml_Course_end_worth dmc_Course_end_worth dmk_Course_end_worth,⟨dma_Course_end_worth,dmi_Course_end_worth,dmk_Course_end_worth⟩⟩,⟨_,_,fun_mk dml_Course_holds dmc_Course_holds dmk_Course_holds,⟨dma_Course_holds,dmi_Course_holds,dmk_Course_holds⟩⟩,⟨_,_,fun_mk dml_Course_open_rows dmc_Course_open_rows dmk_Course_open_rows,⟨dma_Course_open_rows,dmi_Course_open_rows,dmk_Course_open_rows⟩⟩,⟨_,_,fun_mk dml_Course_put dmc_Course_put dmk_Course_put,⟨dma_Course_put,dmi_Course_put,dmk_Course_put⟩⟩,⟨_,_,fun_mk dml_Course_start dmc_Course_start dmk_Course_start,⟨dma_Course_start,dmi_Course_start,dmk_Course_start⟩⟩,⟨_,_,fun_mk dml_Course_table_at dmc_Course_table_at dmk_Course_table_at,⟨dma_Course_table_at,dmi_Course_table_at,dmk_Course_table_at⟩⟩,⟨_,_,fun_mk dml_Course_what_at dmc_Course_what_at dmk_Course_what_at,⟨dma_Course_what_at,dmi_Course_what_at,dmk_Course_what_at⟩⟩,⟨_,_,fun_mk dml_Course_words_at dmc_Course_words_at dmk_Course_words_at,⟨dma_Course_words_at,dmi_Course_words_at,dmk_Course_words_at⟩⟩,⟨_,_,fun_mk dml_Finder_number_of dmc_Finder_number_of dmk_Finder_number_of,⟨dma_Finder_number_of,dmi_Finder_number_of,dmk_Finder_number_of⟩⟩⟩
 exact⟨_,fun s v=>.of_eq rfl,fun base _ _=>(ok_law T (fun_mk l32 e32 k32)).mono (by decide)⟩
theorem walk {l:PySem.W.OpenLaw} {q:Program} {loose:List Str} {XP:(Str→Option Value)→Heap→Prop} {YP:World→Heap→Prop} {d:DefRec} {K:Params→PySem.W.Frag} (hn:l.most=some 63) (hdf:d.params.defaults=[])
  (hY:∀(w:World) (h:Heap),YP w h→(K w.params).In h)
  (F:∀(w:World) (mg:Str→Option Value) (fa:Addr) (h:Heap),(K w.params).In h→h.Ns mainGlobals mg→mg d.name=some (.ref fa)→
   ∃fd:FuncData,(∀(s:Shared) (u:Value),BindsTo s fd ⟨[u],[]⟩ [("_law_script",u)])∧∀base:Heap,(K w.params).In base→base.Ns mainGlobals mg→FnOk l.prog w (K w.params) mg base (CX1 l.prog w) 30 fa fd ["_law_script"] (spLaw (K w.params))):
  PySem.W.WalkO q loose XP YP l.row.toRowW d [] (fun f vs=>PySem.call f vs):=
 L2.walk_of (n:=63) (k:=30) (x:="_law_script") (CX:=fun w=>CX1 l.prog w) (sp:=fun w=>spLaw (K w.params)) hn (by decide) hdf ⟨rfl,by decide,by decide⟩ hY F (fun _ _ a ns hl _ hS=>⟨a,ns,rfl,hS,hl,fun _=>rfl⟩) fun _ _ _ _ _ z=>(strict1 _ _) _ _ _ _ _ z
end K54
open PySem PySem.W PyProof.Rows
set_option maxRecDepth 100000 in
set_option maxHeartbeats 0 in
theorem PySem.Challenge.cw_pressluck_k54_deeds_done_holds : PySem.Challenge.rw_pressluck_k54_deeds_done.Holds := by
  w_on; refine holds_law (by decide +kernel) fun said => ?_
  refine holds_open (q := K54.vw) (loose := []) (Xt := (fun s => xlAt K54.vw [] s && recOk (RowW.records (OpenRow.toRowW (PySem.W.OpenLaw.row PySem.Challenge.rw_pressluck_k54_deeds_done))) s)) (XP := XL K54.vw []) (Yf := Hook.obs (kHook K54.pre.heap_1 K54.hka K54.hkp)) (Ya := Hook.val (kHook K54.pre.heap_1 K54.hka K54.hkp)) (YP := Hook.says (kHook K54.pre.heap_1 K54.hka K54.hkp)) (N := 6024) (Hd.left_runQ (by kernel_rfl) (by decide) (fun s => by kernel_rfl) K54.run) (Hook.of (kHook K54.pre.heap_1 K54.hka K54.hkp)) (Hook.keeps (kHook K54.pre.heap_1 K54.hka K54.hkp)) (fun s e => xl_of s (Bool.and_eq_true_iff.mp e).1) XL.keeps (by rfl) (by rfl) (by rfl) (fun s e => recFacts_of (Bool.and_eq_true_iff.mp e).2) (by rfl) (by first | assumption | decide +kernel) (by decide +kernel) ⟨rfl, rfl, rfl, rfl, rfl, by decide +kernel⟩ ?hw ?hc
  (case hw => w_witness2)
  k_fill
  refine K54.walk (l := PySem.Challenge.rw_pressluck_k54_deeds_done) rfl rfl (fun w h Y => PySem.W.kIn_of Y) ?F
  case F =>
    intro w mg fa h KX G hmg
    refine' K54.all_mk KX G hmg ?a0 ?l0 ?e0 ?k0 ?a1 ?l1 ?e1 ?k1 ?a2 ?l2 ?e2 ?k2 ?a3 ?l3 ?e3 ?k3 ?a4 ?l4 ?e4 ?k4 ?a5 ?l5 ?e5 ?k5 ?a6 ?l6 ?e6 ?k6 ?a7 ?l7 ?e7 ?k7 ?a8 ?l8 ?e8 ?k8 ?a9 ?l9 ?e9 ?k9 ?a10 ?l10 ?e10 ?k10 ?a11 ?l11 ?e11 ?k11 ?a12 ?l12 ?e12 ?k12 ?a13 ?l13 ?e13 ?k13 ?a14 ?l14 ?e14 ?k14 ?a15 ?l15 ?e15 ?k15 ?a16 ?l16 ?e16 ?k16 ?a17 ?l17 ?e17 ?k17 ?a18 ?l18 ?e18 ?k18 ?a19 ?l19 ?e19 ?k19 ?a20 ?l20 ?e20 ?k20 ?a21 ?l21 ?e21 ?k21 ?a22 ?l22 ?e22 ?k22 ?a23 ?l23 ?e23 ?k23 ?a24 ?l24 ?e24 ?k24 ?a25 ?l25 ?e25 ?k25 ?a26 ?l26 ?e26 ?k26 ?a27 ?l27 ?e27 ?k27 ?a28 ?l28 ?e28 ?k28 ?a29 ?l29 ?e29 ?k29 ?a30 ?l30 ?e30 ?k30 ?a31 ?l31 ?e31 ?k31 ?a32 ?l32 ?e32 ?k32 ?z_abs ?z_bool ?z_enumerate ?z_int ?z_isinstance ?z_len ?z_list ?z_max ?z_min ?z_range ?z_sorted ?z_sum ?z_tuple ?z_zip ?c_MOST_THROWS ?c_MOST_BOTTOM ?c_MOST_STATES ?k_NoShare ?k_NoTable ?k_TooMany ?k_Course ?k_Finder ?x_NoShare ?x_NoTable ?x_TooMany ?cl_Coursepg ?cl_Coursehd ?cl_Coursepo ?cl_Coursesa ?cl_Finderpg ?cl_Finderhd ?cl_Finderpo ?cl_Findersa ?na_Course_first ?na_Course_mosts ?na_Course_spots ?na_Course_tables ?na_Course_whats ?na_Finder_numbers ?na_Finder_states ?dia_Course ?dii_Course ?dil_Course ?dic_Course ?dik_Course ?dim_Course ?diq_Course ?dia_Finder ?dii_Finder ?dil_Finder ?dic_Finder ?dik_Finder ?dim_Finder ?diq_Finder ?dma_Course_asked ?dmi_Course_asked ?dml_Course_asked ?dmc_Course_asked ?dmk_Course_asked ?dma_Course_by_row ?dmi_Course_by_row ?dml_Course_by_row ?dmc_Course_by_row ?dmk_Course_by_row ?dma_Course_by_value ?dmi_Course_by_value ?dml_Course_by_value ?dmc_Course_by_value ?dmk_Course_by_value ?dma_Course_do ?dmi_Course_do ?dml_Course_do ?dmc_Course_do ?dmk_Course_do ?dma_Course_end_worth ?dmi_Course_end_worth ?dml_Course_end_worth ?dmc_Course_end_worth ?dmk_Course_end_worth ?dma_Course_holds ?dmi_Course_holds ?dml_Course_holds ?dmc_Course_holds ?dmk_Course_holds ?dma_Course_open_rows ?dmi_Course_open_rows ?dml_Course_open_rows ?dmc_Course_open_rows ?dmk_Course_open_rows ?dma_Course_put ?dmi_Course_put ?dml_Course_put ?dmc_Course_put ?dmk_Course_put ?dma_Course_start ?dmi_Course_start ?dml_Course_start ?dmc_Course_start ?dmk_Course_start ?dma_Course_table_at ?dmi_Course_table_at ?dml_Course_table_at ?dmc_Course_table_at ?dmk_Course_table_at ?dma_Course_what_at ?dmi_Course_what_at ?dml_Course_what_at ?dmc_Course_what_at ?dmk_Course_what_at ?dma_Course_words_at ?dmi_Course_words_at ?dml_Course_words_at ?dmc_Course_words_at ?dmk_Course_words_at ?dma_Finder_number_of ?dmi_Finder_number_of ?dml_Finder_number_of ?dmc_Finder_number_of ?dmk_Finder_number_of
    (case a0 => k_is)
    (case l0 => k_is)
    (case e0 => k_is)
    (case k0 => k_is)
    (case a1 => k_is)
    (case l1 => k_is)
    (case e1 => k_is)
    (case k1 => k_is)
    (case a2 => k_is)
    (case l2 => k_is)
    (case e2 => k_is)
    (case k2 => k_is)
    (case a3 => k_is)
    (case l3 => k_is)
    (case e3 => k_is)
    (case k3 => k_is)
    (case a4 => k_is)
    (case l4 => k_is)
    (case e4 => k_is)
    (case k4 => k_is)
    (case a5 => k_is)
    (case l5 => k_is)
    (case e5 => k_is)
    (case k5 => k_is)
    (case a6 => k_is)
    (case l6 => k_is)
    (case e6 => k_is)
    (case k6 => k_is)
    (case a7 => k_is)
    (case l7 => k_is)
    (case e7 => k_is)
    (case k7 => k_is)
    (case a8 => k_is)
    (case l8 => k_is)
    (case e8 => k_is)
    (case k8 => k_is)
    (case a9 => k_is)
    (case l9 => k_is)
    (case e9 => k_is)
    (case k9 => k_is)
    (case a10 => k_is)
    (case l10 => k_is)
    (case e10 => k_is)
    (case k10 => k_is)
    (case a11 => k_is)
    (case l11 => k_is)
    (case e11 => k_is)
    (case k11 => k_is)
    (case a12 => k_is)
    (case l12 => k_is)
    (case e12 => k_is)
    (case k12 => k_is)
    (case a13 => k_is)
    (case l13 => k_is)
    (case e13 => k_is)
    (case k13 => k_is)
    (case a14 => k_is)
    (case l14 => k_is)
    (case e14 => k_is)
    (case k14 => k_is)
    (case a15 => k_is)
    (case l15 => k_is)
    (case e15 => k_is)
    (case k15 => k_is)
    (case a16 => k_is)
    (case l16 => k_is)
    (case e16 => k_is)
    (case k16 => k_is)
    (case a17 => k_is)
    (case l17 => k_is)
    (case e17 => k_is)
    (case k17 => k_is)
    (case a18 => k_is)
    (case l18 => k_is)
    (case e18 => k_is)
    (case k18 => k_is)
    (case a19 => k_is)
    (case l19 => k_is)
    (case e19 => k_is)
    (case k19 => k_is)
    (case a20 => k_is)
    (case l20 => k_is)
    (case e20 => k_is)
    (case k20 => k_is)
    (case a21 => k_is)
    (case l21 => k_is)
    (case e21 => k_is)
    (case k21 => k_is)
    (case a22 => k_is)
    (case l22 => k_is)
    (case e22 => k_is)
    (case k22 => k_is)
    (case a23 => k_is)
    (case l23 => k_is)
    (case e23 => k_is)
    (case k23 => k_is)
    (case a24 => k_is)
    (case l24 => k_is)
    (case e24 => k_is)
    (case k24 => k_is)
    (case a25 => k_is)
    (case l25 => k_is)
    (case e25 => k_is)
    (case k25 => k_is)
    (case a26 => k_is)
    (case l26 => k_is)
    (case e26 => k_is)
    (case k26 => k_is)
    (case a27 => k_is)
    (case l27 => k_is)
    (case e27 => k_is)
    (case k27 => k_is)
    (case a28 => k_is)
    (case l28 => k_is)
    (case e28 => k_is)
    (case k28 => k_is)
    (case a29 => k_is)
    (case l29 => k_is)
    (case e29 => k_is)
    (case k29 => k_is)
    (case a30 => k_is)
    (case l30 => k_is)
    (case e30 => k_is)
    (case k30 => k_is)
    (case a31 => k_is)
    (case l31 => k_is)
    (case e31 => k_is)
    (case k31 => k_is)
    (case a32 => k_is)
    (case l32 => k_is)
    (case e32 => k_is)
    (case k32 => k_is)
    (case z_abs => k_is)
    (case z_bool => k_is)
    (case z_enumerate => k_is)
    (case z_int => k_is)
    (case z_isinstance => k_is)
    (case z_len => k_is)
    (case z_list => k_is)
    (case z_max => k_is)
    (case z_min => k_is)
    (case z_range => k_is)
    (case z_sorted => k_is)
    (case z_sum => k_is)
    (case z_tuple => k_is)
    (case z_zip => k_is)
    (case c_MOST_THROWS => k_is)
    (case c_MOST_BOTTOM => k_is)
    (case c_MOST_STATES => k_is)
    (case k_NoShare => k_is)
    (case k_NoTable => k_is)
    (case k_TooMany => k_is)
    (case k_Course => k_is)
    (case k_Finder => k_is)
    (case x_NoShare => first | k_is | kit_is | kernel_rfl)
    (case x_NoTable => first | k_is | kit_is | kernel_rfl)
    (case x_TooMany => first | k_is | kit_is | kernel_rfl)
    (case cl_Coursepg => k_is)
    (case cl_Coursehd => k_is)
    (case cl_Coursepo => k_is)
    (case cl_Coursesa => k_is)
    (case cl_Finderpg => k_is)
    (case cl_Finderhd => k_is)
    (case cl_Finderpo => k_is)
    (case cl_Findersa => k_is)
    (case na_Course_first => k_is)
    (case na_Course_mosts => k_is)
    (case na_Course_spots => k_is)
    (case na_Course_tables => k_is)
    (case na_Course_whats => k_is)
    (case na_Finder_numbers => k_is)
    (case na_Finder_states => k_is)
    (case dia_Course => k_is)
    (case dii_Course => k_is)
    (case dil_Course => k_is)
    (case dic_Course => k_is)
    (case dik_Course => k_is)
    (case dim_Course => k_is)
    (case diq_Course => k_is)
    (case dia_Finder => k_is)
    (case dii_Finder => k_is)
    (case dil_Finder => k_is)
    (case dic_Finder => k_is)
    (case dik_Finder => k_is)
    (case dim_Finder => k_is)
    (case diq_Finder => k_is)
    (case dma_Course_asked => k_is)
    (case dmi_Course_asked => k_is)
    (case dml_Course_asked => k_is)
    (case dmc_Course_asked => k_is)
    (case dmk_Course_asked => k_is)
    (case dma_Course_by_row => k_is)
    (case dmi_Course_by_row => k_is)
    (case dml_Course_by_row => k_is)
    (case dmc_Course_by_row => k_is)
    (case dmk_Course_by_row => k_is)
    (case dma_Course_by_value => k_is)
    (case dmi_Course_by_value => k_is)
    (case dml_Course_by_value => k_is)
    (case dmc_Course_by_value => k_is)
    (case dmk_Course_by_value => k_is)
    (case dma_Course_do => k_is)
    (case dmi_Course_do => k_is)
    (case dml_Course_do => k_is)
    (case dmc_Course_do => k_is)
    (case dmk_Course_do => k_is)
    (case dma_Course_end_worth => k_is)
    (case dmi_Course_end_worth => k_is)
    (case dml_Course_end_worth => k_is)
    (case dmc_Course_end_worth => k_is)
    (case dmk_Course_end_worth => k_is)
    (case dma_Course_holds => k_is)
    (case dmi_Course_holds => k_is)
    (case dml_Course_holds => k_is)
    (case dmc_Course_holds => k_is)
    (case dmk_Course_holds => k_is)
    (case dma_Course_open_rows => k_is)
    (case dmi_Course_open_rows => k_is)
    (case dml_Course_open_rows => k_is)
    (case dmc_Course_open_rows => k_is)
    (case dmk_Course_open_rows => k_is)
    (case dma_Course_put => k_is)
    (case dmi_Course_put => k_is)
    (case dml_Course_put => k_is)
    (case dmc_Course_put => k_is)
    (case dmk_Course_put => k_is)
    (case dma_Course_start => k_is)
    (case dmi_Course_start => k_is)
    (case dml_Course_start => k_is)
    (case dmc_Course_start => k_is)
    (case dmk_Course_start => k_is)
    (case dma_Course_table_at => k_is)
    (case dmi_Course_table_at => k_is)
    (case dml_Course_table_at => k_is)
    (case dmc_Course_table_at => k_is)
    (case dmk_Course_table_at => k_is)
    (case dma_Course_what_at => k_is)
    (case dmi_Course_what_at => k_is)
    (case dml_Course_what_at => k_is)
    (case dmc_Course_what_at => k_is)
    (case dmk_Course_what_at => k_is)
    (case dma_Course_words_at => k_is)
    (case dmi_Course_words_at => k_is)
    (case dml_Course_words_at => k_is)
    (case dmc_Course_words_at => k_is)
    (case dmk_Course_words_at => k_is)
    (case dma_Finder_number_of => k_is)
    (case dmi_Finder_number_of => k_is)
    (case dml_Finder_number_of => k_is)
    (case dmc_Finder_number_of => k_is)
    (case dmk_Finder_number_of => k_is)
