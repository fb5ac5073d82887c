import PyProof.Rows.All
import Wide.All
import OpenK.AllK
import Wide.FinOn
import Lean
import PyProof.EqAt
import PyProof.EqKinds
import PyProof.TupleCall
import PyProof.NeKinds
import PySem.Challenge.RW_pressluck_k33_visits_by_rows
set_option Elab.async false
set_option linter.all false
set_option maxRecDepth 100000
namespace Hd
open PySem PySem.W PyProof.Rows
noncomputable def runBy (ok:Thread→Bool) (st:SharedT→Thread→Option (SharedT×Thread)) (n:Nat):SharedT→Thread→Option SharedT:=
 @Nat.rec (fun _=>SharedT→Thread→Option SharedT) (fun _ _=>none)
  (fun _ ih s t=>@Bool.rec (fun _=>Option SharedT) (@Bool.rec (fun _=>Option SharedT) none (@Option.rec (SharedT×Thread) (fun _=>Option SharedT) none (fun r=>@Prod.rec _ _ (fun _=>Option SharedT) (fun a b=>ih a b) r) (st s t)) (ok t)) (some s) (through t)) n
theorem runBy_spec {tb:String→Option Builtin} {p:Program} {w:World} {n₀:Nat} {ann:Option Value}:∀(n:Nat) (s:SharedT) (t:Thread) (s':SharedT),runBy (stepOk n₀ ann) (stepT (denote tb) p w) n s t=some s'→topRun tb p w n₀ ann n s.abs t=some s'.abs
 | 0,_,_,_,h=>by cases h
 | n+1,s,t,s',h=>by
  unfold topRun
  replace h:@Bool.rec (fun _=>Option SharedT) (@Bool.rec (fun _=>Option SharedT) none (@Option.rec (SharedT×Thread) (fun _=>Option SharedT) none (fun r=>@Prod.rec _ _ (fun _=>Option SharedT) (fun a b=>runBy (stepOk n₀ ann) (stepT (denote tb) p w) n a b) r) (stepT (denote tb) p w s t)) (stepOk n₀ ann t)) (some s) (through t)=some s':=h
  cases ht:through t with
  | true=>rw[ht] at h;cases h;rfl
  | false=>
   rw[ht] at h
   cases hk:stepOk n₀ ann t with
   | false=>rw[hk] at h;cases h
   | true=>
    rw[hk] at h
    cases hs:stepT (denote tb) p w s t with
    | none=>rw[hs] at h;cases h
    | some r=>obtain⟨s₂,t₂⟩:=r;rw[hs] at h;rw[stepT_spec hs];exact runBy_spec n s₂ t₂ s' h
noncomputable def bt (P:Params):BT:=((boot_heap P).objs.toList.foldl (fun(x:BT×Nat) o=>(x.1.ins x.2 o,x.2+1)) (.nil,0)).1
noncomputable def bootT (w:World) (os:OsState):SharedT:=⟨bt w.params,11,{},Array.mk [],boot_drawn,boot_toks,os⟩
theorem bootT_abs (w:World) (os:OsState):(bootT w os).abs=⟨boot_heap w.params,Array.mk [],boot_drawn,boot_toks,os⟩:=by kernel_rfl
theorem bootT_size (w:World):((boot_heap w.params).isNs mainGlobals && (Array.mk []:Array GenState).size==0,(boot_heap w.params).objs.size,(boot_heap w.params).nsMap mainGlobals "__annotations__")=(true,11,some (.ref 6)):=by kernel_rfl
theorem left_run {p q:Program} {loose:List Str} {Xt:Shared→Bool} {α:Type} {Yf:Shared→α} {Ya:World→α} {N:Nat} {g0:Bool}
  (open_:∀w:World,(fencedOpening treeTable p w N).map (fun s=>(s.heap,s.gens,s.drawn,s.toks))=some (boot_heap w.params,Array.mk [],boot_drawn,boot_toks))
  (run:∀(w:World) (os:OsState),(runBy (stepOk 11 (some (.ref 6))) (stepT (denote treeTable) p w) N (bootT w os) (topStub p)).map (fun s=>((staticsOk (importedModules p.main.body) (boot_heap w.params) s.abs.heap && namesBound p s.abs.heap && gensDone s.abs && laidKept (boot_heap w.params) s.abs.heap),openSeen q loose (importedModules p.main.body) Xt g0 s.abs,Yf s.abs))=some (true,openGood q loose,Ya w)):
  LeftO p q loose Xt Yf Ya N g0:=fun w=>by
 obtain⟨⟨h,gs,d,k,os⟩,e,e'⟩:=Option.map_eq_some_iff.mp (open_ w)
 obtain⟨rfl,rfl,rfl,rfl⟩:h=boot_heap w.params∧gs=Array.mk []∧d=boot_drawn∧k=boot_toks:=by simpa using e'
 obtain⟨z1,z2,z3⟩:_∧_∧_:=by simpa only[Prod.mk.injEq] using bootT_size w
 obtain⟨s,r,l⟩:=Option.map_eq_some_iff.mp (run w os)
 obtain⟨l1,l2,l3⟩:_∧_∧_:=by simpa only[Prod.mk.injEq] using l
 have r:=runBy_spec _ _ _ _ r
 rw[bootT_abs] at r
 have t:topFrom treeTable p w N ⟨boot_heap w.params,Array.mk [],boot_drawn,boot_toks,os⟩=some s.abs:=by
  unfold topFrom
  dsimp only
  rw[z1,z2,z3,r]
  show(match staticsOk (importedModules p.main.body) (boot_heap w.params) s.abs.heap && namesBound p s.abs.heap && gensDone s.abs && laidKept (boot_heap w.params) s.abs.heap with | true=>_ | false=>_)=_
  rw[l1]
 unfold openEnds
 rw[e]
 show((topFrom treeTable p w N ⟨boot_heap w.params,Array.mk [],boot_drawn,boot_toks,os⟩)).map _=_
 rw[t]
 show some (_,_)=_
 rw[l2,l3]
noncomputable def Runs (p q:Program) (loose:List Str) (Xt:Shared→Bool) {α:Type} (Yf:Shared→α) (Ya:World→α) (N:Nat) (g0:Bool) (w:World):Prop:=
 ∀os:OsState,(runBy (PySem.W.Fast.tw6613529449190102663 11 (some (.ref 6))) (PySem.W.Fast.tw10156331382660048174 (PySem.W.Fast.tw11892475500146522536 PySem.W.Fast.tw14364793385576792824) p w) N (bootT w os) (topStub p)).map (fun s=>((staticsOk (importedModules p.main.body) (boot_heap w.params) s.abs.heap && namesBound p s.abs.heap && gensDone s.abs && laidKept (boot_heap w.params) s.abs.heap),PySem.W.Fast.tw4187177175401517315 q loose (importedModules p.main.body) Xt g0 s.abs,Yf s.abs))=some (true,openGood q loose,Ya w)
theorem left_runQ {p q:Program} {loose:List Str} {Xt:Shared→Bool} {α:Type} {Yf:Shared→α} {Ya:World→α} {N:Nat} {g0:Bool}
  (e:opening p=plainProg p.main.scope.names) (hN:Nat.ble 600 N=true) (f:∀s,fenceModules? p s=some s)
  (run:∀w:World,Runs p q loose Xt Yf Ya N g0 w):
  LeftO p q loose Xt Yf Ya N g0:=by
 refine left_run (boot_open e hN f) ?_
 unfold Runs at run
 rw[PySem.W.Fast.te6613529449190102663,PySem.W.Fast.te10156331382660048174,PySem.W.Fast.te11892475500146522536,PySem.W.Fast.te14364793385576792824,PySem.W.Fast.te4187177175401517315]
 exact run
end Hd
namespace K33
open PySem PySem.Spec PyProof.Rows
noncomputable def top (i:Nat):Stmt:=PySem.Challenge.pw_pressluck_k33_visits_by_rows.main.body.getD i (.Pass ⟨0,0,0,0⟩)
end K33
section Frnt
open PySem PySem.W PyProof.Rows
local macro_rules | `(tactic| o_head $H) => `(tactic| (refine (fun (_ : PySem.W.Hook) => ?_) $H; assumption))
theorem K33.pre (h:PySem.W.OpenRow.Holds (PySem.W.OpenLaw.row PySem.Challenge.rw_pressluck_k33_visits_by_rows)):PySem.W.OpenRow.Holds (PySem.W.OpenLaw.row PySem.Challenge.rw_pressluck_k33_visits_by_rows):=by
 k_head
noncomputable def K33.hka:List Addr:=[2,3,15,18,19,20,23,24,25,28,29,30,33,34,35,38,39,40,47,48,49,50,53,60,61,62,65,72,74,75,77,78,79,80,81,84,91,92,93,96,98,99,101,102,103,105,106,108,109,110,112,113,115,116,117,119,120,122,123,124,127,128,129,131,132,134,135,136,139,140,141,144,145,146,149,150,151,153,154,156,157,158,161,162,163,165,166,168,169,170,172,173,175,176,177,179,180,182,183,184,187,188,189,192,193,194,196,197,199,200,208,210,211,213,214,215,218,219,220,223,224,225,226,227,228,229,232,235,236,237,239,240,242,243,244,246,247,249,250,251,253,254,256,257,258,260,261,263,264,265,267,268,270,271,272,274,275,277,278,279,281,282,284,285,286,289,290,291,293,294,296,297,298,301,302,303,305,306,308,309,310,312,313,315,316,317,320,321,329,331,332,334,335,336,339,340,341,344,345,346,348,349,351,352]
theorem K33.hkp (P:PySem.Params):K33.hka=(K33.pre.heap_1 P).map (·.1):=by kernel_rfl
noncomputable def K33.vw:PySem.Program:={PySem.Challenge.pw_pressluck_k33_visits_by_rows with main:={PySem.Challenge.pw_pressluck_k33_visits_by_rows.main with body:=[K33.top 1,K33.top 2,K33.top 3,K33.top 4,K33.top 5,K33.top 7,K33.top 8,K33.top 9,K33.top 10,K33.top 12,K33.top 13,K33.top 15,K33.top 16,K33.top 17,K33.top 18,K33.top 19,K33.top 20,K33.top 21,K33.top 23,K33.top 24,K33.top 26,K33.top 27,K33.top 28,K33.top 29,K33.top 30,K33.top 31,K33.top 32,K33.top 33,K33.top 34,K33.top 35,K33.top 36,K33.top 38,K33.top 39,K33.top 40,K33.top 41,K33.top 42,K33.top 43,K33.top 44,K33.top 45,K33.top 46,K33.top 47,K33.top 48,K33.top 49,K33.top 50,K33.top 51,K33.top 52,K33.top 53,K33.top 54]}}
theorem K33.run (w:World):Hd.Runs (RowW.prog (OpenRow.toRowW (PySem.W.OpenLaw.row PySem.Challenge.rw_pressluck_k33_visits_by_rows))) K33.vw [] (fun s=>xlAt K33.vw [] s && recOk (RowW.records (OpenRow.toRowW (PySem.W.OpenLaw.row PySem.Challenge.rw_pressluck_k33_visits_by_rows))) s) (Hook.obs (PySem.W.kmHook K33.pre.heap_1 K33.hka K33.hkp [159])) (Hook.val (PySem.W.kmHook K33.pre.heap_1 K33.hka K33.hkp [159])) 4986 true w:=fun os=>by kernel_rfl
end Frnt
set_option tactic.hygienic false
set_option compiler.extract_closed false
local macro_rules | `(tactic| omega) => `(tactic| lia)
namespace L2
open PySem PySem.Spec PyProof.Rows
abbrev Key:=Sum Int Str
noncomputable def keyIs:Key→Value→Bool
 | .inl k,v=>Value.isInt k v
 | .inr x,v=>Value.isStrOf x v
noncomputable def keyH (w:World):Key→Int
 | .inl k=>hashInt k
 | .inr x=>hashStr w x
theorem keyIs_shape:∀{k:Key} {v:Value},keyIs k v=true→(∃i t,k=Sum.inl i∧v=Value.int i t)∨(∃x t,k=Sum.inr x∧v=Value.str x t)
 | .inl i,v,h=>by
  obtain⟨t,e⟩:=Value.isInt_shape (k:=i) (v:=v) h
  exact .inl ⟨i,t,rfl,e⟩
 | .inr x,v,h=>by
  obtain⟨t,e⟩:=Value.isStrOf_shape (x:=x) (v:=v) h
  exact .inr ⟨x,t,rfl,e⟩
theorem keyIs_int (i:Int) (t:Tok):keyIs (.inl i) (.int i t)=true:=by simp [keyIs,Value.isInt]
theorem keyIs_str (x:Str) (t:Tok):keyIs (.inr x) (.str x t)=true:=by simp [keyIs,Value.isStrOf]
theorem key_ll (a b:Int):decide ((Sum.inl a:Key)=Sum.inl b)=(a==b):=by
 by_cases e:a=b
 ·subst e;simp
 ·have h:¬(Sum.inl a:Key)=Sum.inl b:=fun q=>e (Sum.inl.inj q)
  rw[decide_eq_false h]
  exact(beq_eq_false_iff_ne.mpr e).symm
theorem key_rr (a b:Str):decide ((Sum.inr a:Key)=Sum.inr b)=decide (a=b):=by
 by_cases e:a=b
 ·subst e;simp
 ·have h:¬(Sum.inr a:Key)=Sum.inr b:=fun q=>e (Sum.inr.inj q)
  rw[decide_eq_false h,decide_eq_false e]
theorem key_lr (a:Int) (b:Str):decide ((Sum.inl a:Key)=Sum.inr b)=false:=decide_eq_false (fun q=>nomatch q)
theorem key_rl (a:Str) (b:Int):decide ((Sum.inr a:Key)=Sum.inl b)=false:=decide_eq_false (fun q=>nomatch q)
noncomputable def mixKind (prog:Program) (w:World):PySem.KeyKind prog w Key where
 is:=keyIs
 hash:=keyH w
 inj:=fun v a b ha hb=>by
  rcases keyIs_shape ha with ⟨i,t,rfl,rfl⟩ | ⟨x,t,rfl,rfl⟩
  ·rcases keyIs_shape hb with ⟨j,u,rfl,e⟩ | ⟨y,u,rfl,e⟩
   ·injection e with e1 _;rw[e1]
   ·exact nomatch e
  ·rcases keyIs_shape hb with ⟨j,u,rfl,e⟩ | ⟨y,u,rfl,e⟩
   ·exact nomatch e
   ·injection e with e1 _;rw[e1]
 byValue:=fun k v h=>by
  rcases keyIs_shape h with ⟨i,t,rfl,rfl⟩ | ⟨x,t,rfl,rfl⟩ <;>rfl
 pyHash:=fun hv h=>by
  rcases keyIs_shape hv with ⟨i,t,rfl,rfl⟩ | ⟨x,t,rfl,rfl⟩
  ·exact wpAny_pyHash_int h
  ·exact wpAny_pyHash_str h
 eqBool:=fun hu hv h=>by
  rcases keyIs_shape hu with ⟨i,t,rfl,rfl⟩ | ⟨x,t,rfl,rfl⟩
  ·rcases keyIs_shape hv with ⟨j,u,rfl,rfl⟩ | ⟨y,u,rfl,rfl⟩
   ·rw[key_ll] at h;exact wpAny_eqBool_int h
   ·rw[key_lr] at h;exact SeqAt.EqAt.int_str i t y u _ _ _ _ h
  ·rcases keyIs_shape hv with ⟨j,u,rfl,rfl⟩ | ⟨y,u,rfl,rfl⟩
   ·rw[key_rl] at h;exact SeqAt.EqAt.str_int x t j u _ _ _ _ h
   ·rw[key_rr] at h;exact wpAny_eqBool_str h
 «strs»:=fun k x t v h=>by
  rcases keyIs_shape h with ⟨i,u,rfl,e⟩ | ⟨y,u,rfl,e⟩
  ·exact nomatch e
  ·injection e with e1 _
   subst e1
   cases v <;>rfl
theorem mixKind_int (prog:Program) (w:World) (i:Int) (t:Tok):(mixKind prog w).is (.inl i) (.int i t)=true:=keyIs_int i t
theorem mixKind_str (prog:Program) (w:World) (x:Str) (t:Tok):(mixKind prog w).is (.inr x) (.str x t)=true:=keyIs_str x t
end L2
namespace L2
open PySem PySem.Spec PyProof.Rows
inductive V where
 | non | bl (b:Bool) | int (i:Int) | str (x:Str) | byt (b:Array UInt8) | flt (b:UInt64) | ref (a:Addr) | ty (n:String)
 deriving DecidableEq
noncomputable def RelV:V→Value→Prop
 | .non,u=>u=Value.none
 | .bl b,u=>u=Value.bool b
 | .int i,u=>∃t,u=Value.int i t
 | .str x,u=>∃t,u=Value.str x t
 | .byt b,u=>∃t,u=Value.bytes b t
 | .flt b,u=>∃t,u=Value.float b t
 | .ref a,u=>u=Value.ref a
 | .ty n,u=>u=Value.type n
abbrev Vals:List V→List Value→Prop:=Paired RelV
theorem Vals.length {xs:List V} {us:List Value} (r:Vals xs us):xs.length=us.length:=Paired.length r
theorem Vals.get:∀{xs:List V} {us:List Value} {i:Nat} {x:V},Vals xs us→xs[i]?=some x→∃u,us[i]?=some u∧RelV x u
 | _,_,_,_,.nil,e=>by simp at e
 | _,_,0,_,.cons r _,e=>by simp at e;subst e;exact⟨_,rfl,r⟩
 | _,_,i+1,x,.cons _ t,e=>by
  obtain⟨u,h1,h2⟩:=Vals.get (i:=i) (x:=x) t (by simpa using e)
  exact⟨u,by simpa using h1,h2⟩
theorem Vals.set {x:V} {u:Value} (r:RelV x u):∀{xs:List V} {us:List Value} (i:Nat),Vals xs us→Vals (xs.set i x) (us.set i u)
 | _,_,_,.nil=>.nil
 | _,_,0,.cons _ t=>.cons r t
 | _,_,i+1,.cons q t=>.cons q (Vals.set r i t)
theorem Vals.append:∀{xs ys:List V} {us ws:List Value},Vals xs us→Vals ys ws→Vals (xs++ys) (us++ws)
 | _,_,_,_,.nil,s=>s
 | _,_,_,_,.cons r t,s=>.cons r (Vals.append t s)
theorem Vals.take:∀{xs:List V} {us:List Value} (n:Nat),Vals xs us→Vals (xs.take n) (us.take n)
 | _,_,0,_=>.nil
 | _,_,_+1,.nil=>.nil
 | _,_,n+1,.cons r t=>.cons r (Vals.take n t)
theorem Vals.drop:∀{xs:List V} {us:List Value} (n:Nat),Vals xs us→Vals (xs.drop n) (us.drop n)
 | _,_,0,r=>r
 | _,_,_+1,.nil=>.nil
 | _,_,n+1,.cons _ t=>Vals.drop n t
noncomputable def RelO:Option V→Option Value→Prop
 | some v,some u=>RelV v u
 | none,none=>True
 | _,_=>False
noncomputable def KV {κ:Type}:List (κ×V)→List (κ×Value)→Prop:=Paired fun(p:κ×V) (q:κ×Value)=>p.1=q.1∧RelV p.2 q.2
noncomputable def kV:Key→V
 | .inl i=>.int i
 | .inr x=>.str x
inductive HO where
 | lst (xs:List V)
 | tup (xs:List V)
 | dK (kvs:List (Key×V)) | dT (kvs:List (List Key×V))
 | set (S:Int→Bool) (n:Nat)
 | ins (C dx:Addr) (fs:List (Str×V))
 | own (x:Addr)
 | xd (fs:List (Str×V))
 | met (f x:Addr)
 | rng (lo hi:Int)
 | frz (o:Obj) (u:HO)
 | tbl (ps:Array Value)
 | ext (φ:Heap→Prop)
abbrev Hp:=Addr→Option HO
noncomputable def upd (H:Hp) (a:Addr) (o:HO):Hp:=fun b=>if b=a then some o else H b
theorem upd_same {H:Hp} {a:Addr} {o:HO}:upd H a o a=some o:=by unfold upd;rw[if_pos rfl]
theorem upd_ne {H:Hp} {a b:Addr} {o:HO} (h:b≠a):upd H a o b=H b:=by unfold upd;rw[if_neg h]
theorem upd_upd {H:Hp} {a:Addr} {o u:HO}:upd (upd H a o) a u=upd H a u:=by
 funext b;unfold upd;split <;>rfl
theorem ne_of {H:Hp} {a b:Addr} {o u:HO} (h:H a=some o) (h':H b=some u) (d:o≠u):a≠b:=by
 intro e;subst e;rw[h] at h';exact d (Option.some.inj h')
theorem ne_of_none {H:Hp} {a b:Addr} {o:HO} (h:H a=some o) (h':H b=none):a≠b:=by
 intro e;subst e;rw[h] at h';cases h'
noncomputable def TabAt (H:Hp) (h:Heap) (a:Addr) (ps:Array Value):Prop:=∃mo:Array Value,h.get? a=some {cls:=.none,data:=.fields mo}∧
 (mo=#[]∨∃(l c:Value) (c1:Addr) (q:Str) (t:Tok),ps=#[l,c,.str q t]∧mo=#[l,c,.ref c1]∧H c1=some (.own a)∧h.CodeRec (.ref c1) q)
section
variable (P : Program) (w : World)
noncomputable def ObjOk (H:Hp) (h:Heap) (a:Addr):HO→Prop
 | .lst xs=>xs.length≤sizeLine∧∃(its:List Value) (n:Nat),Vals xs its∧h.get? a=some {cls:=.type "list",data:=.seq its.toArray n}
 | .tup xs=>xs.length≤sizeLine∧∃its:List Value,Vals xs its∧IsTup h a its.toArray
 | .dK kvs=>kvs.length≤sizeLine∧(a==sysModules)=false∧∃vs,KV kvs vs∧h.DictOf (mixKind P w) a vs
 | .dT kvs=>kvs.length≤sizeLine∧(a==sysModules)=false∧∃xs:List (List Key×Addr×Value),
   Paired (fun(p:List Key×V) (q:List Key×Addr×Value)=>p.1=q.1∧H q.2.1=some (.tup (p.1.map kV))∧RelV p.2 q.2.2) kvs xs∧
   ∃o es ep,h.get? a=some o∧o.ExactDict∧o.data=.dict es ep∧es.toList=xs.map (entryOfKey (tupleKind (mixKind P w)))∧(xs.map (·.1)).Nodup
 | .set S n=>h.SetOf (intKind P w) a S n
 | .ins C dx fs=>H dx=some (.own a)∧fs.length≤1000∧dx≠a∧h.get? a=some (PySem.W.instObj C dx)∧
   ∃mA,h.Ns1 dx mA∧(∀f,RelO (fs.lookup f) (mA f))∧PySem.Within mA (fs.map (·.1))
 | .own _=>∃o,h.get? a=some o
 | .xd fs=>∃mA,h.Ns1 a mA∧∀f,RelO (fs.lookup f) (mA f)
 | .rng lo hi=>∃t u v,h.get? a=some {cls:=.type "range",data:=.fields #[.int lo t,.int hi u,.int 1 v]}
 | .frz o u=>h.get? a=some o∧ObjOk H h a u
 | .tbl ps=>TabAt H h a ps
 | .met f x=>h.get? a=some (PySem.W.methodObj (.ref f) (.ref x))
 | .ext φ=>φ h∧(∃o,h.get? a=some o)∧∀h1 h2:Heap,φ h1→(∀o,h1.get? a=some o→h2.get? a=some o)→φ h2
noncomputable def HOk (H:Hp) (h:Heap):Prop:=∀a o,H a=some o→ObjOk P w H h a o
end
section
variable {P : Program} {w : World} {H H' : Hp} {h h' : Heap} {a : Addr} {o : HO}
theorem ObjOk.lt (x:ObjOk P w H h a o):a<h.objs.size:=by
 cases o with
 | lst xs=>obtain⟨_,_,_,_,e⟩:=x;exact Heap.lt_size e
 | tup xs=>obtain⟨_,_,_,p⟩:=x;exact p.lt
 | dK kvs=>obtain⟨_,_,_,_,o,_,_,e,_⟩:=x;exact Heap.lt_size e
 | dT kvs=>obtain⟨_,_,_,_,o,_,_,e,_⟩:=x;exact Heap.lt_size e
 | set S n=>obtain⟨o,_,_,_,e,_⟩:=x;exact Heap.lt_size e
 | ins C dx fs=>obtain⟨_,_,_,e,_⟩:=x;exact Heap.lt_size e
 | own y=>obtain⟨_,e⟩:=x;exact Heap.lt_size e
 | xd fs=>obtain⟨_,⟨_,_,_,e,_⟩,_⟩:=x;exact Heap.lt_size e
 | rng lo hi=>obtain⟨_,_,_,e⟩:=x;exact Heap.lt_size e
 | frz ob u=>obtain⟨e,_⟩:=x;exact Heap.lt_size e
 | tbl ps=>obtain⟨_,e,_⟩:=x;exact Heap.lt_size e
 | met f y=>exact Heap.lt_size (show h.get? a=some _ from x)
 | ext φ=>obtain⟨_,⟨_,e⟩,_⟩:=x;exact Heap.lt_size e
theorem Paired.mapP {α β:Type} {F G:α→β→Prop}:∀{l₁:List α} {l₂:List β},Paired F l₁ l₂→(∀a b,F a b→G a b)→Paired G l₁ l₂
 | _,_,.nil,_=>.nil
 | _,_,.cons r t,f=>.cons (f _ _ r) (Paired.mapP t f)
theorem ObjOk.stay (x:ObjOk P w H h a o) (k:∀b u,(b=a∨H b=some (.own a))→h.get? b=some u→h'.get? b=some u)
  (ho:∀b,H b=some (.own a)→H' b=some (.own a)) (ht:∀b xs,H b=some (.tup xs)→H' b=some (.tup xs)):ObjOk P w H' h' a o:=by
 induction o with
 | lst xs=>obtain⟨z,its,n,r,e⟩:=x;exact⟨z,its,n,r,k _ _ (.inl rfl) e⟩
 | tup xs=>obtain⟨z,its,r,ob,e,c⟩:=x;exact⟨z,its,r,ob,k _ _ (.inl rfl) e,c⟩
 | dK kvs=>obtain⟨z,y,vs,r,ob,es,ep,e,c⟩:=x;exact⟨z,y,vs,r,ob,es,ep,k _ _ (.inl rfl) e,c⟩
 | dT kvs=>
  obtain⟨z,y,xs,r,ob,es,ep,e,c⟩:=x
  exact⟨z,y,xs,Paired.mapP r fun p q z=>⟨z.1,ht _ _ z.2.1,z.2.2⟩,ob,es,ep,k _ _ (.inl rfl) e,c⟩
 | set S n=>obtain⟨ob,es,ep,t,e,c⟩:=x;exact⟨ob,es,ep,t,k _ _ (.inl rfl) e,c⟩
 | ins C dx fs=>
  obtain⟨d,z,ne,e,mA,⟨od,es,ep,e2,c⟩,r⟩:=x
  exact⟨ho _ d,z,ne,k _ _ (.inl rfl) e,mA,⟨od,es,ep,k _ _ (.inr d) e2,c⟩,r⟩
 | own y=>obtain⟨ob,e⟩:=x;exact⟨ob,k _ _ (.inl rfl) e⟩
 | xd fs=>obtain⟨mA,⟨od,es,ep,e,c⟩,r⟩:=x;exact⟨mA,⟨od,es,ep,k _ _ (.inl rfl) e,c⟩,r⟩
 | rng lo hi=>obtain⟨t,u,v,e⟩:=x;exact⟨t,u,v,k _ _ (.inl rfl) e⟩
 | frz ob u ih=>obtain⟨e,q⟩:=x;exact⟨k _ _ (.inl rfl) e,ih q⟩
 | tbl ps=>
  obtain⟨mo,e,q⟩:=x
  refine⟨mo,k _ _ (.inl rfl) e,?_⟩
  rcases q with q | ⟨l,c,c1,qn,t,e1,e2,e3,c2,o2,vs2,t2,f1,f2,f3,f4⟩
  ·exact .inl q
  ·cases f1
   exact .inr ⟨l,c,c1,qn,t,e1,e2,ho _ e3,c1,o2,vs2,t2,rfl,k _ _ (.inr e3) f2,f3,f4⟩
 | met f y=>
  have e:h.get? a=some (PySem.W.methodObj (.ref f) (.ref y)):=x
  show h'.get? a=some (PySem.W.methodObj (.ref f) (.ref y))
  exact k a _ (.inl rfl) e
 | ext φ=>obtain⟨p,⟨o,e⟩,st⟩:=x;exact⟨st _ _ p fun o q=>k _ _ (.inl rfl) q,⟨o,k _ _ (.inl rfl) e⟩,st⟩
theorem HOk.lt (x:HOk P w H h) (e:H a=some o):a<h.objs.size:=(x a o e).lt
theorem HOk.fresh (x:HOk P w H h) (e:h.objs.size≤a):H a=none:=by
 cases q:H a with
 | none=>rfl
 | some u=>exact absurd (Nat.lt_of_lt_of_le (x.lt q) e) (Nat.lt_irrefl _)
theorem HOk.kept (x:HOk P w H h) (k:∀b u,h.get? b=some u→h'.get? b=some u):HOk P w H h':=fun a o e=>
 (x a o e).stay (fun b u _ q=>k b u q) (fun _ q=>q) fun _ _ q=>q
theorem HOk.laid (x:HOk P w H h) (k:∀b u,h.get? b=some u→h'.get? b=some u) (hp:h.objs.size≤a) (new:ObjOk P w (upd H a o) h' a o):HOk P w (upd H a o) h':=fun b u e=>by
 have hn:=x.fresh hp
 by_cases hb:b=a
 ·subst hb;rw[upd_same] at e;cases e;exact new
 ·rw[upd_ne hb] at e
  exact(x b u e).stay (fun c v _ q=>k c v q) (fun c q=>by rw[upd_ne (ne_of_none q hn)];exact q) fun c xs q=>by rw[upd_ne (ne_of_none q hn)];exact q
end
noncomputable def Rd (H:Hp) (a:Addr) (u:HO):Prop:=H a=some u∨∃o,H a=some (.frz o u)
theorem Rd.ok {P:Program} {w:World} {H:Hp} {h:Heap} {a:Addr} {u:HO} (r:Rd H a u) (x:HOk P w H h):ObjOk P w H h a u:=by
 rcases r with r | ⟨o,r⟩
 ·exact x a u r
 ·obtain⟨_,q⟩:=x a _ r
  exact q
noncomputable def Mut:Option HO→Prop
 | some (.lst _)=>True
 | some (.dK _)=>True
 | some (.dT _)=>True
 | some (.set _ _)=>True
 | some (.ins _ _ _)=>True
 | some (.ext _)=>True
 | _=>False
section
variable {P : Program} {w : World} {H : Hp} {h h' : Heap} {x e : Addr} {o' : HO}
theorem HOk.write (ok:HOk P w H h) (mu:Mut (H x)) (he:e=x∨H e=some (.own x)) (k:∀b u,b≠e→h.get? b=some u→h'.get? b=some u) (heo:∃u,h'.get? e=some u)
  (new:ObjOk P w (upd H x o') h' x o'):HOk P w (upd H x o') h':=fun b u q=>by
 have nown:∀c y,H c=some (.own y)→c≠x:=fun c y r z=>by subst z;rw[r] at mu;exact mu
 have ntup:∀c xs,H c=some (.tup xs)→c≠x:=fun c xs r z=>by subst z;rw[r] at mu;exact mu
 by_cases hb:b=x
 ·subst hb;rw[upd_same] at q;cases q;exact new
 ·rw[upd_ne hb] at q
  by_cases hbe:b=e
  ·have q':H b=some (.own x):=by
    rcases he with z | z
    ·exact absurd (hbe.trans z) hb
    ·rw[hbe];exact z
   rw[q] at q';cases q'
   obtain⟨v,hv⟩:=heo
   exact⟨v,by rw[hbe];exact hv⟩
  ·refine(ok b u q).stay (fun c v hc r=>k c v ?_ r) (fun c r=>by rw[upd_ne (nown c b r)];exact r) fun c xs r=>by rw[upd_ne (ntup c xs r)];exact r
   rcases hc with rfl | hc
   ·exact hbe
   ·rintro rfl
    rcases he with z | z
    ·exact nown c b hc z
    ·rw[hc] at z;cases z;exact hb rfl
end
structure Un (fs ex:List Addr) (H H':Hp) (h h':Heap):Prop where
 keep:∀b o,h.get? b=some o→H b=none→b∉fs→b∉ex→h'.get? b=some o
 slot:∀b o,h.get? b=some o→H b=none→b∈fs→b∉ex→∃sl,h'.get? b=some {o with slots:=sl}
 free:∀b o,h.get? b=some o→H b=none→b∉ex→H' b=none
 there:∀b o,h.get? b=some o→b∉ex→∃o',h'.get? b=some o'
 tups:∀b xs,H b=some (.tup xs)→H' b=some (.tup xs)
 frzs:∀b o u,H b=some (.frz o u)→H' b=some (.frz o u)
 tbls:∀b ps,H b=some (.tbl ps)→∃more,H' b=some (.tbl (ps++more))
section
variable {fs fs' ex ex' : List Addr} {H H1 H2 : Hp} {h h1 h2 h' : Heap} {a x e : Addr} {o : HO}
theorem Un.any (u:Un fs ex H H1 h h1) {b:Addr} {ob:Obj} (q:h.get? b=some ob) (n:H b=none) (hx:b∉ex):∃sl,h1.get? b=some {ob with slots:=sl}:=by
 by_cases hb:b∈fs
 ·exact u.slot b ob q n hb hx
 ·exact⟨ob.slots,u.keep b ob q n hb hx⟩
theorem Un.kept (k:∀b u,h.get? b=some u→h'.get? b=some u):Un fs ex H H h h':=
 ⟨fun b ob q _ _ _=>k b ob q,fun b ob q _ _ _=>⟨ob.slots,k b ob q⟩,fun _ _ _ n _=>n,fun b ob q _=>⟨ob,k b ob q⟩,fun _ _ q=>q,fun _ _ _ q=>q,fun _ ps q=>⟨#[],by rw[q];simp⟩⟩
theorem Un.refl:Un fs ex H H h h:=Un.kept fun _ _ q=>q
theorem Un.laid (k:∀b u,h.get? b=some u→h'.get? b=some u) (hp:h.objs.size≤a) (hn:H a=none):Un fs ex H (upd H a o) h h' where
 keep:=fun b u q _ _ _=>k b u q
 slot:=fun b u q _ _ _=>⟨u.slots,k b u q⟩
 free:=fun b u q n _=>by rw[upd_ne (Nat.ne_of_lt (Nat.lt_of_lt_of_le (Heap.lt_size q) hp))];exact n
 there:=fun b u q _=>⟨u,k b u q⟩
 tups:=fun b xs q=>by rw[upd_ne (ne_of_none q hn)];exact q
 frzs:=fun b u xs q=>by rw[upd_ne (ne_of_none q hn)];exact q
 tbls:=fun b ps q=>⟨#[],by rw[upd_ne (ne_of_none q hn),q];simp⟩
theorem Un.write (mu:Mut (H x)) (he:e=x∨H e=some (.own x)) (k:∀b u,b≠e→h.get? b=some u→h'.get? b=some u) (heo:∃u,h'.get? e=some u):Un fs ex H (upd H x o) h h':=by
 have hx:∀b,H b=none→b≠x:=fun b n z=>by subst z;rw[n] at mu;exact mu
 have hb:∀b,H b=none→b≠e:=fun b n z=>by
  subst z
  rcases he with r | r
  ·exact hx b n r
  ·rw[n] at r;cases r
 have hm:∀b u,H b=some u→¬Mut (some u)→b≠x:=fun b u q nm z=>by subst z;rw[q] at mu;exact nm mu
 refine⟨fun b u q n _ _=>k b u (hb b n) q,fun b u q n _ _=>⟨u.slots,k b u (hb b n) q⟩,fun b u q n _=>by rw[upd_ne (hx b n)];exact n,fun b u q _=>?_,
  fun b xs q=>by rw[upd_ne (hm b _ q fun z=>z)];exact q,fun b u xs q=>by rw[upd_ne (hm b _ q fun z=>z)];exact q,fun b ps q=>⟨#[],by rw[upd_ne (hm b _ q fun z=>z),q];simp⟩⟩
 by_cases hbe:b=e
 ·subst hbe;exact heo
 ·exact⟨u,k b u hbe q⟩
end
noncomputable def trk (h:Heap) (H:Hp):List Addr:=(List.range h.objs.size).filter fun a=>(H a).isSome
noncomputable def hidT (h:Heap) (H:Hp):Heap:=PySem.W.hideAll h (trk h H)
theorem hidT_size (h:Heap) (H:Hp):(hidT h H).objs.size=h.objs.size:=PySem.W.hideAll_size _ _
theorem hidT_get {h:Heap} {H:Hp} {b:Addr} {o:Obj} (e:h.get? b=some o) (n:H b=none):(hidT h H).get? b=some o:=
 PySem.W.hideAll_get _ e fun hm=>by
  have q:(H b).isSome=true:=(List.mem_filter.mp hm).2
  rw[n] at q;simp at q
theorem of_hidT {h:Heap} {H:Hp} {b:Addr} {o:Obj} (e:(hidT h H).get? b=some o):h.get? b=some o∧H b=none:=by
 have e':h.get? b=some o:=PySem.W.of_hideAll (trk h H) e
 refine⟨e',?_⟩
 cases q:H b with
 | none=>rfl
 | some x=>
  have hm:b∈trk h H:=List.mem_filter.mpr ⟨List.mem_range.mpr (Heap.lt_size e'),by simp [q]⟩
  have z:(hidT h H).get? b=none:=PySem.W.hideAll_none (trk h H) hm
  rw[z] at e;cases e
noncomputable def allNews (g h:Heap) (L:Addr):List (Addr×Obj):=(List.range h.objs.size).filterMap fun a=>if a=L∨(g.get? a).isSome=true then none else (h.get? a).map fun o=>(a,o)
noncomputable def rest (g h:Heap) (L d:Addr):List (Addr×Obj):=(allNews g h L).filter fun p=>decide (p.1≠d)
end L2
namespace L2
open PySem PySem.Spec PyProof.Rows
structure Mod (K:PySem.W.Frag) (mg:Str→Option Value) (base:Heap):Prop where
 kin:K.In base
 glob:base.Ns mainGlobals mg
 blt:∃mb,base.Ns builtinsNs mb∧∀x:Str,x≠"__name__"→mb x=bootBuiltins x
 nolimit:base.NoLimit
structure Cx where
 prog:Program
 w:World
 K:PySem.W.Frag
 mg:Str→Option Value
 base:Heap
 A:Around
 N:List Str
 s₀:Shared
 H₀:Hp
 env:Env
 outer:List Env
 stack:List Env
 ex:List Addr
 fn:Str→Bool
 calm:Bool
 pn:List (Addr×Obj)
 xe:Value→Shared→Prop
def frs (l:List Env):List Addr:=l.filterMap (·.frame)
abbrev Cx.fs (X:Cx):List Addr:=frs X.outer
noncomputable def Vis (sc:Scope) (x:Str):Prop:=sc.names.lookup x=some .local∨sc.names.lookup x=some .cell∨sc.names.lookup x=some .free
noncomputable def Loc (sc:Scope) (x:Str):Prop:=sc.names.lookup x=some .local∨sc.names.lookup x=some .cell
noncomputable def Look (env:Env) (h:Heap) (m:Str→Option Value) (x:Str) (u:Value):Prop:=
 (env.kindOf x=some .local∧m x=some u)∨((env.kindOf x=some .cell∨env.kindOf x=some .free)∧∃c,env.cells.lookup x=some c∧h.IsCell c (some u))
structure Cx.Ok (X:Cx):Prop where
 mod:Mod X.K X.mg X.base
 kind:X.env.scope.kind=.function
 glob:X.env.globals=mainGlobals
 blt:X.env.builtins=builtinsNs
 above:X.s₀.heap.objs.size≤X.env.locals
 inj:∀x y c,X.env.cells.lookup x=some c→X.env.cells.lookup y=some c→x=y
 has:∀x,(X.env.kindOf x=some .cell∨X.env.kindOf x=some .free)→∃c,X.env.cells.lookup x=some c
 cab:∀x c,X.fn x=true→X.env.cells.lookup x=some c→X.s₀.heap.objs.size≤c
 hd:X.calm=true→X.A.handled=none
 frames:X.A.frames=some X.stack
 stk:X.stack=X.outer∨(X.stack=X.env::X.outer∧X.env.frame=some X.env.locals)
 exf:∀b∈X.ex,b≠X.env.locals∧∀x c,X.env.cells.lookup x=some c→c≠b
 bs:∀b o,X.base.get? b=some o→X.s₀.heap.get? b=some o∧X.H₀ b=none
 bsz:X.base.objs.size≤X.s₀.heap.objs.size
 noex:∀b o,X.base.get? b=some o→b∉X.ex
 exfs:∀b∈X.ex,b∉X.fs
 funs:X.s₀.heap.FunFrames X.base X.outer
 frf:∀b∈X.fs,X.H₀ b=none
structure Inv (X:Cx) (pins:List (Addr×Obj)) (σ:List (Option V)) (H:Hp) (s:Shared):Prop where
 ok:X.Ok
 os:s.os=X.s₀.os
 bare:AllBare s.gens
 base:Un X.fs X.ex X.H₀ H X.s₀.heap s.heap
 loc:∃m,s.heap.Ns X.env.locals m∧∀(i:Nat) (x:Str) (v:V),X.N[i]?=some x→σ[i]?=some (some v)→Vis X.env.scope x→∃u,RelV v u∧Look X.env s.heap m x u
 cell:∀x c,X.env.cells.lookup x=some c→∃v,s.heap.IsCell c v
 free:H X.env.locals=none
 freeC:∀x c,X.env.cells.lookup x=some c→H c=none
 pin:∀p∈X.pn++pins,s.heap.get? p.1=some p.2∧H p.1=none∧p.1≠X.env.locals∧p.1∉X.fs∧∀v,p.2.data≠.cell v
 hok:HOk X.prog X.w H s.heap
 len:σ.length=X.N.length
section
variable {X : Cx} {pins : List (Addr × Obj)} {σ : List (Option V)} {H H' : Hp} {s : Shared} {h' : Heap}
theorem Cx.Ok.nofr (ok:X.Ok) {b:Addr} {o:Obj} (e:X.base.get? b=some o):b∉X.fs:=fun hb=>by
 have:=(ok.funs.mem hb).1
 rw[e] at this;cases this
theorem Inv.bs (I:Inv X pins σ H s):∀b o,X.base.get? b=some o→s.heap.get? b=some o∧H b=none:=fun b o e=>
 ⟨I.base.keep b o (I.ok.bs b o e).1 (I.ok.bs b o e).2 (I.ok.nofr e) (I.ok.noex b o e),I.base.free b o (I.ok.bs b o e).1 (I.ok.bs b o e).2 (I.ok.noex b o e)⟩
theorem Inv.bk (I:Inv X pins σ H s):∀b o,X.base.get? b=some o→s.heap.get? b=some o:=fun b o e=>(I.bs b o e).1
theorem Inv.mod (I:Inv X pins σ H s):Mod X.K X.mg X.base:=I.ok.mod
theorem Inv.kIn (I:Inv X pins σ H s):X.K.In s.heap:=I.ok.mod.kin.keeps I.bk
theorem Inv.lt (I:Inv X pins σ H s):X.env.locals<s.heap.objs.size:=let ⟨_,hn,_⟩:=I.loc;hn.lt
theorem Inv.sz (I:Inv X pins σ H s):X.s₀.heap.objs.size≤s.heap.objs.size:=Nat.le_trans I.ok.above (Nat.le_of_lt I.lt)
theorem Inv.nofs (I:Inv X pins σ H s) {a:Addr} (h:s.heap.objs.size≤a):a∉X.fs:=fun hb=>by
 obtain⟨_,o,ho,_⟩:=I.ok.funs.mem hb
 exact absurd (Nat.lt_of_lt_of_le (Heap.lt_size ho) (Nat.le_trans I.sz h)) (Nat.lt_irrefl _)
theorem Inv.cne (I:Inv X pins σ H s):∀x c,X.env.cells.lookup x=some c→c≠X.env.locals:=fun x c e z=>by
 obtain⟨v,o,ho,hd⟩:=I.cell x c e
 obtain⟨m,⟨o',es,ep,ho',hd',_⟩,_⟩:=I.loc
 rw[z,ho'] at ho;cases ho;rw[hd'] at hd;cases hd
theorem Inv.funs (I:Inv X pins σ H s):s.heap.FunFrames X.base X.outer:=by
 have all:∀(l:List Env),(∀b∈frs l,b∈X.fs)→X.s₀.heap.FunFrames X.base l→s.heap.FunFrames X.base l:=by
  intro l
  induction l with
  | nil=>intro _ _;trivial
  | cons env r ih=>
   intro hs hl
   obtain⟨hk,⟨L,o,hf,hn,ho,hd⟩,hr⟩:=hl
   have hL:L∈X.fs:=hs L (by unfold frs;rw[List.filterMap_cons,hf];exact List.mem_cons_self)
   obtain⟨sl,e⟩:=I.base.slot L o ho (I.ok.frf L hL) hL fun z=>I.ok.exfs L z hL
   exact⟨hk,⟨L,_,hf,hn,e,hd⟩,ih (fun b hb=>hs b (by unfold frs;rw[List.filterMap_cons,hf];exact List.mem_cons_of_mem _ hb)) hr⟩
 exact all X.outer (fun _ hb=>hb) I.ok.funs
theorem Inv.stack (I:Inv X pins σ H s):s.heap.FunFrames X.base X.stack:=by
 rcases I.ok.stk with e | ⟨e,hf⟩
 ·rw[e];exact I.funs
 ·rw[e]
  obtain⟨m,hn,_⟩:=I.loc
  refine .cons (by rw[I.ok.kind];decide) hf hn ?_ I.funs
  exact Heap.get?_none_of_le (Nat.le_trans I.ok.bsz I.ok.above)
theorem Inv.stkSub (I:Inv X pins σ H s):∀b∈frs X.stack,b∈X.env.locals::X.fs:=fun b hb=>by
 rcases I.ok.stk with e | ⟨e,hf⟩
 ·rw[e] at hb;exact List.mem_cons_of_mem _ hb
 ·rw[e] at hb
  unfold frs at hb
  rw[List.filterMap_cons,hf] at hb
  exact hb
theorem Inv.stkFree (I:Inv X pins σ H s):∀b∈frs X.stack,H b=none:=fun b hb=>by
 rcases List.mem_cons.mp (I.stkSub b hb) with e | hb
 ·rw[e];exact I.free
 ·obtain⟨_,o,ho,_⟩:=I.ok.funs.mem hb
  exact I.base.free b o ho (I.ok.frf b hb) fun z=>I.ok.exfs b z hb
theorem Inv.step {g':Array GenState} {t':Nat} {d':Drawn} {ch:List Addr} (I:Inv X pins σ H s)
  (hch:∀b∈ch,(b∈X.ex∨X.s₀.heap.objs.size≤b)∧b≠X.env.locals∧(∀x c,X.env.cells.lookup x=some c→c≠b)∧∀p∈X.pn++pins,p.1≠b)
  (keep:∀b o,b≠X.env.locals→b∉X.fs→b∉ch→s.heap.get? b=some o→H b=none→h'.get? b=some o)
  (slot:∀b o,b≠X.env.locals→b∈X.fs→b∉ch→s.heap.get? b=some o→H b=none→∃sl,h'.get? b=some {o with slots:=sl}) (free:∀b o,b∉ch→s.heap.get? b=some o→H b=none→H' b=none)
  (there:∀b o,b∉ch→s.heap.get? b=some o→∃o',h'.get? b=some o')
  (tups:∀b xs,H b=some (.tup xs)→H' b=some (.tup xs)) (frzs:∀b o u,H b=some (.frz o u)→H' b=some (.frz o u)) (tbls:∀b ps,H b=some (.tbl ps)→∃more,H' b=some (.tbl (ps++more)))
  (ns:∀m,s.heap.Ns X.env.locals m→h'.Ns X.env.locals m) (hok:HOk X.prog X.w H' h') (hg:AllBare g'):
  Inv X pins σ H' {s with heap:=h',gens:=g',drawn:=d',toks:=t'}:=by
 have neL:∀b o,X.s₀.heap.get? b=some o→b≠X.env.locals:=fun b o e=>Nat.ne_of_lt (Nat.lt_of_lt_of_le (Heap.lt_size e) I.ok.above)
 have neC:∀b o,X.s₀.heap.get? b=some o→b∉X.ex→b∉ch:=fun b o e hx hb=>by
  rcases(hch b hb).1 with z | z
  ·exact hx z
  ·exact absurd (Nat.lt_of_lt_of_le (Heap.lt_size e) z) (Nat.lt_irrefl _)
 have cellK:∀x c,X.env.cells.lookup x=some c→∀v,s.heap.IsCell c v→h'.IsCell c v:=fun x c e v ⟨o,ho,hd⟩=>by
  have nch:c∉ch:=fun z=>(hch c z).2.2.1 x c e rfl
  by_cases hc:c∈X.fs
  ·obtain⟨sl,q⟩:=slot c o (I.cne x c e) hc nch ho (I.freeC x c e)
   exact⟨_,q,hd⟩
  ·exact⟨o,keep c o (I.cne x c e) hc nch ho (I.freeC x c e),hd⟩
 refine⟨I.ok,I.os,hg,⟨fun b o e n hb hx=>?_,fun b o e n hb hx=>?_,fun b o e n hx=>?_,fun b o e hx=>?_,fun b xs e=>tups b xs (I.base.tups b xs e),fun b o xs e=>frzs b o xs (I.base.frzs b o xs e),fun b ps e=>?_⟩,?_,fun x c e=>?_,?_,fun x c e=>?_,fun p hp=>?_,hok,I.len⟩
 ·exact keep b o (neL b o e) hb (neC b o e hx) (I.base.keep b o e n hb hx) (I.base.free b o e n hx)
 ·obtain⟨sl,e1⟩:=I.base.slot b o e n hb hx
  obtain⟨sl',e2⟩:=slot b _ (neL b o e) hb (neC b o e hx) e1 (I.base.free b o e n hx)
  exact⟨sl',e2⟩
 ·obtain⟨o',e1⟩:=I.base.there b o e hx
  exact free b o' (neC b o e hx) e1 (I.base.free b o e n hx)
 ·obtain⟨o',e1⟩:=I.base.there b o e hx
  exact there b o' (neC b o e hx) e1
 ·obtain⟨m1,e1⟩:=I.base.tbls b ps e
  obtain⟨m2,e2⟩:=tbls b _ e1
  exact⟨m1++m2,by rw[e2,Array.append_assoc]⟩
 ·obtain⟨m,hn,hl⟩:=I.loc
  refine⟨m,ns m hn,fun i x v e1 e2 e3=>?_⟩
  obtain⟨u,r,l⟩:=hl i x v e1 e2 e3
  refine⟨u,r,?_⟩
  rcases l with l | ⟨k,c,e,z⟩
  ·exact .inl l
  ·exact .inr ⟨k,c,e,cellK x c e _ z⟩
 ·obtain⟨v,z⟩:=I.cell x c e
  exact⟨v,cellK x c e v z⟩
 ·obtain⟨m,⟨o,_,_,ho,_⟩,_⟩:=I.loc
  exact free _ o (fun z=>(hch _ z).2.1 rfl) ho I.free
 ·obtain⟨v,o,ho,hd⟩:=I.cell x c e
  exact free c o (fun z=>(hch c z).2.2.1 x c e rfl) ho (I.freeC x c e)
 ·obtain⟨e,n,ne,nf,d⟩:=I.pin p hp
  have nch:p.1∉ch:=fun z=>(hch p.1 z).2.2.2 p hp rfl
  exact⟨keep p.1 p.2 ne nf nch e n,free p.1 p.2 nch e n,ne,nf,d⟩
theorem Inv.un {t':Nat} (I:Inv X pins σ H s) (u:Un X.fs [] H H' s.heap h') (hok:HOk X.prog X.w H' h'):Inv X pins σ H' {s with heap:=h',toks:=t'}:=by
 obtain⟨m,⟨o,es,ep,ho,r⟩,_⟩:=id I.loc
 obtain⟨sl,hL⟩:=u.any ho I.free (by simp)
 exact I.step (g':=s.gens) (d':=s.drawn) (ch:=[]) (fun _ z=>nomatch z) (fun b o _ hb _ e n=>u.keep b o e n hb (by simp)) (fun b o _ hb _ e n=>u.slot b o e n hb (by simp)) (fun b o _ e n=>u.free b o e n (by simp)) (fun b o _ e=>u.there b o e (by simp)) u.tups u.frzs u.tbls (fun m' hm=>by
  obtain⟨o',es',ep',ho',r'⟩:=hm
  rw[ho] at ho';cases ho'
  exact⟨_,es',ep',hL,r'⟩) hok I.bare
theorem Inv.call {g':Array GenState} {t':Nat} {d':Drawn} {ch:List Addr} (I:Inv X pins σ H s) (u:Un (frs X.stack) ch H H' s.heap h') (hok:HOk X.prog X.w H' h') (hg:AllBare g')
  (hch:∀b∈ch,(b∈X.ex∨X.s₀.heap.objs.size≤b)∧b≠X.env.locals∧(∀x c,X.env.cells.lookup x=some c→c≠b)∧∀p∈X.pn++pins,p.1≠b):
  Inv X pins σ H' {s with heap:=h',gens:=g',drawn:=d',toks:=t'}:=by
 obtain⟨m,⟨o,es,ep,ho,r⟩,_⟩:=id I.loc
 obtain⟨sl,hL⟩:=u.any ho I.free fun z=>(hch _ z).2.1 rfl
 exact I.step (ch:=ch) hch (fun b o hL hb hc e n=>u.keep b o e n (fun z=>(List.mem_cons.mp (I.stkSub b z)).elim hL hb) hc) (fun b o _ _ hc e n=>u.any e n hc) (fun b o hc e n=>u.free b o e n hc) (fun b o hc e=>u.there b o e hc) u.tups u.frzs u.tbls (fun m' hm=>by
  obtain⟨o',es',ep',ho',r'⟩:=hm
  rw[ho] at ho';cases ho'
  exact⟨_,es',ep',hL,r'⟩) hok hg
theorem Inv.turned {t':Nat} {it:Addr} (I:Inv X pins σ H s) (k:∀b o,b≠it→s.heap.get? b=some o→h'.get? b=some o) (hn:H it=none) (hL:it≠X.env.locals)
  (h1:it∈X.ex∨X.s₀.heap.objs.size≤it) (h2:∀x c,X.env.cells.lookup x=some c→c≠it) (h3:∀p∈X.pn++pins,p.1≠it):Inv X pins σ H {s with heap:=h',toks:=t'}:=by
 have nit:∀b u,H b=some u→b≠it:=fun b u e z=>by rw[z,hn] at e;cases e
 refine I.step (g':=s.gens) (d':=s.drawn) (ch:=[it]) (fun b hb=>?_) (fun b o _ _ hc e _=>k b o (fun z=>hc (by simp [z])) e) (fun b o _ _ hc e _=>⟨o.slots,k b o (fun z=>hc (by simp [z])) e⟩) (fun _ _ _ _ n=>n)
  (fun b o hc e=>⟨o,k b o (fun z=>hc (by simp [z])) e⟩) (fun _ _ e=>e) (fun _ _ _ e=>e) (fun b ps e=>⟨#[],by rw[e];simp⟩) (fun m hm=>?_) (fun b u e=>?_) I.bare
 ·have e:b=it:=by simpa using hb
  subst e
  exact⟨h1,hL,h2,h3⟩
 ·obtain⟨o,es,ep,ho,r⟩:=hm
  exact⟨o,es,ep,k _ o (Ne.symm hL) ho,r⟩
 ·refine(I.hok b u e).stay (fun c v hc q=>k c v ?_ q) (fun _ q=>q) fun _ _ q=>q
  rcases hc with z | z
  ·rw[z];exact nit b u e
  ·exact nit c _ z
theorem Inv.tok (I:Inv X pins σ H s) (t:Nat):Inv X pins σ H {s with toks:=t}:=I.un (h':=s.heap) (t':=t) Un.refl I.hok
theorem Inv.kept {t':Nat} (I:Inv X pins σ H s) (k:∀b u,s.heap.get? b=some u→h'.get? b=some u):Inv X pins σ H {s with heap:=h',toks:=t'}:=I.un (Un.kept k) (I.hok.kept k)
theorem Inv.laid {a:Addr} {o:HO} {t':Nat} (I:Inv X pins σ H s) (k:∀b u,s.heap.get? b=some u→h'.get? b=some u) (hp:s.heap.objs.size≤a) (new:ObjOk X.prog X.w (upd H a o) h' a o):
  Inv X pins σ (upd H a o) {s with heap:=h',toks:=t'}:=I.un (Un.laid k hp (I.hok.fresh hp)) (I.hok.laid k hp new)
theorem Inv.write {x e:Addr} {o:HO} {t':Nat} (I:Inv X pins σ H s) (mu:Mut (H x)) (he:e=x∨H e=some (.own x)) (k:∀b u,b≠e→s.heap.get? b=some u→h'.get? b=some u) (heo:∃u,h'.get? e=some u)
  (new:ObjOk X.prog X.w (upd H x o) h' x o):Inv X pins σ (upd H x o) {s with heap:=h',toks:=t'}:=I.un (Un.write mu he k heo) (I.hok.write mu he k heo new)
theorem Inv.pins_of {pins':List (Addr×Obj)} (I:Inv X pins σ H s) (h:∀p∈pins',s.heap.get? p.1=some p.2∧H p.1=none∧p.1≠X.env.locals∧p.1∉X.fs∧∀v,p.2.data≠.cell v):Inv X pins' σ H s:=
 ⟨I.ok,I.os,I.bare,I.base,I.loc,I.cell,I.free,I.freeC,fun p hp=>(List.mem_append.mp hp).elim (fun z=>I.pin p (List.mem_append_left _ z)) (h p),I.hok,I.len⟩
theorem nodup_ix {N:List Str} (hN:N.Nodup) {i j:Nat} {x:Str} (a:N[i]?=some x) (b:N[j]?=some x):i=j:=by
 obtain⟨h1,e1⟩:=List.getElem?_eq_some_iff.mp a
 obtain⟨h2,e2⟩:=List.getElem?_eq_some_iff.mp b
 exact(List.getElem_inj hN).mp (e1.trans e2.symm)
theorem store_ok2 {M:Model} {A:Around} {E:Value→Shared→Prop} {i:Nat} {x:Str} {v:V} {u:Value} {Q:Unit→Shared→Prop} (I:Inv X pins σ H s) (hN:X.N.Nodup) (hi:X.N[i]?=some x) (hx:Loc X.env.scope x) (r:RelV v u)
  (h:∀s',Inv X pins (σ.set i (some v)) H s'→(∃a,Heap.SameBut a s.heap s'.heap∧(a=X.env.locals∨X.env.cells.lookup x=some a))→Q () s') (hf:X.fn x=true∨X.env.scope.names.lookup x=some .local:=by first | exact .inl rfl | exact .inr rfl | assumption):wpAny M A (storeName X.env x u) Q E s:=by
 obtain⟨m,hn,hl⟩:=id I.loc
 have hcls:(X.env.scope.kind==.class || (X.env.scope.kind==.module && X.env.locals !=X.env.globals))=false:=by rw[I.ok.kind];rfl
 have hiσ:i<σ.length:=by rw[I.len];exact(List.getElem?_eq_some_iff.mp hi).1
 have cne:=I.cne
 have tracked:∀{a:Addr} {h':Heap},(∃o,s.heap.get? a=some o∧H a=none)→Heap.SameBut a s.heap h'→HOk X.prog X.w H h':=fun {a h'} ha hs b ob e=>by
  obtain⟨_,_,hfree⟩:=ha
  refine(I.hok b ob e).stay (fun c w' hc q=>(hs.2 c ?_).trans q) (fun _ q=>q) fun _ _ q=>q
  rintro rfl
  rcases hc with rfl | hc
  ·rw[hfree] at e;cases e
  ·rw[hfree] at hc;cases hc
 rcases hx with hk | hk
 ·refine wpAny_storeName_local hk hn (fun h' hn' hs=>?_) hcls
  obtain⟨oL,_,_,hoL,_⟩:=id hn
  refine h _ ⟨I.ok,I.os,I.bare,⟨fun b o e n hb hx=>?_,fun b o e n hb hx=>?_,I.base.free,fun b o e hx=>?_,I.base.tups,I.base.frzs,I.base.tbls⟩,⟨_,hn',fun j y v' e1 e2 e3=>?_⟩,fun y c e=>?_,I.free,I.freeC,fun p hp=>?_,tracked ⟨oL,hoL,I.free⟩ hs,by simpa using I.len⟩ ⟨_,hs,.inl rfl⟩
  ·exact(hs.2 b (Nat.ne_of_lt (Nat.lt_of_lt_of_le (Heap.lt_size e) I.ok.above))).trans (I.base.keep b o e n hb hx)
  ·obtain⟨sl,e1⟩:=I.base.slot b o e n hb hx
   exact⟨sl,(hs.2 b (Nat.ne_of_lt (Nat.lt_of_lt_of_le (Heap.lt_size e) I.ok.above))).trans e1⟩
  ·obtain⟨o',e1⟩:=I.base.there b o e hx
   exact⟨o',(hs.2 b (Nat.ne_of_lt (Nat.lt_of_lt_of_le (Heap.lt_size e) I.ok.above))).trans e1⟩
  ·by_cases hj:j=i
   ·subst hj
    rw[hi] at e1;cases e1
    rw[List.getElem?_set_self hiσ] at e2
    cases e2
    exact⟨u,r,.inl ⟨hk,by simp⟩⟩
   ·rw[List.getElem?_set_ne (Ne.symm hj)] at e2
    obtain⟨u',r',q⟩:=hl j y v' e1 e2 e3
    refine⟨u',r',?_⟩
    rcases q with ⟨k,e⟩ | ⟨k,c,e,z⟩
    ·refine .inl ⟨k,?_⟩
     have:y≠x:=fun e=>hj (nodup_ix hN e1 (e▸hi))
     simp [this,e]
    ·exact .inr ⟨k,c,e,z.sameBut hs (cne y c e)⟩
  ·obtain⟨w',z⟩:=I.cell y c e
   exact⟨w',z.sameBut hs (cne y c e)⟩
  ·obtain⟨e,n,ne,nf,d⟩:=I.pin p hp
   exact⟨(hs.2 p.1 ne).trans e,n,ne,nf,d⟩
 ·have hfn:X.fn x=true:=by
   rcases hf with z | z
   ·exact z
   ·rw[z] at hk;cases hk
  obtain⟨c,hc⟩:=I.ok.has x (.inl hk)
  obtain⟨w',z⟩:=I.cell x c hc
  refine wpAny_storeName_cell I.ok.kind hk hc z (fun h' hc' hs=>?_)
  obtain⟨oc,hoc,hocd⟩:=id z
  refine h {s with heap:=h'} ⟨I.ok,I.os,I.bare,⟨fun b o e n hb hx=>?_,fun b o e n hb hx=>?_,I.base.free,fun b o e hx=>?_,I.base.tups,I.base.frzs,I.base.tbls⟩,⟨m,hn.sameBut hs (Ne.symm (cne x c hc)),fun j y v' e1 e2 e3=>?_⟩,fun y c' e=>?_,I.free,I.freeC,fun p hp=>?_,tracked ⟨oc,hoc,I.freeC x c hc⟩ hs,by simpa using I.len⟩ ⟨c,hs,.inr hc⟩
  ·exact(hs.2 b (Nat.ne_of_lt (Nat.lt_of_lt_of_le (Heap.lt_size e) (I.ok.cab x c hfn hc)))).trans (I.base.keep b o e n hb hx)
  ·obtain⟨sl,e1⟩:=I.base.slot b o e n hb hx
   exact⟨sl,(hs.2 b (Nat.ne_of_lt (Nat.lt_of_lt_of_le (Heap.lt_size e) (I.ok.cab x c hfn hc)))).trans e1⟩
  ·obtain⟨o',e1⟩:=I.base.there b o e hx
   exact⟨o',(hs.2 b (Nat.ne_of_lt (Nat.lt_of_lt_of_le (Heap.lt_size e) (I.ok.cab x c hfn hc)))).trans e1⟩
  ·by_cases hj:j=i
   ·subst hj
    rw[hi] at e1;cases e1
    rw[List.getElem?_set_self hiσ] at e2
    cases e2
    exact⟨u,r,.inr ⟨.inl hk,c,hc,hc'⟩⟩
   ·rw[List.getElem?_set_ne (Ne.symm hj)] at e2
    obtain⟨u',r',q⟩:=hl j y v' e1 e2 e3
    refine⟨u',r',?_⟩
    rcases q with q | ⟨k,c',e,z'⟩
    ·exact .inl q
    ·refine .inr ⟨k,c',e,z'.sameBut hs ?_⟩
     rintro rfl
     exact hj (nodup_ix hN e1 (I.ok.inj _ _ _ e hc▸hi))
  ·by_cases hcc:c'=c
   ·subst hcc;exact⟨_,hc'⟩
   ·obtain⟨w2,z2⟩:=I.cell y c' e
    exact⟨w2,z2.sameBut hs hcc⟩
  ·obtain⟨e,n,ne,nf,d⟩:=I.pin p hp
   refine⟨(hs.2 p.1 ?_).trans e,n,ne,nf,d⟩
   intro q
   rw[q,hoc] at e
   have q':oc=p.2:=Option.some.inj e
   exact d w' (by rw[←q'];exact hocd)
theorem store_ok {M:Model} {A:Around} {E:Value→Shared→Prop} {i:Nat} {x:Str} {v:V} {u:Value} {Q:Unit→Shared→Prop} (I:Inv X pins σ H s) (hN:X.N.Nodup) (hi:X.N[i]?=some x) (hx:Loc X.env.scope x) (r:RelV v u)
  (h:∀s',Inv X pins (σ.set i (some v)) H s'→Q () s') (hf:X.fn x=true∨X.env.scope.names.lookup x=some .local:=by first | exact .inl rfl | exact .inr rfl | assumption):wpAny M A (storeName X.env x u) Q E s:=
 store_ok2 I hN hi hx r (fun s' I' _=>h s' I') hf
theorem Inv.call' {s':Shared} {ch:List Addr} (I:Inv X pins σ H s) (ho:s'.os=s.os) (u:Un (frs X.stack) ch H H' s.heap s'.heap) (hok:HOk X.prog X.w H' s'.heap) (hg:AllBare s'.gens)
  (hch:∀b∈ch,(b∈X.ex∨X.s₀.heap.objs.size≤b)∧b≠X.env.locals∧(∀x c,X.env.cells.lookup x=some c→c≠b)∧∀p∈X.pn++pins,p.1≠b):Inv X pins σ H' s':=by
 obtain⟨h',g',d',t',o'⟩:=s'
 have e:o'=s.os:=ho
 subst e
 exact I.call (g':=g') (t':=t') (d':=d') u hok hg hch
end
abbrev XK:=Value→Option Addr→Hp→Prop
abbrev St:=List (Option V)
abbrev VK:=V→Hp→Prop
abbrev TE:=St→Hp→VK→Prop
abbrev TT:=St→Hp→(Bool→Hp→Prop)→Prop
abbrev TA:=St→Hp→(List V→Hp→Prop)→Prop
structure Ends where
 nx:St→Hp→Prop
 rt:VK
 bk:St→Hp→Prop:=fun _ _=>False
 ct:St→Hp→Prop:=fun _ _=>False
abbrev TS:=Ends→St→Hp→Prop
noncomputable def EP (X:Cx) (pins:List (Addr×Obj)) (σ:St) (Q:VK) (u:Value) (s':Shared):Prop:=∃v H',Inv X pins σ H' s'∧RelV v u∧Q v H'
noncomputable def TP (X:Cx) (pins:List (Addr×Obj)) (σ:St) (Q:Bool→Hp→Prop) (b:Bool) (s':Shared):Prop:=∃H',Inv X pins σ H' s'∧Q b H'
noncomputable def AP (X:Cx) (pins:List (Addr×Obj)) (σ:St) (Q:List V→Hp→Prop) (us:List Value) (s':Shared):Prop:=∃vs H',Inv X pins σ H' s'∧Vals vs us∧Q vs H'
noncomputable def SP (X:Cx) (pins:List (Addr×Obj)) (D:Ends) (f:Flow) (s':Shared):Prop:=
 match f with
 | .next=>∃σ' H',Inv X pins σ' H' s'∧D.nx σ' H'
 | .brk=>∃σ' H',Inv X pins σ' H' s'∧D.bk σ' H'
 | .cont=>∃σ' H',Inv X pins σ' H' s'∧D.ct σ' H'
 | .ret u=>∃v σ' H',Inv X pins σ' H' s'∧RelV v u∧D.rt v H'
noncomputable def PE (X:Cx) (e:Expr) (t:TE):Prop:=
 ∀(pins:List (Addr×Obj)) (s:Shared) (σ:St) (H:Hp) (Q:VK),Inv X pins σ H s→t σ H Q→wpAny (model X.prog X.w) X.A (eval e X.env) (EP X pins σ Q) X.xe s
noncomputable def PT (X:Cx) (e:Expr) (t:TT):Prop:=
 ∀(pins:List (Addr×Obj)) (s:Shared) (σ:St) (H:Hp) (Q:Bool→Hp→Prop),Inv X pins σ H s→t σ H Q→wpAny (model X.prog X.w) X.A (isTrue e X.env (eval e X.env)) (TP X pins σ Q) X.xe s
noncomputable def PW (X:Cx) (e:Expr) (t:TT):Prop:=
 ∀(whole:Sem Value) (pins:List (Addr×Obj)) (s:Shared) (σ:St) (H:Hp) (Q:Bool→Hp→Prop),Inv X pins σ H s→t σ H Q→wpAny (model X.prog X.w) X.A (isTrue e X.env whole) (TP X pins σ Q) X.xe s
theorem PW.pt {X:Cx} {e:Expr} {t:TT} (h:PW X e t):PT X e t:=h _
noncomputable def PA (X:Cx) (es:List Expr) (t:TA):Prop:=
 ∀(pos:Pos) (pins:List (Addr×Obj)) (s:Shared) (σ:St) (H:Hp) (Q:List V→Hp→Prop),Inv X pins σ H s→t σ H Q→wpAny (model X.prog X.w) X.A (spliced (backTo pos (starEach es X.env))) (AP X pins σ Q) X.xe s
noncomputable def PS (X:Cx) (st:Stmt) (t:TS):Prop:=
 ∀(pins:List (Addr×Obj)) (s:Shared) (σ:St) (H:Hp) (D:Ends),Inv X pins σ H s→t D σ H→wpAny (model X.prog X.w) X.A (exec st X.env) (SP X pins D) X.xe s
noncomputable def PSs (X:Cx) (st:List Stmt) (t:TS):Prop:=
 ∀(pins:List (Addr×Obj)) (s:Shared) (σ:St) (H:Hp) (D:Ends),Inv X pins σ H s→t D σ H→wpAny (model X.prog X.w) X.A (execs st X.env) (SP X pins D) X.xe s
theorem thn {α:Type} {t:Sem α} {Q Q':α→Shared→Prop} {M:Model} {A:Around} {E:Value→Shared→Prop} {s:Shared} (h:wpAny M A t Q E s) (hQ:∀a s,Q a s→Q' a s):wpAny M A t Q' E s:=wpAny_mono h hQ fun _ _ x=>x
end L2
namespace L2
open PySem PySem.Spec PyProof.Rows
section
variable {X : Cx}
noncomputable def tVar (i:Nat):TE:=fun σ H Q=>∃v,σ[i]?=some (some v)∧Q v H
noncomputable def tC (v:V):TE:=fun _ H Q=>Q v H
theorem pe_var {i:Nat} {x:Str} {pos:Pos} (hN:X.N[i]?=some x) (hv:Vis X.env.scope x) (hd:(x==("__debug__":Str))=false:=by decide) (hcd:(x==("__classdict__":Str))=false:=by decide):PE X (.Name x pos) (tVar i):=by
 intro pins s σ H Q I h
 obtain⟨v,e,h⟩:=h
 obtain⟨m,hn,hl⟩:=I.loc
 obtain⟨u,r,l⟩:=hl i x v hN e hv
 have fin:EP X pins σ Q u s:=⟨v,H,I,r,h⟩
 rcases l with ⟨hk,hm⟩ | ⟨hk,c,hc,hcell⟩
 ·exact wpAny_Name (wpAny_loadName_local I.ok.kind hk hn hm fin) hd
 ·rcases hk with hk | hk
  ·exact wpAny_Name (wpAny_loadName_cell I.ok.kind hk hc hcell fin) hd
  ·exact wpAny_Name (wpAny_loadName_free I.ok.kind hk hc hcell fin hcd) hd
theorem pe_int {i j pos}:PE X (.Constant (.int i) j pos) (tC (.int i)):=fun _ _ _ H _ I h=>wpAny_Constant_int ⟨.int i,H,I.tok _,⟨_,rfl⟩,h⟩
theorem pe_bl {b j pos}:PE X (.Constant (.bool b) j pos) (tC (.bl b)):=fun _ _ _ H _ I h=>Constant_bool ⟨.bl b,H,I,rfl,h⟩
theorem pe_non {j pos}:PE X (.Constant .none j pos) (tC .non):=fun _ _ _ H _ I h=>Constant_none ⟨.non,H,I,rfl,h⟩
theorem pe_str {x j pos}:PE X (.Constant (.str x) j pos) (tC (.str x)):=fun _ _ _ H _ I h=>Calls.Constant_str ⟨.str x,H,I.tok _,⟨_,rfl⟩,h⟩
noncomputable def Gl (X:Cx) (x:Str):Prop:=X.env.kindOf x=some .globalImplicit
theorem ld_glob {E:Value→Shared→Prop} {pins:List (Addr×Obj)} {s:Shared} {σ:St} {H:Hp} {x:Str} {u:Value} {pos:Pos} {Q:Value→Shared→Prop} (I:Inv X pins σ H s) (hg:Gl X x) (hm:X.mg x=some u) (h:Q u s)
  (hd:(x==("__debug__":Str))=false:=by decide):wpAny (model X.prog X.w) X.A (eval (.Name x pos) X.env) Q E s:=
 Calls.Name_function_global I.ok.kind hg (Calls.loadGlobal_global (by rw[I.ok.glob];exact I.mod.glob.keeps I.bk) hm h) hd
theorem ld_blt {E:Value→Shared→Prop} {pins:List (Addr×Obj)} {s:Shared} {σ:St} {H:Hp} {x:Str} {u:Value} {pos:Pos} {Q:Value→Shared→Prop} (I:Inv X pins σ H s) (hg:Gl X x) (hm:X.mg x=none) (hv:bootBuiltins x=some u) (h:Q u s)
  (hn:x≠"__name__":=by decide) (hd:(x==("__debug__":Str))=false:=by decide):wpAny (model X.prog X.w) X.A (eval (.Name x pos) X.env) Q E s:=by
 obtain⟨mb,h1,h2⟩:=I.mod.blt
 exact Calls.Name_function_global I.ok.kind hg (Calls.loadGlobal_builtin (by rw[I.ok.glob];exact I.mod.glob.keeps I.bk) hm (by rw[I.ok.blt];exact h1.keeps I.bk) ((h2 x hn).trans hv) h) hd
theorem pe_glob {x:Str} {v:V} {u:Value} {pos:Pos} (hg:Gl X x) (hm:X.mg x=some u) (r:RelV v u) (hd:(x==("__debug__":Str))=false:=by decide):PE X (.Name x pos) (tC v):=
 fun _ _ _ H _ I h=>ld_glob I hg hm ⟨v,H,I,r,h⟩ hd
theorem pe_bltn {x:Str} {v:V} {u:Value} {pos:Pos} (hg:Gl X x) (hm:X.mg x=none) (hv:bootBuiltins x=some u) (r:RelV v u) (hn:x≠"__name__":=by decide) (hd:(x==("__debug__":Str))=false:=by decide):PE X (.Name x pos) (tC v):=
 fun _ _ _ H _ I h=>ld_blt I hg hm hv ⟨v,H,I,r,h⟩ hn hd
noncomputable def t2I (ta tb:TE) (k:Int→Int→Hp→Prop):St→Hp→Prop:=fun σ H=>ta σ H fun x H1=>tb σ H1 fun y H2=>∃i j,x=.int i∧y=.int j∧k i j H2
variable {a b : Expr} {ta tb : TE} {pos : Pos}
noncomputable def PC (X:Cx) (op:CmpOp) (a b:Expr) (t:TE):Prop:=
 ∀(pins:List (Addr×Obj)) (s:Shared) (σ:St) (H:Hp) (Q:VK),Inv X pins σ H s→t σ H Q→
  wpAny (model X.prog X.w) X.A (eval a X.env) (fun v s₁=>wpAny (model X.prog X.w) X.A (eval b X.env) (fun u s₂=>wpAny (model X.prog X.w) X.A (compareOp op v u) (EP X pins σ Q) X.xe s₂) X.xe s₁) X.xe s
theorem nobehind (b:Expr) {op:CmpOp} (h:op≠.In) (h2:op≠.NotIn):behindInMarks op b=false:=by
 have e1:(op==CmpOp.In)=false:=by cases op <;>first | rfl | exact absurd rfl h
 have e2:(op==CmpOp.NotIn)=false:=by cases op <;>first | rfl | exact absurd rfl h2
 cases b <;>simp [behindInMarks,e1,e2]
noncomputable def tCmp (p:Int→Int→Bool) (ta tb:TE):TE:=fun σ H Q=>t2I ta tb (fun i j H2=>Q (.bl (p i j)) H2) σ H
abbrev tLt:TE→TE→TE:=tCmp fun i j=>decide (i<j)
abbrev tLe:TE→TE→TE:=tCmp fun i j=>decide (i≤j)
abbrev tGt:TE→TE→TE:=tCmp fun i j=>decide (j<i)
abbrev tGe:TE→TE→TE:=tCmp fun i j=>decide (j≤i)
abbrev tEqI:TE→TE→TE:=tCmp fun i j=>decide (i=j)
abbrev tNeI:TE→TE→TE:=tCmp fun i j=>!decide (i=j)
noncomputable def tB (t:TE):TT:=fun σ H Q=>t σ H fun x H1=>∃c,x=.bl c∧Q c H1
theorem pt_cmp {op:CmpOp} {t:TE} (h:PC X op a b t) (h1:behindInMarks op b=false:=by first | exact nobehind _ (by decide) (by decide) | rfl):PT X (.Compare a [op] [b] pos) (tB t):=by
 intro pins s σ H Q I hw
 refine wpAny_isTrue_Compare1 (thn (h pins s σ H _ I hw) fun v s1 h1=>thn h1 fun u s2 h2=>thn h2 fun c s3 hh_=>?_) h1
 obtain⟨x,H1,I1,r1,q1⟩:=hh_
 obtain⟨d,rfl,q⟩:=q1
 cases r1
 exact wpAny_truthy_bool ⟨H1,I1,q⟩
theorem pt_val {e:Expr} {t:TE} (h:PE X e t) (he:∀whole,isTrue e X.env whole=(do let v ←whole;standAt e.pos;holding [v] (truthy v)):=by intro _;rfl):PT X e (tB t):=by
 intro pins s σ H Q I hw
 refine isTrue_plain (thn (h pins s σ H _ I hw) fun v s1 hh_=>?_) (he _)
 obtain⟨x,H1,I1,r1,q1⟩:=hh_
 obtain⟨d,rfl,q⟩:=q1
 cases r1
 exact wpAny_truthy_bool ⟨H1,I1,q⟩
variable {tA tB' : TT} {rest : List Expr}
noncomputable def tAnd (t u:TT):TT:=fun σ H Q=>t σ H fun c H1=>if c=true then u σ H1 Q else Q false H1
noncomputable def tOr (t u:TT):TT:=fun σ H Q=>t σ H fun c H1=>if c=true then Q true H1 else u σ H1 Q
noncomputable def tNot (t:TT):TT:=fun σ H Q=>t σ H fun c H1=>Q (!c) H1
theorem pw_and1 (ha:PT X a tA):PW X (.BoolOp .And [a] pos) tA:=by
 intro wh pins s σ H Q I h
 refine isTrue_and (thn (ha pins s σ H Q I h) fun c s1 e=>?_)
 cases c with
 | true=>exact isTrue_and_nil e
 | false=>exact e
theorem pw_or1 (ha:PT X a tA):PW X (.BoolOp .Or [a] pos) tA:=by
 intro wh pins s σ H Q I h
 refine isTrue_or (thn (ha pins s σ H Q I h) fun c s1 e=>?_)
 cases c with
 | false=>exact isTrue_or_nil e
 | true=>exact e
theorem pw_and (ha:PT X a tA) (hb:PW X (.BoolOp .And (b::rest) pos) tB'):PW X (.BoolOp .And (a::b::rest) pos) (tAnd tA tB'):=by
 intro wh pins s σ H Q I h
 refine isTrue_and (thn (ha pins s σ H _ I h) fun c s1 ⟨H1,I1,q1⟩=>?_)
 cases c with
 | true=>exact hb wh pins s1 σ H1 Q I1 q1
 | false=>exact⟨H1,I1,q1⟩
theorem pw_or (ha:PT X a tA) (hb:PW X (.BoolOp .Or (b::rest) pos) tB'):PW X (.BoolOp .Or (a::b::rest) pos) (tOr tA tB'):=by
 intro wh pins s σ H Q I h
 refine isTrue_or (thn (ha pins s σ H _ I h) fun c s1 ⟨H1,I1,q1⟩=>?_)
 cases c with
 | true=>exact⟨H1,I1,q1⟩
 | false=>exact hb wh pins s1 σ H1 Q I1 q1
theorem pt_not (ha:PT X a tA):PT X (.UnaryOp .Not a pos) (tNot tA):=by
 intro pins s σ H Q I h
 exact isTrue_not (ha pins s σ H (fun c H1=>Q (!c) H1) I h)
noncomputable def tAndV (ta tb:TE):TE:=fun σ H Q=>ta σ H fun x H1=>∃c,x=.bl c∧if c=true then tb σ H1 Q else Q (.bl false) H1
noncomputable def tOrV (ta tb:TE):TE:=fun σ H Q=>ta σ H fun x H1=>∃c,x=.bl c∧if c=true then Q (.bl true) H1 else tb σ H1 Q
noncomputable def tNotV (ta:TE):TE:=fun σ H Q=>ta σ H fun x H1=>∃c,x=.bl c∧Q (.bl (!c)) H1
theorem pe_one {op} {t:TE} (h:PE X a t):PE X (.BoolOp op [a] pos) t:=fun pins s σ H Q I hw=>BoolOp_one (h pins s σ H Q I hw)
theorem pe_and (ha:PE X a ta) (hb:PE X (.BoolOp .And (b::rest) pos) tb):PE X (.BoolOp .And (a::b::rest) pos) (tAndV ta tb):=by
 intro pins s σ H Q I h
 refine BoolOp_and (thn (ha pins s σ H _ I h) fun v s1 hh_=>?_)
 obtain⟨x,H1,I1,r1,q1⟩:=hh_
 obtain⟨c,rfl,q1⟩:=q1
 cases r1
 refine wpAny_truthy_bool ?_
 cases c with
 | true=>exact hb pins s1 σ H1 Q I1 q1
 | false=>exact⟨.bl false,H1,I1,rfl,q1⟩
noncomputable def tIf (t:TT) (ta tb:TE):TE:=fun σ H Q=>t σ H fun c H1=>if c=true then ta σ H1 Q else tb σ H1 Q
theorem pe_ifExp {c:Expr} (hc:PT X c tA) (ha:PE X a ta) (hb:PE X b tb):PE X (.IfExp c a b pos) (tIf tA ta tb):=by
 intro pins s σ H Q I h
 refine wpAny_IfExp (thn (hc pins s σ H _ I h) fun d s1 ⟨H1,I1,q1⟩=>?_)
 cases d with
 | true=>exact ha pins s1 σ H1 Q I1 q1
 | false=>exact hb pins s1 σ H1 Q I1 q1
end
end L2
namespace L2
open PySem PySem.Spec PyProof.Rows
noncomputable def SqL (K:PySem.W.Frag) (H:Hp) (a:Addr) (xs:List V):Prop:=
 Rd H a (.lst xs)∨
  ∃(o:Obj) (its:Array Value) (n:Nat),K.lookup a=some o∧o.cls=.type "list"∧o.dict=none∧o.data=.seq its n∧its.size≤sizeLine∧Vals xs its.toList
noncomputable def SqT (K:PySem.W.Frag) (H:Hp) (a:Addr) (xs:List V):Prop:=
 Rd H a (.tup xs)∨
  ∃(o:Obj) (its:Array Value) (n:Nat),K.lookup a=some o∧o.cls=.type "tuple"∧o.data=.seq its n∧its.size≤sizeLine∧Vals xs its.toList
noncomputable def absV:Value→Option V
 | .none=>some .non
 | .bool b=>some (.bl b)
 | .int i _=>some (.int i)
 | .str x _=>some (.str x)
 | .bytes b _=>some (.byt b)
 | .float b _=>some (.flt b)
 | .ref a=>some (.ref a)
 | .type n=>some (.ty n)
 | _=>none
theorem RelV.abs {x:V} {u:Value} (r:RelV x u):absV u=some x:=by
 cases x with
 | non=>cases r;rfl
 | bl _=>cases r;rfl
 | int _=>obtain⟨t,rfl⟩:=r;rfl
 | str _=>obtain⟨t,rfl⟩:=r;rfl
 | byt _=>obtain⟨t,rfl⟩:=r;rfl
 | flt _=>obtain⟨t,rfl⟩:=r;rfl
 | ref _=>cases r;rfl
 | ty _=>cases r;rfl
theorem RelV.inj {x y:V} {u:Value} (r:RelV x u) (q:RelV y u):x=y:=Option.some.inj (r.abs.symm.trans q.abs)
theorem Vals.inj:∀{xs ys:List V} {us:List Value},Vals xs us→Vals ys us→xs=ys
 | _,_,_,.nil,.nil=>rfl
 | _,_,_,.cons r t,.cons r' t'=>by rw[r.inj r',Vals.inj t t']
section
variable {X : Cx} {pins : List (Addr × Obj)} {σ : St} {H : Hp} {s : Shared} {a : Addr} {xs ys : List V}
theorem SqL.of {K:PySem.W.Frag} (h:H a=some (.lst xs)):SqL K H a xs:=.inl (.inl h)
theorem SqT.of {K:PySem.W.Frag} (h:H a=some (.tup xs)):SqT K H a xs:=.inl (.inl h)
theorem Inv.list (I:Inv X pins σ H s) (h:SqL X.K H a xs):∃its:List Value,Vals xs its∧PlainL s.heap a its.toArray∧xs.length≤sizeLine:=by
 rcases h with h | ⟨o,its,n,hk,hc,hd,hs,hz,r⟩
 ·obtain⟨z,its,n,r,e⟩:=h.ok I.hok
  exact⟨its,r,⟨_,n,e,rfl,rfl,rfl⟩,z⟩
 ·refine⟨its.toList,r,⟨o,n,I.kIn a o hk,hc,hd,by simpa using hs⟩,?_⟩
  have e:=r.length
  simp only[Array.length_toList] at e
  omega
theorem Inv.tuple (I:Inv X pins σ H s) (h:SqT X.K H a xs):∃its:List Value,Vals xs its∧IsTup s.heap a its.toArray∧xs.length≤sizeLine:=by
 rcases h with h | ⟨o,its,n,hk,hc,hs,hz,r⟩
 ·obtain⟨z,its,r,p⟩:=h.ok I.hok
  exact⟨its,r,p,z⟩
 ·refine⟨its.toList,r,⟨o,I.kIn a o hk,hc,n,by simpa using hs⟩,?_⟩
  have e:=r.length
  simp only[Array.length_toList] at e
  omega
theorem Inv.list_inj (I:Inv X pins σ H s) (h:SqL X.K H a xs) (h':SqL X.K H a ys):xs=ys:=by
 obtain⟨its,r,⟨o,n,e,_,_,d⟩,_⟩:=I.list h
 obtain⟨its',r',⟨o',n',e',_,_,d'⟩,_⟩:=I.list h'
 rw[e] at e';cases e'
 rw[d] at d'
 injection d' with d1 _
 have:its=its':=by simpa using congrArg Array.toList d1
 subst this
 exact r.inj r'
theorem Inv.tuple_inj (I:Inv X pins σ H s) (h:SqT X.K H a xs) (h':SqT X.K H a ys):xs=ys:=by
 obtain⟨its,r,⟨o,e,_,n,d⟩,_⟩:=I.tuple h
 obtain⟨its',r',⟨o',e',_,n',d'⟩,_⟩:=I.tuple h'
 rw[e] at e';cases e'
 rw[d] at d'
 injection d' with d1 _
 have:its=its':=by simpa using congrArg Array.toList d1
 subst this
 exact r.inj r'
end
abbrev Cx.wish (X:Cx) (E:Value→Shared→Prop):Cx:={X with xe:=E}
abbrev Cx.nox (X:Cx):Cx:=X.wish fun _ _=>False
theorem Cx.Ok.wish {X:Cx} (ok:X.Ok) (E:Value→Shared→Prop):(X.wish E).Ok:=
 ⟨ok.mod,ok.kind,ok.glob,ok.blt,ok.above,ok.inj,ok.has,ok.cab,ok.hd,ok.frames,ok.stk,ok.exf,ok.bs,ok.bsz,ok.noex,ok.exfs,ok.funs,ok.frf⟩
theorem Cx.Ok.unwish {X:Cx} {E:Value→Shared→Prop} (ok:(X.wish E).Ok):X.Ok:=
 ⟨ok.mod,ok.kind,ok.glob,ok.blt,ok.above,ok.inj,ok.has,ok.cab,ok.hd,ok.frames,ok.stk,ok.exf,ok.bs,ok.bsz,ok.noex,ok.exfs,ok.funs,ok.frf⟩
section
variable {X : Cx} {pins : List (Addr × Obj)} {σ : St} {H : Hp} {s : Shared} {E : Value → Shared → Prop}
theorem Inv.wish (I:Inv X pins σ H s) (E:Value→Shared→Prop):Inv (X.wish E) pins σ H s:=⟨I.ok.wish E,I.os,I.bare,I.base,I.loc,I.cell,I.free,I.freeC,I.pin,I.hok,I.len⟩
theorem Inv.unwish (I:Inv (X.wish E) pins σ H s):Inv X pins σ H s:=⟨I.ok.unwish,I.os,I.bare,I.base,I.loc,I.cell,I.free,I.freeC,I.pin,I.hok,I.len⟩
theorem SP.unwish {D:Ends} {f:Flow} {s':Shared} (h:SP (X.wish E) pins D f s'):SP X pins D f s':=by
 cases f with
 | next=>obtain⟨σ',H',I,q⟩:=h;exact⟨σ',H',I.unwish,q⟩
 | brk=>obtain⟨σ',H',I,q⟩:=h;exact⟨σ',H',I.unwish,q⟩
 | cont=>obtain⟨σ',H',I,q⟩:=h;exact⟨σ',H',I.unwish,q⟩
 | ret u=>obtain⟨v,σ',H',I,r,q⟩:=h;exact⟨v,σ',H',I.unwish,r,q⟩
theorem PSs.nox {st:List Stmt} {t:TS} (h:PSs X.nox st t):PSs X st t:=fun pins s σ H D I hw=>
 wpAny_mono (h pins s σ H D (I.wish _) hw) (fun _ _ q=>q.unwish) fun _ _ z=>False.elim z
end
section
variable {X : Cx} {st : Stmt} {rest : List Stmt} {t u : TS} {e : Expr} {te : TE} {pos : Pos}
noncomputable def tNext:TS:=fun D σ H=>D.nx σ H
noncomputable def tSeq (t u:TS):TS:=fun D σ H=>t {D with nx:=u D} σ H
theorem pss_nil:PSs X [] tNext:=fun _ _ σ H _ I h=>wpAny_execs_nil ⟨σ,H,I,h⟩
theorem pss_cons (h1:PS X st t) (h2:PSs X rest u):PSs X (st::rest) (tSeq t u):=by
 intro pins s σ H D I h
 refine wpAny_execs_cons (thn (h1 pins s σ H {D with nx:=u D} I h) fun f s1 q=>?_)
 cases f with
 | next=>
  obtain⟨σ',H',I',q⟩:=q
  exact h2 pins s1 σ' H' D I' q
 | ret v=>exact q
 | brk=>exact q
 | cont=>exact q
theorem pss_one (h1:PS X st t):PSs X [st] t:=by
 intro pins s σ H D I h
 refine wpAny_execs_cons (thn (h1 pins s σ H D I h) fun f s1 q=>?_)
 cases f with
 | next=>exact wpAny_execs_nil q
 | ret v=>exact q
 | brk=>exact q
 | cont=>exact q
theorem Inv.quiet {pins:List (Addr×Obj)} {σ:St} {H:Hp} {s:Shared} (I:Inv X pins σ H s):interactive X.env=false:=by simp [interactive,I.ok.kind]
noncomputable def tDrop (te:TE):TS:=fun D σ H=>te σ H fun _ H1=>D.nx σ H1
theorem ps_expr (he:PE X e te) (hs:swapsWith e none pos.line X.env=pure false:=by rfl):PS X (.Expr e pos) (tDrop te):=by
 intro pins s σ H D I h
 exact wpAny_Expr_any (thn (he pins s σ H _ I h) fun v s1 ⟨x,H1,I1,r1,q1⟩=>⟨σ,H1,I1,q1⟩) I.quiet hs
noncomputable def tRet (te:TE):TS:=fun D σ H=>te σ H D.rt
theorem ps_ret (he:PE X e te):PS X (.Return (some e) pos) (tRet te):=by
 intro pins s σ H D I h
 exact wpAny_Return_some (thn (he pins s σ H _ I h) fun v s1 ⟨x,H1,I1,r1,q1⟩=>⟨x,σ,H1,I1,r1,q1⟩)
noncomputable def tRetN:TS:=fun D _ H=>D.rt .non H
noncomputable def tIfS (c:TT) (t u:TS):TS:=fun D σ H=>c σ H fun b H1=>if b=true then t D σ H1 else u D σ H1
theorem ps_if {c:Expr} {a b:List Stmt} {tc:TT} (hc:PT X c tc) (ha:PSs X a t) (hb:PSs X b u):PS X (.If c a b pos) (tIfS tc t u):=by
 intro pins s σ H D I h
 refine wpAny_If (thn (hc pins s σ H _ I h) fun d s1 ⟨H1,I1,q1⟩=>?_)
 cases d with
 | true=>exact ha pins s1 σ H1 D I1 q1
 | false=>exact hb pins s1 σ H1 D I1 q1
noncomputable def tNever:TS:=fun _ _ _=>False
theorem ps_never:PS X st tNever:=fun _ _ _ _ _ _ h=>h.elim
end
abbrev TG:=V→St→Hp→(St→Hp→Prop)→Prop
abbrev TGs:=List V→St→Hp→(St→Hp→Prop)→Prop
noncomputable def PG (X:Cx) (target:Expr) (t:TG):Prop:=
 ∀(pins:List (Addr×Obj)) (s:Shared) (σ:St) (H:Hp) (v:V) (u:Value) (Q:St→Hp→Prop),Inv X pins σ H s→RelV v u→t v σ H Q→
  wpAny (model X.prog X.w) X.A (assign target X.env u) (fun _ s'=>∃σ' H',Inv X pins σ' H' s'∧Q σ' H') X.xe s
noncomputable def PGs (X:Cx) (ts:List Expr) (t:TGs):Prop:=
 ∀(pins:List (Addr×Obj)) (s:Shared) (σ:St) (H:Hp) (vs:List V) (us:List Value) (Q:St→Hp→Prop),Inv X pins σ H s→Vals vs us→t vs σ H Q→
  wpAny (model X.prog X.w) X.A (assignInOrder ((assignEach ts X.env).map (·.2)) us) (fun _ s'=>∃σ' H',Inv X pins σ' H' s'∧Q σ' H') X.xe s
abbrev TSet:=V→V→V→Hp→(Hp→Prop)→Prop
noncomputable def PSet (X:Cx) (t:TSet):Prop:=
 ∀(pins:List (Addr×Obj)) (s:Shared) (σ:St) (H:Hp) (o i v:V) (ov iv u:Value) (Q:Hp→Prop),Inv X pins σ H s→RelV o ov→RelV i iv→RelV v u→t o i v H Q→
  wpAny (model X.prog X.w) X.A (setItem ov iv u) (fun _ s'=>∃H',Inv X pins σ H' s'∧Q H') X.xe s
abbrev TIp:=V→V→Hp→VK→Prop
noncomputable def PIp (X:Cx) (op:Operator) (t:TIp):Prop:=
 ∀(pins:List (Addr×Obj)) (s:Shared) (σ:St) (H:Hp) (x y:V) (v u:Value) (Q:VK),Inv X pins σ H s→RelV x v→RelV y u→t x y H Q→
  wpAny (model X.prog X.w) X.A (inplaceOp op v u) (EP X pins σ Q) X.xe s
section
variable {X : Cx} {pos : Pos}
noncomputable def gName (i:Nat):TG:=fun v σ H Q=>Q (σ.set i (some v)) H
theorem pg_name {i:Nat} {x:Str} (hN:X.N.Nodup) (hi:X.N[i]?=some x) (hx:Loc X.env.scope x) (hf:X.fn x=true∨X.env.scope.names.lookup x=some .local:=by first | exact .inl rfl | exact .inr rfl | assumption):PG X (.Name x pos) (gName i):=by
 intro pins s σ H v u Q I r h
 exact wpAny_assign_Name (store_ok I hN hi hx r (fun s' I'=>⟨_,H,I',h⟩) hf)
noncomputable def gNil:TGs:=fun vs σ H Q=>vs=[]∧Q σ H
noncomputable def gCons (t:TG) (u:TGs):TGs:=fun vs σ H Q=>∃v r,vs=v::r∧t v σ H fun σ' H'=>u r σ' H' Q
theorem pgs_nil:PGs X [] gNil:=by
 intro pins s σ H vs us Q I r h
 obtain⟨e,h⟩:=h
 subst e
 cases r
 exact assignInOrder_nil ⟨σ,H,I,h⟩
theorem pgs_cons {e:Expr} {es:List Expr} {t:TG} {u:TGs} (h1:PG X e t) (h2:PGs X es u)
  (hs:(assignEach (e::es) X.env).map (·.2)=assign e X.env::(assignEach es X.env).map (·.2):=by rfl):PGs X (e::es) (gCons t u):=by
 intro pins s σ H vs us Q I r h
 obtain⟨v,vr,e1,h⟩:=h
 subst e1
 cases r with
 | cons r rr=>
  rw[hs]
  refine assignInOrder_cons (thn (h1 pins s σ H _ _ _ I r h) fun _ s1 ⟨σ1,H1,I1,q1⟩=>?_)
  exact h2 pins s1 σ1 H1 _ _ Q I1 rr q1
noncomputable def gTup (K:PySem.W.Frag) (n:Nat) (t:TGs):TG:=fun v σ H Q=>∃a xs,v=.ref a∧SqT K H a xs∧xs.length=n∧t xs σ H Q
theorem pg_tup {es:List Expr} {k:Nat} {t:TGs} {n:Nat} (hc:X.calm=true) (h:PGs X es t)
  (hn:(assignEach es X.env).length=n:=by rfl) (hst:(assignEach es X.env).findIdx? (·.1)=none:=by rfl):PG X (.Tuple es k pos) (gTup X.K n t):=by
 intro pins s σ H v u Q I r hw
 obtain⟨a,xs,e1,hq,hl,hw⟩:=hw
 subst e1
 cases r
 obtain⟨its,rv,ht,hz⟩:=I.tuple hq
 refine assign_Tuple_tuple (I.ok.hd hc) ht (by simp [hn,←hl,rv.length]) hst fun h' hx=>?_
 have I1:Inv X pins σ H {s with heap:=h'}:=I.kept (t':=s.toks) fun b o e=>hx b o (Nat.ne_of_lt (Heap.lt_size e)) e
 exact h pins _ σ H xs _ Q I1 (by simpa using rv) hw
noncomputable def gSub (to ti:TE) (t:TSet):TG:=fun v σ H Q=>to σ H fun o H1=>ti σ H1 fun i H2=>t o i v H2 fun H3=>Q σ H3
theorem pg_sub {o i:Expr} {to ti:TE} {t:TSet} (ho:PE X o to) (hi:PE X i ti) (hs:PSet X t)
  (ha:∀v,assign (.Subscript o i pos) X.env v=(do
   let ov ←holding [v] (eval o X.env)
   let iv ←holding [v,ov] (eval i X.env)
   standAt pos
   holding [v,ov,iv] (setItem ov iv v)
   release [v,ov,iv] []):=by intro _;rfl):PG X (.Subscript o i pos) (gSub to ti t):=by
 intro pins s σ H v u Q I r h
 rw[ha]
 refine wpAny_bind (wpAny_holding (thn (ho pins s σ H _ I h) fun ov s1 hh_=>?_))
 obtain⟨x,H1,I1,r1,q1⟩:=hh_
 refine wpAny_bind (wpAny_holding (thn (hi pins s1 σ H1 _ I1 q1) fun iv s2 hh_=>?_))
 obtain⟨y,H2,I2,r2,q2⟩:=hh_
 refine wpAny_bind (wpAny_standAt (wpAny_bind (wpAny_holding (thn (hs pins s2 σ H2 x y v ov iv u _ I2 r1 r2 r q2) fun _ s3 ⟨H3,I3,q3⟩=>?_))))
 exact wpAny_release ⟨σ,H3,I3,q3⟩
noncomputable def tAsg (te:TE) (g:TG):TS:=fun D σ H=>te σ H fun x H1=>g x σ H1 D.nx
theorem ps_asg {tg e:Expr} {te:TE} {g:TG} (he:PE X e te) (hg:PG X tg g) (hs:swapsWithSole [tg] e pos.line X.env=pure false:=by rfl) (hw:swappedStores [tg] e X.env=pure none:=by rfl)
  (h1:(assignEach [tg] X.env).map (·.2)=[assign tg X.env]:=by rfl):PS X (.Assign [tg] e pos) (tAsg te g):=by
 intro pins s σ H D I h
 refine wpAny_Assign_stores (thn (he pins s σ H _ I h) fun v s1 hh_=>?_) hs hw
 obtain⟨x,H1,I1,r1,q1⟩:=hh_
 rw[h1]
 exact thn (hg pins s1 σ H1 x v _ I1 r1 q1) fun _ s2 q=>q
theorem ps_set {i:Nat} {x:Str} {e:Expr} {te:TE} {pos':Pos} (hN:X.N.Nodup) (hi:X.N[i]?=some x) (hx:Loc X.env.scope x) (he:PE X e te) (hs:swapsWith e (some (.Name x pos')) pos.line X.env=pure false:=by rfl) (hf:X.fn x=true∨X.env.scope.names.lookup x=some .local:=by first | exact .inl rfl | exact .inr rfl | assumption):
  PS X (.Assign [.Name x pos'] e pos) (tAsg te (gName i)):=by
 intro pins s σ H D I h
 refine wpAny_Assign_Name (thn (he pins s σ H _ I h) fun v s1 hh_=>?_) hs
 obtain⟨y,H1,I1,r1,q1⟩:=hh_
 exact store_ok I1 hN hi hx r1 (fun s2 I2=>⟨_,H1,I2,q1⟩) hf
noncomputable def tPar (i j:Nat) (ta:TA):TS:=fun D σ H=>ta σ H fun vs H1=>∃v w,vs=[v,w]∧D.nx ((σ.set i (some v)).set j (some w)) H1
theorem ps_par {i j:Nat} {x y:Str} {a b:Expr} {ta:TA} {px py pt:Pos} {kt k2 pt2} (hc:X.calm=true) (hN:X.N.Nodup) (hi:X.N[i]?=some x) (hj:X.N[j]?=some y) (hij:i≠j)
  (hx:X.env.scope.names.lookup x=some .local) (hy:X.env.scope.names.lookup y=some .local) (ha:PA X [a,b] ta)
  (hw:swappedStores [.Tuple [.Name x px,.Name y py] kt pt] (.Tuple [a,b] k2 pt2) X.env=pure (some [x,y]))
  (hs:swapsWithSole [.Tuple [.Name x px,.Name y py] kt pt] (.Tuple [a,b] k2 pt2) pos.line X.env=pure false:=by rfl):
  PS X (.Assign [.Tuple [.Name x px,.Name y py] kt pt] (.Tuple [a,b] k2 pt2) pos) (tPar i j ta):=by
 intro pins s σ H D I h
 rw[exec_Assign_arm]
 refine wpAny_bind (wpAny_standAt ?_)
 rw[hs]
 refine wpAny_bind (wpAny_pure ?_)
 rw[if_neg (by decide)]
 refine wpAny_bind (Tuple_ (thn (ha _ pins s σ H _ I h) fun us s1 hh_=>?_))
 obtain⟨vs,H1,I1,r1,q1⟩:=hh_
 obtain⟨v,w,e1,q1⟩:=q1
 subst e1
 obtain⟨u1,u2,rfl,rv,rw'⟩:∃u1 u2,us=[u1,u2]∧RelV v u1∧RelV w u2:=by
  cases r1 with
  | cons p q=>
   cases q with
   | cons p' q'=>
    cases q'
    exact⟨_,_,rfl,p,p'⟩
 refine wpAny_newObj_type ?_ (by show 2≤sizeLine;decide)
 have I2:Inv X pins σ H1 {s1 with heap:=s1.heap.push {cls:=.type "tuple",data:=.seq [u1,u2].toArray}}:=I1.kept (t':=s1.toks) fun b o e=>Heap.get?_push_of_some _ e
 rw[hw]
 refine wpAny_bind (wpAny_pure ?_)
 show wpAny (model X.prog X.w) X.A (do rule "assign.swapped-stores";let items ←unpackItems (.ref s1.heap.objs.size) 2 none;assignInOrder [fun v=>bindName X.env y v,fun v=>bindName X.env x v] items.reverse;pure Flow.next) _ _ _
 refine wpAny_bind (wpAny_rule (wpAny_bind (unpackItems_tuple (items:=#[u1,u2]) (I.ok.hd hc) (IsTup.new s1.heap _) fun h' hx'=>?_)))
 have I3:=I2.kept (h':=h') (t':=s1.toks) fun b o e=>hx' b o (Nat.ne_of_lt (Heap.lt_size e)) e
 show wpAny _ _ (assignInOrder [fun v=>bindName X.env y v,fun v=>bindName X.env x v] [u2,u1] >>=fun _=>pure Flow.next) _ _ _
 refine wpAny_bind (assignInOrder_cons (wpAny_bindName (store_ok I3 hN hj (.inl hy) rw' (fun s2 I4=>?_) (.inr hy))))
 refine assignInOrder_cons (wpAny_bindName (store_ok I4 hN hi (.inl hx) rv (fun s3 I5=>assignInOrder_nil (wpAny_pure ?_)) (.inr hx)))
 rw[List.set_comm _ _ (Ne.symm hij)] at I5
 exact⟨_,H1,I5,q1⟩
noncomputable def tAugS (to ti te:TE) (tget:V→V→Hp→VK→Prop) (tip:TIp) (tset:TSet):TS:=fun D σ H=>to σ H fun o H1=>ti σ H1 fun i H2=>tget o i H2 fun x H3=>te σ H3 fun y H4=>tip x y H4 fun z H5=>tset o i z H5 fun H6=>D.nx σ H6
noncomputable def PGet (X:Cx) (t:V→V→Hp→VK→Prop):Prop:=
 ∀(pins:List (Addr×Obj)) (s:Shared) (σ:St) (H:Hp) (o i:V) (ov iv:Value) (Q:VK),Inv X pins σ H s→RelV o ov→RelV i iv→t o i H Q→
  wpAny (model X.prog X.w) X.A (getItem ov iv) (EP X pins σ Q) X.xe s
theorem ps_augS {o i e:Expr} {to ti te:TE} {tget:V→V→Hp→VK→Prop} {tip:TIp} {tset:TSet} {op:Operator} {tpos:Pos} (ho:PE X o to) (hi:PE X i ti) (hg:PGet X tget) (he:PE X e te) (hp:PIp X op tip) (hs:PSet X tset)
  (ha:∀ov iv new,augStore i ov iv new=(do holding [new,ov,iv] (setItem ov iv new);release [new,ov,iv] [];pure .next):=by intros;rfl):PS X (.AugAssign (.Subscript o i tpos) op e pos) (tAugS to ti te tget tip tset):=by
 intro pins s σ H D I h
 refine wpAny_AugAssign_SubscriptAny (thn (ho pins s σ H _ I h) fun ov s1 hh_=>?_) ha
 obtain⟨x1,H1,I1,r1,q1⟩:=hh_
 refine thn (hi pins s1 σ H1 _ I1 q1) fun iv s2 hh_=>?_
 obtain⟨x2,H2,I2,r2,q2⟩:=hh_
 refine thn (hg pins s2 σ H2 x1 x2 ov iv _ I2 r1 r2 q2) fun old s3 hh_=>?_
 obtain⟨x3,H3,I3,r3,q3⟩:=hh_
 refine thn (he pins s3 σ H3 _ I3 q3) fun v s4 hh_=>?_
 obtain⟨x4,H4,I4,r4,q4⟩:=hh_
 refine thn (hp pins s4 σ H4 x3 x4 old v _ I4 r3 r4 q4) fun new s5 hh_=>?_
 obtain⟨x5,H5,I5,r5,q5⟩:=hh_
 exact thn (hs pins s5 σ H5 x1 x2 x5 ov iv new _ I5 r1 r2 r5 q5) fun _ s6 ⟨H6,I6,q6⟩=>⟨σ,H6,I6,q6⟩
noncomputable def ipI (f:Int→Int→Int):TIp:=fun x y H Q=>∃i j,x=.int i∧y=.int j∧Q (.int (f i j)) H
theorem ip_add:PIp X .Add (ipI fun i j=>i+j):=by
 intro pins s σ H x y v u Q I r1 r2 h
 obtain⟨i,j,e1,e2,q⟩:=h
 subst e1;subst e2
 obtain⟨t,rfl⟩:=r1
 obtain⟨t',rfl⟩:=r2
 exact iadd_int ⟨.int _,H,I.tok _,⟨_,rfl⟩,q⟩
theorem ip_sub:PIp X .Sub (ipI fun i j=>i - j):=by
 intro pins s σ H x y v u Q I r1 r2 h
 obtain⟨i,j,e1,e2,q⟩:=h
 subst e1;subst e2
 obtain⟨t,rfl⟩:=r1
 obtain⟨t',rfl⟩:=r2
 exact isub_int ⟨.int _,H,I.tok _,⟨_,rfl⟩,q⟩
end
section
variable {X : Cx} {pos : Pos}
noncomputable def tWhile (c:TT) (tb:TS):TS:=fun D σ H=>∃W:Nat→St→Hp→Prop,(∃m,W m σ H)∧∀m σ H,W m σ H→
 c σ H fun b H1=>if b=true then ∃N:St→Hp→Prop,(∀σ' H',N σ' H'→∃m',m'<m∧W m' σ' H')∧tb {D with nx:=N,ct:=N,bk:=D.nx} σ H1 else D.nx σ H1
theorem ps_while {c:Expr} {body:List Stmt} {tc:TT} {tb:TS} (hp:PassesOwn (model X.prog X.w) X.A X.env X.xe) (hc:PT X c tc) (hb:PSs X body tb):PS X (.While c body [] pos) (tWhile tc tb):=by
 intro pins s σ H D I h
 obtain⟨W,⟨m0,w0⟩,turn⟩:=h
 refine wpAny_While (codeAny_whileLoop (fun n s'=>∃σ' H',Inv X pins σ' H' s'∧W n σ' H') ?_ m0 ⟨σ,H,I,w0⟩)
 rintro n s1 ⟨σ1,H1,I1,w1⟩
 refine wpAny_passesOwn hp (thn (hc pins s1 σ1 H1 _ I1 (turn n σ1 H1 w1)) fun b s2 ⟨H2,I2,q2⟩=>?_)
 cases b with
 | true=>
  obtain⟨N,hN,q2⟩:=q2
  rw[if_pos rfl]
  refine wpAny_passesOwn hp (thn (hb pins s2 σ1 H2 _ I2 q2) fun f s3 q3=>?_)
  cases f with
  | next=>
   obtain⟨σ3,H3,I3,n3⟩:=q3
   obtain⟨m',hm,w3⟩:=hN σ3 H3 n3
   exact⟨m',hm,σ3,H3,I3,w3⟩
  | cont=>
   obtain⟨σ3,H3,I3,n3⟩:=q3
   obtain⟨m',hm,w3⟩:=hN σ3 H3 n3
   exact⟨m',hm,σ3,H3,I3,w3⟩
  | brk=>exact q3
  | ret v=>exact q3
 | false=>
  rw[if_neg Bool.false_ne_true]
  exact wpAny_execs_nil ⟨σ1,H2,I2,q2⟩
end
structure It where
 go:Nat→Hp→Prop
 yld:Nat→Hp→V→Hp→Prop
 stop:Nat→Hp→Prop
noncomputable def FpOk (X:Cx) (pins:List (Addr×Obj)) (H:Hp) (b:Addr):Prop:=
 H b=none∧b≠X.env.locals∧b∉X.fs∧(b∈X.ex∨X.s₀.heap.objs.size≤b)∧(∀x c,X.env.cells.lookup x=some c→c≠b)∧∀p∈X.pn++pins,p.1≠b
theorem Inv.fpOk {X:Cx} {pins:List (Addr×Obj)} {σ:St} {H H':Hp} {s:Shared} {b:Addr} (I:Inv X pins σ H s) (hb:s.heap.objs.size≤b) (hn:H' b=none):FpOk X pins H' b:=by
 refine⟨hn,Nat.ne_of_gt (Nat.lt_of_lt_of_le I.lt hb),I.nofs hb,.inr (Nat.le_trans I.sz hb),fun x c e z=>?_,fun p hp z=>?_⟩
 ·obtain⟨v,q⟩:=I.cell x c e
  exact absurd (Nat.lt_of_lt_of_le q.lt (by rw[z];exact hb)) (Nat.lt_irrefl _)
 ·exact absurd (Nat.lt_of_lt_of_le (Heap.lt_size (I.pin p hp).1) (by rw[z];exact hb)) (Nat.lt_irrefl _)
structure Turn (P:Program) (w:World) (K:PySem.W.Frag) (tg:Expr) (J:It) (fp:List Addr) (it:Addr) (tn:Nat→Heap→Prop):Prop where
 mem:it∈fp
 obj:∀i h,tn i h→∀b∈fp,∃o,h.get? b=some o∧∀v,o.data≠.cell v
 keep:∀i h h',tn i h→(∀b∈fp,∀o,h.get? b=some o→h'.get? b=some o)→tn i h'
 item:∀(X:Cx),X.prog=P→X.w=w→X.K=K→X.calm=true→∀(i:Nat) (pins:List (Addr×Obj)) (s:Shared) (σ:St) (H:Hp) (E:Value→Shared→Prop),Inv X pins σ H s→(∀b∈fp,FpOk X pins H b)→tn i s.heap→J.go i H→
  wpAny (model P w) X.A (pyNext (.ref it)) (fun r s1=>∃u,r=some u∧
   wpAny (model P w) X.A (letOwnedTupleGo tg (.ref it) u) (fun _ s2=>∃x H',Inv X pins σ H' s2∧RelV x u∧J.yld i H x H'∧tn (i+1) s2.heap∧∀b∈fp,H' b=none) E s1) E s
 done:∀(X:Cx),X.prog=P→X.w=w→X.K=K→X.calm=true→∀(i:Nat) (pins:List (Addr×Obj)) (s:Shared) (σ:St) (H:Hp) (E:Value→Shared→Prop),Inv X pins σ H s→(∀b∈fp,FpOk X pins H b)→tn i s.heap→J.stop i H→
  wpAny (model P w) X.A (pyNext (.ref it)) (fun r s1=>r=none∧Inv X pins σ H s1) E s
 self:∀(A:Around) (i:Nat) (s:Shared) (Q:Value→Shared→Prop) (E:Value→Shared→Prop),tn i s.heap→Q (.ref it) s→wpAny (model P w) A (pyIter (.ref it)) Q E s
abbrev TI:=St→Hp→(It→Hp→Prop)→Prop
noncomputable def PIE (X:Cx) (pins:List (Addr×Obj)) (σ:St) (tg:Expr) (R:It→Hp→Prop) (itv:Value) (s2:Shared):Prop:=
 ∃(it:Addr) (fp:List Addr) (tn:Nat→Heap→Prop) (J:It) (H':Hp),itv=.ref it∧Inv X pins σ H' s2∧Turn X.prog X.w X.K tg J fp it tn∧tn 0 s2.heap∧(∀b∈fp,FpOk X pins H' b)∧R J H'
noncomputable def PI (X:Cx) (tg iter:Expr) (wi:TI):Prop:=
 ∀(pins:List (Addr×Obj)) (s:Shared) (σ:St) (H:Hp) (R:It→Hp→Prop),Inv X pins σ H s→wi σ H R→
  wpAny (model X.prog X.w) X.A (eval iter X.env) (fun v s1=>wpAny (model X.prog X.w) X.A (pyIter v) (PIE X pins σ tg R) X.xe s1) X.xe s
theorem go_of {M:Model} {A:Around} {E:Value→Shared→Prop} {s:Shared} {tg:Expr} {it:Addr} {u:Value} {o:Obj} {n:String} {vs:Array Value} {Q:Unit→Shared→Prop} (ho:s.heap.get? it=some o) (hc:o.cls=.type n) (hd:o.data=.fields vs)
  (hn:["enumerate","zip","dict_itemiterator","dict_reverseitemiterator","odict_iterator","itertools.zip_longest","itertools.pairwise"].contains n=false) (hQ:Q () s):wpAny M A (letOwnedTupleGo tg (.ref it) u) Q E s:=by
 unfold letOwnedTupleGo
 cases tg <;>first
  | exact wpAny_pure hQ
  | (cases u <;>first
    | exact wpAny_pure hQ
    | (refine wpAny_bind (wpAny_load ho ?_)
       rw[hc,hd]
       show wpAny M A (if (["enumerate","zip","dict_itemiterator","dict_reverseitemiterator","odict_iterator","itertools.zip_longest","itertools.pairwise"].contains n && vs[0]?==some (rawInt _))=true then _ else _) Q E s
       rw[if_neg (by intro h;rw[hn,Bool.false_and] at h;cases h)]
       exact wpAny_pure hQ))
noncomputable def Itl (K:PySem.W.Frag) (a:Addr):It:=
 ⟨fun i H=>∃xs x,SqL K H a xs∧xs[i]?=some x,fun i H x H'=>H'=H∧∀xs,SqL K H a xs→xs[i]?=some x,fun i H=>∃xs,SqL K H a xs∧xs.length≤i⟩
noncomputable def Itt (K:PySem.W.Frag) (a:Addr):It:=
 ⟨fun i H=>∃xs x,SqT K H a xs∧xs[i]?=some x,fun i H x H'=>H'=H∧∀xs,SqT K H a xs→xs[i]?=some x,fun i H=>∃xs,SqT K H a xs∧xs.length≤i⟩
noncomputable def Itr (lo:Int) (n:Nat):It:=⟨fun i _=>i<n,fun i H x H'=>H'=H∧x=.int (lo+i),fun i _=>n≤i⟩
theorem turn_list {P:Program} {w:World} {K:PySem.W.Frag} {tg:Expr} (a it:Addr):Turn P w K tg (Itl K a) [it] it (fun i h=>h.IsListIter it a i) where
 mem:=by simp
 obj:=fun i h st b hb=>by
  have e:b=it:=by simpa using hb
  subst e
  obtain⟨o,e,c,d⟩:=st
  exact⟨o,e,fun v z=>by rw[d] at z;cases z⟩
 keep:=fun i h h' st k=>st.at fun o e=>k it (by simp) o e
 item:=by
  intro X hP hw hK hc i pins s σ H E I hf st hg
  subst hP hw hK
  obtain⟨xs,x,hq,hx⟩:=hg
  obtain⟨its,rv,p,hz⟩:=I.list hq
  obtain⟨u,hu,ru⟩:=rv.get hx
  obtain⟨f0,f1,f2,f3,f4,f5⟩:=hf it (by simp)
  refine wpAny_pyNext_list_item st p.isList (x:=u) (by simpa using hu) fun h' st' sb=>?_
  have I1:Inv X pins σ H {s with heap:=h'}:=I.turned (t':=s.toks) (fun b o hb e=>(sb.2 b hb).trans e) f0 f1 f3 f4 f5
  obtain⟨o,e,c,d⟩:=id st'
  exact⟨u,rfl,go_of (s:={s with heap:=h'}) e c d (by decide) ⟨x,H,I1,ru,⟨rfl,fun ys hy=>by rw[I.list_inj hy hq];exact hx⟩,st',fun b hb=>(hf b hb).1⟩⟩
 done:=by
  intro X hP hw hK hc i pins s σ H E I hf st hg
  subst hP hw hK
  obtain⟨xs,hq,hx⟩:=hg
  obtain⟨its,rv,p,hz⟩:=I.list hq
  obtain⟨f0,f1,f2,f3,f4,f5⟩:=hf it (by simp)
  have hl:=rv.length
  exact wpAny_pyNext_list_end (I.ok.hd hc) st p.isList (by simp;omega) fun h' eb=>⟨rfl,I.turned (t':=s.toks) (fun b o hb e=>eb b o hb e) f0 f1 f3 f4 f5⟩
 self:=fun _ _ _ _ _ st h=>wpAny_pyIter_listiter st h
theorem turn_tuple {P:Program} {w:World} {K:PySem.W.Frag} {tg:Expr} (a it:Addr):Turn P w K tg (Itt K a) [it] it (fun i h=>h.IsTupleIter it a i) where
 mem:=by simp
 obj:=fun i h st b hb=>by
  have e:b=it:=by simpa using hb
  subst e
  obtain⟨o,e,c,d⟩:=st
  exact⟨o,e,fun v z=>by rw[d] at z;cases z⟩
 keep:=fun i h h' st k=>st.at fun o e=>k it (by simp) o e
 item:=by
  intro X hP hw hK hc i pins s σ H E I hf st hg
  subst hP hw hK
  obtain⟨xs,x,hq,hx⟩:=hg
  obtain⟨its,rv,p,hz⟩:=I.tuple hq
  obtain⟨u,hu,ru⟩:=rv.get hx
  obtain⟨f0,f1,f2,f3,f4,f5⟩:=hf it (by simp)
  refine wpAny_pyNext_tuple_item st (show s.heap.IsTuple a its.toArray from p) (x:=u) (by simpa using hu) fun h' st' sb=>?_
  have I1:Inv X pins σ H {s with heap:=h'}:=I.turned (t':=s.toks) (fun b o hb e=>(sb.2 b hb).trans e) f0 f1 f3 f4 f5
  obtain⟨o,e,c,d⟩:=id st'
  exact⟨u,rfl,go_of (s:={s with heap:=h'}) e c d (by decide) ⟨x,H,I1,ru,⟨rfl,fun ys hy=>by rw[I.tuple_inj hy hq];exact hx⟩,st',fun b hb=>(hf b hb).1⟩⟩
 done:=by
  intro X hP hw hK hc i pins s σ H E I hf st hg
  subst hP hw hK
  obtain⟨xs,hq,hx⟩:=hg
  obtain⟨its,rv,p,hz⟩:=I.tuple hq
  obtain⟨f0,f1,f2,f3,f4,f5⟩:=hf it (by simp)
  have hl:=rv.length
  exact wpAny_pyNext_tuple_end (I.ok.hd hc) st (show s.heap.IsTuple a its.toArray from p) (by simp;omega) fun h' eb=>⟨rfl,I.turned (t':=s.toks) (fun b o hb e=>eb b o hb e) f0 f1 f3 f4 f5⟩
 self:=fun _ _ _ _ _ st h=>wpAny_pyIter_tupleiter st h
theorem turn_range {P:Program} {w:World} {K:PySem.W.Frag} {tg:Expr} (it:Addr) (lo:Int) (n:Nat):Turn P w K tg (Itr lo n) [it] it (fun i h=>IsRangeIter h it (lo+ (i:Nat)*1) ((n:Int) - (i:Nat)) 1) where
 mem:=by simp
 obj:=fun i h st b hb=>by
  have e:b=it:=by simpa using hb
  subst e
  exact⟨_,st,fun v z=>by
   have z':Data.fields _=Data.cell v:=z
   cases z'⟩
 keep:=fun i h h' st k=>k it (by simp) _ st
 item:=by
  intro X hP hw hK hc i pins s σ H E I hf st hg
  subst hP hw hK
  obtain⟨f0,f1,f2,f3,f4,f5⟩:=hf it (by simp)
  have W:=Walks.range (prog:=X.prog) (w:=X.w) (I.ok.hd hc) it lo 1 n
  refine W.item i s _ _ hg st fun v h' tk hv st' kk=>?_
  obtain⟨t,rfl⟩:=hv
  have I1:Inv X pins σ H {s with heap:=h',toks:=tk}:=I.turned (fun b o hb e=>kk b o (by simpa using hb) e) f0 f1 f3 f4 f5
  refine⟨_,rfl,go_of (s:={s with heap:=h',toks:=tk}) (n:="range_iterator") st' rfl rfl (by decide) ⟨.int (lo+i),H,I1,⟨t,?_⟩,⟨rfl,rfl⟩,st',fun b hb=>(hf b hb).1⟩⟩
  rw[Int.mul_one]
 done:=by
  intro X hP hw hK hc i pins s σ H E I hf st hg
  subst hP hw hK
  obtain⟨f0,f1,f2,f3,f4,f5⟩:=hf it (by simp)
  exact wpAny_pyNext_range_end (I.ok.hd hc) st (by have:n≤i:=hg;omega) fun h' eb=>⟨rfl,I.turned (t':=s.toks) (fun b o hb e=>eb b o hb e) f0 f1 f3 f4 f5⟩
 self:=fun _ _ _ _ _ st h=>wpAny_pyIter_rangeiter st h
end L2
namespace L2
open PySem PySem.Spec PyProof.Rows
section
variable {X : Cx} {tg : Expr}
noncomputable def iList (K:PySem.W.Frag) (tl:TE):TI:=fun σ H R=>tl σ H fun x H1=>∃a,x=.ref a∧(∃xs,SqL K H1 a xs)∧R (Itl K a) H1
noncomputable def iTup (K:PySem.W.Frag) (tl:TE):TI:=fun σ H R=>tl σ H fun x H1=>∃a,x=.ref a∧(∃xs,SqT K H1 a xs)∧R (Itt K a) H1
theorem pi_list {l:Expr} {tl:TE} (hl:PE X l tl):PI X tg l (iList X.K tl):=by
 intro pins s σ H R I h
 refine thn (hl pins s σ H _ I h) fun v s1 hh_=>?_
 obtain⟨x,H1,I1,r1,q1⟩:=hh_
 obtain⟨a,e,⟨xs,hq⟩,q⟩:=q1
 subst e
 cases r1
 obtain⟨its,rv,p,hz⟩:=I1.list hq
 refine wpAny_pyIter_list p.isList ?_
 refine⟨s1.heap.objs.size,[s1.heap.objs.size],_,_,H1,rfl,I1.kept (t':=s1.toks) fun b o e=>Heap.get?_push_of_some _ e,turn_list a _,⟨_,Heap.get?_push_size _ rfl,rfl,rfl⟩,fun b hb=>?_,q⟩
 have e:b=s1.heap.objs.size:=by simpa using hb
 subst e
 exact I1.fpOk (Nat.le_refl _) (I1.hok.fresh (Nat.le_refl _))
theorem pi_tup {l:Expr} {tl:TE} (hl:PE X l tl):PI X tg l (iTup X.K tl):=by
 intro pins s σ H R I h
 refine thn (hl pins s σ H _ I h) fun v s1 hh_=>?_
 obtain⟨x,H1,I1,r1,q1⟩:=hh_
 obtain⟨a,e,⟨xs,hq⟩,q⟩:=q1
 subst e
 cases r1
 obtain⟨its,rv,p,hz⟩:=I1.tuple hq
 refine wpAny_pyIter_tuple (show s1.heap.IsTuple a its.toArray from p) ?_
 refine⟨s1.heap.objs.size,[s1.heap.objs.size],_,_,H1,rfl,I1.kept (t':=s1.toks) fun b o e=>Heap.get?_push_of_some _ e,turn_tuple a _,⟨_,Heap.get?_push_size _ rfl,rfl,rfl⟩,fun b hb=>?_,q⟩
 have e:b=s1.heap.objs.size:=by simpa using hb
 subst e
 exact I1.fpOk (Nat.le_refl _) (I1.hok.fresh (Nat.le_refl _))
theorem range_it {pins:List (Addr×Obj)} {σ:St} {H:Hp} {s:Shared} {R:It→Hp→Prop} {E:Value→Shared→Prop} {lo hi:Int} {t u v:Tok} {tk:Nat} (I:Inv X pins σ H s) (h1:-(2^62)≤lo) (h2:lo<2^62) (h3:-(2^62)≤hi) (h4:hi<2^62)
  (q:R (Itr lo (hi - lo).toNat) H):wpAny (model X.prog X.w) X.A (pyIter (.ref s.heap.objs.size)) (PIE X pins σ tg R) E {s with heap:=s.heap.push {cls:=.type "range",data:=.fields #[.int lo t,.int hi u,.int 1 v]},toks:=tk}:=by
 refine wpAny_pyIter_range (IsRange.new ..) (small_one h1 h2 h3 h4) ?_
 have I1:Inv X pins σ H {s with heap:=s.heap.push {cls:=.type "range",data:=.fields #[.int lo t,.int hi u,.int 1 v]},toks:=tk}:=I.kept fun b o e=>Heap.get?_push_of_some _ e
 refine⟨(s.heap.push {cls:=.type "range",data:=.fields #[.int lo t,.int hi u,.int 1 v]}).objs.size,[(s.heap.push {cls:=.type "range",data:=.fields #[.int lo t,.int hi u,.int 1 v]}).objs.size],_,_,H,rfl,
  I1.kept (t':=tk) fun b o e=>Heap.get?_push_of_some _ e,turn_range _ lo (hi - lo).toNat,?_,fun b hb=>?_,q⟩
 ·have e1:lo+ ((0:Nat):Int)*1=lo:=by simp
  have e2:(((hi - lo).toNat:Nat):Int) - ((0:Nat):Int)=Builtin.Range.rangeSize lo hi 1:=by rw[rangeSize_one];split <;>omega
  show IsRangeIter _ _ (lo+ ((0:Nat):Int)*1) ((((hi - lo).toNat:Nat):Int) - ((0:Nat):Int)) 1
  rw[e1,e2]
  exact Heap.get?_push_size _ rfl
 ·have e:b=(s.heap.push {cls:=.type "range",data:=.fields #[.int lo t,.int hi u,.int 1 v]}).objs.size:=by simpa using hb
  subst e
  exact I1.fpOk (Nat.le_refl _) (I1.hok.fresh (Nat.le_refl _))
noncomputable def iRng1 (ta:TA):TI:=fun σ H R=>ta σ H fun vs H1=>∃j:Int,vs=[.int j]∧-(2^62)≤j∧j<2^62∧R (Itr 0 j.toNat) H1
noncomputable def iRng2 (ta:TA):TI:=fun σ H R=>ta σ H fun vs H1=>∃i j:Int,vs=[.int i,.int j]∧(-(2^62)≤i∧i<2^62∧-(2^62)≤j∧j<2^62)∧R (Itr i (j - i).toNat) H1
theorem pi_range1 {a:Expr} {ta:TA} {p pos:Pos} (hg:Gl X "range") (hm:X.mg "range"=none) (ha:PA X [a] ta) (hs:starEach [a] X.env=[(false,eval a X.env)]:=by rfl):PI X tg (.Call (.Name "range" p) [a] [] pos) (iRng1 ta):=by
 intro pins s σ H R I h
 refine Call_ (ld_blt I hg hm boot_range (PyProof.Rows.callWith_type1 (thn (ha pos pins s σ H _ I h) fun us s1 hh_=>?_) hs rfl))
 obtain⟨vs,H1,I1,r1,q1⟩:=hh_
 obtain⟨j,e,q1,q2,q⟩:=q1
 subst e
 cases r1 with
 | cons r rr=>
  cases rr
  obtain⟨t,rfl⟩:=r
  exact call_range_1 (range_it I1 (by omega) (by omega) q1 q2 (by simpa using q))
theorem pi_range2 {a b:Expr} {ta:TA} {p pos:Pos} (hg:Gl X "range") (hm:X.mg "range"=none) (ha:PA X [a,b] ta) (hs:starEach [a,b] X.env=[(false,eval a X.env),(false,eval b X.env)]:=by rfl) (hs2:starEach [b] X.env=[(false,eval b X.env)]:=by rfl):
  PI X tg (.Call (.Name "range" p) [a,b] [] pos) (iRng2 ta):=by
 intro pins s σ H R I h
 refine Call_ (ld_blt I hg hm boot_range (PyProof.Rows.callWith_type1 (thn (ha pos pins s σ H _ I h) fun us s1 hh_=>?_) (by rw[hs,hs2]) (by rw[hs2];rfl)))
 obtain⟨vs,H1,I1,r1,q1⟩:=hh_
 obtain⟨i,j,e,⟨q1,q2,q3,q4⟩,q⟩:=q1
 subst e
 cases r1 with
 | cons r rr=>
  cases rr with
  | cons r' rr=>
   cases rr
   obtain⟨t,rfl⟩:=r
   obtain⟨t',rfl⟩:=r'
   exact call_range_2 (range_it I1 q1 q2 q3 q4 q)
noncomputable def tFor (wi:TI) (g:TG) (tb:TS):TS:=fun D σ H=>wi σ H fun J H1=>∃W:Nat→Nat→St→Hp→Prop,(∃m,W 0 m σ H1)∧∀i m σ H,W i m σ H→
 (J.stop i H∧D.nx σ H)∨(J.go i H∧∃N:St→Hp→Prop,(∀σ' H',N σ' H'→∃m',m'<m∧W (i+1) m' σ' H')∧∀x H',J.yld i H x H'→g x σ H' fun σ2 H2=>tb {D with nx:=N,ct:=N,bk:=D.nx} σ2 H2)
noncomputable def pinsAt (fp:List Addr) (h:Heap):List (Addr×Obj):=fp.filterMap fun b=>(h.get? b).map fun o=>(b,o)
theorem mem_pinsAt {fp:List Addr} {h:Heap} {b:Addr} {o:Obj} (hb:b∈fp) (e:h.get? b=some o):(b,o)∈pinsAt fp h:=List.mem_filterMap.mpr ⟨b,hb,by rw[e];rfl⟩
theorem of_pinsAt {fp:List Addr} {h:Heap} {p:Addr×Obj} (hp:p∈pinsAt fp h):p.1∈fp∧h.get? p.1=some p.2:=by
 obtain⟨b,hb,e⟩:=List.mem_filterMap.mp hp
 cases q:h.get? b with
 | none=>rw[q] at e;cases e
 | some o=>
  rw[q] at e
  have e':(b,o)=p:=Option.some.inj e
  subst e'
  exact⟨hb,q⟩
theorem Inv.pinned {pins:List (Addr×Obj)} {σ:St} {H:Hp} {s:Shared} {fp:List Addr} (I:Inv X pins σ H s) (hf:∀b∈fp,FpOk X pins H b) (ho:∀b∈fp,∃o,s.heap.get? b=some o∧∀v,o.data≠.cell v):Inv X (pins++pinsAt fp s.heap) σ H s:=
 I.pins_of fun p hp=>(List.mem_append.mp hp).elim (fun z=>I.pin p (List.mem_append_right _ z)) fun z=>by
  obtain⟨hb,e⟩:=of_pinsAt z
  obtain⟨f0,f1,f2,_⟩:=hf p.1 hb
  obtain⟨o,e',d⟩:=ho p.1 hb
  rw[e] at e';cases e'
  exact⟨e,f0,f1,f2,d⟩
theorem Inv.unpinned {pins pl:List (Addr×Obj)} {σ:St} {H:Hp} {s:Shared} (I:Inv X (pins++pl) σ H s):Inv X pins σ H s:=I.pins_of fun p hp=>I.pin p (List.mem_append_right _ (List.mem_append_left _ hp))
theorem ps_for {iter:Expr} {body:List Stmt} {wi:TI} {g:TG} {tb:TS} {pos:Pos} (hp:PassesOwn (model X.prog X.w) X.A X.env X.xe) (hc:X.calm=true) (hi:PI X tg iter wi) (hg:PG X tg g) (hb:PSs X body tb)
  (hs:∀x,foldedSetIterable iter X.env x=pure x:=by intro _;rfl):PS X (.For tg iter body [] pos) (tFor wi g tb):=by
 intro pins s σ H D I h
 refine wpAny_For (thn (hi pins s σ H _ I h) fun v s1 h1=>thn h1 fun itv s2 h2=>?_) hs
 obtain⟨it,fp,tn,J,H2,e,I2,T,st2,f2,W,⟨m0,w0⟩,turn⟩:=h2
 subst e
 have stat:∀{H':Hp},(∀b∈fp,H' b=none)→∀b∈fp,FpOk X pins H' b:=fun hn b hb=>⟨hn b hb,(f2 b hb).2⟩
 refine codeAny_forLoop_any (fun n s'=>∃i σ' H',Inv X pins σ' H' s'∧tn i s'.heap∧(∀b∈fp,H' b=none)∧W i n σ' H') ?_ m0 ⟨0,σ,H2,I2,st2,fun b hb=>(f2 b hb).1,w0⟩
 rintro n s3 ⟨i,σ3,H3,I3,st3,fr3,w3⟩
 rcases turn i n σ3 H3 w3 with ⟨stop,qn⟩ | ⟨go,N,hN,step⟩
 ·refine wpAny_passesOwn hp (thn (T.done X rfl rfl rfl hc i pins s3 σ3 H3 X.xe I3 (stat fr3) st3 stop) fun r s4 ⟨hr,I4⟩=>?_)
  subst hr
  exact wpAny_execs_nil ⟨σ3,H3,I4,qn⟩
 ·refine wpAny_passesOwn hp (thn (T.item X rfl rfl rfl hc i pins s3 σ3 H3 X.xe I3 (stat fr3) st3 go) fun r s4 ⟨u,hr,h4⟩=>?_)
  subst hr
  refine wpAny_passesOwn hp (thn h4 fun _ s5 hh_=>?_)
  obtain⟨x,H5,I5,r5,y5,st5,fr5⟩:=hh_
  have I5':=I5.pinned (stat fr5) (T.obj _ _ st5)
  refine wpAny_passesOwn hp (thn (hg _ s5 σ3 H5 x u _ I5' r5 (step x H5 y5)) fun _ s6 ⟨σ6,H6,I6,q6⟩=>?_)
  refine wpAny_passesOwn hp (thn (hb _ s6 σ6 H6 _ I6 q6) fun f s7 q7=>?_)
  have again:∀{σ7:St} {H7:Hp},Inv X (pins++pinsAt fp s5.heap) σ7 H7 s7→N σ7 H7→∃m,m<n∧∃i σ' H',Inv X pins σ' H' s7∧tn i s7.heap∧(∀b∈fp,H' b=none)∧W i m σ' H':=fun {σ7 H7} I7 n7=>by
   obtain⟨m',hm,w7⟩:=hN σ7 H7 n7
   refine⟨m',hm,i+1,σ7,H7,I7.unpinned,T.keep _ _ _ st5 fun b hb o e=>(I7.pin (b,o) (List.mem_append_right _ (List.mem_append_right _ (mem_pinsAt hb e)))).1,fun b hb=>?_,w7⟩
   obtain⟨o,e,d⟩:=T.obj _ _ st5 b hb
   exact(I7.pin (b,o) (List.mem_append_right _ (List.mem_append_right _ (mem_pinsAt hb e)))).2.1
  cases f with
  | next=>obtain⟨σ7,H7,I7,n7⟩:=q7;exact again I7 n7
  | cont=>obtain⟨σ7,H7,I7,n7⟩:=q7;exact again I7 n7
  | brk=>obtain⟨σ7,H7,I7,q7⟩:=q7;exact⟨σ7,H7,I7.unpinned,q7⟩
  | ret v=>obtain⟨x7,σ7,H7,I7,r7,q7⟩:=q7;exact⟨x7,σ7,H7,I7.unpinned,r7,q7⟩
end
theorem for_tup {K:PySem.W.Frag} {a:Addr} {xs:List V} {g:TG} {tb:TS} {D:Ends} {σ:St} {H:Hp} (Pv:Nat→St→Hp→Prop) (h0:Pv 0 σ H) (hl:∀i σ H,i≤xs.length→Pv i σ H→SqT K H a xs)
  (hs:∀i x σ H,xs[i]?=some x→Pv i σ H→g x σ H fun σ2 H2=>tb {D with nx:=Pv (i+1),ct:=Pv (i+1),bk:=D.nx} σ2 H2) (hd:∀σ H,Pv xs.length σ H→D.nx σ H):
  ∃W:Nat→Nat→St→Hp→Prop,(∃m,W 0 m σ H)∧∀i m σ H,W i m σ H→
   ((Itt K a).stop i H∧D.nx σ H)∨((Itt K a).go i H∧∃N:St→Hp→Prop,(∀σ' H',N σ' H'→∃m',m'<m∧W (i+1) m' σ' H')∧∀x H',(Itt K a).yld i H x H'→g x σ H' fun σ2 H2=>tb {D with nx:=N,ct:=N,bk:=D.nx} σ2 H2):=by
 refine⟨fun i m σ H=>m=xs.length - i∧i≤xs.length∧Pv i σ H,⟨xs.length,by simp,Nat.zero_le _,h0⟩,?_⟩
 rintro i m σ H ⟨rfl,hi,p⟩
 have q:=hl i σ H hi p
 by_cases hlt:i<xs.length
 ·refine .inr ⟨⟨xs,xs[i],q,by simp [hlt]⟩,Pv (i+1),fun σ' H' p'=>⟨xs.length - (i+1),by omega,rfl,hlt,p'⟩,fun x H' y=>?_⟩
  obtain⟨e,y⟩:=y
  subst e
  exact hs i x σ _ (y xs q) p
 ·have e:i=xs.length:=by omega
  subst e
  exact .inl ⟨⟨xs,q,Nat.le_refl _⟩,hd σ H p⟩
theorem while_by {c:TT} {tb:TS} {D:Ends} {σ:St} {H:Hp} (Pv:St→Hp→Prop) (μ:St→Hp→Nat) (h0:Pv σ H)
  (hs:∀σ H,Pv σ H→c σ H fun b H1=>if b=true then tb {D with nx:=fun σ' H'=>Pv σ' H'∧μ σ' H'<μ σ H,ct:=fun σ' H'=>Pv σ' H'∧μ σ' H'<μ σ H,bk:=D.nx} σ H1 else D.nx σ H1)
  (mono:∀σ H Q Q',(∀b H1,Q b H1→Q' b H1)→c σ H Q→c σ H Q'):tWhile c tb D σ H:=by
 refine⟨fun m σ H=>m=μ σ H∧Pv σ H,⟨_,rfl,h0⟩,?_⟩
 rintro m σ H ⟨rfl,p⟩
 refine mono σ H _ _ (fun b H1 q=>?_) (hs σ H p)
 cases b with
 | true=>exact⟨_,fun σ' H' ⟨p',l⟩=>⟨_,l,rfl,p'⟩,q⟩
 | false=>exact q
end L2
namespace L2
open PySem PySem.Spec PyProof.Rows
abbrev R2:=V→V→Hp→VK→Prop
noncomputable def OpR (X:Cx) (f:Value→Value→Sem Value) (r:R2):Prop:=
 ∀(pins:List (Addr×Obj)) (s:Shared) (σ:St) (H:Hp) (x y:V) (v u:Value) (Q:VK),Inv X pins σ H s→RelV x v→RelV y u→r x y H Q→
  wpAny (model X.prog X.w) X.A (f v u) (EP X pins σ Q) X.xe s
noncomputable def UnR (X:Cx) (f:Value→Sem Value) (r:V→Hp→VK→Prop):Prop:=
 ∀(pins:List (Addr×Obj)) (s:Shared) (σ:St) (H:Hp) (x:V) (v:Value) (Q:VK),Inv X pins σ H s→RelV x v→r x H Q→
  wpAny (model X.prog X.w) X.A (f v) (EP X pins σ Q) X.xe s
noncomputable def CallR (X:Cx) (f:Value) (r:List V→Hp→VK→Prop):Prop:=
 ∀(pins:List (Addr×Obj)) (s:Shared) (σ:St) (H:Hp) (xs:List V) (us:List Value) (Q:VK),Inv X pins σ H s→Vals xs us→r xs H Q→
  wpAny (model X.prog X.w) X.A (call f us) (EP X pins σ Q) X.xe s
noncomputable def tOp (r:R2) (ta tb:TE):TE:=fun σ H Q=>ta σ H fun x H1=>tb σ H1 fun y H2=>r x y H2 Q
noncomputable def tUn (r:V→Hp→VK→Prop) (ta:TE):TE:=fun σ H Q=>ta σ H fun x H1=>r x H1 Q
noncomputable def rI (C:Int→Int→Prop) (g:Int→Int→V):R2:=fun x y H Q=>∃i j,x=.int i∧y=.int j∧C i j∧Q (g i j) H
noncomputable def rI0 (g:Int→Int→V):R2:=fun x y H Q=>∃i j,x=.int i∧y=.int j∧Q (g i j) H
noncomputable def rU (g:Int→V):V→Hp→VK→Prop:=fun x H Q=>∃i,x=.int i∧Q (g i) H
section
variable {X : Cx} {a b c : Expr} {ta tb tc : TE} {pos : Pos}
theorem binT (ha:PE X a ta) (hb:PE X b tb) {pins:List (Addr×Obj)} {s:Shared} {σ:St} {H:Hp} {R:V→V→Hp→Prop} (I:Inv X pins σ H s)
  (h:ta σ H fun x H1=>tb σ H1 fun y H2=>R x y H2) {Q:Value→Shared→Prop} {f:Value→Value→Sem Value}
  (hf:∀v u s2 x y H2,Inv X pins σ H2 s2→RelV x v→RelV y u→R x y H2→wpAny (model X.prog X.w) X.A (f v u) Q X.xe s2):
  wpAny (model X.prog X.w) X.A (eval a X.env) (fun v s₁=>wpAny (model X.prog X.w) X.A (eval b X.env) (fun u s₂=>wpAny (model X.prog X.w) X.A (f v u) Q X.xe s₂) X.xe s₁) X.xe s:=by
 refine thn (ha pins s σ H _ I h) fun v s1 hh_=>?_
 obtain⟨x,H1,I1,r1,q1⟩:=hh_
 refine thn (hb pins s1 σ H1 _ I1 q1) fun u s2 hh_=>?_
 obtain⟨y,H2,I2,r2,q2⟩:=hh_
 exact hf v u s2 x y H2 I2 r1 r2 q2
theorem pe_op {op:Operator} {r:R2} (ho:OpR X (binaryOp op) r) (ha:PE X a ta) (hb:PE X b tb):PE X (.BinOp a op b pos) (tOp r ta tb):=by
 intro pins s σ H Q I h
 exact wpAny_BinOp (binT ha hb I h fun v u s2 x y H2 I2 rx ry q=>ho pins s2 σ H2 x y v u Q I2 rx ry q)
theorem pe_un {op:UnaryOp} {r:V→Hp→VK→Prop} (ho:UnR X (unaryOp op) r) (ha:PE X a ta):PE X (.UnaryOp op a pos) (tUn r ta):=by
 intro pins s σ H Q I h
 exact UnaryOp_ (thn (ha pins s σ H _ I h) fun v s1 ⟨x,H1,I1,r1,q1⟩=>ho pins s1 σ H1 x v Q I1 r1 q1)
theorem opI {f:Value→Value→Sem Value} {C:Int→Int→Prop} {g:Int→Int→Int}
  (rule:∀(i j:Int) (t u:Tok) (s:Shared) (Q:Value→Shared→Prop) (E:Value→Shared→Prop),C i j→Q (.int (g i j) s.toks) {s with toks:=s.toks+1}→wpAny (model X.prog X.w) X.A (f (.int i t) (.int j u)) Q E s):
  OpR X f (rI C fun i j=>.int (g i j)):=by
 intro pins s σ H x y v u Q I rx ry h
 obtain⟨i,j,rfl,rfl,hc,q⟩:=h
 obtain⟨t,rfl⟩:=rx
 obtain⟨t',rfl⟩:=ry
 exact rule i j t t' s _ _ hc ⟨.int (g i j),H,I.tok _,⟨_,rfl⟩,q⟩
theorem opI0 {f:Value→Value→Sem Value} {g:Int→Int→Int}
  (rule:∀(i j:Int) (t u:Tok) (s:Shared) (Q:Value→Shared→Prop) (E:Value→Shared→Prop),Q (.int (g i j) s.toks) {s with toks:=s.toks+1}→wpAny (model X.prog X.w) X.A (f (.int i t) (.int j u)) Q E s):
  OpR X f (rI0 fun i j=>.int (g i j)):=by
 intro pins s σ H x y v u Q I rx ry h
 obtain⟨i,j,rfl,rfl,q⟩:=h
 obtain⟨t,rfl⟩:=rx
 obtain⟨t',rfl⟩:=ry
 exact rule i j t t' s _ _ ⟨.int (g i j),H,I.tok _,⟨_,rfl⟩,q⟩
theorem opB0 {f:Value→Value→Sem Value} {g:Int→Int→Bool}
  (rule:∀(i j:Int) (t u:Tok) (s:Shared) (Q:Value→Shared→Prop) (E:Value→Shared→Prop),Q (.bool (g i j)) s→wpAny (model X.prog X.w) X.A (f (.int i t) (.int j u)) Q E s):
  OpR X f (rI0 fun i j=>.bl (g i j)):=by
 intro pins s σ H x y v u Q I rx ry h
 obtain⟨i,j,rfl,rfl,q⟩:=h
 obtain⟨t,rfl⟩:=rx
 obtain⟨t',rfl⟩:=ry
 exact rule i j t t' s _ _ ⟨.bl (g i j),H,I,rfl,q⟩
noncomputable def CPow (i j:Int):Prop:=0≤j∧j≤1000000∧i.natAbs<2^64
theorem op_add:OpR X (binaryOp .Add) (rI0 fun i j=>.int (i+j)):=opI0 fun _ _ _ _ _ _ _ q=>add_int q
theorem op_sub:OpR X (binaryOp .Sub) (rI0 fun i j=>.int (i - j)):=opI0 fun _ _ _ _ _ _ _ q=>sub_int q
theorem op_mod:OpR X (binaryOp .Mod) (rI (fun _ j=>0<j) fun i j=>.int (i % j)):=opI fun i j _ _ _ _ _ hc q=>by
 have h1:(0:Int)<j:=hc
 exact mod_int' (by omega) (by rw[Int.fmod_eq_emod_of_nonneg i (by omega)];exact q)
theorem op_pow:OpR X (binaryOp .Pow) (rI CPow fun i j=>.int (i^j.toNat)):=opI fun _ _ _ _ _ _ _ hc q=>pow_int_small hc.1 hc.2.1 hc.2.2 q
theorem unI {f:Value→Sem Value} {g:Int→Int}
  (rule:∀(i:Int) (t:Tok) (s:Shared) (Q:Value→Shared→Prop) (E:Value→Shared→Prop),Q (.int (g i) s.toks) {s with toks:=s.toks+1}→wpAny (model X.prog X.w) X.A (f (.int i t)) Q E s):
  UnR X f (rU fun i=>.int (g i)):=by
 intro pins s σ H x v Q I rx h
 obtain⟨i,rfl,q⟩:=h
 obtain⟨t,rfl⟩:=rx
 exact rule i t s _ _ ⟨.int (g i),H,I.tok _,⟨_,rfl⟩,q⟩
theorem un_neg:UnR X (unaryOp .USub) (rU fun i=>.int (-i)):=unI fun _ _ _ _ _ q=>neg_int q
end
noncomputable def scal:V→V→Bool
 | .non,.non=>true | .non,.int _=>true | .int _,.non=>true | .non,.bl _=>true | .bl _,.non=>true | .non,.str _=>true | .str _,.non=>true
 | .int _,.int _=>true | .bl _,.bl _=>true | .str _,.str _=>true | .byt _,.byt _=>true
 | .int _,.str _=>true | .str _,.int _=>true | .bl _,.str _=>true | .str _,.bl _=>true
 | _,_=>false
noncomputable def rEq:R2:=fun x y H Q=>scal x y=true∧Q (.bl (decide (x=y))) H
noncomputable def rNe:R2:=fun x y H Q=>scal x y=true∧Q (.bl (!decide (x=y))) H
theorem dec_int {i j:Int}:decide (V.int i=V.int j)=(i==j):=by
 rw[Bool.eq_iff_iff]
 simp
theorem dec_bl {i j:Bool}:decide (V.bl i=V.bl j)=(i==j):=by
 rw[Bool.eq_iff_iff]
 simp
theorem dec_str {i j:Str}:decide (V.str i=V.str j)=(i==j):=by
 rw[Bool.eq_iff_iff]
 simp
theorem dec_byt {i j:Array UInt8}:decide (V.byt i=V.byt j)=(i.toList==j.toList):=by
 rw[Bool.eq_iff_iff]
 cases i
 cases j
 simp
section
variable {X : Cx} {a b c : Expr} {ta tb tc : TE} {pos : Pos}
theorem fin_bl {pins:List (Addr×Obj)} {σ:St} {H:Hp} {s:Shared} {Q:VK} {k k':Bool} (I:Inv X pins σ H s) (q:Q (.bl k) H) (e:k=k'):EP X pins σ Q (.bool k') s:=by
 subst e
 exact⟨.bl k,H,I,rfl,q⟩
theorem op_eq:OpR X (compareOp .Eq) rEq:=by
 intro pins s σ H x y v u Q I rx ry h
 obtain⟨hs,q⟩:=h
 cases x with
 | non=>
  cases rx
  cases y with
  | non=>cases ry;exact PySem.EqNone.eq_none_none (fin_bl I q (by simp))
  | bl j=>cases ry;exact PySem.EqNone.eq_none_bool (fin_bl I q (by simp))
  | int j=>obtain⟨t',rfl⟩:=ry;exact PySem.EqNone.eq_none_int (fin_bl I q (by simp))
  | str j=>obtain⟨t',rfl⟩:=ry;exact PySem.EqNone.eq_none_str (fin_bl I q (by simp))
  | _=>exact absurd (show false=true from hs) Bool.false_ne_true
 | bl i=>
  cases rx
  cases y with
  | non=>cases ry;exact PySem.EqNone.eq_bool_none (fin_bl I q (by simp))
  | bl j=>cases ry;exact eq_bool (fin_bl I q dec_bl)
  | str j=>obtain⟨t',rfl⟩:=ry;exact PySem.EqMixed.eq_bool_str (fin_bl I q (by simp))
  | _=>exact absurd (show false=true from hs) Bool.false_ne_true
 | int i=>
  obtain⟨t,rfl⟩:=rx
  cases y with
  | non=>cases ry;exact PySem.EqNone.eq_int_none (fin_bl I q (by simp))
  | int j=>obtain⟨t',rfl⟩:=ry;exact eq_int (fin_bl I q dec_int)
  | str j=>obtain⟨t',rfl⟩:=ry;exact PySem.EqMixed.eq_int_str (fin_bl I q (by simp))
  | _=>exact absurd (show false=true from hs) Bool.false_ne_true
 | str i=>
  obtain⟨t,rfl⟩:=rx
  cases y with
  | non=>cases ry;exact PySem.EqNone.eq_str_none (fin_bl I q (by simp))
  | bl j=>cases ry;exact PySem.EqMixed.eq_str_bool (fin_bl I q (by simp))
  | int j=>obtain⟨t',rfl⟩:=ry;exact PySem.EqMixed.eq_str_int (fin_bl I q (by simp))
  | str j=>obtain⟨t',rfl⟩:=ry;exact eq_str (fin_bl I q dec_str)
  | _=>exact absurd (show false=true from hs) Bool.false_ne_true
 | byt i=>
  obtain⟨t,rfl⟩:=rx
  cases y with
  | byt j=>obtain⟨t',rfl⟩:=ry;exact PySem.W.eq_bytes (fin_bl I q dec_byt)
  | _=>exact absurd (show false=true from hs) Bool.false_ne_true
 | _=>cases y <;>exact absurd (show false=true from hs) Bool.false_ne_true
theorem op_ne:OpR X (compareOp .NotEq) rNe:=by
 intro pins s σ H x y v u Q I rx ry h
 obtain⟨hs,q⟩:=h
 cases x with
 | non=>
  cases rx
  cases y with
  | non=>cases ry;exact PySem.EqNone.ne_none_none (fin_bl I q (by simp))
  | bl j=>cases ry;exact PySem.EqNone.ne_none_bool (fin_bl I q (by simp))
  | int j=>obtain⟨t',rfl⟩:=ry;exact PySem.EqNone.ne_none_int (fin_bl I q (by simp))
  | str j=>obtain⟨t',rfl⟩:=ry;exact PySem.EqNone.ne_none_str (fin_bl I q (by simp))
  | _=>exact absurd (show false=true from hs) Bool.false_ne_true
 | bl i=>
  cases rx
  cases y with
  | non=>cases ry;exact PySem.EqNone.ne_bool_none (fin_bl I q (by simp))
  | bl j=>cases ry;exact ne_bool (fin_bl I q (congrArg not dec_bl))
  | str j=>obtain⟨t',rfl⟩:=ry;exact PySem.EqMixed.ne_bool_str (fin_bl I q (by simp))
  | _=>exact absurd (show false=true from hs) Bool.false_ne_true
 | int i=>
  obtain⟨t,rfl⟩:=rx
  cases y with
  | non=>cases ry;exact PySem.EqNone.ne_int_none (fin_bl I q (by simp))
  | int j=>obtain⟨t',rfl⟩:=ry;exact ne_int (fin_bl I q (congrArg not dec_int))
  | str j=>obtain⟨t',rfl⟩:=ry;exact PySem.EqMixed.ne_int_str (fin_bl I q (by simp))
  | _=>exact absurd (show false=true from hs) Bool.false_ne_true
 | str i=>
  obtain⟨t,rfl⟩:=rx
  cases y with
  | non=>cases ry;exact PySem.EqNone.ne_str_none (fin_bl I q (by simp))
  | bl j=>cases ry;exact PySem.EqMixed.ne_str_bool (fin_bl I q (by simp))
  | int j=>obtain⟨t',rfl⟩:=ry;exact PySem.EqMixed.ne_str_int (fin_bl I q (by simp))
  | str j=>obtain⟨t',rfl⟩:=ry;exact ne_str (fin_bl I q (congrArg not dec_str))
  | _=>exact absurd (show false=true from hs) Bool.false_ne_true
 | byt i=>
  obtain⟨t,rfl⟩:=rx
  cases y with
  | byt j=>obtain⟨t',rfl⟩:=ry;exact PySem.W.ne_bytes (fin_bl I q (congrArg not dec_byt))
  | _=>exact absurd (show false=true from hs) Bool.false_ne_true
 | _=>cases y <;>exact absurd (show false=true from hs) Bool.false_ne_true
theorem op_lt:OpR X (compareOp .Lt) (rI0 fun i j=>.bl (decide (i<j))):=opB0 fun _ _ _ _ _ _ _ q=>lt_int q
theorem op_gt:OpR X (compareOp .Gt) (rI0 fun i j=>.bl (decide (j<i))):=opB0 fun _ _ _ _ _ _ _ q=>gt_int q
theorem op_isN:OpR X (compareOp .Is) (fun x y H Q=>y=.non∧Q (.bl (decide (x=.non))) H):=by
 intro pins s σ H x y v u Q I rx ry h
 obtain⟨rfl,q⟩:=h
 cases ry
 refine is_none_gen (fin_bl I q ?_)
 cases x <;>first
  | (cases rx;rfl)
  | (obtain⟨t,rfl⟩:=rx;rfl)
theorem op_notN:OpR X (compareOp .IsNot) (fun x y H Q=>y=.non∧Q (.bl (!decide (x=.non))) H):=by
 intro pins s σ H x y v u Q I rx ry h
 obtain⟨rfl,q⟩:=h
 cases ry
 refine isnot_none_gen (fin_bl I q ?_)
 cases x <;>first
  | (cases rx;rfl)
  | (obtain⟨t,rfl⟩:=rx;rfl)
theorem nomark (b:Expr) {op:CmpOp} (h:op≠.In:=by decide) (h2:op≠.NotIn:=by decide):behindInMarks op b=false:=by
 have e1:(op==CmpOp.In)=false:=by cases op <;>first | rfl | exact absurd rfl h
 have e2:(op==CmpOp.NotIn)=false:=by cases op <;>first | rfl | exact absurd rfl h2
 cases b <;>simp [behindInMarks,e1,e2]
theorem pe_cmpR {op:CmpOp} {r:R2} (ho:OpR X (compareOp op) r) (ha:PE X a ta) (hb:PE X b tb) (hm:behindInMarks op b=false):PE X (.Compare a [op] [b] pos) (tOp r ta tb):=by
 intro pins s σ H Q I h
 exact wpAny_Compare1 (binT ha hb I h fun v u s2 x y H2 I2 rx ry q=>ho pins s2 σ H2 x y v u Q I2 rx ry q) hm
noncomputable def tTest (t:TE):TT:=fun σ H Q=>t σ H fun x H'=>∃k,x=.bl k∧Q k H'
theorem pt_cmpR {op:CmpOp} {r:R2} (ho:OpR X (compareOp op) r) (ha:PE X a ta) (hb:PE X b tb) (hm:behindInMarks op b=false):PT X (.Compare a [op] [b] pos) (tTest (tOp r ta tb)):=by
 intro pins s σ H Q I h
 refine wpAny_isTrue_Compare1 (thn (ha pins s σ H _ I h) fun v s1 ⟨x,H1,I1,r1,q1⟩=>thn (hb pins s1 σ H1 _ I1 q1) fun u s2 ⟨y,H2,I2,r2,q2⟩=>
  thn (ho pins s2 σ H2 x y v u _ I2 r1 r2 q2) fun c s3 ⟨z,H3,I3,r3,k,e,q3⟩=>?_) hm
 subst e
 cases r3
 exact wpAny_truthy_bool ⟨H3,I3,q3⟩
noncomputable def tChain (r r':R2) (ta tb tc:TE):TE:=fun σ H Q=>ta σ H fun x H1=>tb σ H1 fun y H2=>r x y H2 fun z H3=>∃k,z=.bl k∧
 (if k=true then tc σ H3 fun w' H4=>r' y w' H4 Q else Q (.bl false) H3)
theorem line63:(sizeLine:Nat)<2^63:=by rw[sizeLine_eq];decide
theorem vals1 {x:V} {us:List Value} (r:Vals [x] us):∃u,us=[u]∧RelV x u:=by
 cases r with
 | cons r1 r2=>cases r2;exact⟨_,rfl,r1⟩
theorem vals2 {x y:V} {us:List Value} (r:Vals [x,y] us):∃u w',us=[u,w']∧RelV x u∧RelV y w':=by
 cases r with
 | cons r1 r2=>
  cases r2 with
  | cons r3 r4=>cases r4;exact⟨_,_,rfl,r1,r3⟩
theorem call_abs:CallR X (.builtin "abs") (fun xs H Q=>∃i,xs=[.int i]∧Q (.int (if i<0 then -i else i)) H):=by
 intro pins s σ H xs us Q I r h
 obtain⟨i,rfl,q⟩:=h
 obtain⟨u,rfl,t,rfl⟩:=vals1 r
 exact call_abs_int fun u tk=>⟨.int (if i<0 then -i else i),H,I.tok _,⟨_,rfl⟩,q⟩
theorem call_int1:CallR X (.type "int") (fun xs H Q=>(∃i,xs=[.int i]∧Q (.int i) H)∨∃k,xs=[.bl k]∧Q (.int (if k then 1 else 0)) H):=by
 intro pins s σ H xs us Q I r h
 rcases h with ⟨i,rfl,q⟩ | ⟨k,rfl,q⟩
 ·obtain⟨u,rfl,t,rfl⟩:=vals1 r
  exact call_int_int ⟨.int i,H,I,⟨_,rfl⟩,q⟩
 ·obtain⟨u,rfl,r1⟩:=vals1 r
  cases r1
  exact call_int_bool ⟨.int (if k then 1 else 0),H,I.tok _,⟨_,rfl⟩,q⟩
end
end L2
namespace L2
open PySem PySem.Spec PyProof.Rows
structure ObjM (h:Heap) (x dx C:Addr) (mA:Str→Option Value):Prop where
 obj:h.get? x=some (PySem.W.instObj C dx)
 ns:h.Ns1 dx mA
 ne:dx≠x
set_option tactic.hygienic true in
theorem lookIn_ns {h:Heap} {dx:Addr} {mA:Str→Option Value} (n:h.Ns1 dx mA):∃od,h.get? dx=some od∧∀name,PySem.W.lookIn name od=some (mA name):=by
 obtain⟨o,es,ep,ho,hd,hk,_,hm⟩:=n
 refine⟨o,ho,fun name=>?_⟩
 have e:=hm name
 unfold nsFind findBy at e
 rw[←Array.find?_toList] at e
 unfold PySem.W.lookIn
 rw[hd]
 dsimp only
 split
 ·rename_i y q
  rw[q] at e
  exact congrArg some e
 ·rename_i q
  rw[q] at e
  have a:es.toList.any (·.refKey)=false:=by
   rw[List.any_eq_false]
   intro y hy
   obtain⟨z,t,hkey⟩:=hk y (Array.mem_toList_iff.mp hy)
   simp [DictEntry.refKey,hkey]
  have a':¬es.toList.any (·.refKey)=true:=by rw[a];exact Bool.false_ne_true
  rw[if_neg a']
  exact congrArg some e
theorem ObjM.look {h:Heap} {x dx C:Addr} {mA:Str→Option Value} (I:ObjM h x dx C mA):∃od,PySem.W.InstAt h x (PySem.W.instObj C dx) C (some od)∧∀name,PySem.W.lookIn name od=some (mA name):=
 let ⟨od,ho,hl⟩:=lookIn_ns I.ns
 ⟨od,⟨I.obj,rfl,rfl,ho⟩,hl⟩
section
variable {prog : Program} {w : World} {A : Around} {E : Value → Shared → Prop} {s : Shared} {K : PySem.W.Frag} {x dx C f : Addr} {mA : Str → Option Value} {name : Str} {v : Value}
theorem get_map {expr:Bool} {Q:Value→Shared→Prop} (X:K.In s.heap) (I:ObjM s.heap x dx C mA) (hg:PySem.W.plainGet K C name=true) (hh:PySem.W.hasDictIn K C=true)
  (ha:PySem.W.findIn K (.ref C) name=some none) (hv:mA name=some v) (hv':PySem.W.handedIn v=true) (h:Q v {s with toks:=s.toks+1}):
  wpAny (model prog w) A (getAttr (.ref x) name expr) Q E s:=by
 obtain⟨od,J,hl⟩:=I.look
 exact PySem.W.get_value X J (PySem.W.plainGet_of hg).1 (PySem.W.findObj_own hh ha rfl (by rw[hl,hv])) hv' h
theorem get_meth {pl:Sem Bool} {Q:Value×List Value→Shared→Prop} (X:K.In s.heap) (I:ObjM s.heap x dx C mA) (hg:PySem.W.plainGet K C name=true)
  (hf:PySem.W.findIn K (.ref C) name=some (some (.ref f))) (ht:PySem.W.isFn K (.ref f)=true) (hv:mA name=none) (h:Q (.ref f,[.ref x]) s):
  wpAny (model prog w) A (getMethod (.ref x) name pl) Q E s:=by
 obtain⟨od,J,hl⟩:=I.look
 exact PySem.W.method_fn X J (PySem.W.plainGet_of hg).1 (PySem.W.plainGet_of hg).2 hf (beq_iff_eq.mp ht) (by show(PySem.W.lookIn name od).map (·.isSome)=some false;rw[hl,hv];rfl) h
theorem set_map {ns:List Str} {Q:Unit→Shared→Prop} (X:K.In s.heap) (I:ObjM s.heap x dx C mA)
  (hs:PySem.W.findIn K (.ref C) "__setattr__"=some (some (.builtin "object.__setattr__"))) (hp:PySem.W.plainOver K C=true) (ht:PySem.W.takerIn K C name=some none) (hh:PySem.W.hasDictIn K C=true)
  (hw:PySem.Within mA ns) (hsz:ns.length≤sizeLine)
  (h:∀h',ObjM h' x dx C (fun y=>if y=name then some v else mA y)→Heap.SameBut dx s.heap h'→Q () {s with heap:=h',toks:=s.toks+2}):
  wpAny (model prog w) A (setAttr (.ref x) name v) Q E s:=by
 obtain⟨od,J,hl⟩:=I.look
 refine PySem.W.set_plain X J hs (PySem.W.osa_open (s:={s with toks:=s.toks+1}) (r:=none) X J hp ht fun b=>?_)
 obtain⟨cd,hc,hd'⟩:=PySem.W.any_some hh
 have hx:s.heap.get? x=some ⟨.ref C,some dx,.plain,#[]⟩:=I.obj
 refine wpAny_bind (wpAny_pure (wpAny_bind (wpAny_bind (wpAny_loadPart hx (wpAny_bind (PySem.W.Looks.here (s:={s with toks:=s.toks+1}) (PySem.W.looks_clsIn X hc) ?_))))))
 rw[hd']
 refine wpAny_pure (a:=some dx) (wpAny_bind (wpAny_pure (wpAny_bind ?_)))
 refine wpAny_nsSet1 (s:={s with toks:=s.toks+1}) I.ns fun h' hn2 hs2=>?_
 obtain⟨oD,esD,epD,hoD,hdD,hcD⟩:=hn2.count (PySem.Within.cons name v hw)
 refine wpAny_bind (wpAny_lookBehind hoD (by rw[hdD];exact pastItsLine_dict (Nat.le_trans hcD (by rw[List.length_cons];omega))) ?_)
 exact wpAny_pure (h _ ⟨(hs2.2 _ (Ne.symm I.ne)).trans I.obj,hn2,I.ne⟩ hs2)
theorem make_map {R:Result→Shared→Prop} {vs:List Value} {kw:List (Str×Value)} (X:K.In s.heap) (hm:PySem.W.makesIn K C=true)
  (hi:PySem.W.findIn K (.ref C) "__init__"=some (some (.ref f))) (hf:PySem.W.typeIn K (.ref f)=some (.type "function"))
  (h:codeAny (model prog w) (A.under (.builtin "type.__call__" ⟨.ref C::vs,kw⟩)) (.call (.ref f) ⟨.ref (s.heap.objs.size+1)::vs,kw⟩) (PySem.W.InitBack (s.heap.objs.size+1) R)
   {s with heap:=(s.heap.push PySem.W.emptyDict).push (PySem.W.instObj C s.heap.objs.size)}):
  codeAny (model prog w) A (.call (.ref C) ⟨vs,kw⟩) R s:=by
 obtain⟨hh,g,d,t,os⟩:=s
 exact PySem.W.make_core (PySem.W.makes_of X hm) (PySem.W.looks_findIn X hi) (fun self=>PySem.W.bind_fn X self hf) (.inl rfl) h
end
noncomputable def putF (f:Str) (v:V):List (Str×V)→List (Str×V)
 | []=>[(f,v)]
 | (g,x)::r=>if g=f then (g,v)::r else (g,x)::putF f v r
theorem lookup_putF (f g:Str) (v:V):∀fs:List (Str×V),(putF f v fs).lookup g=if g=f then some v else fs.lookup g
 | []=>by
  show List.lookup g [(f,v)]=_
  by_cases h:g=f
  ·have hb:(g==f)=true:=beq_iff_eq.mpr h
   simp only[List.lookup,hb,if_pos h]
  ·have hb:(g==f)=false:=beq_eq_false_iff_ne.mpr h
   simp only[List.lookup,hb,if_neg h]
 | (k,x)::r=>by
  have ih:=lookup_putF f g v r
  rw[show putF f v ((k,x)::r)=(if k=f then (k,v)::r else (k,x)::putF f v r) from rfl]
  by_cases hk:k=f
  ·rw[if_pos hk]
   by_cases h:g=k
   ·have hb:(g==k)=true:=beq_iff_eq.mpr h
    simp only[List.lookup,hb,if_pos (h.trans hk)]
   ·have hb:(g==k)=false:=beq_eq_false_iff_ne.mpr h
    simp only[List.lookup,hb,if_neg (fun e:g=f=>h (e.trans hk.symm))]
  ·rw[if_neg hk]
   by_cases h:g=k
   ·have hb:(g==k)=true:=beq_iff_eq.mpr h
    simp only[List.lookup,hb,if_neg (fun e:g=f=>hk (h.symm.trans e))]
   ·have hb:(g==k)=false:=beq_eq_false_iff_ne.mpr h
    simp only[List.lookup,hb]
    exact ih
theorem keys_putF (f:Str) (v:V):∀fs:List (Str×V),f∈(putF f v fs).map (·.1)∧∀g,g∈fs.map (·.1)→g∈(putF f v fs).map (·.1)
 | []=>⟨by simp [putF],fun g h=>by simp at h⟩
 | (k,x)::r=>by
  obtain⟨i1,i2⟩:=keys_putF f v r
  rw[show putF f v ((k,x)::r)=(if k=f then (k,v)::r else (k,x)::putF f v r) from rfl]
  by_cases hk:k=f
  ·rw[if_pos hk]
   subst hk
   exact⟨by simp,fun g h=>by simpa using h⟩
  ·rw[if_neg hk]
   refine⟨?_,fun g h=>?_⟩
   ·rw[List.map_cons]
    exact List.mem_cons_of_mem _ i1
   ·rw[List.map_cons] at h ⊢
    rcases List.mem_cons.mp h with e | e
    ·exact List.mem_cons.mpr (.inl e)
    ·exact List.mem_cons_of_mem _ (i2 g e)
theorem length_putF (f:Str) (v:V):∀fs:List (Str×V),(putF f v fs).length≤fs.length+1
 | []=>by simp [putF]
 | (k,x)::r=>by
  have ih:=length_putF f v r
  rw[show putF f v ((k,x)::r)=(if k=f then (k,v)::r else (k,x)::putF f v r) from rfl]
  by_cases hk:k=f
  ·rw[if_pos hk,List.length_cons,List.length_cons];omega
  ·rw[if_neg hk,List.length_cons,List.length_cons];omega
theorem RelO.some_of {v:V} {o:Option Value} (r:RelO (some v) o):∃u,o=some u∧RelV v u:=by
 cases o with
 | none=>exact(show False from r).elim
 | some u=>exact⟨u,rfl,r⟩
theorem RelO.none_of {o:Option Value} (r:RelO none o):o=none:=by
 cases o with
 | none=>rfl
 | some u=>exact(show False from r).elim
theorem handed_of {v:V} {u:Value} (r:RelV v u):PySem.W.handedIn u=true:=by
 cases v with
 | non=>cases (show u=Value.none from r);rfl
 | bl b=>cases (show u=Value.bool b from r);rfl
 | int i=>obtain⟨t,e⟩:=(show ∃t,u=Value.int i t from r);cases e;rfl
 | str x=>obtain⟨t,e⟩:=(show ∃t,u=Value.str x t from r);cases e;rfl
 | byt b=>obtain⟨t,e⟩:=(show ∃t,u=Value.bytes b t from r);cases e;rfl
 | flt b=>obtain⟨t,e⟩:=(show ∃t,u=Value.float b t from r);cases e;rfl
 | ref a=>cases (show u=Value.ref a from r);rfl
 | ty n=>cases (show u=Value.type n from r);rfl
section
variable {P : Program} {w : World} {H H' : Hp} {h h' : Heap} {a C dx : Addr} {fs fs' : List (Str × V)}
theorem ins_get (hok:HOk P w H h) (e:H a=some (.ins C dx fs)):∃mA,ObjM h a dx C mA∧(∀f,RelO (fs.lookup f) (mA f))∧PySem.Within mA (fs.map (·.1))∧fs.length≤1000∧H dx=some (.own a):=by
 obtain⟨d,z,ne,ob,mA,n,r,q⟩:=(show ObjOk P w H h a (.ins C dx fs) from hok a _ e)
 exact⟨mA,⟨ob,n,ne⟩,r,q,z,d⟩
end
structure Cls (K:PySem.W.Frag) (C:Addr):Prop where
 pg:PySem.W.plainGet K C Str.empty=true
 hd:PySem.W.hasDictIn K C=true
 po:PySem.W.plainOver K C=true
 sa:PySem.W.findIn K (.ref C) "__setattr__"=some (some (.builtin "object.__setattr__"))
theorem Cls.get {K:PySem.W.Frag} {C:Addr} (c:Cls K C) (f:Str):PySem.W.plainGet K C f=true:=c.pg
noncomputable def NoAttr (K:PySem.W.Frag) (C:Addr) (f:Str):Prop:=PySem.W.findIn K (.ref C) f=some none
theorem NoAttr.taker {K:PySem.W.Frag} {C:Addr} {f:Str} (n:NoAttr K C f):PySem.W.takerIn K C f=some none:=by
 unfold PySem.W.takerIn
 rw[show PySem.W.findIn K (.ref C) f=some none from n]
 rfl
structure Con (K:PySem.W.Frag) (C:Addr) (f:Str) (v:V) (u:Value):Prop where
 at_:PySem.W.findIn K (.ref C) f=some (some u)
 rel:RelV v u
 get:PySem.W.specialIn K u "__get__"=some none
 cp:PySem.W.copiedNames.contains f=false
structure Meth (K:PySem.W.Frag) (C:Addr) (m:Str) (f:Addr):Prop where
 at_:PySem.W.findIn K (.ref C) m=some (some (.ref f))
 fn:PySem.W.isFn K (.ref f)=true
 kp:PySem.W.keepIn K (.ref f)=true
section
variable {X : Cx} {pins : List (Addr × Obj)} {σ : St} {H : Hp} {s : Shared} {a C dx : Addr} {fs : List (Str × V)} {f : Str} {v : V} {A : Around} {E : Value → Shared → Prop}
theorem getattr_ok {b:Bool} {Q:Value→Shared→Prop} (I:Inv X pins σ H s) (e:H a=some (.ins C dx fs)) (c:Cls X.K C) (n:NoAttr X.K C f) (l:fs.lookup f=some v)
  (h:∀u s',Inv X pins σ H s'→RelV v u→Q u s'):wpAny (model X.prog X.w) A (getAttr (.ref a) f b) Q E s:=by
 obtain⟨mA,O,r,_,_,_⟩:=ins_get I.hok e
 obtain⟨u,hu,ru⟩:=RelO.some_of (v:=v) (o:=mA f) (by rw[←l];exact r f)
 exact get_map I.kIn O (c.get f) c.hd n hu (handed_of ru) (h u _ (I.tok _) ru)
theorem getmeth_ok {m:Str} {g:Addr} {pl:Sem Bool} {Q:Value×List Value→Shared→Prop} (I:Inv X pins σ H s) (e:H a=some (.ins C dx fs)) (c:Cls X.K C) (k:Meth X.K C m g) (l:fs.lookup m=none)
  (h:Q (.ref g,[.ref a]) s):wpAny (model X.prog X.w) A (getMethod (.ref a) m pl) Q E s:=by
 obtain⟨mA,O,r,_,_,_⟩:=ins_get I.hok e
 have hn:mA m=none:=RelO.none_of (by rw[←l];exact r m)
 exact get_meth I.kIn O (c.get m) k.at_ k.fn hn h
theorem setattr_ok {y:V} {u:Value} {Q:Unit→Shared→Prop} (I:Inv X pins σ H s) (e:H a=some (.ins C dx fs)) (c:Cls X.K C) (n:NoAttr X.K C f) (hl:fs.length<1000) (ry:RelV y u)
  (h:∀s',Inv X pins σ (upd H a (.ins C dx (putF f y fs))) s'→Q () s'):wpAny (model X.prog X.w) A (setAttr (.ref a) f u) Q E s:=by
 obtain⟨mA,O,r,wi,_,ho⟩:=ins_get I.hok e
 have hz:(fs.map (·.1)).length≤sizeLine:=by rw[List.length_map,sizeLine_eq];omega
 refine set_map I.kIn O c.sa c.po n.taker c.hd wi hz fun h' O' sb=>h _ ?_
 have hd:∃o,h'.get? dx=some o:=let ⟨o,_,_,e',_⟩:=O'.ns;⟨o,e'⟩
 refine I.write (x:=a) (e:=dx) (by rw[e];exact True.intro) (.inr ho) (fun b q hb z=>(sb.2 b hb).trans z) hd ?_
 refine⟨by rw[upd_ne O.ne];exact ho,?_,O.ne,O'.obj,_,O'.ns,fun g=>?_,fun g hg=>?_⟩
 ·have:=length_putF f y fs;omega
 ·show RelO ((putF f y fs).lookup g) (if g=f then some u else mA g)
  rw[lookup_putF]
  by_cases q:g=f
  ·rw[if_pos q,if_pos q];exact ry
  ·rw[if_neg q,if_neg q];exact r g
 ·by_cases q:g=f
  ·rw[q];exact(keys_putF f y fs).1
  ·refine(keys_putF f y fs).2 g (wi g fun z=>hg ?_)
   show(if g=f then some u else mA g)=none
   rw[if_neg q];exact z
theorem Inv.made (I:Inv X pins σ H s):Inv X pins σ (upd (upd H s.heap.objs.size (.own (s.heap.objs.size+1))) (s.heap.objs.size+1) (.ins C s.heap.objs.size []))
  {s with heap:=(s.heap.push PySem.W.emptyDict).push (PySem.W.instObj C s.heap.objs.size)}:=by
 have e1:(s.heap.push PySem.W.emptyDict).get? s.heap.objs.size=some PySem.W.emptyDict:=Heap.get?_push_size s.heap rfl
 have e2:((s.heap.push PySem.W.emptyDict).push (PySem.W.instObj C s.heap.objs.size)).get? (s.heap.objs.size+1)=some (PySem.W.instObj C s.heap.objs.size):=by
  have:=Heap.get?_push_size (s.heap.push PySem.W.emptyDict) (o:=PySem.W.instObj C s.heap.objs.size) rfl
  rwa [Heap.size_push] at this
 have e3:(s.heap.push PySem.W.emptyDict).Ns s.heap.objs.size (fun _=>none):=⟨PySem.W.emptyDict,#[],_,e1,rfl,(fun e he=>absurd he (by simp)),fun _=>rfl⟩
 have I1:=I.laid (a:=s.heap.objs.size) (o:=.own (s.heap.objs.size+1)) (h':=s.heap.push PySem.W.emptyDict) (t':=s.toks) (fun b u q=>Heap.get?_push_of_some _ q) (Nat.le_refl _) ⟨_,e1⟩
 refine I1.laid (a:=s.heap.objs.size+1) (o:=.ins C s.heap.objs.size []) (t':=s.toks) (fun b u q=>Heap.get?_push_of_some _ q) (Nat.le_of_eq (Heap.size_push _ _)) ?_
 have ne:s.heap.objs.size≠s.heap.objs.size+1:=Nat.ne_of_lt (Nat.lt_succ_self _)
 refine⟨by rw[upd_ne ne,upd_same],Nat.zero_le _,ne,e2,fun _=>none,(Heap.Ns1.of_empty e3).at fun o q=>Heap.get?_push_of_some _ q,fun _=>True.intro,fun y hy=>absurd rfl hy⟩
theorem attr_of {prog:Program} {w:World} {env:Env} {e:Expr} {f:Str} {pos:Pos} {s:Shared} {Q:Value→Shared→Prop} (hb:attributeBase e f env (eval e env)=eval e env)
  (h:wpAny (model prog w) A (eval e env) (fun o s₁=>wpAny (model prog w) A (getAttr o f true) Q E s₁) E s):wpAny (model prog w) A (eval (.Attribute e f pos) env) Q E s:=
 Attribute_any_ h (by rw[arm_eval_Attribute,hb])
end
noncomputable def tFld (K:PySem.W.Frag) (ta:TE) (f:Str):TE:=fun σ H Q=>ta σ H fun x H1=>∃a C dx fs v,x=.ref a∧H1 a=some (.ins C dx fs)∧Cls K C∧NoAttr K C f∧fs.lookup f=some v∧Q v H1
noncomputable def sFld (K:PySem.W.Frag) (ta tv:TE) (f:Str):TS:=fun D σ H=>tv σ H fun y H1=>ta σ H1 fun x H2=>∃a C dx fs,x=.ref a∧H2 a=some (.ins C dx fs)∧Cls K C∧NoAttr K C f∧fs.length<1000∧
 D.nx σ (upd H2 a (.ins C dx (putF f y fs)))
section
variable {X : Cx} {o e value : Expr} {f : Str} {pos pos' tpos : Pos} {ta tv : TE}
theorem pe_fld (he:PE X e ta) (hb:attributeBase e f X.env (eval e X.env)=eval e X.env):PE X (.Attribute e f pos) (tFld X.K ta f):=by
 intro pins s σ H Q I h
 refine attr_of hb (thn (he pins s σ H _ I h) fun u s1 hh_=>?_)
 obtain⟨x,H1,I1,rx,a,C,dx,fs,v,ex,ea,c,n,l,q⟩:=hh_
 subst ex
 obtain rfl:u=Value.ref a:=rx
 exact getattr_ok I1 ea c n l fun u' s2 I2 ru=>⟨v,H1,I2,ru,q⟩
theorem ps_fld (ha:PE X o ta) (hv:PE X value tv) (hs:swapsWith value (some (.Attribute o f pos')) pos.line X.env=pure false):PS X (.Assign [.Attribute o f pos'] value pos) (sFld X.K ta tv f):=by
 intro pins s σ H D I h
 refine plainObj_wpAny_Assign_Attribute (thn (hv pins s σ H _ I h) fun u s1 ⟨y,H1,I1,ry,q⟩=>thn (ha pins s1 σ H1 _ I1 q) fun ov s2 hh_=>?_) hs
 obtain⟨x,H2,I2,rx,a,C,dx,fs,ex,ea,c,n,l,q2⟩:=hh_
 subst ex
 obtain rfl:ov=Value.ref a:=rx
 exact setattr_ok I2 ea c n l ry fun s3 I3=>⟨σ,_,I3,q2⟩
end
section
variable {X : Cx} {pins : List (Addr × Obj)} {σ : St} {H : Hp} {s : Shared} {A : Around} {E : Value → Shared → Prop} {Q : Value → Shared → Prop} {c : Value} {b : Bool}
inductive TyOf (K:PySem.W.Frag) (H:Hp):V→Value→Prop where
 | non:TyOf K H .non (.type "NoneType")
 | bl (x:Bool):TyOf K H (.bl x) (.type "bool")
 | int (i:Int):TyOf K H (.int i) (.type "int")
 | str (x:Str):TyOf K H (.str x) (.type "str")
 | flt (x:UInt64):TyOf K H (.flt x) (.type "float")
 | lst {a:Addr} {xs:List V} (e:H a=some (.lst xs)):TyOf K H (.ref a) (.type "list")
 | frz {a:Addr} {o:Obj} {xs:List V} (e:H a=some (.frz o (.lst xs))):TyOf K H (.ref a) (.type "list")
 | tup {a:Addr} {xs:List V} (e:H a=some (.tup xs)):TyOf K H (.ref a) (.type "tuple")
 | dK {a:Addr} {kvs:List (Key×V)} (e:H a=some (.dK kvs)):TyOf K H (.ref a) (.type "dict")
 | dT {a:Addr} {kvs:List (List Key×V)} (e:H a=some (.dT kvs)):TyOf K H (.ref a) (.type "dict")
 | ins {a C dx:Addr} {fs:List (Str×V)} (e:H a=some (.ins C dx fs)) (cl:Cls K C) (ha:PySem.W.findIn K (.ref C) "__class__"=some (some (.builtin "object.__class__")))
   (hn:PySem.W.specialIn K (.builtin "object.__class__") "__get__"=some (some (.builtin "getset_descriptor.__get__"))) (htk:PySem.W.takesIn K (.builtin "object.__class__")=some true)
   (hm:PySem.W.mroIn K C (.type "object")=some true):TyOf K H (.ref a) (.ref C)
theorem isinst_ok {x:V} {u t:Value} (I:Inv X pins σ H s) (rx:RelV x u) (ty:TyOf X.K H x t) (e:PySem.W.kitOne X.K t c=some b) (h:∀tk,Q (.bool b) {s with toks:=tk}):
  wpAny (model X.prog X.w) A (call (.builtin "isinstance") [u,c]) Q E s:=by
 cases ty with
 | non=>cases (show u=Value.none from rx);exact PySem.W.kia_one PySem.W.kitx_none I.kIn True.intro e (fun z=>nomatch z) h
 | bl y=>cases (show u=Value.bool y from rx);exact PySem.W.kia_one PySem.W.kitx_bool I.kIn True.intro e (fun z=>nomatch z) h
 | int i=>obtain⟨t,q⟩:=(show ∃t,u=Value.int i t from rx);cases q;exact PySem.W.kia_one PySem.W.kitx_int I.kIn True.intro e (fun z=>nomatch z) h
 | str y=>obtain⟨t,q⟩:=(show ∃t,u=Value.str y t from rx);cases q;exact PySem.W.kia_one PySem.W.kitx_str I.kIn True.intro e (fun z=>nomatch z) h
 | flt y=>obtain⟨t,q⟩:=(show ∃t,u=Value.float y t from rx);cases q;exact PySem.W.kia_one PySem.W.kitx_float I.kIn True.intro e (fun z=>nomatch z) h
 | @lst a xs ea=>
  cases (show u=Value.ref a from rx)
  obtain⟨_,_,n,_,h1⟩:=(show ObjOk X.prog X.w H s.heap a (.lst xs) from I.hok a _ ea)
  exact PySem.W.kia_one PySem.W.kitx_list I.kIn ⟨_,h1,rfl⟩ e (fun z=>nomatch z) h
 | @frz a ob xs ea=>
  cases (show u=Value.ref a from rx)
  obtain⟨_,_,_,n,_,h1⟩:=(show ObjOk X.prog X.w H s.heap a (.frz ob (.lst xs)) from I.hok a _ ea)
  exact PySem.W.kia_one PySem.W.kitx_list I.kIn ⟨_,h1,rfl⟩ e (fun z=>nomatch z) h
 | @tup a xs ea=>
  cases (show u=Value.ref a from rx)
  obtain⟨_,_,_,p⟩:=(show ObjOk X.prog X.w H s.heap a (.tup xs) from I.hok a _ ea)
  obtain⟨o,h1,h2,_⟩:=p
  exact PySem.W.kia_one PySem.W.kitx_tuple I.kIn ⟨o,h1,h2⟩ e (fun z=>nomatch z) h
 | @dK a kvs ea=>
  cases (show u=Value.ref a from rx)
  obtain⟨_,_,vs,_,p⟩:=(show ObjOk X.prog X.w H s.heap a (.dK kvs) from I.hok a _ ea)
  obtain⟨o,es,ep,h1,h2,_⟩:=p
  exact PySem.W.kia_one PySem.W.kitx_dict I.kIn ⟨o,h1,h2.1⟩ e (fun z=>nomatch z) h
 | @dT a kvs ea=>
  cases (show u=Value.ref a from rx)
  obtain⟨_,_,xs,_,o,es,ep,h1,h2,_⟩:=(show ObjOk X.prog X.w H s.heap a (.dT kvs) from I.hok a _ ea)
  exact PySem.W.kia_one PySem.W.kitx_dict I.kIn ⟨o,h1,h2.1⟩ e (fun z=>nomatch z) h
 | @ins a C dx fs ea cl ha hn htk hm=>
  cases (show u=Value.ref a from rx)
  obtain⟨mA,O,_⟩:=ins_get I.hok ea
  obtain⟨od,J,_⟩:=O.look
  exact PySem.W.kia_one (PySem.W.kitx_own (cl.get _) cl.hd ha hn htk hm) I.kIn J e (fun z=>nomatch z) h
end
end L2
namespace L2
open PySem PySem.Spec PyProof.Rows
structure Room (k:Nat) (A:Around):Prop where
 hd:A.handled=none
 dp:A.depth+3*k+5<recursionLimit
 un:A.units+16*k+200<cLine
theorem Room.mono {j k:Nat} {A:Around} (r:Room k A) (h:j≤k):Room j A:=⟨r.hd,by have:=r.dp;omega,by have:=r.un;omega⟩
theorem Room.deeper {k:Nat} {A:Around} (r:Room (k+1) A) (env:Env):Room k (A.deeper env):=
 ⟨r.hd,by have:=r.dp;show A.depth+1+3*k+5<_;omega,by have:=r.un;show A.units+3+16*k+200<_;omega⟩
theorem make_depth {A:Around} {C:Addr} {us:List Value} {kw:List (Str×Value)}:(A.under (.builtin "type.__call__" ⟨.ref C::us,kw⟩)).depth=A.depth+1:=by
 first | rfl | simp [Around.under,Code.weight,Code.isCreation,Code.isGuard,Code.isCaller,Code.frames,Code.isFrame,guardIds]
theorem make_units {A:Around} {C:Addr} {us:List Value} {kw:List (Str×Value)}:(A.under (.builtin "type.__call__" ⟨.ref C::us,kw⟩)).units=A.units+1:=by
 first | rfl | simp [Around.under,Code.cUnits,Code.frames,Code.isFrame]
theorem Room.make {k:Nat} {A:Around} (r:Room (k+1) A) (C:Addr) (us:List Value) (kw:List (Str×Value)):Room k (A.under (.builtin "type.__call__" ⟨.ref C::us,kw⟩)):=
 ⟨r.hd,by have:=r.dp;rw[make_depth];omega,by have:=r.un;rw[make_units];omega⟩
theorem Room.depth {k:Nat} {A:Around} (r:Room k A):A.depth<recursionLimit:=by have:=r.dp;omega
theorem Room.units {k:Nat} {A:Around} (r:Room k A):A.units+64<cLine:=by have:=r.un;omega
theorem Room.units0 {k:Nat} {A:Around} (r:Room k A):A.units<cLine:=by have:=r.un;omega
noncomputable def tNil:TA:=fun _ H Q=>Q [] H
noncomputable def tCons (ta:TE) (tr:TA):TA:=fun σ H Q=>ta σ H fun x H1=>tr σ H1 fun xs H2=>Q (x::xs) H2
section
variable {X : Cx} {e : Expr} {es : List Expr} {te : TE} {t : TA} {pos : Pos}
theorem pa_nil:PA X [] tNil:=fun _ _ _ _ H Q I h=>Calls.spliced_nil ⟨[],H,I,.nil,h⟩
theorem pa_cons (ha:PE X e te) (hr:PA X es t) (hs:starEach (e::es) X.env=(false,eval e X.env)::starEach es X.env:=by rfl):PA X (e::es) (tCons te t):=by
 intro pos pins s σ H Q I h
 rw[hs]
 show wpAny _ _ (spliced ((false,eval e X.env)::backTo pos (starEach es X.env))) _ _ s
 refine Calls.spliced_cons (thn (ha pins s σ H _ I h) fun u s1 hh_=>?_)
 obtain⟨x,H1,I1,r1,q1⟩:=hh_
 exact thn (hr pos pins s1 σ H1 _ I1 q1) fun us s2 ⟨xs,H2,I2,r2,q2⟩=>⟨x::xs,H2,I2,.cons r1 r2,q2⟩
noncomputable def tLst (t:TA):TE:=fun σ H Q=>t σ H fun xs H1=>xs.length≤sizeLine∧∀p,H1 p=none→Q (.ref p) (upd H1 p (.lst xs))
theorem pe_lst (h:PA X es t):PE X (.List es pos) (tLst t):=by
 intro pins s σ H Q I hq
 refine wpAny_List_spliced (thn (h pos pins s σ H _ I hq) fun us s1 ⟨xs,H1,I1,r,z,q⟩=>⟨by rw[←r.length];exact z,?_⟩)
 have hf:H1 s1.heap.objs.size=none:=I1.hok.fresh (Nat.le_refl _)
 refine⟨.ref s1.heap.objs.size,upd H1 s1.heap.objs.size (.lst xs),I1.laid (t':=s1.toks) (fun b u e=>Heap.get?_push_of_some _ e) (Nat.le_refl _) ?_,rfl,q _ hf⟩
 exact⟨z,us,0,r,Heap.get?_push_size _ rfl⟩
end
abbrev Sp:=List V→Hp→VK→XK→Prop
abbrev CXT:=List Env→Hp→Shared→XK→Value→Shared→Prop
structure Env0 (P:Program) (w:World) (K:PySem.W.Frag) (mg:Str→Option Value) (base:Heap) (A:Around) (outer:List Env) (s:Shared) (H:Hp):Prop where
 frames:A.frames=some outer
 mod:Mod K mg base
 bs:∀b o,base.get? b=some o→s.heap.get? b=some o∧H b=none
 bsz:base.objs.size≤s.heap.objs.size
 funs:s.heap.FunFrames base outer
 frf:∀b∈frs outer,H b=none
 hok:HOk P w H s.heap
 bare:AllBare s.gens
noncomputable def CE (outer:List Env) (P:Program) (w:World) (H:Hp) (s:Shared) (Q:VK) (u:Value) (s':Shared):Prop:=
 ∃v H',s'.os=s.os∧AllBare s'.gens∧Un (frs outer) [] H H' s.heap s'.heap∧HOk P w H' s'.heap∧RelV v u∧Q v H'
noncomputable def CR (CX:CXT) (outer:List Env) (P:Program) (w:World) (H:Hp) (s:Shared) (Q:VK) (E:XK) (r:Result) (s':Shared):Prop:=
 match r with
 | .ok (.ret u)=>CE outer P w H s Q u s'
 | .ok _=>False
 | .error e=>CX outer H s E e s'
structure FnOk (P:Program) (w:World) (K:PySem.W.Frag) (mg:Str→Option Value) (base:Heap) (CX:CXT) (k:Nat) (f:Addr) (fd:FuncData) (ps:List Str) (sp:Sp):Prop where
 len:∀vs H Q E,sp vs H Q E→vs.length=ps.length
 run:∀(A:Around) (outer:List Env) (s:Shared) (H:Hp) (args:Args) (us:List Value) (vs:List V) (Q:VK) (E:XK),Room k A→Env0 P w K mg base A outer s H→BindsTo s fd args (ps.zip us)→Vals vs us→sp vs H Q E→
  codeAny (model P w) A (.call (.ref f) args) (CR CX outer P w H s Q E) s
theorem FnOk.mono {P:Program} {w:World} {K:PySem.W.Frag} {mg:Str→Option Value} {base:Heap} {CX:CXT} {j k:Nat} {f:Addr} {fd:FuncData} {ps:List Str} {sp:Sp} (F:FnOk P w K mg base CX j f fd ps sp) (h:j≤k):
  FnOk P w K mg base CX k f fd ps sp:=⟨F.len,fun A outer s H args us vs Q E hr=>F.run A outer s H args us vs Q E (hr.mono h)⟩
theorem Env0.make {P:Program} {w:World} {K:PySem.W.Frag} {mg:Str→Option Value} {base:Heap} {A:Around} {outer:List Env} {s:Shared} {H:Hp} (e:Env0 P w K mg base A outer s H) (C:Addr) (us:List Value) (kw:List (Str×Value)):
  Env0 P w K mg base (A.under (.builtin "type.__call__" ⟨.ref C::us,kw⟩)) outer s H:=⟨by first | exact e.frames | (simpa [Around.under,Code.envs,Code.isFrame,pushEnvs] using e.frames),e.mod,e.bs,e.bsz,e.funs,e.frf,e.hok,e.bare⟩
section
variable {X : Cx} {pins : List (Addr × Obj)} {σ : St} {H : Hp} {s s' : Shared}
theorem Inv.env0 (I:Inv X pins σ H s):Env0 X.prog X.w X.K X.mg X.base X.A X.stack s H:=
 ⟨I.ok.frames,I.ok.mod,I.bs,Nat.le_trans I.ok.bsz I.sz,I.stack,I.stkFree,I.hok,I.bare⟩
theorem Inv.after {Q:VK} {u:Value} (I:Inv X pins σ H s) (h:CE X.stack X.prog X.w H s Q u s'):EP X pins σ Q u s':=by
 obtain⟨v,H',os,bare,un,hok,r,q⟩:=h
 obtain⟨hh,g,d,t,os'⟩:=s'
 obtain rfl:os'=s.os:=os
 exact⟨v,H',I.call (h':=hh) (g':=g) (d':=d) (t':=t) (ch:=[]) un hok bare (fun b z=>absurd z (by simp)),r,q⟩
end
noncomputable def tCall (sp:Sp) (dvs:List V) (E:XK) (t:TA):TE:=fun σ H Q=>t σ H fun vs H1=>sp (vs++dvs) H1 Q E
noncomputable def tMeth (C:Addr) (m:Str) (sp:Sp) (dvs:List V) (E:XK) (ta:TE) (t:TA):TE:=fun σ H Q=>ta σ H fun x H1=>∃a dx fs,x=.ref a∧H1 a=some (.ins C dx fs)∧fs.lookup m=none∧
 t σ H1 fun vs H2=>sp (x::(vs++dvs)) H2 Q E
noncomputable def tMake (C:Addr) (sp:Sp) (dvs:List V) (E:XK) (t:TA):TE:=fun σ H Q=>t σ H fun vs H1=>∀x dx,H1 x=none→H1 dx=none→dx≠x→
 sp (.ref x::(vs++dvs)) (upd (upd H1 dx (.own x)) x (.ins C dx [])) (fun v H2=>v=.non∧Q (.ref x) H2) E
noncomputable def Binds (K:PySem.W.Frag) (fd:FuncData) (ps:List Str) (ds:List Value):Prop:=
 ∀(s:Shared) (us:List Value),K.In s.heap→(us++ds).length=ps.length→BindsTo s fd ⟨us,[]⟩ (ps.zip (us++ds))
theorem Binds.all {K:PySem.W.Frag} {fd:FuncData} {ps:List Str} (h:∀us:List Value,us.length=ps.length→bindArgs fd ⟨us,[]⟩=pure (ps.zip us)):Binds K fd ps []:=fun s us _ hl=>by
 rw[List.append_nil] at hl ⊢
 exact .of_eq (h us hl)
noncomputable def Passes (CX:CXT) (X:Cx) (E:XK):Prop:=∀(pins:List (Addr×Obj)) (σ:St) (H:Hp) (s:Shared) (e:Value) (s':Shared),Inv X pins σ H s→CX X.stack H s E e s'→X.xe e s'
section
variable {X : Cx} {CX : CXT} {k : Nat} {f C : Addr} {fd : FuncData} {ps : List Str} {sp : Sp} {dvs : List V} {ds : List Value} {E : XK} {x m : Str} {p pos apos : Pos} {e o : Expr} {es : List Expr} {ta : TE} {t : TA}
theorem run_fn {pins:List (Addr×Obj)} {σ:St} {H:Hp} {s:Shared} {Q:VK} {us:List Value} {vs:List V} (F:FnOk X.prog X.w X.K X.mg X.base CX k f fd ps sp) (hr:Room k X.A) (hb:Binds X.K fd ps ds) (hd:Vals dvs ds) (hx:Passes CX X E)
  (I:Inv X pins σ H s) (r:Vals vs us) (h:sp (vs++dvs) H Q E):wpAny (model X.prog X.w) X.A (call (.ref f) us) (EP X pins σ Q) X.xe s:=by
 have r2:Vals (vs++dvs) (us++ds):=r.append hd
 have hl:(us++ds).length=ps.length:=by rw[←r2.length];exact F.len _ _ _ _ h
 refine wpAny_call (codeAny_mono (F.run X.A X.stack s H ⟨us,[]⟩ (us++ds) (vs++dvs) Q E hr I.env0 (hb s us I.kIn hl) r2 h) fun r s' hq=>?_)
 cases r with
 | error e=>exact hx pins σ H s e s' I hq
 | ok fl=>
  cases fl with
  | ret u=>exact I.after hq
  | next=>exact False.elim hq
  | brk=>exact False.elim hq
  | cont=>exact False.elim hq
theorem pe_call (F:FnOk X.prog X.w X.K X.mg X.base CX k f fd ps sp) (hr:Room k X.A) (hg:Gl X x) (hm:X.mg x=some (.ref f)) (hk:PySem.W.keepIn X.K (.ref f)=true) (hb:Binds X.K fd ps ds) (hd:Vals dvs ds) (hx:Passes CX X E)
  (ha:PA X (e::es) t) (hdb:(x==("__debug__":Str))=false:=by decide) (he:starEach (e::es) X.env=(false,eval e X.env)::starEach es X.env:=by rfl) (hpl:(backTo pos (starEach es X.env)).any (·.1)=false:=by rfl):
  PE X (.Call (.Name x p) (e::es) [] pos) (tCall sp dvs E t):=by
 intro pins s σ H Q I h
 refine wpAny_Call_Name_kw (ld_glob I hg hm ?_ hdb)
 refine PySem.W.callWith_K (h₀:=X.base) I.ok.mod.kin hk (thn (ha pos pins s σ H _ I h) fun us s1 ⟨vs,H1,I1,r,q⟩=>⟨I1.kIn,?_⟩) he hpl
 exact run_fn F hr hb hd hx I1 r q
theorem pe_meth {pl:Sem Bool} (he:PE X o ta) (c:Cls X.K C) (hm:Meth X.K C m f) (F:FnOk X.prog X.w X.K X.mg X.base CX k f fd ps sp) (hr:Room k X.A) (hb:Binds X.K fd ps ds) (hd:Vals dvs ds) (hx:Passes CX X E) (ha:PA X (e::es) t)
  (hst:starEach (e::es) X.env=(false,eval e X.env)::starEach es X.env:=by rfl) (hpl:(backTo pos (starEach es X.env)).any (·.1)=false:=by rfl)
  (ht:eval (.Call (.Attribute o m apos) (e::es) [] pos) X.env=(do
   let ov ←eval o X.env
   standAt apos.atName
   let (f,first) ←holding [ov] (getMethod ov m pl)
   callWith pos f first (backTo pos (starEach (e::es) X.env)) (backToKw pos (keywordEach [] X.env))):=by rfl):
  PE X (.Call (.Attribute o m apos) (e::es) [] pos) (tMeth C m sp dvs E ta t):=by
 intro pins s σ H Q I h
 refine PySem.W.methodCall_KW (pl:=pl) (thn (he pins s σ H _ I h) fun u s1 hh_=>?_) ht
 obtain⟨x,H1,I1,rx,a,dx,fs,ex,ea,l,q⟩:=hh_
 subst ex
 obtain rfl:u=Value.ref a:=rx
 refine getmeth_ok I1 ea c hm l ?_
 refine PySem.W.callWith_K (first:=[.ref a]) (h₀:=X.base) I.ok.mod.kin hm.kp (thn (ha pos pins s1 σ H1 _ I1 q) fun us s2 ⟨vs,H2,I2,r,q2⟩=>⟨I2.kIn,?_⟩) hst hpl
 exact run_fn (us:=.ref a::us) (vs:=.ref a::vs) F hr hb hd hx I2 (.cons rfl r) q2
theorem pe_meth0 {pl:Sem Bool} (he:PE X o ta) (c:Cls X.K C) (hm:Meth X.K C m f) (F:FnOk X.prog X.w X.K X.mg X.base CX k f fd ps sp) (hr:Room k X.A) (hb:Binds X.K fd ps ds) (hd:Vals dvs ds) (hx:Passes CX X E)
  (ht:eval (.Call (.Attribute o m apos) [] [] pos) X.env=(do
   let ov ←eval o X.env
   standAt apos.atName
   let (f,first) ←holding [ov] (getMethod ov m pl)
   callWith pos f first (backTo pos (starEach [] X.env)) (backToKw pos (keywordEach [] X.env))):=by rfl):
  PE X (.Call (.Attribute o m apos) [] [] pos) (tMeth C m sp dvs E ta tNil):=by
 intro pins s σ H Q I h
 refine PySem.W.methodCall_KW (pl:=pl) (thn (he pins s σ H _ I h) fun u s1 hh_=>?_) ht
 obtain⟨x,H1,I1,rx,a,dx,fs,ex,ea,l,q⟩:=hh_
 subst ex
 obtain rfl:u=Value.ref a:=rx
 refine getmeth_ok I1 ea c hm l ?_
 exact PySem.W.callWith_K0 (first:=[.ref a]) I1.kIn hm.kp (run_fn (us:=[.ref a]) (vs:=[.ref a]) F hr hb hd hx I1 (.cons rfl .nil) q)
structure Mk (K:PySem.W.Frag) (C f:Addr):Prop where
 makes:PySem.W.makesIn K C=true
 init:PySem.W.findIn K (.ref C) "__init__"=some (some (.ref f))
 fn:PySem.W.isFn K (.ref f)=true
 kp:PySem.W.keepIn K (.ref C)=true
theorem run_make {pins:List (Addr×Obj)} {σ:St} {H:Hp} {s:Shared} {Q:VK} {us:List Value} {vs:List V} (M:Mk X.K C f) (F:FnOk X.prog X.w X.K X.mg X.base CX k f fd ps sp) (hr:Room (k+1) X.A) (hb:Binds X.K fd ps ds) (hd:Vals dvs ds)
  (hx:Passes CX X E) (I:Inv X pins σ H s) (r:Vals vs us)
  (h:∀x dx,H x=none→H dx=none→dx≠x→sp (.ref x::(vs++dvs)) (upd (upd H dx (.own x)) x (.ins C dx [])) (fun v H2=>v=.non∧Q (.ref x) H2) E):
  wpAny (model X.prog X.w) X.A (call (.ref C) us) (EP X pins σ Q) X.xe s:=by
 have hq:=h (s.heap.objs.size+1) s.heap.objs.size (I.hok.fresh (Nat.le_succ _)) (I.hok.fresh (Nat.le_refl _)) (Nat.ne_of_lt (Nat.lt_succ_self _))
 have I2:=Inv.made (C:=C) I
 have r2:Vals (V.ref (s.heap.objs.size+1)::(vs++dvs)) (Value.ref (s.heap.objs.size+1)::(us++ds)):=.cons rfl (r.append hd)
 have hl:(Value.ref (s.heap.objs.size+1)::us++ds).length=ps.length:=by
  have e:=r2.length
  rw[F.len _ _ _ _ hq] at e
  exact e.symm
 refine wpAny_call (make_map (f:=f) I.kIn M.makes M.init (beq_iff_eq.mp M.fn) (codeAny_mono (F.run _ X.stack _ _ ⟨Value.ref (s.heap.objs.size+1)::us,[]⟩ (Value.ref (s.heap.objs.size+1)::(us++ds)) _ _ E (hr.make C us [])
  (I2.env0.make C us []) (hb _ (Value.ref (s.heap.objs.size+1)::us) I2.kIn hl) r2 hq) fun r s' hq'=>?_))
 cases r with
 | error e=>exact hx pins σ _ _ e s' I2 hq'
 | ok fl=>
  cases fl with
  | ret u=>
   obtain⟨v,H',I3,rv,ev,q3⟩:=I2.after hq'
   subst ev
   exact⟨rv,⟨V.ref (s.heap.objs.size+1),H',I3,rfl,q3⟩⟩
  | next=>exact False.elim hq'
  | brk=>exact False.elim hq'
  | cont=>exact False.elim hq'
theorem pe_make (M:Mk X.K C f) (F:FnOk X.prog X.w X.K X.mg X.base CX k f fd ps sp) (hr:Room (k+1) X.A) (hg:Gl X x) (hm:X.mg x=some (.ref C)) (hb:Binds X.K fd ps ds) (hd:Vals dvs ds) (hx:Passes CX X E)
  (ha:PA X (e::es) t) (hdb:(x==("__debug__":Str))=false:=by decide) (he:starEach (e::es) X.env=(false,eval e X.env)::starEach es X.env:=by rfl) (hpl:(backTo pos (starEach es X.env)).any (·.1)=false:=by rfl):
  PE X (.Call (.Name x p) (e::es) [] pos) (tMake C sp dvs E t):=by
 intro pins s σ H Q I h
 refine wpAny_Call_Name_kw (ld_glob I hg hm ?_ hdb)
 refine PySem.W.callWith_K (h₀:=X.base) I.ok.mod.kin M.kp (thn (ha pos pins s σ H _ I h) fun us s1 ⟨vs,H1,I1,r,q⟩=>⟨I1.kIn,?_⟩) he hpl
 exact run_make M F hr hb hd hx I1 r q
end
section
variable {X : Cx} {CX : CXT} {k : Nat} {f C : Addr} {fd : FuncData} {ps ks : List Str} {sp : Sp} {E : XK} {x m : Str} {p pos apos kpos : Pos} {e o : Expr} {es : List Expr} {kws : List Keyword} {te ta : TE} {t tk : TA} {nm : Option Str}
structure KBinds (K:PySem.W.Frag) (fd:FuncData) (ps ks:List Str) (g:List Value→List Value→List Value) (gV:List V→List V→List V):Prop where
 to:∀(s:Shared) (us ws:List Value),K.In s.heap→(g us ws).length=ps.length→BindsTo s fd ⟨us,ks.zip ws⟩ (ps.zip (g us ws))
 rel:∀{vs:List V} {us:List Value} {zs:List V} {ws:List Value},Vals vs us→Vals zs ws→Vals (gV vs zs) (g us ws)
variable {g : List Value → List Value → List Value} {gV : List V → List V → List V}
end
structure FnScope (N P:List Str) (sc:Scope):Prop where
 kind:sc.kind=.function
 co:sc.isCoroutine=false
 gen:sc.isGenerator=false
 nd:N.Nodup
 pre:N.take P.length=P
 par:∀x∈P,sc.names.lookup x=some .local∨sc.names.lookup x=some .cell
 nofree:∀y∈sc.names,y.2≠.free
theorem bindL_out {kindOf:Str→Option NameKind} {x:Str}:∀{binds:List (Str×Value)} {m:Str→Option Value},(∀v,(x,v)∉binds)→bindL kindOf binds m x=m x
 | [],_,_=>rfl
 | (n,v)::r,m,h=>by
  unfold bindL
  rw[bindL_out fun w hw=>h w (List.mem_cons_of_mem _ hw)]
  split
  ·have:x≠n:=by rintro rfl;exact h v List.mem_cons_self
   simp [this]
  ·rfl
theorem bindC_out {kindOf:Str→Option NameKind} {x:Str}:∀{binds:List (Str×Value)} {m:Str→Option Value},(∀v,(x,v)∉binds)→bindC kindOf binds m x=m x
 | [],_,_=>rfl
 | (n,v)::r,m,h=>by
  unfold bindC
  rw[bindC_out fun w hw=>h w (List.mem_cons_of_mem _ hw)]
  split
  ·rfl
  ·have:x≠n:=by rintro rfl;exact h v List.mem_cons_self
   simp [this]
theorem bindL_get {kindOf:Str→Option NameKind} {x:Str} {v:Value}:∀{P:List Str} {vs:List Value} {i:Nat} {m:Str→Option Value},P.Nodup→P[i]?=some x→vs[i]?=some v→kindOf x=some .local→
  bindL kindOf (P.zip vs) m x=some v
 | [],_,_,_,_,h,_,_=>by simp at h
 | _::_,[],_,_,_,_,h,_=>by simp at h
 | p::P,w::vs,0,m,nd,h1,h2,hk=>by
  simp at h1 h2;subst h1;subst h2
  show bindL kindOf ((p,w)::P.zip vs) m p=_
  unfold bindL
  rw[bindL_out fun v hv=>(List.nodup_cons.mp nd).1 (List.of_mem_zip hv).1,if_pos hk]
  simp
 | p::P,w::vs,i+1,m,nd,h1,h2,hk=>by
  show bindL kindOf ((p,w)::P.zip vs) m x=_
  unfold bindL
  exact bindL_get (i:=i) (List.nodup_cons.mp nd).2 (by simpa using h1) (by simpa using h2) hk
theorem bindC_get {kindOf:Str→Option NameKind} {x:Str} {v:Value}:∀{P:List Str} {vs:List Value} {i:Nat} {m:Str→Option Value},P.Nodup→P[i]?=some x→vs[i]?=some v→kindOf x≠some .local→
  bindC kindOf (P.zip vs) m x=some v
 | [],_,_,_,_,h,_,_=>by simp at h
 | _::_,[],_,_,_,_,h,_=>by simp at h
 | p::P,w::vs,0,m,nd,h1,h2,hk=>by
  simp at h1 h2;subst h1;subst h2
  show bindC kindOf ((p,w)::P.zip vs) m p=_
  unfold bindC
  rw[bindC_out fun v hv=>(List.nodup_cons.mp nd).1 (List.of_mem_zip hv).1,if_neg hk]
  simp
 | p::P,w::vs,i+1,m,nd,h1,h2,hk=>by
  show bindC kindOf ((p,w)::P.zip vs) m x=_
  unfold bindC
  exact bindC_get (i:=i) (List.nodup_cons.mp nd).2 (by simpa using h1) (by simpa using h2) hk
noncomputable def start (N:List Str) (vs:List V):St:=vs.map some++List.replicate (N.length - vs.length) none
noncomputable def cxOf (CX:CXT) (P:Program) (w:World) (K:PySem.W.Frag) (mg:Str→Option Value) (base:Heap) (N:List Str) (qual:Str) (scope:Scope) (f:Addr) (cd:Value) (A:Around) (outer:List Env) (s:Shared) (H:Hp) (E:XK):Cx where
 prog:=P
 w:=w
 K:=K
 mg:=mg
 base:=base
 A:=A.deeper (envOfC qual scope s.heap.objs.size f cd)
 N:=N
 s₀:=s
 H₀:=H
 env:=envOfC qual scope s.heap.objs.size f cd
 outer:=outer
 stack:=envOfC qual scope s.heap.objs.size f cd::outer
 ex:=[]
 calm:=true
 fn:=fun _=>true
 pn:=[]
 xe:=fun e s'=>wpAny (model P w) (A.deeper (envOfC qual scope s.heap.objs.size f cd)) (leaving (envOfC qual scope s.heap.objs.size f cd) e) (fun _ s''=>CX outer H s E e s'') (fun e' s''=>CX outer H s E e' s'') s'
theorem cell_has {sc:Scope} {n:Nat} {x:Str} (h:sc.names.lookup x=some .cell):∃c,(cellsFrom n sc.names []).lookup x=some c:=by
 have q:=PySem.W.cellsFrom_some sc.names n [] (.inl h)
 exact Option.isSome_iff_exists.mp q
theorem inv_start {CX:CXT} {P:Program} {w:World} {K:PySem.W.Frag} {mg:Str→Option Value} {base:Heap} {N ps:List Str} {qual:Str} {scope:Scope} {f:Addr} {cd:Value} {A:Around} {outer:List Env} {s s1:Shared} {H:Hp} {E:XK} {us:List Value} {vs:List V}
  (S:FnScope N ps scope) (hd:A.handled=none) (e0:Env0 P w K mg base A outer s H) (hl:vs.length=ps.length) (r:Vals vs us)
  (x:InCallC s s.heap.objs.size (bindL (envOfC qual scope s.heap.objs.size f cd).kindOf (ps.zip us) fun _=>none) (cellsFrom (s.heap.objs.size+1) scope.names []) (bindC (envOfC qual scope s.heap.objs.size f cd).kindOf (ps.zip us) fun _=>none) s1):
  Inv (cxOf CX P w K mg base N qual scope f cd A outer s H E) [] (start N vs) H s1:=by
 have hpl:ps.length≤N.length:=by have:=congrArg List.length S.pre;rw[List.length_take] at this;omega
 obtain⟨h1,tk,rfl,hk⟩:=x.done
 have noA:∀b:Addr,b∉(cxOf CX P w K mg base N qual scope f cd A outer s H E).ex:=fun b z=>absurd (show b∈([]:List Addr) from z) (by simp)
 refine⟨⟨e0.mod,S.kind,rfl,rfl,Nat.le_refl _,fun y z c h1 h2=>?_,fun y hy=>?_,fun y c _ h=>?_,fun _=>hd,Around.frames_deeper e0.frames,.inr ⟨rfl,rfl⟩,fun b z=>absurd z (noA b),e0.bs,e0.bsz,fun b _ _=>noA b,fun b z=>absurd z (noA b),e0.funs,e0.frf⟩,
  rfl,e0.bare,Un.kept hk,⟨_,x.toInCall.ns,fun i y v h1 h2 h3=>?_⟩,fun y c h=>⟨_,x.cell y c h⟩,e0.hok.fresh (Nat.le_refl _),fun y c h=>?_,fun p hp=>absurd (show p∈([]:List (Addr×Obj)) from hp) (by simp),e0.hok.kept hk,?_⟩
 ·exact name_of_addr x.apart (PySem.mem_of_lookup h1) (PySem.mem_of_lookup h2)
 ·have hy:scope.names.lookup y=some .cell∨scope.names.lookup y=some .free:=hy
  rcases hy with hy | hy
  ·exact cell_has hy
  ·exact absurd rfl (S.nofree _ (PySem.mem_of_lookup hy))
 ·exact Nat.le_of_lt (x.above y c (PySem.mem_of_lookup h))
 ·have hi:i<vs.length:=by
   unfold start at h2
   by_cases hi:i<vs.length
   ·exact hi
   ·rw[List.getElem?_append_right (by simpa using hi)] at h2
    rw[List.getElem?_replicate] at h2
    split at h2 <;>cases h2
  have ha:vs[i]?=some v:=by
   unfold start at h2
   rw[List.getElem?_append_left (by simpa using hi),List.getElem?_map] at h2
   cases e:vs[i]? with
   | none=>rw[e] at h2;cases h2
   | some a=>rw[e] at h2;cases h2;rfl
  obtain⟨u,hu,rv⟩:=r.get ha
  have hp:ps[i]?=some y:=by
   rw[←S.pre,List.getElem?_take_of_lt (by omega)];exact h1
  have ndP:ps.Nodup:=by rw[←S.pre];exact S.nd.sublist (List.take_sublist _ _)
  refine⟨u,rv,?_⟩
  rcases S.par y (List.mem_of_getElem? hp) with k | k
  ·exact .inl ⟨k,bindL_get ndP hp hu k⟩
  ·obtain⟨c,e⟩:=cell_has (n:=s.heap.objs.size+1) k
   refine .inr ⟨.inl k,c,e,?_⟩
   have q:=x.cell y c e
   rw[bindC_get ndP hp hu (by show scope.names.lookup y≠_;rw[k];decide)] at q
   exact q
 ·exact e0.hok.fresh (Nat.le_of_lt (x.above y c (PySem.mem_of_lookup h)))
 ·unfold start
  show _=N.length
  rw[List.length_append,List.length_map,List.length_replicate]
  omega
theorem fn_of {CX:CXT} {P:Program} {w:World} {K:PySem.W.Frag} {mg:Str→Option Value} {base:Heap} {k:Nat} {f:Addr} {name qual:Str} {params:Arguments} {body:List Stmt} {scope:Scope} {dV kV doc pm cdv ct oc:Value} {an od:Option Addr}
  {osl:Array (Option Value)} {N ps:List Str} {sp:Sp} (lk:K.lookup f=some ⟨oc,od,.func (PySem.W.fnOf name qual params body scope dV kV doc pm an cdv ct),osl⟩) (hcd:PySem.W.codeIn K cdv qual=true) (S:FnScope N ps scope)
  (len:∀vs H Q E,sp vs H Q E→vs.length=ps.length)
  (hbody:∀(A:Around) (outer:List Env) (s:Shared) (H:Hp) (vs:List V) (Q:VK) (E:XK),Room k (A.deeper (envOfC qual scope s.heap.objs.size f cdv))→sp vs H Q E→
   ∃t,PSs (cxOf CX P w K mg base N qual scope f cdv A outer s H E) body t∧t {nx:=fun _ H'=>Q .non H',rt:=Q} (start N vs) H):
  FnOk P w K mg base CX (k+1) f (PySem.W.fnOf name qual params body scope dV kV doc pm an cdv ct) ps sp:=by
 refine⟨len,fun A outer s H args us vs Q E hr e0 hb r hsp=>?_⟩
 have hl:=len _ _ _ _ hsp
 have KX:K.In s.heap:=e0.mod.kin.keeps fun b o e=>(e0.bs b o e).1
 have lim:s.heap.NoLimit:=e0.mod.nolimit.keeps fun b o e=>(e0.bs b o e).1
 have hkind:∀y∈ps.zip us,scope.names.lookup y.1=some .local∨(scope.names.lookup y.1=some .cell∧((cellsFrom (s.heap.objs.size+1) scope.names []).lookup y.1).isSome=true):=fun⟨n,v⟩ hy=>by
  rcases S.par n (List.of_mem_zip hy).1 with q | q
  ·exact .inl q
  ·exact .inr ⟨q,PySem.W.cellsFrom_some _ _ _ (.inl q)⟩
 refine codeAny_call_function hr.depth (KX _ _ lk) rfl S.co S.gen rfl (PySem.W.codeRec_of KX hcd) (hb _ _ _ _ ?_)
 refine wpAny_newFunctionEnv_cells S.kind hkind fun env he s1 x=>?_
 subst he
 refine⟨lim.keeps x.toInCall.keep,codeAny_func ?_⟩
 obtain⟨t,ht,hq⟩:=hbody A outer s H vs Q E (hr.deeper _) hsp
 have I:Inv (cxOf CX P w K mg base N qual scope f cdv A outer s H E) [] (start N vs) H s1:=inv_start S hr.hd e0 hl r x
 refine wpAny_mono (ht [] s1 (start N vs) H _ I hq) (fun fl s' hs=>?_) fun e s' hs=>hs
 have fin:∀{σ':St} {H':Hp} {v:V} {u:Value},Inv (cxOf CX P w K mg base N qual scope f cdv A outer s H E) [] σ' H' s'→RelV v u→Q v H'→CE outer P w H s Q u s':=
  fun {σ' H' v u} J rv q=>⟨v,H',J.os,J.bare,J.base,J.hok,rv,q⟩
 cases fl with
 | ret u=>
  obtain⟨v,σ',H',J,rv,q⟩:=hs
  exact fin J rv q
 | next=>
  obtain⟨σ',H',J,q⟩:=hs
  exact fin (v:=V.non) (u:=Value.none) J rfl q
 | brk=>
  obtain⟨_,_,_,q⟩:=hs
  exact False.elim q
 | cont=>
  obtain⟨_,_,_,q⟩:=hs
  exact False.elim q
end L2
namespace L2
open PySem PySem.Spec PyProof.Rows
section
variable {X : Cx} {x : Str} {p pos : Pos} {e : Expr} {es : List Expr} {t : TA} {id T : String} {r : List V → Hp → VK → Prop}
noncomputable def tCB (r:List V→Hp→VK→Prop) (t:TA):TE:=fun σ H Q=>t σ H fun vs H1=>r vs H1 Q
theorem pe_callB (hc:CallR X (.builtin id) r) (hg:Gl X x) (hm:X.mg x=none) (hv:bootBuiltins x=some (.builtin id)) (ha:PA X (e::es) t) (hn:x≠"__name__":=by decide) (hdb:(x==("__debug__":Str))=false:=by decide)
  (he:starEach (e::es) X.env=(false,eval e X.env)::starEach es X.env:=by rfl) (hpl:(backTo pos (starEach es X.env)).any (·.1)=false:=by rfl):PE X (.Call (.Name x p) (e::es) [] pos) (tCB r t):=by
 intro pins s σ H Q I h
 refine wpAny_Call_Name_kw (ld_blt I hg hm hv ?_ hn hdb)
 exact PyProof.Rows.callWith_builtin1 (thn (ha pos pins s σ H _ I h) fun us s1 ⟨vs,H1,I1,r1,q1⟩=>hc pins s1 σ H1 vs us Q I1 r1 q1) he hpl
theorem pe_callTy (hc:CallR X (.type T) r) (hg:Gl X x) (hm:X.mg x=none) (hv:bootBuiltins x=some (.type T)) (ha:PA X (e::es) t) (hn:x≠"__name__":=by decide) (hdb:(x==("__debug__":Str))=false:=by decide)
  (he:starEach (e::es) X.env=(false,eval e X.env)::starEach es X.env:=by rfl) (hpl:(backTo pos (starEach es X.env)).any (·.1)=false:=by rfl):PE X (.Call (.Name x p) (e::es) [] pos) (tCB r t):=by
 intro pins s σ H Q I h
 refine wpAny_Call_Name_kw (ld_blt I hg hm hv ?_ hn hdb)
 exact PyProof.Rows.callWith_type1 (thn (ha pos pins s σ H _ I h) fun us s1 ⟨vs,H1,I1,r1,q1⟩=>hc pins s1 σ H1 vs us Q I1 r1 q1) he hpl
end
end L2
namespace HT
open PySem PyProof.Rows
section
open PySem.SeqAt
open PySem.AutoSeq1 (wpAny_loadPart')
open PySem.MeetsSeq PySem.MeetsSeq2 PySem.MeetsSeq3
end
section
variable {prog : Program} {w : World} {A : Around} {E : Value → Shared → Prop} {s : Shared}
noncomputable def sIx (n d:Nat):Option Int→Nat
 | none=>d
 | some v=>if v<0 then (v+ (n:Int)).toNat else min v.toNat n
theorem sIx_none (n d:Nat):sIx n d none=d:=rfl
theorem sIx_nat (n d k:Nat):sIx n d (some (k:Int))=min k n:=by
 show(if (k:Int)<0 then ((k:Int)+ (n:Int)).toNat else min (k:Int).toNat n)=min k n
 rw[if_neg (by omega),Int.toNat_natCast]
end
end HT
namespace L2
open PySem PySem.Spec PyProof.Rows
abbrev TO:=St→Hp→(Option Int→Hp→Prop)→Prop
noncomputable def PO (X:Cx) (e:Option Expr) (t:TO):Prop:=
 ∀(pins:List (Addr×Obj)) (s:Shared) (σ:St) (H:Hp) (Q:Option Int→Hp→Prop),Inv X pins σ H s→t σ H Q→
  wpAny (model X.prog X.w) X.A (evalPart e X.env) (fun u s'=>∃o H',Inv X pins σ H' s'∧IsPart u o∧Q o H') X.xe s
noncomputable def tNoPart:TO:=fun _ H Q=>Q none H
noncomputable def tPart (t:TE):TO:=fun σ H Q=>t σ H fun x H1=>∃i,x=.int i∧Q (some i) H1
theorem intsAre_of {ns:List Int}:∀{us:List Value},Vals (ns.map V.int) us→IntsAre us ns:=by
 induction ns with
 | nil=>intro us r;rw[List.map_nil] at r;cases r;exact .nil
 | cons n ns ih=>
  intro us r
  rw[List.map_cons] at r
  cases r with
  | cons r1 r2=>
   obtain⟨t,e⟩:=r1
   subst e
   exact .cons n t (ih r2)
section
variable {X : Cx} {e : Expr} {te : TE} {lo hi : Option Expr} {tl th : TO} {pos p2 : Pos}
theorem po_none:PO X none tNoPart:=by
 intro pins s σ H Q I h
 rw[evalPart_none]
 exact wpAny_pure ⟨none,H,I,.none,h⟩
theorem po_some (h:PE X e te):PO X (some e) (tPart te):=by
 intro pins s σ H Q I hw
 rw[evalPart_some]
 refine thn (h pins s σ H _ I hw) fun u s1 hh_=>?_
 obtain⟨x,H1,I1,r1,q1⟩:=hh_
 obtain⟨i,rfl,q⟩:=q1
 obtain⟨t,rfl⟩:=r1
 exact⟨some i,H1,I1,.int i t,q⟩
noncomputable def SlR (X:Cx) (r:V→Option Int→Option Int→Hp→VK→Prop):Prop:=
 ∀(pins:List (Addr×Obj)) (s:Shared) (σ:St) (H:Hp) (x:V) (v vl vu:Value) (lo hi:Option Int) (sl:Addr) (Q:VK),Inv X pins σ H s→RelV x v→s.heap.IsSliceOf sl vl vu .none→IsPart vl lo→IsPart vu hi→r x lo hi H Q→
  ∃T id,typeLookup (.type T) "__getitem__"=pure (some (.builtin id))∧s.TypeIs v T∧wpAny (model X.prog X.w) X.A (getItem v (.ref sl)) (EP X pins σ Q) X.xe s
noncomputable def tSl (r:V→Option Int→Option Int→Hp→VK→Prop) (te:TE) (tl th:TO):TE:=fun σ H Q=>te σ H fun x H1=>tl σ H1 fun l H2=>th σ H2 fun u H3=>r x l u H3 Q
theorem pe_slice {r:V→Option Int→Option Int→Hp→VK→Prop} (hr:SlR X r) (he:PE X e te) (hl:PO X lo tl) (hu:PO X hi th):PE X (.Subscript e (.Slice lo hi none p2) pos) (tSl r te tl th):=by
 intro pins s σ H Q I h
 refine Subscript_ (thn (he pins s σ H _ I h) fun v s1 hh_=>?_)
 obtain⟨x,H1,I1,r1,q1⟩:=hh_
 refine wpAny_Slice (thn (hl pins s1 σ H1 _ I1 q1) fun vl s2 ⟨l,H2,I2,pl,q2⟩=>thn (hu pins s2 σ H2 _ I2 q2) fun vu s3 hh_=>?_)
 obtain⟨u,H3,I3,pu,q3⟩:=hh_
 rw[evalPart_none]
 refine wpAny_pure ?_
 have I4:Inv X pins σ H3 {s3 with heap:=s3.heap.push {cls:=.type "slice",data:=.fields #[vl,vu,.none]}}:=I3.kept (t':=s3.toks) fun b ob q=>Heap.get?_push_of_some _ q
 obtain⟨T,id,hT,ht,hg⟩:=hr pins {s3 with heap:=s3.heap.push {cls:=.type "slice",data:=.fields #[vl,vu,.none]}} σ H3 x v vl vu l u s3.heap.objs.size Q I4 r1 (Heap.IsSliceOf.new ..) pl pu q3
 show wpAny (model X.prog X.w) X.A (subscriptTail e (.Slice lo hi none p2) v (.ref s3.heap.objs.size)) (EP X pins σ Q) X.xe {s3 with heap:=s3.heap.push {cls:=.type "slice",data:=.fields #[vl,vu,.none]}}
 exact tail_any (ops:=[.ref s3.heap.objs.size,v]) ht hT hg (by with_unfolding_all rfl)
noncomputable def cutV (xs:List V) (lo hi:Option Int):List V:=(xs.drop (HT.sIx xs.length 0 lo)).take (HT.sIx xs.length xs.length hi - HT.sIx xs.length 0 lo)
theorem cutV_length (xs:List V) (lo hi:Option Int):(cutV xs lo hi).length≤xs.length:=by
 unfold cutV
 rw[List.length_take,List.length_drop]
 omega
end
end L2
namespace L2
open PySem PySem.Spec PyProof.Rows
noncomputable def ixN (n:Nat) (i:Int):Option Nat:=if 0≤i then (if i<n then some i.toNat else none) else if -(n:Int)≤i then some (i+n).toNat else none
noncomputable def atI {α:Type} (xs:List α) (i:Int):Option α:=(ixN xs.length i).bind fun j=>xs[j]?
theorem ixN_seq {n:Nat} {i:Int} {j:Nat} (h:ixN n i=some j):seqIndex? i n=some j∧j<n∧-(n:Int)≤i∧i<n:=by
 unfold ixN at h
 by_cases h0:0≤i
 ·rw[if_pos h0] at h
  by_cases h1:i<n
  ·rw[if_pos h1] at h
   have e:i.toNat=j:=Option.some.inj h
   exact⟨by rw[seqIndex_of h0 h1,e],by omega,by omega,h1⟩
  ·rw[if_neg h1] at h;cases h
 ·rw[if_neg h0] at h
  by_cases h1:-(n:Int)≤i
  ·rw[if_pos h1] at h
   have e:(i+n).toNat=j:=Option.some.inj h
   exact⟨by rw[seqIndex_neg (by omega) h1,e],by omega,h1,by omega⟩
  ·rw[if_neg h1] at h;cases h
theorem atI_get {α:Type} {xs:List α} {i:Int} {v:α} (h:atI xs i=some v):∃j,seqIndex? i xs.length=some j∧xs[j]?=some v∧j<xs.length∧-(xs.length:Int)≤i∧i<xs.length:=by
 unfold atI at h
 cases e:ixN xs.length i with
 | none=>rw[e] at h;cases h
 | some j=>
  rw[e] at h
  obtain⟨h1,h2,h3,h4⟩:=ixN_seq e
  exact⟨j,h1,h,h2,h3,h4⟩
theorem atI_nat {α:Type} {xs:List α} {j:Nat} {v:α} (h:xs[j]?=some v):atI xs (j:Int)=some v:=by
 have hj:j<xs.length:=(List.getElem?_eq_some_iff.mp h).1
 have e:ixN xs.length (j:Int)=some j:=by
  unfold ixN
  rw[if_pos (by omega),if_pos (by omega)];simp
 unfold atI;rw[e];exact h
noncomputable def PlainIx (b:Expr):Prop:=∀o i,subscripted b false o i=operate [o,i] (getItem o i)
noncomputable def IxR (X:Cx) (r:R2):Prop:=
 ∀(value slice:Expr) (pins:List (Addr×Obj)) (s:Shared) (σ:St) (H:Hp) (x y:V) (v u:Value) (Q:VK),Inv X pins σ H s→RelV x v→RelV y u→r x y H Q→
  subscripted slice false v u=operate [v,u] (getItem v u)→wpAny (model X.prog X.w) X.A (subscriptTail value slice v u) (EP X pins σ Q) X.xe s
noncomputable def MtR (X:Cx) (id:String) (r:V→List V→Hp→VK→Prop):Prop:=
 ∀(pins:List (Addr×Obj)) (s:Shared) (σ:St) (H:Hp) (x:V) (xs:List V) (v:Value) (us:List Value) (Q:VK),Inv X pins σ H s→RelV x v→Vals xs us→r x xs H Q→
  wpAny (model X.prog X.w) X.A (call (.builtin id) (v::us)) (EP X pins σ Q) X.xe s
section
variable {X : Cx} {a b : Expr} {ta tb : TE} {pos : Pos}
theorem pe_ix {r:R2} (hr:IxR X r) (ha:PE X a ta) (hb:PE X b tb) (hs:PlainIx b):PE X (.Subscript a b pos) (tOp r ta tb):=by
 intro pins s σ H Q I h
 exact Subscript_ (binT ha hb I h fun v u s2 x y H2 I2 rx ry q=>hr a b pins s2 σ H2 x y v u Q I2 rx ry q (hs _ _))
noncomputable def rIxL (K:PySem.W.Frag):R2:=fun x y H Q=>∃p xs i v,x=.ref p∧y=.int i∧SqL K H p xs∧atI xs i=some v∧Q v H
noncomputable def rIxT (K:PySem.W.Frag):R2:=fun x y H Q=>∃p xs i v,x=.ref p∧y=.int i∧SqT K H p xs∧atI xs i=some v∧Q v H
theorem ix_list:IxR X (rIxL X.K):=by
 intro value slice pins s σ H x y v u Q I rx ry h hs
 obtain⟨p,xs,i,z,rfl,rfl,hq,he,q⟩:=h
 cases rx
 obtain⟨t,rfl⟩:=ry
 obtain⟨its,r,pl,hz⟩:=I.list hq
 obtain⟨j,h1,h2,h3,h4,h5⟩:=atI_get he
 obtain⟨w,ew,rw'⟩:=r.get h2
 have hl:=r.length
 have hn:=line63
 have fin:EP X pins σ Q w s:=⟨z,H,I,rw',q⟩
 by_cases h0:0≤i
 ·have hj:i.toNat=j:=by
   rw[seqIndex_of h0 h5] at h1
   exact Option.some.inj h1
  exact item_listR pl.isList h0 (by omega) (by rw[hj];simpa using ew) fin hs
 ·have hj:(i+ (its.toArray.size:Int)).toNat=j:=by
   rw[seqIndex_neg (by omega) h4] at h1
   rw[List.size_toArray,←hl]
   exact Option.some.inj h1
  exact subscriptTail_builtinR (x:=w) pl.isList.typeIs slot_list_getitem.lookup
   (wpAny_getItem_list_neg (Q:=fun r s'=>r=w∧EP X pins σ Q r s') pl.isList (by omega) (by rw[List.size_toArray] <;>omega) (by omega) (by rw[hj];simpa using ew) ⟨rfl,fin⟩) hs
theorem ix_tup:IxR X (rIxT X.K):=by
 intro value slice pins s σ H x y v u Q I rx ry h hs
 obtain⟨p,xs,i,z,rfl,rfl,hq,he,q⟩:=h
 cases rx
 obtain⟨t,rfl⟩:=ry
 obtain⟨its,r,pl,hz⟩:=I.tuple hq
 obtain⟨j,h1,h2,h3,h4,h5⟩:=atI_get he
 obtain⟨w,ew,rw'⟩:=r.get h2
 have hl:=r.length
 have hn:=line63
 have fin:EP X pins σ Q w s:=⟨z,H,I,rw',q⟩
 exact subscriptTail_builtinR (x:=w) pl.typeIs slot_tuple_getitem.lookup
  (getItem_tuple (j:=j) (Q:=fun r s'=>r=w∧EP X pins σ Q r s') pl (by omega) (by omega) (by rw[List.size_toArray,←hl];exact h1) (by simpa using ew) ⟨rfl,fin⟩) hs
theorem mapSeq_set (its:List Value) (n j:Nat) (u:Value):Obj.mapSeq (·.setIfInBounds j u) {cls:=.type "list",data:=.seq its.toArray n}={cls:=.type "list",data:=.seq (its.set j u).toArray n}:=by
 simp [Obj.mapSeq]
theorem Inv.lst {pins:List (Addr×Obj)} {σ:St} {H:Hp} {s:Shared} {p:Addr} {xs:List V} (I:Inv X pins σ H s) (h:H p=some (.lst xs)):
  ∃(its:List Value) (n:Nat),Vals xs its∧s.heap.get? p=some {cls:=.type "list",data:=.seq its.toArray n}∧xs.length≤sizeLine:=by
 obtain⟨z,its,n,r,e⟩:=I.hok p _ h
 exact⟨its,n,r,e,z⟩
theorem Inv.lstUpd {pins:List (Addr×Obj)} {σ:St} {H:Hp} {s:Shared} {p:Addr} {xs ys:List V} {its its':List Value} {n n':Nat} {f:Obj→Obj} (I:Inv X pins σ H s) (h:H p=some (.lst xs))
  (ho:s.heap.get? p=some {cls:=.type "list",data:=.seq its.toArray n}) (hf:f {cls:=.type "list",data:=.seq its.toArray n}={cls:=.type "list",data:=.seq its'.toArray n'}) (r:Vals ys its') (hz:ys.length≤sizeLine) (t:Nat):
  Inv X pins σ (upd H p (.lst ys)) {s with heap:=s.heap.update p f,toks:=t}:=by
 have e:(s.heap.update p f).get? p=some {cls:=.type "list",data:=.seq its'.toArray n'}:=by
  rw[Heap.get?_update_self f ho (by rw[hf] <;>rfl),hf]
 refine I.write (x:=p) (e:=p) (by rw[h];trivial) (.inl rfl) (fun b u hb q=>(Heap.get?_update_other _ _ (Ne.symm hb)).trans q) ⟨_,e⟩ ?_
 exact⟨hz,its',n',r,e⟩
noncomputable def rSetL:V→V→V→Hp→(Hp→Prop)→Prop:=fun o i v H Q=>∃p xs k j,o=.ref p∧i=.int k∧H p=some (.lst xs)∧ixN xs.length k=some j∧Q (upd H p (.lst (xs.set j v)))
theorem set_list:PSet X rSetL:=by
 intro pins s σ H o i v ov iv u Q I ro ri rv h
 obtain⟨p,xs,k,j,rfl,rfl,hp,hj,q⟩:=h
 cases ro
 obtain⟨t,rfl⟩:=ri
 obtain⟨its,n,r,ho,hz⟩:=I.lst hp
 obtain⟨h1,h2,h3,h4⟩:=ixN_seq hj
 have hl:=r.length
 have hn:=line63
 have I':Inv X pins σ (upd H p (.lst (xs.set j v))) {s with heap:=s.heap.update p (Obj.mapSeq (·.setIfInBounds j u))}:=
  I.lstUpd hp ho (mapSeq_set its n j u) (r.set rv j) (by rw[List.length_set];exact hz) s.toks
 by_cases h0:0≤k
 ·have hk:k.toNat=j:=by
   rw[seqIndex_of h0 h4] at h1
   exact Option.some.inj h1
  exact PySem.W.ki_setAt ho h0 (by omega) (by rw[List.size_toArray,←hl];exact h4) (by rw[hk];exact⟨_,I',q⟩)
 ·have hk:(k+ (its.toArray.size:Int)).toNat=j:=by
   rw[seqIndex_neg (by omega) h3] at h1
   rw[List.size_toArray,←hl]
   exact Option.some.inj h1
  exact PySem.W.ki_setBack ho (by omega) (by rw[List.size_toArray,←hl];exact h3) (by omega) (by rw[hk];exact⟨_,I',q⟩)
theorem slice_bounds (lo hi:Option Int) (n:Nat):(sliceBounds lo hi none n).1=((HT.sIx n 0 lo:Nat):Int)∧(sliceBounds lo hi none n).2.1=((HT.sIx n n hi:Nat):Int)∧(sliceBounds lo hi none n).2.2=1:=by
 refine⟨?_,?_,rfl⟩
 ·cases lo with
  | none=>simp [sliceBounds,HT.sIx]
  | some i=>
   simp only[sliceBounds,HT.sIx,Option.getD_none,show(1:Int) >0 by decide,if_true]
   by_cases h:i<0
   ·simp only[h,if_true] <;>omega
   ·simp only[h,if_false] <;>omega
 ·cases hi with
  | none=>simp [sliceBounds,HT.sIx]
  | some i=>
   simp only[sliceBounds,HT.sIx,Option.getD_none,show(1:Int) >0 by decide,if_true]
   by_cases h:i<0
   ·simp only[h,if_true] <;>omega
   ·simp only[h,if_false] <;>omega
theorem slicePick_cut (its:List Value) (lo hi:Option Int):slicePick its.toArray lo hi none=((its.drop (HT.sIx its.length 0 lo)).take (HT.sIx its.length its.length hi - HT.sIx its.length 0 lo)).toArray:=by
 obtain⟨h1,h2,h3⟩:=slice_bounds lo hi its.toArray.size
 unfold slicePick
 rw[h1,h2,h3]
 simp only[sliceRange_one,pick_run,List.size_toArray] <;>rfl
noncomputable def rSlL (K:PySem.W.Frag):V→Option Int→Option Int→Hp→VK→Prop:=fun x lo hi H Q=>∃a xs,x=.ref a∧SqL K H a xs∧∀p,H p=none→Q (.ref p) (upd H p (.lst (cutV xs lo hi)))
theorem sl_list:SlR X (rSlL X.K):=by
 intro pins s σ H x v vl vu lo hi sl Q I rx hs pl pu h
 obtain⟨a,xs,rfl,hx,q⟩:=h
 cases rx
 obtain⟨its,r,ht,hz⟩:=I.list hx
 have hlen:=r.length
 refine⟨"list",_,slot_list_getitem.lookup,ht.isList.typeIs,?_⟩
 refine wpAny_getItem_list_slice ht.isList hs pl pu .none (by simp) ?_ (by rw[List.size_toArray] <;>omega)
 rw[slicePick_cut,←hlen]
 refine⟨.ref s.heap.objs.size,_,I.laid (t':=s.toks) (o:=.lst (cutV xs lo hi)) (fun b ob q=>Heap.get?_push_of_some _ q) (Nat.le_refl _) ?_,rfl,q _ (I.hok.fresh (Nat.le_refl _))⟩
 exact⟨Nat.le_trans (cutV_length xs lo hi) hz,_,0,(r.drop (HT.sIx xs.length 0 lo)).take (HT.sIx xs.length xs.length hi - HT.sIx xs.length 0 lo),Heap.get?_push_size _ rfl⟩
noncomputable def flatV:V→Bool
 | .non=>true
 | .bl _=>true
 | .int _=>true
 | .str _=>true
 | _=>false
noncomputable def eqV:V→V→Bool
 | .non,.non=>true
 | .bl a,.bl b=>a==b
 | .bl a,.int b=>(if a then 1 else 0)==b
 | .int a,.bl b=>a==(if b then 1 else 0)
 | .int a,.int b=>a==b
 | .str a,.str b=>a==b
 | _,_=>false
theorem eqAt_V {A:Around} {s:Shared} {y x:V} {u v:Value} (ry:RelV y u) (rx:RelV x v) (fy:flatV y=true) (fx:flatV x=true):SeqAt.EqAt A s u v (eqV y x):=by
 cases y with
 | non=>
  cases ry
  cases x with
  | non=>cases rx;exact SeqAt.EqAt.same _
  | bl b=>cases rx;exact SeqAt.EqAt.none_bool b
  | int b=>obtain⟨t,rfl⟩:=rx;exact SeqAt.EqAt.none_int b t
  | str b=>obtain⟨t,rfl⟩:=rx;exact SeqAt.EqAt.none_str b t
  | _=>exact absurd (show false=true from fx) Bool.false_ne_true
 | bl a=>
  cases ry
  cases x with
  | non=>cases rx;exact SeqAt.EqAt.bool_none a
  | bl b=>cases rx;exact SeqAt.EqAt.bool_bool a b
  | int b=>obtain⟨t,rfl⟩:=rx;exact SeqAt.EqAt.bool_int a b t
  | str b=>obtain⟨t,rfl⟩:=rx;exact SeqAt.EqAt.bool_str a b t
  | _=>exact absurd (show false=true from fx) Bool.false_ne_true
 | int a=>
  obtain⟨t',rfl⟩:=ry
  cases x with
  | non=>cases rx;exact SeqAt.EqAt.int_none a t'
  | bl b=>cases rx;exact SeqAt.EqAt.int_bool a t' b
  | int b=>obtain⟨t,rfl⟩:=rx;exact SeqAt.EqAt.int_int a t' b t
  | str b=>obtain⟨t,rfl⟩:=rx;exact SeqAt.EqAt.int_str a t' b t
  | _=>exact absurd (show false=true from fx) Bool.false_ne_true
 | str a=>
  obtain⟨t',rfl⟩:=ry
  cases x with
  | non=>cases rx;exact SeqAt.EqAt.str_none a t'
  | bl b=>cases rx;exact SeqAt.EqAt.str_bool a t' b
  | int b=>obtain⟨t,rfl⟩:=rx;exact SeqAt.EqAt.str_int a t' b t
  | str b=>obtain⟨t,rfl⟩:=rx;exact SeqAt.EqAt.str_str a t' b t
  | _=>exact absurd (show false=true from fx) Bool.false_ne_true
 | _=>exact absurd (show false=true from fy) Bool.false_ne_true
noncomputable def eqU (x:V) (u:Value):Bool:=match u with
 | .none=>eqV .non x
 | .bool b=>eqV (.bl b) x
 | .int i _=>eqV (.int i) x
 | .str z _=>eqV (.str z) x
 | _=>false
theorem eqU_of {x y:V} {u:Value} (r:RelV y u) (f:flatV y=true):eqU x u=eqV y x:=by
 cases y with
 | non=>cases r;rfl
 | bl b=>cases r;rfl
 | int i=>obtain⟨t,rfl⟩:=r;rfl
 | str z=>obtain⟨t,rfl⟩:=r;rfl
 | _=>exact absurd (show false=true from f) Bool.false_ne_true
theorem any_eqU {x:V}:∀{xs:List V} {us:List Value},Vals xs us→xs.all flatV=true→us.any (eqU x)=xs.any fun y=>eqV y x
 | _,_,.nil,_=>rfl
 | y::xs,u::us,.cons r t,f=>by
  rw[List.all_cons,Bool.and_eq_true] at f
  rw[List.any_cons,List.any_cons,eqU_of r f.1,any_eqU t f.2]
theorem mem_eqAt {A:Around} {s:Shared} {x:V} {v:Value} (rx:RelV x v) (fx:flatV x=true):∀{xs:List V} {us:List Value},Vals xs us→xs.all flatV=true→∀u∈us,SeqAt.EqAt A s u v (eqU x u)
 | _,_,.nil,_=>fun u hu=>by cases hu
 | y::xs,u::us,.cons r t,f=>fun u' hu=>by
  rw[List.all_cons,Bool.and_eq_true] at f
  rcases List.mem_cons.mp hu with rfl | hu
  ·rw[eqU_of r f.1];exact eqAt_V r rx f.1 fx
  ·exact mem_eqAt rx fx t f.2 u' hu
noncomputable def inV (x:V) (xs:List V):Bool:=xs.any fun y=>eqV y x
noncomputable def rIn (K:PySem.W.Frag) (neg:Bool):R2:=fun x y H Q=>∃p xs,y=.ref p∧(SqL K H p xs∨SqT K H p xs)∧flatV x=true∧xs.all flatV=true∧Q (.bl (if neg then !inV x xs else inV x xs)) H
theorem op_notIn_seq:OpR X (compareOp .NotIn) (rIn X.K true):=by
 intro pins s σ H x y v u Q I rx ry h
 obtain⟨p,xs,rfl,hq,fx,fs,q⟩:=h
 cases ry
 rcases hq with hq | hq
 ·obtain⟨its,r,pl,hz⟩:=I.list hq
  refine SeqAt.notIn_listAt (eqU x) pl.isList (fun w hw=>mem_eqAt rx fx r fs w (by simpa using hw)) ⟨.bl _,H,I,rfl,?_⟩
  rw[show its.toArray.any (eqU x)=its.any (eqU x) by simp,any_eqU r fs]
  exact q
 ·obtain⟨its,r,pl,hz⟩:=I.tuple hq
  refine SeqAt.notIn_tupleAt (eqU x) pl (fun w hw=>mem_eqAt rx fx r fs w (by simpa using hw)) ⟨.bl _,H,I,rfl,?_⟩
  rw[show its.toArray.any (eqU x)=its.any (eqU x) by simp,any_eqU r fs]
  exact q
theorem call_len_seq:CallR X (.builtin "len") (fun xs H Q=>∃p ys,xs=[.ref p]∧(SqL X.K H p ys∨SqT X.K H p ys)∧Q (.int ys.length) H):=by
 intro pins s σ H xs us Q I r h
 obtain⟨p,ys,rfl,hq,q⟩:=h
 obtain⟨u,rfl,rx⟩:=vals1 r
 cases rx
 have hn:=line63
 rcases hq with hq | hq
 ·obtain⟨its,r',pl,hz⟩:=I.list hq
  have hlen:=r'.length
  exact Calls.call_len_list pl.isList (by simp only[List.size_toArray] <;>omega) ⟨.int ys.length,H,I.tok _,⟨s.toks+1,by rw[List.size_toArray,hlen]⟩,q⟩
 ·obtain⟨its,r',pl,hz⟩:=I.tuple hq
  have hlen:=r'.length
  exact len_tuple pl (by simp only[List.size_toArray] <;>omega) ⟨.int ys.length,H,I.tok _,⟨s.toks+1,by rw[List.size_toArray,hlen]⟩,q⟩
theorem call_list_of:CallR X (.type "list") (fun xs H Q=>∃p ys,xs=[.ref p]∧(SqL X.K H p ys∨SqT X.K H p ys)∧∀l,H l=none→Q (.ref l) (upd H l (.lst ys))):=by
 intro pins s σ H xs us Q I r h
 obtain⟨p,ys,rfl,hq,q⟩:=h
 obtain⟨u,rfl,rx⟩:=vals1 r
 cases rx
 have fin:∀(its:List Value),Vals ys its→ys.length≤sizeLine→∀(h':Heap) (c':Nat),(∀b o',s.heap.get? b=some o'→h'.get? b=some o')→
   h'.get? s.heap.objs.size=some {cls:=.type "list",dict:=none,data:=.seq its.toArray c',slots:=#[]}→EP X pins σ Q (.ref s.heap.objs.size) {s with heap:=h'}:=fun its r' hz h' c' kp e=>
  ⟨.ref s.heap.objs.size,_,I.laid (t':=s.toks) kp (Nat.le_refl _) (show ObjOk X.prog X.w _ h' _ (.lst ys) from⟨hz,its,c',r',e⟩),rfl,q _ (I.hok.fresh (Nat.le_refl _))⟩
 rcases hq with hq | hq
 ·obtain⟨its,r',pl,hz⟩:=I.list hq
  have hlen:=r'.length
  obtain⟨o,ho,hc,n,hd⟩:=pl.isList
  exact call_list_seq p (.inl rfl) ho hc hd (fun h' c' kp e=>fin its r' hz h' c' kp e) (by simp only[List.size_toArray] <;>omega)
 ·obtain⟨its,r',pl,hz⟩:=I.tuple hq
  have hlen:=r'.length
  obtain⟨o,ho,hc,n,hd⟩:=pl
  exact call_list_seq p (.inr rfl) ho hc hd (fun h' c' kp e=>fin its r' hz h' c' kp e) (by simp only[List.size_toArray] <;>omega)
noncomputable def tyV (K:PySem.W.Frag) (T:String) (x:V) (H:Hp):Prop:=match x with
 | .str _=>T="str"
 | .int _=>T="int"
 | .ref p=>(T="list"∧∃xs,SqL K H p xs)∨(T="tuple"∧∃o,K.lookup p=some o∧o.cls=.type "tuple"∧o.dict=none)∨
   (T="dict"∧((∃kvs,H p=some (.dK kvs))∨∃kvs,H p=some (.dT kvs)))∨(T="set"∧∃S n,H p=some (.set S n))
 | _=>False
theorem tyV_is {pins:List (Addr×Obj)} {σ:St} {H:Hp} {s:Shared} {T:String} {x:V} {v:Value} (I:Inv X pins σ H s) (r:RelV x v) (ty:tyV X.K T x H):
  s.TypeIs v T∧∀a,v=.ref a→∃ob,s.heap.get? a=some ob∧ob.dict=none:=by
 cases x with
 | str z=>
  obtain⟨t,rfl⟩:=r
  cases (show T="str" from ty)
  exact⟨typeIs_str s z t,fun _ e=>nomatch e⟩
 | int i=>
  obtain⟨t,rfl⟩:=r
  cases (show T="int" from ty)
  exact⟨typeIs_int s i t,fun _ e=>nomatch e⟩
 | ref p=>
  cases r
  rcases ty with ⟨rfl,xs,hq⟩ | ⟨rfl,o,hk,hc,hd⟩ | ⟨rfl,hk⟩ | ⟨rfl,S,n,hk⟩
  ·obtain⟨its,_,pl,_⟩:=I.list hq
   refine⟨pl.isList.typeIs,fun a e=>?_⟩
   cases e
   obtain⟨o,n,e,c,hd,_⟩:=pl
   exact⟨o,e,hd⟩
  ·refine⟨⟨o,I.kIn p o hk,hc⟩,fun a e=>?_⟩
   cases e
   exact⟨o,I.kIn _ o hk,hd⟩
  ·have z:∃o,s.heap.get? p=some o∧o.ExactDict:=by
    rcases hk with ⟨kvs,hk⟩ | ⟨kvs,hk⟩
    ·obtain⟨_,_,_,_,o,_,_,e,ex,_⟩:=I.hok p _ hk
     exact⟨o,e,ex⟩
    ·obtain⟨_,_,_,_,o,_,_,e,ex,_⟩:=I.hok p _ hk
     exact⟨o,e,ex⟩
   obtain⟨o,e,ex⟩:=z
   refine⟨⟨o,e,ex.1⟩,fun a e2=>?_⟩
   cases e2
   exact⟨o,e,ex.2.1⟩
  ·obtain⟨o,_,_,_,e,ex,_⟩:=I.hok p _ hk
   refine⟨⟨o,e,ex.1⟩,fun a e2=>?_⟩
   cases e2
   exact⟨o,e,ex.2.1⟩
 | _=>exact False.elim ty
noncomputable def tBM (K:PySem.W.Frag) (T:String) (r:V→List V→Hp→VK→Prop) (to:TE) (t:TA):TE:=fun σ H Q=>to σ H fun x H1=>tyV K T x H1∧t σ H1 fun xs H2=>r x xs H2 Q
variable {o e : Expr} {es : List Expr} {to : TE} {t : TA} {name : Str} {apos cpos : Pos} {T id : String} {r : V → List V → Hp → VK → Prop}
theorem pe_bm (pa:PlainAttrs T) (slot:Slot T name id) (hty:typeOf (.builtin id)=pure (.type "method_descriptor")) (hm:MtR X id r) (ho:PE X o to) (ha:PA X (e::es) t)
  (hbase:attributeBase o name X.env (eval o X.env)=eval o X.env:=by rfl)
  (hfew:((backTo cpos (starEach (e::es) X.env)).all (fun x=>!x.1) && (backToKw cpos (keywordEach [] X.env)).all (fun x=>x.1.isSome)
   && decide ((e::es).length+ ([]:List Keyword).length+ (if ([]:List Keyword).isEmpty then 0 else 1)<30))=true:=by rfl)
  (hline:(apos.endLine==cpos.line)=true:=by rfl) (hs:starEach (e::es) X.env=(false,eval e X.env)::starEach es X.env:=by rfl) (hplain:(backTo cpos (starEach es X.env)).any (·.1)=false:=by rfl):
  PE X (.Call (.Attribute o name apos) (e::es) [] cpos) (tBM X.K T r to t):=by
 intro pins s σ H Q I h
 refine wpAny_Call_method_late hbase hfew hline rfl (thn (ho pins s σ H _ I h) fun v s1 hh_=>?_)
 obtain⟨x,H1,I1,r1,ty,q1⟩:=hh_
 obtain⟨h1,h2⟩:=tyV_is I1 r1 ty
 refine⟨T,id,pa,slot,hty,h1,h2,?_⟩
 have hA:=ha cpos pins s1 σ H1 _ I1 q1
 rw[hs] at hA ⊢
 refine Calls.callWith_builtin (by show(false || (backTo cpos (starEach es X.env)).any (·.1))=false;rw[hplain] <;>rfl) (Calls.evalArgs_plain ?_)
 exact thn hA fun us s2 ⟨vs,H2,I2,r2,q2⟩=>hm pins s2 σ H2 x vs v us Q I2 r1 r2 q2
end
end L2
namespace L2
open PySem PySem.Spec PyProof.Rows
noncomputable def MtM (X:Cx) (id:String) (r:V→List V→Hp→VK→Prop):Prop:=
 ∀(pins:List (Addr×Obj)) (s:Shared) (σ:St) (H:Hp) (x:V) (xs:List V) (v:Value) (us:List Value) (Q:VK),Inv X pins σ H s→RelV x v→Vals xs us→r x xs H Q→
  wpAny (model X.prog X.w) X.A (call (.builtin id) (v::us)) (EP X pins σ Q) X.xe s
theorem Vals.one:∀{x:V} {us:List Value},Vals [x] us→∃u,us=[u]∧RelV x u
 | _,_,.cons r .nil=>⟨_,rfl,r⟩
theorem Vals.rep {xs:List V} {us:List Value} (h:Vals xs us):∀k:Nat,Vals (List.replicate k xs).flatten (List.replicate k us).flatten
 | 0=>.nil
 | k+1=>by
  rw[List.replicate_succ,List.replicate_succ,List.flatten_cons,List.flatten_cons]
  exact Vals.append h (Vals.rep h k)
theorem foldl_rep (its:List Value):∀(k:Nat) (acc:List Value),
  List.foldl (fun x1 x2=>x1++x2) acc.toArray (List.replicate k its.toArray)=(acc++ (List.replicate k its).flatten).toArray
 | 0,acc=>by simp
 | k+1,acc=>by
  have e:acc.toArray++its.toArray=(acc++its).toArray:=by simp
  have e2:(acc++its)++ (List.replicate k its).flatten=acc++ (List.replicate (k+1) its).flatten:=by
   rw[List.replicate_succ,List.flatten_cons,List.append_assoc]
  rw[←e2,←foldl_rep its k (acc++its),←e,List.replicate_succ,List.foldl_cons]
section
variable {X : Cx} {pins : List (Addr × Obj)} {σ : St} {H : Hp} {s : Shared} {l b : Addr} {xs ys zs : List V}
theorem Inv.lset {its its':List Value} {n:Nat} {f:Array Value→Array Value} {t':Nat} (I:Inv X pins σ H s) (hH:H l=some (.lst xs))
  (e:s.heap.get? l=some {cls:=.type "list",data:=.seq its.toArray n}) (hf:f its.toArray=its'.toArray) (hv:Vals ys its') (hz:ys.length≤sizeLine):
  Inv X pins σ (upd H l (.lst ys)) {s with heap:=s.heap.update l (Obj.mapSeq f),toks:=t'}:=by
 have q:=PySem.IsL.update e f
 rw[hf] at q
 refine I.write (x:=l) (e:=l) (by rw[hH];exact trivial) (.inl rfl) (fun b' u hb hu=>(Heap.get?_update_other s.heap (Obj.mapSeq f) (Ne.symm hb)).trans hu) ⟨_,q⟩ ?_
 exact⟨hz,its',_,hv,q⟩
theorem Inv.lnew {its:List Value} {t':Nat} (I:Inv X pins σ H s) (hv:Vals ys its) (hz:ys.length≤sizeLine):
  Inv X pins σ (upd H s.heap.objs.size (.lst ys)) {s with heap:=s.heap.push {cls:=.type "list",data:=.seq its.toArray},toks:=t'}:=
 I.laid (fun _ _ q=>Heap.get?_push_of_some _ q) (Nat.le_refl _) ⟨hz,its,0,hv,Heap.get?_push_size _ rfl⟩
theorem Inv.fresh (I:Inv X pins σ H s):H s.heap.objs.size=none:=I.hok.fresh (Nat.le_refl _)
theorem Inv.lstM (I:Inv X pins σ H s) (hH:H l=some (.lst xs)):xs.length≤sizeLine∧∃(its:List Value) (n:Nat),Vals xs its∧xs.length=its.length∧s.heap.get? l=some {cls:=.type "list",data:=.seq its.toArray n}:=by
 obtain⟨z,its,n,r,e⟩:=I.hok l _ hH
 exact⟨z,its,n,r,r.length,e⟩
theorem notLongL {n:Nat} (h:n≤sizeLine):Builtin.List.listTooLong n=false:=by
 unfold Builtin.List.listTooLong
 exact decide_eq_false (by omega)
end
section
variable {X : Cx}
noncomputable def rAppend:V→List V→Hp→VK→Prop:=fun x vs H Q=>∃l xs y,x=.ref l∧vs=[y]∧H l=some (.lst xs)∧xs.length<sizeLine∧Q .non (upd H l (.lst (xs++ [y])))
theorem mt_append:MtM X "list.append" rAppend:=by
 intro pins s σ H x vs v us Q I rx rv h
 obtain⟨l,xs,y,rfl,rfl,hH,hz,q⟩:=h
 cases rx
 obtain⟨u,rfl,ru⟩:=rv.one
 obtain⟨z,its,n,r,hl,e⟩:=I.lstM hH
 refine call_meets F.slot_list_append ⟨_,e,rfl⟩ F.entry_list_append (F.args_list_append_2 _ _) (PySem.list_append l its.toArray n u (by rw[List.size_toArray];omega)) ⟨e,?_⟩
 refine⟨.non,_,I.lset (its':=its++ [u]) hH e (by simp) (r.append (.cons ru .nil)) ?_,rfl,q⟩
 rw[List.length_append,List.length_singleton]
 omega
noncomputable def rCat:R2:=fun x y H Q=>∃l b xs zs,x=.ref l∧y=.ref b∧H l=some (.lst xs)∧H b=some (.lst zs)∧xs.length+zs.length≤sizeLine∧∀p,H p=none→Q (.ref p) (upd H p (.lst (xs++zs)))
theorem op_cat:OpR X (binaryOp .Add) rCat:=by
 intro pins s σ H x y v u Q I rx ry h
 obtain⟨l,b,xs,zs,rfl,rfl,hH,hB,hz,q⟩:=h
 cases rx
 cases ry
 obtain⟨z,its,n,r,hl,e⟩:=I.lstM hH
 obtain⟨z2,its2,n2,r2,hl2,e2⟩:=I.lstM hB
 refine PySem.P.add_list e e2 ?_ (by rw[List.size_toArray,List.size_toArray];omega)
 have ea:its.toArray++its2.toArray=(its++its2).toArray:=by simp
 rw[ea]
 exact⟨.ref _,_,I.lnew (t':=s.toks) (r.append r2) (by rw[List.length_append];omega),rfl,q _ I.fresh⟩
noncomputable def rRep:R2:=fun x y H Q=>∃l k xs,x=.ref l∧y=.int k∧H l=some (.lst xs)∧-(2^63)≤k∧k<2^63∧xs.length*k.toNat≤sizeLine∧
 ∀p,H p=none→Q (.ref p) (upd H p (.lst (List.replicate k.toNat xs).flatten))
theorem len_rep {α:Type} (xs:List α) (k:Nat):(List.replicate k xs).flatten.length=k*xs.length:=by
 induction k with
 | zero=>simp
 | succ k ih=>rw[List.replicate_succ,List.flatten_cons,List.length_append,ih,Nat.succ_mul,Nat.add_comm]
theorem op_rep:OpR X (binaryOp .Mult) rRep:=by
 intro pins s σ H x y v u Q I rx ry h
 obtain⟨l,k,xs,rfl,rfl,hH,h1,h2,hz,q⟩:=h
 cases rx
 obtain⟨t,rfl⟩:=ry
 obtain⟨z,its,n,r,hl,e⟩:=I.lstM hH
 have hlen:its.toArray.size*k.toNat≤sizeLine:=by rw[List.size_toArray,←hl];exact hz
 have hcap:¬its.toArray.size*k.toNat >(2^63 - 1) / 8:=by
  have:(sizeLine:Nat)≤(2^63 - 1) / 8:=by decide
  omega
 have hfit:¬(!Builtin.List.listFitsIndex k)=true:=by
  rw[fitsIndex_both h1 h2]
  exact Bool.false_ne_true
 have hlong:¬Builtin.List.listTooLong (its.toArray.size*k.toNat)=true:=by
  rw[notLongL hlen]
  exact Bool.false_ne_true
 have hnew:List.foldl (fun x1 x2=>x1++x2) #[] (List.replicate (if its.toArray.isEmpty=true then 0 else k.toNat) its.toArray)=(List.replicate k.toNat its).flatten.toArray:=by
  have f0:∀m:Nat,List.foldl (fun x1 x2=>x1++x2) #[] (List.replicate m its.toArray)=(List.replicate m its).flatten.toArray:=fun m=>by
   have:=foldl_rep its m []
   rw[List.nil_append] at this
   exact this
  rw[f0]
  cases its with
  | nil=>simp
  | cons a r'=>rw[if_neg (by simp)]
 refine wpAny_binaryOp_repeat_ref (T:="list") (U:="int") (by decide) ⟨_,e,rfl⟩ (fun s'=>typeIs_int s' k t) noFill_list_mul F.fills_int_mul F.slot_int_rmul repeat_list F.slot_int_index.lookup
  (call_meets F.slot_int_rmul (typeIs_int s k t) F.entry_int_rmul (F.args_int_rmul_2 _ _) (int___rmul___int_list k t l its.toArray n)
   ⟨e,rfl,⟨_,e,rfl⟩,call_meets F.slot_list_mul ⟨_,e,rfl⟩ F.entry_list_mul (F.args_list_mul_2 _ _) (AutoListH.list___mul___list_int_3 l its.toArray n k t hfit hcap hlong) ⟨e,?_⟩⟩)
 rw[hnew]
 exact⟨.ref _,_,I.lnew (t':=s.toks) (r.rep k.toNat) (by rw[len_rep,Nat.mul_comm];exact hz),rfl,q _ I.fresh⟩
end
section
variable {prog : Program} {w : World} {A : Around} {E : Value → Shared → Prop} {s : Shared}
end
section
variable {X : Cx}
end
end L2
namespace L2
open PySem PySem.Spec PyProof.Rows
section
variable {κ : Type} [DecidableEq κ]
noncomputable def valV (kvs:List (κ×V)) (k:κ):Option V:=(kvs.find? fun kv=>decide (kv.1=k)).map (·.2)
noncomputable def putK (kvs:List (κ×V)) (k:κ) (v:V):List (κ×V):=
 if (kvs.any fun kv=>decide (kv.1=k))=true then kvs.map (fun kv=>if kv.1=k then (kv.1,v) else kv) else kvs++ [(k,v)]
noncomputable def dropK (kvs:List (κ×V)) (k:κ):List (κ×V):=kvs.filter fun kv=>decide (kv.1≠k)
theorem valV_pos {p:κ×V} {r:List (κ×V)} {k:κ} (e:p.1=k):valV (p::r) k=some p.2:=by simp [valV,List.find?_cons,e]
theorem valV_neg {p:κ×V} {r:List (κ×V)} {k:κ} (e:¬p.1=k):valV (p::r) k=valV r k:=by simp [valV,List.find?_cons,e]
theorem valV_any (k:κ):∀kvs:List (κ×V),(kvs.any fun kv=>decide (kv.1=k))=(valV kvs k).isSome
 | []=>rfl
 | p::r=>by
  rw[List.any_cons]
  by_cases e:p.1=k
  ·simp only[valV_pos e,decide_eq_true e,Bool.true_or,Option.isSome_some]
  ·rw[valV_neg e,decide_eq_false e,Bool.false_or];exact valV_any k r
theorem length_putK (kvs:List (κ×V)) (k:κ) (v:V):(putK kvs k v).length≤kvs.length+1:=by
 unfold putK
 split
 ·rw[List.length_map];omega
 ·rw[List.length_append,List.length_cons,List.length_nil];omega
theorem putK_new {kvs:List (κ×V)} {k:κ} (v:V) (h:valV kvs k=none):putK kvs k v=kvs++ [(k,v)]:=by
 unfold putK
 rw[valV_any,h]
 exact if_neg (by decide)
theorem RelO.isSome_eq {o:Option V} {u:Option Value} (r:RelO o u):o.isSome=u.isSome:=by
 cases o with
 | none=>cases u with
  | none=>rfl
  | some _=>exact(show False from r).elim
 | some _=>cases u with
  | none=>exact(show False from r).elim
  | some _=>rfl
theorem KV.val {kvs:List (κ×V)} {vs:List (κ×Value)} (r:KV kvs vs) (k:κ):RelO (valV kvs k) (valueAt vs k):=by
 unfold KV at r
 induction r with
 | nil=>exact True.intro
 | @cons p q ps qs h t ih=>
  obtain⟨h1,h2⟩:=h
  by_cases e:p.1=k
  ·have e':q.1=k:=h1.symm.trans e
   have b:valueAt (q::qs) k=some q.2:=by simp [valueAt,List.find?_cons,e']
   rw[valV_pos e,b];exact h2
  ·have e':¬q.1=k:=fun z=>e (h1.trans z)
   have b:valueAt (q::qs) k=valueAt qs k:=by simp [valueAt,List.find?_cons,e']
   rw[valV_neg e,b];exact ih
theorem KV.any {kvs:List (κ×V)} {vs:List (κ×Value)} (r:KV kvs vs) (k:κ):(kvs.any fun kv=>decide (kv.1=k))=vs.any fun kv=>decide (kv.1=k):=by
 unfold KV at r
 induction r with
 | nil=>rfl
 | cons h t ih=>rw[List.any_cons,List.any_cons,ih,h.1]
theorem KV.repl {kvs:List (κ×V)} {vs:List (κ×Value)} (r:KV kvs vs) (k:κ) {y:V} {u:Value} (ry:RelV y u):
  KV (kvs.map fun kv=>if kv.1=k then (kv.1,y) else kv) (vs.map fun kv=>if kv.1=k then (kv.1,u) else kv):=by
 unfold KV at r ⊢
 induction r with
 | nil=>exact .nil
 | @cons p q ps qs h t ih=>
  rw[List.map_cons,List.map_cons]
  refine .cons ?_ ih
  obtain⟨h1,h2⟩:=h
  by_cases e:p.1=k
  ·rw[if_pos e,if_pos (h1.symm.trans e)];exact⟨h1,ry⟩
  ·rw[if_neg e,if_neg (fun z=>e (h1.trans z))];exact⟨h1,h2⟩
theorem KV.put {kvs:List (κ×V)} {vs:List (κ×Value)} (r:KV kvs vs) (k:κ) {y:V} {u:Value} (ry:RelV y u):KV (putK kvs k y) (stored vs k u):=by
 unfold putK stored
 rw[r.any k]
 by_cases e:(vs.any fun kv=>decide (kv.1=k))=true
 ·rw[if_pos e,if_pos e];exact r.repl k ry
 ·rw[if_neg e,if_neg e];exact Paired.snoc r ⟨rfl,ry⟩
theorem KV.length {kvs:List (κ×V)} {vs:List (κ×Value)} (r:KV kvs vs):kvs.length=vs.length:=Paired.length r
end
theorem kV_is {P:Program} {w:World} {k:Key} {u:Value} (r:RelV (kV k) u):(mixKind P w).is k u=true:=by
 cases k with
 | inl i=>obtain⟨t,e⟩:=(show ∃t,u=Value.int i t from r);subst e;exact mixKind_int P w i t
 | inr x=>obtain⟨t,e⟩:=(show ∃t,u=Value.str x t from r);subst e;exact mixKind_str P w x t
theorem items_are {P:Program} {w:World}:∀{ks:List Key} {us:List Value},Vals (ks.map kV) us→ItemsAre (mixKind P w) ks us
 | [],_,r=>by rw[List.map_nil] at r;cases r;exact .nil
 | k::ks,_,r=>by
  rw[List.map_cons] at r
  cases r with
  | cons h t=>exact .cons (kV_is h) (items_are t)
abbrev KT (H:Hp):List (List Key×V)→List (List Key×Addr×Value)→Prop:=Paired fun p q=>p.1=q.1∧H q.2.1=some (.tup (p.1.map kV))∧RelV p.2 q.2.2
theorem KT.val {H:Hp} {kvs:List (List Key×V)} {xs:List (List Key×Addr×Value)} (r:KT H kvs xs) (k:List Key):RelO (valV kvs k) ((atKey xs k).map (·.2)):=by
 induction r with
 | nil=>exact True.intro
 | @cons p q ps qs h t ih=>
  obtain⟨h1,_,h2⟩:=h
  by_cases e:p.1=k
  ·have e':q.1=k:=h1.symm.trans e
   have b:atKey (q::qs) k=some q.2:=by simp [atKey,List.find?_cons,e']
   rw[valV_pos e,b];exact h2
  ·have e':¬q.1=k:=fun z=>e (h1.trans z)
   have b:atKey (q::qs) k=atKey qs k:=by simp [atKey,List.find?_cons,e']
   rw[valV_neg e,b];exact ih
theorem KT.repl {H:Hp} {kvs:List (List Key×V)} {xs:List (List Key×Addr×Value)} (r:KT H kvs xs) (k:List Key) {y:V} {u:Value} (ry:RelV y u):
  KT H (kvs.map fun kv=>if kv.1=k then (kv.1,y) else kv) (xs.map (putAt k u)):=by
 induction r with
 | nil=>exact .nil
 | @cons p q ps qs h t ih=>
  rw[List.map_cons,List.map_cons]
  refine .cons ?_ ih
  obtain⟨h1,h2,h3⟩:=h
  unfold putAt
  by_cases e:p.1=k
  ·rw[if_pos e,if_pos (h1.symm.trans e)];exact⟨h1,h2,ry⟩
  ·rw[if_neg e,if_neg (fun z=>e (h1.trans z))];exact⟨h1,h2,h3⟩
theorem KT.put {H:Hp} {kvs:List (List Key×V)} {xs:List (List Key×Addr×Value)} (r:KT H kvs xs) (k:List Key) {b:Addr} {y:V} {u:Value} (hb:H b=some (.tup (k.map kV))) (ry:RelV y u):
  KT H (putK kvs k y) (storedH xs k b u):=by
 have e:(kvs.any fun kv=>decide (kv.1=k))=(atKey xs k).isSome:=by
  rw[valV_any,(r.val k).isSome_eq,Option.isSome_map]
 unfold putK storedH
 rw[e]
 by_cases q:(atKey xs k).isSome=true
 ·rw[if_pos q,if_pos q];exact r.repl k ry
 ·rw[if_neg q,if_neg q];exact Paired.snoc r ⟨rfl,hb,ry⟩
theorem KT.keeps {H H':Hp} {kvs:List (List Key×V)} {xs:List (List Key×Addr×Value)} (r:KT H kvs xs) (ht:∀b ys,H b=some (.tup ys)→H' b=some (.tup ys)):KT H' kvs xs:=
 Paired.mapP r fun _ _ z=>⟨z.1,ht _ _ z.2.1,z.2.2⟩
section
variable {P : Program} {w : World} {H : Hp} {h : Heap} {a : Addr}
theorem rd_of {u:HO} (ok:HOk P w H h) (e:Rd H a u):ObjOk P w H h a u:=e.ok ok
theorem dk_rd {kvs:List (Key×V)} (ok:HOk P w H h) (e:Rd H a (.dK kvs)):kvs.length≤sizeLine∧(a==sysModules)=false∧∃vs,KV kvs vs∧h.DictOf (mixKind P w) a vs:=
 show ObjOk P w H h a (.dK kvs) from rd_of ok e
theorem dk_of {kvs:List (Key×V)} (ok:HOk P w H h) (e:H a=some (.dK kvs)):kvs.length≤sizeLine∧(a==sysModules)=false∧∃vs,KV kvs vs∧h.DictOf (mixKind P w) a vs:=dk_rd ok (.inl e)
theorem key_of {ks:List Key} (ok:HOk P w H h) (e:H a=some (.tup (ks.map kV))):(tupleKind (mixKind P w)).is h ks a:=by
 obtain⟨_,its,r,o,h1,h2,n,h3⟩:=(show ObjOk P w H h a (.tup (ks.map kV)) from ok a _ e)
 exact⟨o,its.toArray,n,h1,h2,h3,by simpa using items_are r⟩
theorem dt_rd {kvs:List (List Key×V)} (ok:HOk P w H h) (e:Rd H a (.dT kvs)):kvs.length≤sizeLine∧(a==sysModules)=false∧
  ∃xs,KT H kvs xs∧h.DictOfH (tupleKind (mixKind P w)) a xs:=by
 obtain⟨z,y,xs,r,o,es,ep,h1,h2,h3,h4,h5⟩:=(show ObjOk P w H h a (.dT kvs) from rd_of ok e)
 refine⟨z,y,xs,r,o,es,ep,h1,h2,h3,h4,fun x hx=>?_,h5⟩
 have all:∀{l:List (List Key×V)} {m:List (List Key×Addr×Value)},KT H l m→∀x∈m,(tupleKind (mixKind P w)).is h x.1 x.2.1:=by
  intro l m q
  induction q with
  | nil=>intro x hx;exact nomatch hx
  | @cons p q ps qs hq t ih=>
   intro x hx
   rcases List.mem_cons.mp hx with e | hx
   ·subst e
    exact key_of ok (by rw[←hq.1];exact hq.2.1)
   ·exact ih x hx
 exact all r x hx
theorem dt_of {kvs:List (List Key×V)} (ok:HOk P w H h) (e:H a=some (.dT kvs)):kvs.length≤sizeLine∧(a==sysModules)=false∧
  ∃xs,KT H kvs xs∧h.DictOfH (tupleKind (mixKind P w)) a xs:=dt_rd ok (.inl e)
end
noncomputable def DGet (H:Hp) (a:Addr) (y:V) (r:Option V):Prop:=
 (∃kvs k,Rd H a (.dK kvs)∧y=kV k∧r=valV kvs k)∨∃kvs k b,Rd H a (.dT kvs)∧y=.ref b∧H b=some (.tup (k.map kV))∧r=valV kvs k
noncomputable def DPut (H:Hp) (a:Addr) (y v:V) (H':Hp):Prop:=
 (∃kvs k,H a=some (.dK kvs)∧y=kV k∧kvs.length<sizeLine∧H'=upd H a (.dK (putK kvs k v)))∨
 ∃kvs k b,H a=some (.dT kvs)∧y=.ref b∧H b=some (.tup (k.map kV))∧kvs.length<sizeLine∧H'=upd H a (.dT (putK kvs k v))
theorem DPut.k {H:Hp} {a:Addr} {kvs:List (Key×V)} {k:Key} {v:V} (e:H a=some (.dK kvs)) (hl:kvs.length<sizeLine):DPut H a (kV k) v (upd H a (.dK (putK kvs k v))):=.inl ⟨kvs,k,e,rfl,hl,rfl⟩
section
variable {X : Cx} {pins : List (Addr × Obj)} {σ : St} {H : Hp} {s : Shared} {a : Addr} {y v : V} {u r : Value} {o : Option V} {A : Around} {E : Value → Shared → Prop}
theorem Inv.big (I:Inv X pins σ H s):sysModules<s.heap.objs.size:=by
 have h:mainGlobals<s.heap.objs.size:=(I.mod.glob.keeps I.bk).lt
 exact Nat.lt_trans (by decide) h
theorem d_getItem {Q:Value→Shared→Prop} (hu:A.units+1<cLine) (I:Inv X pins σ H s) (g:DGet H a y (some v)) (ry:RelV y u) (h:∀w' s',Inv X pins σ H s'→RelV v w'→Q w' s'):
  wpAny (model X.prog X.w) A (getItem (.ref a) u) Q E s:=by
 rcases g with ⟨kvs,k,e,ey,l⟩ | ⟨kvs,k,b,e,ey,eb,l⟩
 ·subst ey
  obtain⟨z,hd,vs,rel,dd⟩:=dk_rd I.hok e
  obtain⟨w',hw,rw'⟩:=RelO.some_of (v:=v) (o:=valueAt vs k) (by rw[l];exact rel.val k)
  exact wpAny_getItem_of (kV_is ry) dd.mapOf hw (h w' _ (I.tok _) rw')
 ·subst ey
  cases (show u=Value.ref b from ry)
  obtain⟨z,hd,xs,rel,dd⟩:=dt_rd I.hok e
  obtain⟨w',hw,rw'⟩:=RelO.some_of (v:=v) (o:=(atKey xs k).map (·.2)) (by rw[l];exact rel.val k)
  obtain⟨p,hp,hp2⟩:=Option.map_eq_some_iff.mp hw
  refine wpAny_getItem_heap (tupleKind_room_in1 hu) (key_of I.hok eb) dd hp ?_
  rw[hp2]
  exact h w' _ (I.tok _) rw'
theorem d_in {Q:Value→Shared→Prop} (hu:A.units+1<cLine) (I:Inv X pins σ H s) (g:DGet H a y o) (ry:RelV y u) (h:∀s',Inv X pins σ H s'→Q (.bool o.isSome) s'):
  wpAny (model X.prog X.w) A (compareOp .In u (.ref a)) Q E s:=by
 rcases g with ⟨kvs,k,e,ey,l⟩ | ⟨kvs,k,b,e,ey,eb,l⟩
 ·subst ey
  obtain⟨z,hd,vs,rel,dd⟩:=dk_rd I.hok e
  refine wpAny_in_of (kV_is ry) hd dd.mapOf ?_
  rw[←(rel.val k).isSome_eq,←l]
  exact h _ (I.tok _)
 ·subst ey
  cases (show u=Value.ref b from ry)
  obtain⟨z,hd,xs,rel,dd⟩:=dt_rd I.hok e
  refine wpAny_in_heap (tupleKind_room_in1 hu) (key_of I.hok eb) hd dd ?_
  have q:=(rel.val k).isSome_eq
  rw[Option.isSome_map] at q
  rw[←q,←l]
  exact h _ (I.tok _)
theorem d_notIn {Q:Value→Shared→Prop} (hu:A.units+1<cLine) (I:Inv X pins σ H s) (g:DGet H a y o) (ry:RelV y u) (h:∀s',Inv X pins σ H s'→Q (.bool (!o.isSome)) s'):
  wpAny (model X.prog X.w) A (compareOp .NotIn u (.ref a)) Q E s:=by
 rcases g with ⟨kvs,k,e,ey,l⟩ | ⟨kvs,k,b,e,ey,eb,l⟩
 ·subst ey
  obtain⟨z,hd,vs,rel,dd⟩:=dk_rd I.hok e
  refine wpAny_notIn_of (kV_is ry) hd dd.mapOf ?_
  rw[←(rel.val k).isSome_eq,←l]
  exact h _ (I.tok _)
 ·subst ey
  cases (show u=Value.ref b from ry)
  obtain⟨z,hd,xs,rel,dd⟩:=dt_rd I.hok e
  refine wpAny_notIn_heap (tupleKind_room_in1 hu) (key_of I.hok eb) hd dd ?_
  have q:=(rel.val k).isSome_eq
  rw[Option.isSome_map] at q
  rw[←q,←l]
  exact h _ (I.tok _)
theorem d_write {h':Heap} {t':Nat} {ob:HO} (I:Inv X pins σ H s) (mu:Mut (H a)) (hs:Heap.SameBut a s.heap h') (he:∃q,h'.get? a=some q) (new:ObjOk X.prog X.w (upd H a ob) h' a ob):
  Inv X pins σ (upd H a ob) {s with heap:=h',toks:=t'}:=
 I.write (x:=a) (e:=a) mu (.inl rfl) (fun b q hb z=>(hs.2 b hb).trans z) he new
theorem dk_new {P:Program} {w:World} {H':Hp} {h':Heap} {kvs:List (Key×V)} {vs:List (Key×Value)} (z:kvs.length≤sizeLine) (hd:(a==sysModules)=false) (rel:KV kvs vs) (dd:h'.DictOf (mixKind P w) a vs):
  ObjOk P w H' h' a (.dK kvs):=⟨z,hd,vs,rel,dd⟩
theorem d_setItem {H':Hp} {Q:Unit→Shared→Prop} (hu:A.units+1<cLine) (I:Inv X pins σ H s) (g:DPut H a y v H') (ry:RelV y u) (rv:RelV v r) (h:∀s',Inv X pins σ H' s'→Q () s'):
  wpAny (model X.prog X.w) A (setItem (.ref a) u r) Q E s:=by
 rcases g with ⟨kvs,k,e,ey,l,eH⟩ | ⟨kvs,k,b,e,ey,eb,l,eH⟩
 ·subst ey eH
  obtain⟨z,hd,vs,rel,dd⟩:=dk_of I.hok e
  have hz:vs.length≤sizeLine:=by rw[←rel.length];exact z
  have hl:(putK kvs k v).length≤sizeLine:=by have:=length_putK kvs k v;omega
  refine wpAny_setItem_pairs (hsz:=hz) (kV_is ry) dd fun h' dd' hs=>h _ ?_
  have he:∃q,h'.get? a=some q:=let ⟨q,_,_,hq,_⟩:=dd';⟨q,hq⟩
  exact d_write I (by rw[e];exact True.intro) hs he (dk_new hl hd (rel.put k rv) dd')
 ·subst ey eH
  cases (show u=Value.ref b from ry)
  obtain⟨z,hd,xs,rel,dd⟩:=dt_of I.hok e
  have hz:xs.length≤sizeLine:=by rw[←Paired.length rel];exact z
  have hl:(putK kvs k v).length≤sizeLine:=by have:=length_putK kvs k v;omega
  refine wpAny_setItem_heap (hsz:=hz) (tupleKind_room_in1 hu) (key_of I.hok eb) dd fun h' dd' hs=>h _ ?_
  obtain⟨q,es,ep,hq,h2,h3,h4,_,h5⟩:=dd'
  refine d_write I (by rw[e];exact True.intro) hs ⟨q,hq⟩ ⟨hl,hd,_,(rel.put k eb rv).keeps fun c ys ec=>?_,q,es,ep,hq,h2,h3,h4,h5⟩
  rw[upd_ne (ne_of ec e (fun z=>nomatch z))]
  exact ec
end
section
variable {X : Cx} {pins : List (Addr × Obj)} {σ : St} {H : Hp} {s : Shared} {a : Addr} {kvs : List (Key × V)} {k : Key} {u : Value} {A : Around} {E : Value → Shared → Prop}
end
noncomputable def NoSl (i:Expr):Prop:=∀ov iv,subscripted i false ov iv=operate [ov,iv] (getItem ov iv)
theorem subD_of {prog:Program} {w:World} {A:Around} {E:Value→Shared→Prop} {s:Shared} {env:Env} {value slice:Expr} {pos:Pos} {T id:String} {Q:Value→Shared→Prop}
  (hl:typeLookup (.type T) "__getitem__"=pure (some (.builtin id))) (hs:NoSl slice)
  (h:wpAny (model prog w) A (eval value env) (fun o s₁=>wpAny (model prog w) A (eval slice env) (fun i s₂=>s₂.TypeIs o T∧wpAny (model prog w) A (getItem o i) Q E s₂) E s₁) E s):
  wpAny (model prog w) A (eval (.Subscript value slice pos) env) Q E s:=by
 refine Subscript_ (wpAny_mono h (fun o s₁ h₁=>wpAny_mono h₁ (fun i s₂ h₂=>?_) fun _ _ x=>x) fun _ _ x=>x)
 obtain⟨hT,h₂⟩:=h₂
 unfold subscriptTail
 refine wpAny_bind ?_
 rw[getitemInPython_of_ne hT.not_modules]
 refine wpAny_bind (wpAny_specialOf hT hl ?_)
 have fin:wpAny (model prog w) A (subscripted slice false o i) (fun r s₃=>wpAny (model prog w) A (letTemporaryGo value o r >>=fun _=>pure r) Q E s₃) E s₂:=by
  rw[hs o i]
  exact wpAny_operating (wpAny_mono h₂ (fun r s₃ h₃=>wpAny_bind (wpAny_letTemporaryGo (wpAny_pure h₃))) fun _ _ x=>x)
 first
  | exact wpAny_pure (wpAny_bind fin)
  | exact wpAny_bind (wpAny_pure (wpAny_bind fin))
  | exact wpAny_bind fin
theorem dict_typeIs {X:Cx} {pins:List (Addr×Obj)} {σ:St} {H:Hp} {s:Shared} {a:Addr} {y:V} {o:Option V} (I:Inv X pins σ H s) (g:DGet H a y o):s.TypeIs (.ref a) "dict":=by
 rcases g with ⟨kvs,k,e,_,_⟩ | ⟨kvs,k,b,e,_,_,_⟩
 ·obtain⟨_,_,vs,_,dd⟩:=dk_rd I.hok e
  exact dd.typeIs
 ·obtain⟨_,_,xs,_,dd⟩:=dt_rd I.hok e
  exact dd.typeIs
noncomputable def tDGet (td ty:TE):TE:=fun σ H Q=>td σ H fun x H1=>ty σ H1 fun y H2=>∃a v,x=.ref a∧DGet H2 a y (some v)∧Q v H2
noncomputable def tDIn (ty td:TE):TE:=fun σ H Q=>ty σ H fun y H1=>td σ H1 fun x H2=>∃a o,x=.ref a∧DGet H2 a y o∧Q (.bl o.isSome) H2
noncomputable def tDNotIn (ty td:TE):TE:=fun σ H Q=>ty σ H fun y H1=>td σ H1 fun x H2=>∃a o,x=.ref a∧DGet H2 a y o∧Q (.bl (!o.isSome)) H2
noncomputable def sDPut (td ty tv:TE):TS:=fun D σ H=>tv σ H fun v H1=>td σ H1 fun x H2=>ty σ H2 fun y H3=>∃a H4,x=.ref a∧DPut H3 a y v H4∧D.nx σ H4
section
variable {X : Cx} {o i e value : Expr} {pos pos' tpos : Pos} {td ty tv : TE}
theorem pe_dget (hu:X.A.units+1<cLine) (ho:PE X o td) (hi:PE X i ty) (hs:NoSl i):PE X (.Subscript o i pos) (tDGet td ty):=by
 intro pins s σ H Q I h
 refine subD_of PySem.F.slot_dict_getitem.lookup hs (thn (ho pins s σ H _ I h) fun u s1 ⟨x,H1,I1,rx,q1⟩=>thn (hi pins s1 σ H1 _ I1 q1) fun iv s2 hh_=>?_)
 obtain⟨y,H2,I2,ry,a,v,ex,g,q2⟩:=hh_
 subst ex
 obtain rfl:u=Value.ref a:=rx
 exact⟨dict_typeIs I2 g,d_getItem hu I2 g ry fun w' s3 I3 rw'=>⟨v,H2,I3,rw',q2⟩⟩
theorem pc_din (hu:X.A.units+1<cLine) (hi:PE X i ty) (ho:PE X o td):PC X .In i o (tDIn ty td):=by
 intro pins s σ H Q I h
 refine thn (hi pins s σ H _ I h) fun iv s1 ⟨y,H1,I1,ry,q1⟩=>thn (ho pins s1 σ H1 _ I1 q1) fun u s2 hh_=>?_
 obtain⟨x,H2,I2,rx,a,ov,ex,g,q2⟩:=hh_
 subst ex
 obtain rfl:u=Value.ref a:=rx
 exact d_in hu I2 g ry fun s3 I3=>⟨.bl ov.isSome,H2,I3,rfl,q2⟩
theorem pc_dnotin (hu:X.A.units+1<cLine) (hi:PE X i ty) (ho:PE X o td):PC X .NotIn i o (tDNotIn ty td):=by
 intro pins s σ H Q I h
 refine thn (hi pins s σ H _ I h) fun iv s1 ⟨y,H1,I1,ry,q1⟩=>thn (ho pins s1 σ H1 _ I1 q1) fun u s2 hh_=>?_
 obtain⟨x,H2,I2,rx,a,ov,ex,g,q2⟩:=hh_
 subst ex
 obtain rfl:u=Value.ref a:=rx
 exact d_notIn hu I2 g ry fun s3 I3=>⟨.bl (!ov.isSome),H2,I3,rfl,q2⟩
theorem ps_dput (hu:X.A.units+1<cLine) (ho:PE X o td) (hi:PE X i ty) (hv:PE X value tv) (hs:swapsWith value (some (.Subscript o i pos')) pos.line X.env=pure false):
  PS X (.Assign [.Subscript o i pos'] value pos) (sDPut td ty tv):=by
 intro pins s σ H D I h
 refine wpAny_Assign_Subscript (thn (hv pins s σ H _ I h) fun r s1 ⟨v,H1,I1,rv,q1⟩=>thn (ho pins s1 σ H1 _ I1 q1) fun u s2 ⟨x,H2,I2,rx,q2⟩=>thn (hi pins s2 σ H2 _ I2 q2) fun iv s3 hh_=>?_) hs
 obtain⟨y,H3,I3,ry,a,H4,ex,g,q3⟩:=hh_
 subst ex
 obtain rfl:u=Value.ref a:=rx
 exact d_setItem hu I3 g ry rv fun s4 I4=>⟨σ,H4,I4,q3⟩
end
theorem dk_empty {P:Program} {w:World} {H:Hp} (h:Heap) (hb:sysModules<h.objs.size):ObjOk P w H (h.push {cls:=.type "dict",data:=.dict #[]}) h.objs.size (.dK []):=
 ⟨Nat.zero_le _,beq_eq_false_iff_ne.mpr (Ne.symm (Nat.ne_of_lt hb)),[],.nil,Heap.DictOf.new h⟩
noncomputable def tDNewK:TE:=fun _ H Q=>∀p,H p=none→Q (.ref p) (upd H p (.dK []))
section
variable {X : Cx} {pos : Pos}
theorem pe_dnewK:PE X (.Dict [] [] pos) tDNewK:=fun pins s σ H Q I h=>
 wpAny_Dict_empty ⟨.ref s.heap.objs.size,_,I.laid (a:=s.heap.objs.size) (o:=.dK []) (t':=s.toks) (fun _ _ q=>Heap.get?_push_of_some _ q) (Nat.le_refl _) (dk_empty s.heap I.big),rfl,h _ (I.hok.fresh (Nat.le_refl _))⟩
end
abbrev VV:List (V×V)→List (Value×Value)→Prop:=Paired fun p q=>RelV p.1 q.1∧RelV p.2 q.2
structure M1 (X:Cx) (o:Expr) (m:Str) (apos:Pos) (e:Expr) (cpos:Pos):Prop where
 base:attributeBase o m X.env (eval o X.env)=eval o X.env
 few:((backTo cpos (starEach [e] X.env)).all (fun x=>!x.1) && (backToKw cpos (keywordEach [] X.env)).all (fun x=>x.1.isSome)
  && decide (([e]:List Expr).length+ ([]:List Keyword).length+ (if ([]:List Keyword).isEmpty then 0 else 1)<30))=true
 line:(apos.endLine==cpos.line)=true
 trees:backTo cpos (starEach [e] X.env)=[(false,eval e X.env)]
structure M2 (X:Cx) (o:Expr) (m:Str) (apos:Pos) (e f:Expr) (cpos:Pos):Prop where
 base:attributeBase o m X.env (eval o X.env)=eval o X.env
 few:((backTo cpos (starEach [e,f] X.env)).all (fun x=>!x.1) && (backToKw cpos (keywordEach [] X.env)).all (fun x=>x.1.isSome)
  && decide (([e,f]:List Expr).length+ ([]:List Keyword).length+ (if ([]:List Keyword).isEmpty then 0 else 1)<30))=true
 line:(apos.endLine==cpos.line)=true
 trees:backTo cpos (starEach [e,f] X.env)=[(false,eval e X.env),(false,eval f X.env)]
noncomputable def IsD (H:Hp) (a:Addr):Prop:=(∃kvs,Rd H a (.dK kvs))∨∃kvs,Rd H a (.dT kvs)
section
variable {X : Cx} {pins : List (Addr × Obj)} {σ : St} {H : Hp} {s : Shared} {a : Addr} {y d : V} {u r : Value} {o : Option V} {A : Around} {E : Value → Shared → Prop}
end
noncomputable def tDGet1 (td ty:TE):TE:=fun σ H Q=>td σ H fun x H1=>∃a,x=.ref a∧IsD H1 a∧ty σ H1 fun y H2=>∃o,DGet H2 a y o∧Q (o.getD .non) H2
noncomputable def tDGet2 (td ty tx:TE):TE:=fun σ H Q=>td σ H fun x H1=>∃a,x=.ref a∧IsD H1 a∧ty σ H1 fun y H2=>tx σ H2 fun z H3=>∃o,DGet H3 a y o∧Q (o.getD z) H3
noncomputable def tDPop1 (td ty:TE):TE:=fun σ H Q=>td σ H fun x H1=>∃a,x=.ref a∧IsD H1 a∧ty σ H1 fun y H2=>∃kvs k v,H2 a=some (.dK kvs)∧y=kV k∧valV kvs k=some v∧Q v (upd H2 a (.dK (dropK kvs k)))
section
variable {X : Cx} {o e f : Expr} {apos cpos : Pos} {td ty tx : TE}
end
section
variable {X : Cx} {pins : List (Addr × Obj)} {σ : St} {H : Hp} {s : Shared} {a : Addr} {kvs : List (Key × V)} {A : Around} {E : Value → Shared → Prop}
end
section
variable {X : Cx} {pins : List (Addr × Obj)} {σ : St} {H : Hp} {s : Shared} {a : Addr} {y : V} {u : Value} {A : Around} {E : Value → Shared → Prop}
end
end L2
namespace Att
open PySem PySem.W PySem.Calls PyProof.Rows
theorem ints_of_wellAll {P:Params} {h:Heap}:∀(ns:List Int) (vs:List Value),WellAll P h vs (ns.map WData.int)→IntsAre vs ns:=by
 intro ns
 induction ns with
 | nil=>
  intro vs w
  rw[List.map_nil] at w
  cases w
  exact .nil
 | cons n ns ih=>
  intro vs w
  rw[List.map_cons] at w
  cases w with
  | cons a b=>
   cases a
   exact .cons _ _ (ih _ b)
theorem script_of {l:OpenLaw} {n:Nat} (hn:l.most=some n) {P:Params} {h:Heap} {args:List WData} {vals:List Value}
  (hpre:l.row.toRowW.claim.pre args=true) (hwl:WellAll P h vals args):
  ∃a vs ns,vals=[Value.ref a]∧args=[WData.list (ns.map WData.int)]∧h.get? a=some {cls:=.type "list",data:=.seq vs.toArray}∧IntsAre vs ns∧ns.length≤n:=by
 have hsh:WShape.hasAll [] args [.list .int]=true:=(pre_splitW hpre).1
 have hc:l.pre.holds [] {args:=args}=true:=(pre_splitW hpre).2
 obtain⟨d,r,rfl,h1,h2⟩:=hasAllW_cons hsh
 obtain rfl:=hasAllW_nil h2
 obtain⟨xs,rfl,h3⟩:=hasW_list h1
 obtain⟨ns,rfl⟩:=items_int h3
 have hlen:ns.length≤n:=by
  unfold OpenLaw.pre at hc
  have h4:(WTm.not (.lt (.lit (.int (n:Int))) (.len (.arg 0)))).holds [] {args:=[.list (ns.map .int)]}=true:=by
   have h4:=(holds_andW hc).1
   rw[hn] at h4
   exact h4
  have h5:=condW_of h4 (w_not (w_lt w_lit (w_len_list (w_arg rfl))))
  rw[List.length_map] at h5
  refine Nat.le_of_not_lt fun q=>?_
  have q':(n:Int)< ((ns.length:Nat):Int):=by omega
  first
   | (rw[decide_eq_true q'] at h5;exact absurd h5 (by decide))
   | (simp at h5;omega)
 cases hwl with
 | cons w1 w2=>
  cases w2
  cases w1 with
  | list ho hall=>exact⟨_,_,ns,rfl,rfl,ho,ints_of_wellAll ns _ hall,hlen⟩
theorem post_true (l:OpenLaw) (args:List WData):l.row.toRowW.claim.post args (.bool true) args=true:=
 postW_of (r:=l.row.toRowW) (X:=(true==true))
  (show WShape.has [] (.bool true) .bool=true by first | rfl | decide | simp [WShape.has,WShape.arms,WShape.armsAll])
  (show(WTm.eq .res (.lit (.bool true))).value [] {args:=args,res:=some (.bool true),after:=args}=some (.bool (true==true)) from w_eq_bool (w_res rfl) w_lit) rfl
theorem attach_call {l:OpenLaw} {n:Nat} {q:Program} {loose:List Str} {XP:(Str→Option Value)→Heap→Prop} {YP:World→Heap→Prop} {d:DefRec}
  (hn:l.most=some n) (hdf:d.params.defaults=[])
  (call:∀(w:World) (s₀ s₁:Shared) (mg mb:Str→Option Value) (fa:Addr) (o:Obj) (pm cd doc:Value) (a:Addr) (vs:List Value) (ns:List Int),
   Ground q loose [] XP w s₀ mg mb s₁.heap→YP w s₁.heap→
   s₁.heap.get? fa=some o→o.data=.func (docDef d.name d.params d.body d.scope pm cd doc)→s₁.heap.CodeRec cd d.name→mg d.name=some (.ref fa)→
   s₁.heap.get? a=some {cls:=.type "list",data:=.seq vs.toArray}→IntsAre vs ns→ns.length≤n→s₁.gens=#[]→
   codeAny (model l.prog w) callerA (.call (.ref fa) ⟨[.ref a],[]⟩) (fun r s'=>r=.ok (.ret (.bool true))∧OldK s₁.heap s'.heap∧s'.os=s₁.os∧AllBare s'.gens) s₁):
  WalkO q loose XP YP l.row.toRowW d [] (fun f vs=>PySem.call f vs):=by
 intro w s₀ s₁ mg mb G Y fa o pm cd doc dV kV ho hd hcd hD hmg hg args vals as hpre hlay hrd hwl hlo
 obtain rfl:dV=.none:=Dflts.none hD hdf
 obtain rfl:kV=.none:=Dflts.noKw hD
 obtain⟨a,vs,ns,rfl,rfl,hobj,hints,hlen⟩:=script_of hn hpre hwl
 refine enter_call (codeAny_mono (call w s₀ s₁ mg mb fa o pm cd doc a vs ns G Y ho (fd_plain hd) hcd hmg hobj hints hlen hg) fun r s' hq=>?_)
 obtain⟨rfl,h2,h3,h4⟩:=hq
 exact⟨.inl ⟨.bool true,.bool true,[],rfl,fun _=>rfl,.bool true,post_true l _,fun _=>⟨List.Pairwise.nil,fun _ hm=>(nomatch hm)⟩⟩,h2,h3,h4⟩
section
variable {prog : Program} {w : World} {A : Around} {E : Value → Shared → Prop} {s : Shared} {K : Frag}
noncomputable def noObjs (h:Heap):Heap:={h with objs:=#[]}
theorem noObjs_get (h:Heap) (b:Addr):(noObjs h).get? b=none:=by
 cases e:(noObjs h).get? b with
 | none=>rfl
 | some o=>exact absurd (Heap.lt_size e) (Nat.not_lt_zero _)
noncomputable def ledger (h:Heap) (L d:Addr):List (Addr×Obj):=(List.range h.objs.size).filterMap fun a=>if a=L∨a=d then none else (h.get? a).map fun o=>(a,o)
set_option tactic.hygienic true in
theorem mem_ledger {h:Heap} {L d a:Addr} {o:Obj}:(a,o)∈ledger h L d↔a≠L∧a≠d∧h.get? a=some o:=by
 unfold ledger
 rw[List.mem_filterMap]
 constructor
 ·rintro⟨b,_,e⟩
  split at e
  ·cases e
  ·rename_i hb
   obtain⟨o',ho,e'⟩:=Option.map_eq_some_iff.mp e
   cases e'
   exact⟨fun q=>hb (.inl q),fun q=>hb (.inr q),ho⟩
 ·rintro⟨n1,n2,ho⟩
  refine⟨a,List.mem_range.mpr (Heap.lt_size ho),?_⟩
  rw[if_neg (show ¬(a=L∨a=d) from fun q=>q.elim n1 n2),ho] <;>rfl
theorem fr_all {h:Heap} {L:Addr} {m:Str→Option Value} (n:h.Ns L m):Fr (noObjs h) L h m:=
 ⟨n,fun b o e=>(by rw[noObjs_get] at e;cases e),Nat.zero_le _⟩
end
end Att
namespace L2
open PySem PySem.Spec PyProof.Rows
theorem vals_ints:∀{vs:List Value} {ns:List Int},IntsAre vs ns→Vals (ns.map V.int) vs
 | _,_,.nil=>.nil
 | _,_,.cons n t h=>.cons ⟨t,rfl⟩ (vals_ints h)
end L2
namespace L2
open PySem PySem.Spec PyProof.Rows
abbrev KOf {K:PySem.W.Frag} {h:Heap} (_:K.In h):PySem.W.Frag:=K
end L2
namespace L2
open PySem PySem.Spec PyProof.Rows
noncomputable def inClass (s:Stmt) (j:Nat):Stmt:=match s with
 | .ClassDef _ _ _ body _ _ _ _ _ _ _=>body.getD j (.Pass ⟨0,0,0,0⟩)
 | _=>.Pass ⟨0,0,0,0⟩
noncomputable def defArgs (s:Stmt):Arguments:=match s with
 | .FunctionDef _ a _ _ _ _ _ _ _ _=>a
 | _=>{posonlyargs:=[],args:=[],vararg:=none,kwonlyargs:=[],kw_defaults:=[],kwarg:=none,defaults:=[]}
noncomputable def defBody (s:Stmt):List Stmt:=match s with
 | .FunctionDef _ _ b _ _ _ _ _ _ _=>b
 | _=>[]
noncomputable def defScope (s:Stmt):Scope:=match s with
 | .FunctionDef _ _ _ _ _ _ sc _ _ _=>sc
 | _=>{kind:=.function,names:=[],isGenerator:=false,isCoroutine:=false}
abbrev CX0:CXT:=fun _ _ _ _ _ _=>False
abbrev E0:XK:=fun _ _ _=>False
structure Fun (K:PySem.W.Frag) (x qual:Str) (st:Stmt) (f:Addr) (fd:FuncData):Prop where
 ex:∃(oc:Value) (od:Option Addr) (kV doc pm:Value) (an:Option Addr) (cdv ct:Value) (osl:Array (Option Value)),
  fd=PySem.W.fnOf x qual (defArgs st) (defBody st) (defScope st) .none kV doc pm an cdv ct∧K.lookup f=some ⟨oc,od,.func fd,osl⟩∧PySem.W.codeIn K cdv qual=true
 kp:PySem.W.keepIn K (.ref f)=true
section
variable {P : Program} {w : World} {K : PySem.W.Frag} {mg : Str → Option Value} {base : Heap}
theorem Fun.binds {x qual:Str} {st:Stmt} {f:Addr} {fd:FuncData} {ps:List Str} (F:Fun K x qual st f fd)
  (h:∀(kV doc pm:Value) (an:Option Addr) (cdv ct:Value) (us:List Value),us.length=ps.length→bindArgs (PySem.W.fnOf x qual (defArgs st) (defBody st) (defScope st) .none kV doc pm an cdv ct) ⟨us,[]⟩=pure (ps.zip us)):Binds K fd ps []:=by
 obtain⟨oc,od,kV,doc,pm,an,cdv,ct,osl,rfl,lk,hcd⟩:=F.ex
 exact .all (h kV doc pm an cdv ct)
theorem fun_mk {x qual:Str} {st:Stmt} {f:Addr} {oc:Value} {od an:Option Addr} {osl:Array (Option Value)} {kV doc pm cdv ct:Value} (l:K.lookup f=some ⟨oc,od,.func (PySem.W.fnOf x qual (defArgs st) (defBody st) (defScope st) .none kV doc pm an cdv ct),osl⟩)
  (c:PySem.W.codeIn K cdv qual=true) (k:PySem.W.keepIn K (.ref f)=true):Fun K x qual st f (PySem.W.fnOf x qual (defArgs st) (defBody st) (defScope st) .none kV doc pm an cdv ct):=⟨⟨oc,od,kV,doc,pm,an,cdv,ct,osl,rfl,l,c⟩,k⟩
end
theorem hu_of {A:Around} {k:Nat} (hr:Room k A):A.units+1<cLine:=Nat.lt_of_le_of_lt (Nat.add_le_add_left (by decide:1≤64) _) hr.units
section
variable {X : Cx}
theorem pv (i:Nat) {x:Str} {pos:Pos} (hN:X.N[i]?=some x:=by rfl) (hv:Vis X.env.scope x:=by first | exact Or.inl rfl | exact Or.inr (Or.inl rfl) | exact Or.inr (Or.inr rfl)) (hd:(x==("__debug__":Str))=false:=by decide)
  (hcd:(x==("__classdict__":Str))=false:=by decide):PE X (.Name x pos) (tVar i):=pe_var hN hv hd hcd
end
theorem iteT {A B:Prop} (h:A):if true=true then A else B:=by
 rw[if_pos rfl]
 exact h
theorem ite2 {c A B:Prop} [Decidable c] (h1:c→A) (h2:¬c→B):if c then A else B:=by
 by_cases h:c
 ·rw[if_pos h]
  exact h1 h
 ·rw[if_neg h]
  exact h2 h
noncomputable def Same (H H':Hp):Prop:=∀b o,H b=some o→H' b=some o
theorem Same.refl (H:Hp):Same H H:=fun _ _ h=>h
theorem Same.trans {H H1 H2:Hp} (a:Same H H1) (b:Same H1 H2):Same H H2:=fun c o h=>b c o (a c o h)
theorem Same.seq {K:PySem.W.Frag} {H H':Hp} {a:Addr} {xs:List V} (e:Same H H') (h:SqL K H a xs):SqL K H' a xs:=by
 rcases h with (h | ⟨o,h⟩) | h
 ·exact .inl (.inl (e _ _ h))
 ·exact .inl (.inr ⟨o,e _ _ h⟩)
 ·exact .inr h
end L2
namespace L2
open PySem PySem.Spec PyProof.Rows
section
variable {X : Cx}
end
section
variable {κ : Type} [DecidableEq κ]
end
end L2
namespace L2
open PySem PySem.Spec PyProof.Rows
noncomputable def Bt (n:Nat) (i:Int):Prop:=i.natAbs<2^n
theorem Bt.mono {m n:Nat} {i:Int} (h:Bt m i) (q:m≤n):Bt n i:=Nat.lt_of_lt_of_le h (Nat.pow_le_pow_right (by decide) q)
theorem Bt.bits {n:Nat} {i:Int} (h:Bt n i):Builtin.Int.intBits i≤n:=PyProof.Rows.intBits_le h
theorem Bt.mul {m n:Nat} {i j:Int} (h1:Bt m i) (h2:Bt n j):Bt (m+n) (i*j):=by
 unfold Bt at *
 rw[Int.natAbs_mul,Nat.pow_add]
 exact Nat.mul_lt_mul_of_lt_of_lt h1 h2
theorem Bt.le {n:Nat} {i j:Int} (h:Bt n j) (q:i.natAbs≤j.natAbs):Bt n i:=Nat.lt_of_le_of_lt q h
theorem Bt.of {n:Nat} {i:Int} (b:Nat) (h1:-(b:Int)≤i) (h2:i≤(b:Int)) (h:b<2^n:=by decide +kernel):Bt n i:=by
 unfold Bt
 exact Nat.lt_of_le_of_lt (by omega) h
theorem Bt.log {n:Nat} {i:Int} (h:Bt n i) (q:n≤9000:=by decide):i.natAbs.log2<9000:=by
 by_cases z:i.natAbs=0
 ·rw[z];decide
 ·exact Nat.lt_of_lt_of_le ((Nat.log2_lt z).mpr h) q
theorem Bt.mulOk {m n:Nat} {i j:Int} (h1:Bt m i) (h2:Bt n j) (q:m+n≤134217728:=by decide):IntMulOk i j:=mulOk_of_bits h1.bits h2.bits q
theorem mulOkL {i j:Int} (h1:-(2^64)<i:=by decide) (h2:i<2^64:=by decide):IntMulOk i j:=.of_left (intBits_le_64 h1 h2)
theorem mulOkR {i j:Int} (h1:-(2^64)<j:=by decide) (h2:j<2^64:=by decide):IntMulOk i j:=.of_right (intBits_le_64 h1 h2)
section
variable {X : Cx}
theorem op_mulB:OpR X (binaryOp .Mult) (rI IntMulOk fun i j=>.int (i*j)):=opI fun _ _ _ _ _ _ _ hc q=>mul_int q hc
noncomputable def CDivB (_ j:Int):Prop:=0<j∧j.natAbs.log2<9000
theorem CDivB.of {i j:Int} {n:Nat} (h:0<j) (b:Bt n j) (q:n≤9000:=by decide):CDivB i j:=⟨h,b.log q⟩
theorem CDivB.lit {i j:Int} (h:0<j:=by decide) (q:j.natAbs.log2<9000:=by decide):CDivB i j:=⟨h,q⟩
theorem op_fdivB:OpR X (binaryOp .FloorDiv) (rI CDivB fun i j=>.int (i / j)):=opI fun i j _ _ _ _ _ hc q=>by
 have h1:(0:Int)<j:=hc.1
 exact floordiv_int (by omega) (by rw[Int.fdiv_eq_ediv_of_nonneg i (by omega)];exact q) (.inl (PyProof.noPylong_of_log2 hc.2))
noncomputable def CDivS (_ j:Int):Prop:=j≠0∧j.natAbs.log2<9000
theorem CDivS.of {i j:Int} {n:Nat} (h:j≠0) (b:Bt n j) (q:n≤9000:=by decide):CDivS i j:=⟨h,b.log q⟩
theorem op_fdivS:OpR X (binaryOp .FloorDiv) (rI CDivS fun i j=>.int (i.fdiv j)):=opI fun _ _ _ _ _ _ _ hc q=>floordiv_int hc.1 q (.inl (PyProof.noPylong_of_log2 hc.2))
theorem op_modB:OpR X (binaryOp .Mod) (rI (fun _ j=>0<j) fun i j=>.int (i % j)):=op_mod
noncomputable def rIxTH:R2:=fun x y H Q=>∃p xs i v,x=.ref p∧y=.int i∧H p=some (.tup xs)∧atI xs i=some v∧Q v H
theorem ix_tupH:IxR X rIxTH:=fun value slice pins s σ H x y v u Q I rx ry ⟨p,xs,i,z,e1,e2,e3,e4,q⟩ hs=>
 ix_tup value slice pins s σ H x y v u Q I rx ry ⟨p,xs,i,z,e1,e2,SqT.of e3,e4,q⟩ hs
noncomputable def rIxLH:R2:=fun x y H Q=>∃p xs i v,x=.ref p∧y=.int i∧H p=some (.lst xs)∧atI xs i=some v∧Q v H
theorem ix_listH:IxR X rIxLH:=fun value slice pins s σ H x y v u Q I rx ry ⟨p,xs,i,z,e1,e2,e3,e4,q⟩ hs=>
 ix_list value slice pins s σ H x y v u Q I rx ry ⟨p,xs,i,z,e1,e2,SqL.of e3,e4,q⟩ hs
noncomputable def tTupS (t:TA):TE:=fun σ H Q=>t σ H fun xs H1=>xs.length≤sizeLine∧∀p H2,Same H1 H2→H1 p=none→H2 p=some (.tup xs)→Q (.ref p) H2
theorem same_upd {H:Hp} {p:Addr} {o:HO} (h:H p=none):Same H (upd H p o):=fun b u e=>by
 rw[upd_ne (ne_of_none e h)]
 exact e
theorem pe_tupS {es:List Expr} {t:TA} {x1} {pos:Pos} (h:PA X es t):PE X (.Tuple es x1 pos) (tTupS t):=fun pins s σ H Q I hq=>
 thn (h:=wpAny_Tuple_spliced (thn (h pos pins s σ H _ I hq) fun us s1 ⟨xs,H1,I1,r,z,q⟩=>⟨by rw[←r.length];exact z,by
  have hf:H1 s1.heap.objs.size=none:=I1.hok.fresh (Nat.le_refl _)
  refine⟨.ref s1.heap.objs.size,upd H1 s1.heap.objs.size (.tup xs),I1.laid (t':=s1.toks) (fun b u e=>Heap.get?_push_of_some _ e) (Nat.le_refl _) ?_,rfl,q _ _ (same_upd hf) hf upd_same⟩
  exact⟨z,us,r,⟨_,Heap.get?_push_size _ rfl,rfl,_,rfl⟩⟩⟩)) fun _ _ z=>z
theorem call_lenT:CallR X (.builtin "len") (fun xs H Q=>∃p ys,xs=[.ref p]∧H p=some (.tup ys)∧Q (.int ys.length) H):=fun pins s σ H xs us Q I r ⟨p,ys,e,h,q⟩=>
 call_len_seq pins s σ H xs us Q I r ⟨p,ys,e,.inr (SqT.of h),q⟩
theorem call_lenL:CallR X (.builtin "len") (fun xs H Q=>∃p ys,xs=[.ref p]∧H p=some (.lst ys)∧Q (.int ys.length) H):=fun pins s σ H xs us Q I r ⟨p,ys,e,h,q⟩=>
 call_len_seq pins s σ H xs us Q I r ⟨p,ys,e,.inl (SqL.of h),q⟩
theorem call_lenQ:CallR X (.builtin "len") (fun xs H Q=>∃p ns,xs=[.ref p]∧SqL X.K H p (List.map V.int ns)∧Q (.int (List.length ns:Nat)) H):=fun pins s σ H xs us Q I r ⟨p,ns,e,h,q⟩=>
 call_len_seq pins s σ H xs us Q I r ⟨p,_,e,.inl h,by rw[List.length_map];exact q⟩
noncomputable def rIxQ (K:PySem.W.Frag):R2:=fun x y H Q=>∃p ns i,x=.ref p∧y=.int i∧SqL K H p (List.map V.int ns)∧0≤i∧i< (List.length ns:Nat)∧Q (.int (ns.getD i.toNat 0)) H
theorem atI_ints {ns:List Int} {i:Int} (h0:0≤i) (h1:i< (ns.length:Nat)):atI (ns.map V.int) i=some (.int (ns.getD i.toNat 0)):=by
 obtain⟨j,rfl⟩:=Int.eq_ofNat_of_zero_le h0
 refine atI_nat ?_
 have hj:j<ns.length:=by omega
 rw[List.getElem?_map,List.getElem?_eq_getElem hj]
 simp [List.getD_eq_getElem?_getD,List.getElem?_eq_getElem hj]
theorem ix_listS:IxR X (rIxQ X.K):=fun value slice pins s σ H x y v u Q I rx ry ⟨p,ns,i,e1,e2,e3,h0,h1,q⟩ hs=>
 ix_list value slice pins s σ H x y v u Q I rx ry ⟨p,_,i,_,e1,e2,e3,atI_ints h0 h1,q⟩ hs
structure Cal (P:Program) (w:World) (K:PySem.W.Frag) (mg:Str→Option Value) (base:Heap) (CX:CXT) (k:Nat) (x:Str) (ps:List Str) (sp:Sp):Prop where
 ex:∃f fd,FnOk P w K mg base CX k f fd ps sp∧mg x=some (.ref f)∧PySem.W.keepIn K (.ref f)=true∧Binds K fd ps []
theorem pe_cal {CX:CXT} {k:Nat} {x:Str} {ps:List Str} {sp:Sp} {E:XK} {e:Expr} {es:List Expr} {t:TA} {p pos:Pos} (C:Cal X.prog X.w X.K X.mg X.base CX k x ps sp) (hr:Room k X.A) (hg:Gl X x) (hx:Passes CX X E) (ha:PA X (e::es) t)
  (hdb:(x==("__debug__":Str))=false:=by decide) (he:starEach (e::es) X.env=(false,eval e X.env)::starEach es X.env:=by rfl) (hpl:(backTo pos (starEach es X.env)).any (·.1)=false:=by rfl):
  PE X (.Call (.Name x p) (e::es) [] pos) (tCall sp [] E t):=by
 obtain⟨f,fd,F,hm,hk,hb⟩:=C.ex
 exact pe_call F hr hg hm hk hb .nil hx ha hdb he hpl
end
noncomputable def Strict (CX:CXT):Prop:=∀outer H s e s',¬CX outer H s (fun _ _ _=>False) e s'
theorem Strict.pass {CX:CXT} (h:Strict CX) {X:Cx}:Passes CX X E0:=fun _ _ H s e s' _ z=>(h _ H s e s' z).elim
section
variable {P : Program} {w : World} {K : PySem.W.Frag} {mg : Str → Option Value} {base : Heap} {CX : CXT}
theorem Fun.okC {x qual:Str} {st:Stmt} {f:Addr} {fd:FuncData} {N ps:List Str} {k:Nat} {sp:Sp} (F:Fun K x qual st f fd) (S:FnScope N ps (defScope st)) (len:∀vs H Q E,sp vs H Q E→vs.length=ps.length)
  (hbody:∀(cdv:Value) (A:Around) (outer:List Env) (s:Shared) (H:Hp) (vs:List V) (Q:VK) (E:XK),Room k (A.deeper (envOfC qual (defScope st) s.heap.objs.size f cdv))→sp vs H Q E→
   ∃t,PSs (cxOf CX P w K mg base N qual (defScope st) f cdv A outer s H E).nox (defBody st) t∧t {nx:=fun _ H'=>Q .non H',rt:=Q} (start N vs) H):FnOk P w K mg base CX (k+1) f fd ps sp:=by
 obtain⟨oc,od,kV,doc,pm,an,cdv,ct,osl,rfl,lk,hcd⟩:=F.ex
 refine fn_of lk hcd S len fun A outer s H vs Q E hr hsp=>?_
 obtain⟨t,h,q⟩:=hbody cdv A outer s H vs Q E hr hsp
 exact⟨t,h.nox,q⟩
structure Dn (K:PySem.W.Frag) (mg:Str→Option Value) (x:Str) (st:Stmt):Prop where
 ex:∃f fd,Fun K x x st f fd∧mg x=some (.ref f)
theorem Dn.cal {x:Str} {st:Stmt} {ps:List Str} {k:Nat} {sp:Sp} (D:Dn K mg x st)
  (hb:∀(kV doc pm:Value) (an:Option Addr) (cdv ct:Value) (us:List Value),us.length=ps.length→bindArgs (PySem.W.fnOf x x (defArgs st) (defBody st) (defScope st) .none kV doc pm an cdv ct) ⟨us,[]⟩=pure (ps.zip us))
  (h:∀f fd,Fun K x x st f fd→FnOk P w K mg base CX k f fd ps sp):Cal P w K mg base CX k x ps sp:=by
 obtain⟨f,fd,F,hm⟩:=D.ex
 exact⟨f,fd,h f fd F,hm,F.kp,F.binds hb⟩
end
section
variable {X : Cx}
noncomputable def eqL (xs ys:List V):Bool:=(List.range (min xs.length ys.length)).all (fun j=>eqV (xs.getD j .non) (ys.getD j .non)) && xs.length==ys.length
theorem flat_at {xs:List V} (h:xs.all flatV=true) {j:Nat} (hj:j<xs.length):flatV (xs.getD j .non)=true:=by
 rw[List.getD_eq_getElem?_getD,List.getElem?_eq_getElem hj]
 exact List.all_eq_true.mp h _ (List.getElem_mem hj)
theorem rel_at {xs:List V} {us:List Value} (r:Vals xs us) {j:Nat} (hj:j<us.length):RelV (xs.getD j .non) us[j]:=by
 have hl:=r.length
 have hx:j<xs.length:=by omega
 obtain⟨u,e1,e2⟩:=r.get (List.getElem?_eq_getElem hx)
 rw[List.getElem?_eq_getElem hj] at e1
 cases e1
 rw[List.getD_eq_getElem?_getD,List.getElem?_eq_getElem hx]
 exact e2
noncomputable def rEqT:R2:=fun x y H Q=>∃p q xs ys,x=.ref p∧y=.ref q∧H p=some (.tup xs)∧H q=some (.tup ys)∧xs.all flatV=true∧ys.all flatV=true∧Q (.bl (eqL xs ys)) H
theorem op_eq_tup (hu:X.A.units<cLine):OpR X (compareOp .Eq) rEqT:=by
 intro pins s σ H x y v u Q I rx ry h
 obtain⟨p,q,xs,ys,rfl,rfl,hp,hq,fx,fy,k⟩:=h
 cases rx
 cases ry
 obtain⟨its,r,pl,hz⟩:=I.tuple (SqT.of hp)
 obtain⟨its2,r2,pl2,hz2⟩:=I.tuple (SqT.of hq)
 have l1:=r.length
 have l2:=r2.length
 refine SeqAt.eq_tupleAt (e:=fun j=>eqV (xs.getD j .non) (ys.getD j .non)) pl pl2 hu (fun j h1 h2=>?_) ⟨.bl _,H,I,rfl,?_⟩
 ·rw[List.size_toArray] at h1 h2
  exact eqAt_V (rel_at r h1) (rel_at r2 h2) (flat_at fx (by omega)) (flat_at fy (by omega))
 ·rw[List.size_toArray,List.size_toArray,←l1,←l2]
  exact k
noncomputable def rInT:R2:=fun x y H Q=>∃p xs,y=.ref p∧H p=some (.tup xs)∧flatV x=true∧xs.all flatV=true∧Q (.bl (inV x xs)) H
theorem call_isT:CallR X (.builtin "isinstance") (fun xs H Q=>∃x c t b,xs=[x,.ty c]∧TyOf X.K H x t∧PySem.W.kitOne X.K t (.type c)=some b∧Q (.bl b) H):=by
 intro pins s σ H xs us Q I r h
 obtain⟨x,c,t,b,rfl,ty,e,q⟩:=h
 obtain⟨u,u',rfl,rx,rc⟩:=vals2 r
 cases rc
 exact isinst_ok I rx ty e fun tk=>⟨.bl b,H,I.tok tk,rfl,q⟩
end
theorem at0 {α:Type} {x:α} {l:List α}:atI (x::l) 0=some x:=atI_nat (j:=0) rfl
theorem at1 {α:Type} {x y:α} {l:List α}:atI (x::y::l) 1=some y:=atI_nat (j:=1) rfl
theorem at2 {α:Type} {x y z:α} {l:List α}:atI (x::y::z::l) 2=some z:=atI_nat (j:=2) rfl
noncomputable def Pr (a b:Int):List V:=[.int a,.int b]
theorem kit_ii {K:PySem.W.Frag}:PySem.W.kitOne K (.type "int") (.type "int")=some true:=by unfold PySem.W.kitOne;rw[if_pos (by decide +kernel)]
theorem kit_tt {K:PySem.W.Frag}:PySem.W.kitOne K (.type "tuple") (.type "tuple")=some true:=by unfold PySem.W.kitOne;rw[if_pos (by decide +kernel)]
theorem kit_ll {K:PySem.W.Frag}:PySem.W.kitOne K (.type "list") (.type "list")=some true:=by unfold PySem.W.kitOne;rw[if_pos (by decide +kernel)]
theorem kit_off {K:PySem.W.Frag} {t c:String} {b:Bool} (h1:(Value.type t==Value.type c)=false:=by decide +kernel) (h2:PySem.W.kitMeta c=true:=by decide +kernel) (h3:(PySem.fastBuiltinMro t).map (·.contains (Value.type c))=some b:=by decide +kernel):
  PySem.W.kitOne K (.type t) (.type c)=some b:=by
 unfold PySem.W.kitOne PySem.W.kitCls PySem.W.subIn
 rw[if_neg (by rw[h1];decide)]
 dsimp only
 rw[if_pos h2]
 exact h3
theorem kit_ib {K:PySem.W.Frag}:PySem.W.kitOne K (.type "int") (.type "bool")=some false:=kit_off
theorem eqL_pr (a b c d:Int):eqL [.int a,.int b] [.int c,.int d]=(a==c && b==d):=by
 show(([0,1]:List Nat).all (fun j=>eqV (([.int a,.int b]:List V).getD j .non) (([.int c,.int d]:List V).getD j .non)) && true)=_
 simp [eqV]
theorem eqL_self (a b:Int):eqL [.int a,.int b] [.int a,.int b]=true:=by
 rw[eqL_pr]
 simp
end L2
namespace Nm
noncomputable def g (a b:Int):Int:=(Int.gcd a b:Nat)
theorem g_nn (a b:Int):0≤g a b:=Int.natCast_nonneg _
theorem g_pos {a b:Int} (h:b≠0):0<g a b:=by
 have:=Int.gcd_pos_of_ne_zero_right a h
 unfold g
 omega
theorem g_dvd_l (a b:Int):g a b∣a:=Int.gcd_dvd_left ..
theorem g_dvd_r (a b:Int):g a b∣b:=Int.gcd_dvd_right ..
theorem g_comm (a b:Int):g a b=g b a:=by unfold g;rw[Int.gcd_comm]
theorem g_le {a b:Int} (h:0<b):g a b≤b:=Int.le_of_dvd h (g_dvd_r a b)
theorem g_abs (a b:Int):g (a.natAbs:Int) b=g a b:=by
 unfold g Int.gcd
 rw[Int.natAbs_natCast]
theorem g_abs_r (a b:Int):g a (b.natAbs:Int)=g a b:=by
 rw[g_comm,g_abs,g_comm]
theorem g_neg (a b:Int):g (-a) b=g a b:=by
 unfold g Int.gcd
 rw[Int.natAbs_neg]
theorem g_step {a b:Int} (ha:0≤a) (_hb:0<b):g b (a % b)=g a b:=by
 unfold g Int.gcd
 rw[Int.natAbs_emod_of_nonneg ha,Nat.gcd_comm b.natAbs,←Nat.gcd_rec,Nat.gcd_comm]
theorem g_zero {a:Int} (ha:0≤a):g a 0=a:=by
 unfold g
 rw[Int.gcd_zero_right]
 omega
theorem g_abs_le {a b:Int} (h:b≠0):g a b≤(b.natAbs:Int):=by
 rw[←g_abs_r]
 exact g_le (by omega)
theorem low_gcd {a b:Int} (h:b≠0):g (a / g a b) (b / g a b)=1:=by
 have p:0<Int.gcd a b:=Int.gcd_pos_of_ne_zero_right a h
 unfold g
 rw[Int.gcd_ediv_gcd_ediv_gcd p]
 rfl
theorem low_pos {a b:Int} (h:0<b):0<b / g a b:=Int.ediv_pos_of_pos_of_dvd h (g_nn a b) (g_dvd_r a b)
theorem low_cross (a b:Int):(a / g a b)*b=a* (b / g a b):=by
 rw[←Int.mul_ediv_assoc _ (g_dvd_r a b),Int.mul_comm a b,Int.mul_ediv_assoc _ (g_dvd_l a b),Int.mul_comm]
theorem cop_dvd {q a b:Int} (h:q∣a*b) (c:Int.gcd a q=1):q∣b:=by
 have h1:=(Int.dvd_gcd_mul_iff_dvd_mul (k:=q) (n:=a) (m:=b)).mpr h
 rw[Int.gcd_comm,c] at h1
 simpa using h1
theorem low_one {p q p' q':Int} (h:0<q) (h':0<q') (e:g p q=1) (e':g p' q'=1) (c:p*q'=p'*q):p=p'∧q=q':=by
 have c1:Int.gcd p q=1:=by unfold g at e;omega
 have c2:Int.gcd p' q'=1:=by unfold g at e';omega
 have d1:q∣q':=by
  have:q∣p*q':=⟨p',by rw[c,Int.mul_comm]⟩
  exact cop_dvd this c1
 have d2:q'∣q:=by
  have:q'∣p'*q:=⟨p,by rw[←c,Int.mul_comm]⟩
  exact cop_dvd this c2
 have eq:q=q':=by
  have:=Int.le_of_dvd h' d1
  have:=Int.le_of_dvd h d2
  omega
 subst eq
 exact⟨Int.eq_of_mul_eq_mul_right (by omega) c,rfl⟩
theorem quot_abs {a g:Int} (_h:0<g) (d:g∣a):(a / g).natAbs≤a.natAbs:=by
 rw[Int.natAbs_ediv_of_dvd d]
 exact Nat.div_le_self _ _
theorem back {a b c d p q x y:Int} (hq:0<q) (hd:0<d) (e:p* (b*d)=(a*d - c*b)*q) (f:x* (q*d)=(p*d+c*q)*y):x*b=a*y:=by
 have h:(x*b)* (q*d)=(a*y)* (q*d):=by grind
 exact Int.eq_of_mul_eq_mul_right (by have:=Int.mul_pos hq hd;omega) h
end Nm
namespace L2
open PySem PySem.Spec PyProof.Rows PySem.W
theorem ObjOk.get {P:Program} {w:World} {H:Hp} {h:Heap} {a:Addr}:∀{o:HO},ObjOk P w H h a o→∃ob,h.get? a=some ob
 | .lst _,x=>let ⟨_,_,_,_,e⟩:=x;⟨_,e⟩
 | .tup _,x=>let ⟨_,_,_,o,e,_⟩:=x;⟨o,e⟩
 | .dK _,x=>let ⟨_,_,_,_,o,_,_,e,_⟩:=x;⟨o,e⟩
 | .dT _,x=>let ⟨_,_,_,_,o,_,_,e,_⟩:=x;⟨o,e⟩
 | .set _ _,x=>by
  obtain⟨o,es,ep,t,e,_⟩:=x
  exact⟨o,e⟩
 | .ins _ _ _,x=>let ⟨_,_,_,e,_⟩:=x;⟨_,e⟩
 | .own _,x=>x
 | .xd _,x=>by
  obtain⟨mA,⟨o,es,ep,e,_⟩,_⟩:=x
  exact⟨o,e⟩
 | .rng _ _,x=>let ⟨_,_,_,e⟩:=x;⟨_,e⟩
 | .frz _ _,x=>⟨_,x.1⟩
 | .tbl _,⟨_,x,_⟩=>⟨_,x⟩
 | .met _ _,x=>⟨_,x⟩
 | .ext _,x=>x.2.1
structure Fly (P:Program) (w:World) (l:List Env) (H:Hp) (s:Shared) (H':Hp) (ad:Addr) (cls:Value) (s':Shared):Prop where
 os:s'.os=s.os
 bare:AllBare s'.gens
 un:Un (frs l) [] H H' s.heap s'.heap
 hok:HOk P w H' s'.heap
 fl:∃B a0,Heap.FlyingW B l ad cls a0 s'.heap∧(∀b o,s.heap.get? b=some o→H b=none→b∉frs l→B.get? b=some o)∧(∀b o,s.heap.get? b=some o→b∉frs l→∃o',B.get? b=some o')∧
  (∀b u o,H' b=some u→s'.heap.get? b=some o→B.get? b=some o)
noncomputable def CX1 (P:Program) (w:World):CXT:=fun l H s E e s'=>∃ad cls H',e=.ref ad∧Fly P w l H s H' ad cls s'∧E cls none H'
theorem strict1 (P:Program) (w:World):Strict (CX1 P w):=fun _ _ _ _ _ ⟨_,_,_,_,_,h⟩=>h
section
variable {P : Program} {w : World} {K : PySem.W.Frag} {mg : Str → Option Value} {base : Heap} {N : List Str} {qual : Str} {scope : Scope} {f : Addr} {cdv : Value} {A : Around} {outer : List Env} {s0 : Shared} {H0 : Hp} {E : XK}
end
end L2
namespace L2
open PySem PySem.Spec PyProof.Rows PySem.W
abbrev bmVE:List Value:=[.type "ValueError",.type "Exception",.type "BaseException",.type "object"]
abbrev newVE:String:="ValueError.__new__"
noncomputable def tRaise (C:Addr) (E:XK) (t:TA):TS:=fun _ σ H=>t σ H fun vs H1=>vs.length≤sizeLine∧E (.ref C) none H1
section
variable {P : Program} {w : World} {K : PySem.W.Frag} {mg : Str → Option Value} {base : Heap} {N : List Str} {qual : Str} {scope : Scope} {f : Addr} {cdv : Value} {A : Around} {outer : List Env} {s0 : Shared} {H0 : Hp} {E : XK}
end
section
variable {X : Cx} {pins : List (Addr × Obj)} {σ : St} {H H' : Hp} {s s' : Shared}
abbrev Cx.mark (X:Cx) (ad:Addr):Cx:={X with A:=X.A.mark (some (.ref ad)),calm:=false,xe:=fun _ _=>False}
end
section
variable {X : Cx} {CX : CXT} {k : Nat} {x : Str} {ps : List Str} {sp : Sp} {E : XK} {e : Expr} {es : List Expr} {t : TA} {p pos : Pos}
variable {cx n : Str} {np hpos epos tpos : Pos} {b₀ : Stmt} {suite : List Stmt} {i : Nat} {ts : TS} {C2 : Addr}
end
end L2
namespace Nm
noncomputable def st (a b:Int):Int:=if b<0 then -(a / g a b) else a / g a b
noncomputable def sb (a b:Int):Int:=if b<0 then -(b / g a b) else b / g a b
set_option tactic.hygienic true in
theorem sb_pos {a b:Int} (h:b≠0):0<sb a b:=by
 have g0:=g_pos (a:=a) h
 unfold sb
 split
 ·rename_i hb
  have h1:0< (-b) / g a b:=Int.ediv_pos_of_pos_of_dvd (by omega) (g_nn a b) (Int.dvd_neg.mpr (g_dvd_r a b))
  rw[Int.neg_ediv_of_dvd (g_dvd_r a b)] at h1
  exact h1
 ·exact low_pos (by omega)
theorem g_neg_r (a b:Int):g a (-b)=g a b:=by rw[g_comm,g_neg,g_comm]
theorem st_low {a b:Int} (h:b≠0):g (st a b) (sb a b)=1:=by
 have e:=low_gcd (a:=a) h
 unfold st sb
 split
 ·rw[g_neg,g_neg_r];exact e
 ·exact e
theorem st_cross (a b:Int):st a b*b=a*sb a b:=by
 have e:=low_cross a b
 unfold st sb
 split
 ·rw[Int.neg_mul,e,Int.mul_neg]
 ·exact e
theorem st_abs {a b:Int} (h:b≠0):(st a b).natAbs≤a.natAbs:=by
 have:=quot_abs (g_pos (a:=a) h) (g_dvd_l a b)
 unfold st
 split <;>omega
theorem sb_abs {a b:Int} (h:b≠0):(sb a b).natAbs≤b.natAbs:=by
 have:=quot_abs (g_pos (a:=a) h) (g_dvd_r a b)
 unfold sb
 split <;>omega
theorem st_pos {a b:Int} (h:0<b):st a b=a / g a b∧sb a b=b / g a b:=by
 unfold st sb
 rw[if_neg (by omega),if_neg (by omega)]
 exact⟨rfl,rfl⟩
end Nm
namespace L2
open PySem PySem.Spec PyProof.Rows
section
variable {P : Program} {w : World} {K : PySem.W.Frag} {mg : Str → Option Value} {base : Heap} {CX : CXT}
end
noncomputable def noStar:Expr→Bool
 | .Starred _ _=>false
 | _=>true
theorem se {e:Expr} {es:List Expr} {env:Env} (h:noStar e=true):starEach (e::es) env=(false,eval e env)::starEach es env:=by
 cases e <;>first | rfl | exact absurd h Bool.false_ne_true
theorem na {env:Env} {pos:Pos}:∀{es:List Expr},es.all noStar=true→(backTo pos (starEach es env)).any (·.1)=false
 | [],_=>rfl
 | e::es,h=>by
  rw[List.all_cons,Bool.and_eq_true] at h
  rw[se h.1]
  show(false || (backTo pos (starEach es env)).any (·.1))=false
  rw[na h.2]
  rfl
end L2
namespace L2
open PySem PySem.Spec PyProof.Rows PySem.W
structure ExcCls (K:PySem.W.Frag) (C:Addr):Prop where
 cls:(clsIn K C).isSome=true
 ga:findIn K (.ref C) "__getattribute__"=some (some (.builtin "BaseException.__getattribute__"))
 gt:findIn K (.ref C) "__getattr__"=some none
 cl:findIn K (.ref C) "__class__"=some (some (.builtin "object.__class__"))
 be:mroIn K C (.type "BaseException")=some true
 ob:mroIn K C (.type "object")=some true
section
variable {prog : Program} {w : World} {A : Around} {E : Value → Shared → Prop} {K : PySem.W.Frag} {h : Heap} {g : Array GenState} {d : Drawn} {t : Nat} {os : OsState} {a C : Addr} {o : Obj}
end
section
variable {X : Cx}
end
end L2
namespace L2
open PySem PySem.Spec PyProof.Rows
theorem closure_of {env:Env}:∀(names:List (Str×NameKind)) (cs:List (Str×Addr)),(∀n,(n,NameKind.free)∈names→∃c,env.cells.lookup n=some c)→(∀x c,cs.lookup x=some c→env.cells.lookup x=some c)→
  ∃cl,(forIn names cs fun(x:Str×NameKind) (r:List (Str×Addr))=>(if (x.2==NameKind.free)=true then do let c ←cellOf env x.1;pure (ForInStep.yield ((x.1,c)::r)) else pure (ForInStep.yield r):Sem (ForInStep (List (Str×Addr)))))=pure cl∧
   (∀x c,cl.lookup x=some c→env.cells.lookup x=some c)∧(∀n,((n,NameKind.free)∈names∨(cs.lookup n).isSome=true)→∃c,cl.lookup n=some c)∧(∀x c,(x,c)∈cl→(env.cells.lookup x=some c∧(x,NameKind.free)∈names)∨(x,c)∈cs)
 | [],cs,_,h=>⟨cs,rfl,h,(fun n hn=>by
   rcases hn with hn | hn
   ·exact absurd hn (by simp)
   ·exact Option.isSome_iff_exists.mp hn),fun x c m=>.inr m⟩
 | (n,k)::r,cs,hf,h=>by
  by_cases hk:k=.free
  ·subst hk
   obtain⟨c,hc⟩:=hf n List.mem_cons_self
   obtain⟨cl,e,h1,h2,h3⟩:=closure_of r ((n,c)::cs) (fun m hm=>hf m (List.mem_cons_of_mem _ hm)) (fun x c' hx=>by
    rw[List.lookup_cons] at hx
    cases q:x==n with
    | true=>
     rw[q] at hx
     have e1:x=n:=by simpa using q
     cases hx
     rw[e1];exact hc
    | false=>rw[q] at hx;exact h x c' hx)
   refine⟨cl,?_,h1,fun m hm=>h2 m ?_,fun x c' m=>?_⟩
   rotate_left 2
   ·rcases h3 x c' m with ⟨q1,q2⟩ | m
    ·exact .inl ⟨q1,List.mem_cons_of_mem _ q2⟩
    ·rcases List.mem_cons.mp m with e | m
     ·cases e
      exact .inl ⟨hc,List.mem_cons_self⟩
     ·exact .inr m
   ·rw[List.forIn_cons]
    have hco:cellOf env n=pure c:=by unfold cellOf;rw[hc]
    simp only[beq_self_eq_true,if_true,hco,pure_bind]
    exact e
   ·rcases hm with hm | hm
    ·rcases List.mem_cons.mp hm with z | z
     ·cases z
      right
      rw[List.lookup_cons]
      simp
     ·exact .inl z
    ·right
     rw[List.lookup_cons]
     cases q:m==n with
     | true=>rfl
     | false=>exact hm
  ·obtain⟨cl,e,h1,h2,h3⟩:=closure_of r cs (fun m hm=>hf m (List.mem_cons_of_mem _ hm)) h
   refine⟨cl,?_,h1,fun m hm=>h2 m ?_,fun x c' m=>(h3 x c' m).imp (fun q=>⟨q.1,List.mem_cons_of_mem _ q.2⟩) id⟩
   ·rw[List.forIn_cons]
    have:(k==NameKind.free)=false:=by simpa using hk
    simp only[this,Bool.false_eq_true,if_false,pure_bind]
    exact e
   ·rcases hm with hm | hm
    ·rcases List.mem_cons.mp hm with z | z
     ·cases z;exact absurd rfl hk
     ·exact .inl z
    ·exact .inr hm
theorem closureFor_of {env:Env} {scope:Scope} (hf:∀n,(n,NameKind.free)∈scope.names→∃c,env.cells.lookup n=some c):
  ∃cl,closureFor scope env=pure cl∧(∀x c,cl.lookup x=some c→env.cells.lookup x=some c)∧(∀n,(n,NameKind.free)∈scope.names→∃c,cl.lookup n=some c)∧(∀x c,(x,c)∈cl→env.cells.lookup x=some c∧(x,NameKind.free)∈scope.names):=by
 obtain⟨cl,e,h1,h2,h3⟩:=closure_of (env:=env) scope.names [] hf (fun x c h=>by simp at h)
 refine⟨cl,?_,h1,fun n hn=>h2 n (.inl hn),fun x c m=>(h3 x c m).elim id fun z=>absurd z (by simp)⟩
 unfold closureFor
 simp only[bind_pure]
 exact e
structure CompScope (N:List Str) (so:Scope) (N':List Str) (scope:Scope) (k:Nat) (fr:List Nat):Prop where
 kind:scope.kind=.function
 cels:∀y∈scope.names,y.2=.cell→scope.names.lookup y.1=some .cell∧(y.1,NameKind.free)∉scope.names
 locs:∀y∈scope.names,y.2=.local→scope.names.lookup y.1=some .local
 outer:∀y∈scope.names,y.2=.free→(so.names.lookup y.1=some .cell∨so.names.lookup y.1=some .free)
 len:N'.length=k+fr.length
 at_:∀t,t<fr.length→(fr[t]?).bind (fun j=>N[j]?)=N'[k+t]?
 fre:∀x∈N'.drop k,scope.names.lookup x=some .free
noncomputable def stC (k:Nat) (fr:List Nat) (σ:St):St:=List.replicate k none++fr.map fun j=>(σ[j]?).join
noncomputable def cxC (X:Cx) (N:List Str) (scope:Scope) (cl:List (Str×Addr)) (C:Addr) (s:Shared) (H:Hp) (ex:List Addr):Cx where
 prog:=X.prog
 w:=X.w
 K:=X.K
 mg:=X.mg
 base:=X.base
 A:=X.A
 N:=N
 s₀:=s
 H₀:=H
 env:=compEnvC scope cl C X.env
 outer:=X.stack
 stack:=X.stack
 ex:=ex
 calm:=X.calm
 fn:=fun x=>scope.names.lookup x==some .cell
 pn:=[]
 xe:=fun _ _=>False
theorem lookup_relabel_free {env:Env}:∀{names:List (Str×NameKind)} {x:Str},names.lookup x=some .free→
  (names.map fun(n,k)=>if (k==NameKind.free && env.scope.kind==.function && env.kindOf n==some .cell) then (n,NameKind.cell) else (n,k)).lookup x=some .cell∨
  (names.map fun(n,k)=>if (k==NameKind.free && env.scope.kind==.function && env.kindOf n==some .cell) then (n,NameKind.cell) else (n,k)).lookup x=some .free
 | [],_,h=>by simp at h
 | (n,k)::r,x,h=>by
  have ih:=@lookup_relabel_free env r x
  show List.lookup x ((if (k==NameKind.free && env.scope.kind==.function && env.kindOf n==some .cell)=true then (n,NameKind.cell) else (n,k))::_)=_∨List.lookup x ((if (k==NameKind.free && env.scope.kind==.function && env.kindOf n==some .cell)=true then (n,NameKind.cell) else (n,k))::_)=_
  cases hx:x==n with
  | true=>
   simp only[List.lookup_cons,hx] at h
   cases h
   by_cases hc:(NameKind.free==NameKind.free && env.scope.kind==.function && env.kindOf n==some .cell)=true
   ·rw[if_pos hc];left;simp [List.lookup_cons,hx]
   ·rw[if_neg hc];right;simp [List.lookup_cons,hx]
  | false=>
   simp only[List.lookup_cons,hx] at h
   by_cases hc:(k==NameKind.free && env.scope.kind==.function && env.kindOf n==some .cell)=true
   ·rw[if_pos hc];simp only[List.lookup_cons,hx];exact ih h
   ·rw[if_neg hc];simp only[List.lookup_cons,hx];exact ih h
theorem relabel_back {env:Env}:∀{names:List (Str×NameKind)} {x:Str},
  ((names.map fun(n,k)=>if (k==NameKind.free && env.scope.kind==.function && env.kindOf n==some .cell) then (n,NameKind.cell) else (n,k)).lookup x=some .cell∨
  (names.map fun(n,k)=>if (k==NameKind.free && env.scope.kind==.function && env.kindOf n==some .cell) then (n,NameKind.cell) else (n,k)).lookup x=some .free)→(x,NameKind.free)∈names∨(x,NameKind.cell)∈names
 | [],_,h=>by simp at h
 | (n,k)::r,x,h=>by
  have ih:=@relabel_back env r x
  have up:((x,NameKind.free)∈r∨(x,NameKind.cell)∈r)→((x,NameKind.free)∈(n,k)::r∨(x,NameKind.cell)∈(n,k)::r):=fun z=>z.imp (List.mem_cons_of_mem _) (List.mem_cons_of_mem _)
  have h:List.lookup x ((if (k==NameKind.free && env.scope.kind==.function && env.kindOf n==some .cell)=true then (n,NameKind.cell) else (n,k))::_)=_∨List.lookup x ((if (k==NameKind.free && env.scope.kind==.function && env.kindOf n==some .cell)=true then (n,NameKind.cell) else (n,k))::_)=_:=h
  cases hx:x==n with
  | true=>
   have e1:x=n:=by simpa using hx
   subst e1
   by_cases hc:(k==NameKind.free && env.scope.kind==.function && env.kindOf x==some .cell)=true
   ·have:k=.free:=by
     simp only[Bool.and_eq_true] at hc
     simpa using hc.1.1
    subst this
    exact .inl List.mem_cons_self
   ·rw[if_neg hc] at h
    simp only[List.lookup_cons,hx] at h
    rcases h with h | h
    ·cases h;exact .inr List.mem_cons_self
    ·cases h;exact .inl List.mem_cons_self
  | false=>
   by_cases hc:(k==NameKind.free && env.scope.kind==.function && env.kindOf n==some .cell)=true
   ·rw[if_pos hc] at h;simp only[List.lookup_cons,hx] at h;exact up (ih h)
   ·rw[if_neg hc] at h;simp only[List.lookup_cons,hx] at h;exact up (ih h)
theorem cells_own:∀(names:List (Str×NameKind)) (h:Heap) (acc:List (Str×Addr)) (x:Str) (c:Addr),(x,c)∈cellsFrom h.objs.size names acc→
  (x,c)∈acc∨(h.objs.size≤c∧(pushCells h names).IsCell c none∧(x,NameKind.cell)∈names)
 | [],h,acc,x,c,m=>.inl m
 | (n,k)::r,h,acc,x,c,m=>by
  unfold cellsFrom at m
  unfold pushCells
  by_cases hk:(k==NameKind.cell)=true
  ·rw[if_pos hk] at m ⊢
   have ih:=cells_own r (h.push {cls:=.type "cell",data:=.cell none}) ((n,h.objs.size)::acc) x c
   rw[Heap.size_push] at ih
   rcases ih m with m | ⟨q1,q2,q3⟩
   ·rcases List.mem_cons.mp m with e | m
    ·cases e
     have hk:k=.cell:=by simpa using hk
     subst hk
     refine .inr ⟨Nat.le_refl _,?_,List.mem_cons_self⟩
     have q:(h.push {cls:=.type "cell",data:=.cell none}).IsCell h.objs.size none:=⟨_,Heap.get?_push_size _ rfl,rfl⟩
     exact q.keeps fun b o e=>pushCells_keeps r _ b o e
    ·exact .inl m
   ·exact .inr ⟨by omega,q2,List.mem_cons_of_mem _ q3⟩
  ·rw[if_neg hk] at m ⊢
   rcases cells_own r h acc x c m with m | ⟨q1,q2,q3⟩
   ·exact .inl m
   ·exact .inr ⟨q1,q2,List.mem_cons_of_mem _ q3⟩
theorem cells_inj:∀(names:List (Str×NameKind)) (n lo:Nat) (acc:List (Str×Addr)),(∀x c,(x,c)∈acc→c<n)→(∀x y c,lo≤c→(x,c)∈acc→(y,c)∈acc→x=y)→
  ∀x y c,lo≤c→(x,c)∈cellsFrom n names acc→(y,c)∈cellsFrom n names acc→x=y
 | [],n,lo,acc,h1,h2,x,y,c,hl,m1,m2=>h2 x y c hl m1 m2
 | (z,k)::r,n,lo,acc,h1,h2,x,y,c,hl,m1,m2=>by
  unfold cellsFrom at m1 m2
  by_cases hk:(k==NameKind.cell)=true
  ·rw[if_pos hk] at m1 m2
   refine cells_inj r (n+1) lo _ (fun x c m=>?_) (fun x y c hl m1 m2=>?_) x y c hl m1 m2
   ·rcases List.mem_cons.mp m with e | m
    ·cases e;exact Nat.lt_succ_self _
    ·exact Nat.lt_succ_of_lt (h1 x c m)
   ·rcases List.mem_cons.mp m1 with e1 | m1 <;>rcases List.mem_cons.mp m2 with e2 | m2
    ·cases e1;cases e2;rfl
    ·cases e1;exact absurd (h1 _ _ m2) (Nat.lt_irrefl _)
    ·cases e2;exact absurd (h1 _ _ m1) (Nat.lt_irrefl _)
    ·exact h2 x y c hl m1 m2
  ·rw[if_neg hk] at m1 m2
   exact cells_inj r n lo acc h1 h2 x y c hl m1 m2
theorem cells_skip:∀(names:List (Str×NameKind)) (n:Nat) (acc:List (Str×Addr)) (x:Str),(x,NameKind.cell)∉names→(cellsFrom n names acc).lookup x=acc.lookup x
 | [],n,acc,x,_=>rfl
 | (z,k)::r,n,acc,x,h=>by
  have hr:(x,NameKind.cell)∉r:=fun m=>h (List.mem_cons_of_mem _ m)
  unfold cellsFrom
  by_cases hk:(k==NameKind.cell)=true
  ·rw[if_pos hk,cells_skip r _ _ x hr,List.lookup_cons]
   have hk:k=.cell:=by simpa using hk
   subst hk
   have:(x==z)=false:=by
    cases q:x==z with
    | false=>rfl
    | true=>
     have e:x=z:=by simpa using q
     subst e
     exact absurd List.mem_cons_self h
   rw[this]
  ·rw[if_neg hk]
   exact cells_skip r n acc x hr
theorem cells_has:∀(names:List (Str×NameKind)) (n:Nat) (acc:List (Str×Addr)) (x:Str),((x,NameKind.cell)∈names∨(acc.lookup x).isSome=true)→((cellsFrom n names acc).lookup x).isSome=true
 | [],n,acc,x,h=>by
  rcases h with h | h
  ·simp at h
  ·exact h
 | (z,k)::r,n,acc,x,h=>by
  unfold cellsFrom
  by_cases hk:(k==NameKind.cell)=true
  ·rw[if_pos hk]
   refine cells_has r _ _ x ?_
   rcases h with h | h
   ·rcases List.mem_cons.mp h with e | h
    ·cases e
     right
     rw[List.lookup_cons]
     simp
    ·exact .inl h
   ·right
    rw[List.lookup_cons]
    cases q:x==z with
    | true=>rfl
    | false=>exact h
  ·rw[if_neg hk]
   refine cells_has r _ _ x ?_
   rcases h with h | h
   ·rcases List.mem_cons.mp h with e | h
    ·cases e;exact absurd rfl hk
    ·exact .inl h
   ·exact .inr h
section
variable {M : Model} {A : Around} {E : Value → Shared → Prop} {s : Shared}
theorem wpAny_newEnv_comp {scope:Scope} {globals:Addr} {closure:List (Str×Addr)} {qual:Str} {func:Option Addr} {code:Value} {outer:Env} {Q:Env→Shared→Prop}
  (hQ:Q (newEnv scope s.heap.objs.size globals (cellsFrom (s.heap.objs.size+1) scope.names closure) qual func code (some outer) builtinsNs)
   {s with heap:=pushCells (s.heap.push {cls:=.type "dict",data:=.dict #[]}) scope.names}):
  wpAny M A (newFunctionEnv scope globals closure [] qual func code (some outer)) Q E s:=by
 simp only[newFunctionEnv,Option.isSome_some,if_true]
 refine wpAny_bind (wpAny_alloc ?_)
 refine wpAny_bind (wpAny_layCells _ (fun name kind cells=>by cases hkc:kind==NameKind.cell <;>simp [hkc]) _ _ _ _ ?_)
 rw[show({s with heap:=s.heap.push {cls:=.type "dict",data:=.dict #[]}}:Shared).heap.objs.size=s.heap.objs.size+1 from Heap.size_push ..]
 refine wpAny_bind ?_
 rw[List.forIn_nil]
 exact wpAny_pure (wpAny_pure hQ)
end
structure BlkC (X:Cx) (scope:Scope) (cl:List (Str×Addr)) (lo:Nat) (C:Addr) (h1:Heap):Prop where
 old:∀x c,cl.lookup x=some c→X.env.cells.lookup x=some c∨(lo≤c∧C<c∧h1.IsCell c none)
 inj:∀x y c,C<c→cl.lookup x=some c→cl.lookup y=some c→x=y
 has:∀n,(n,NameKind.free)∈scope.names∨(n,NameKind.cell)∈scope.names→∃c,cl.lookup n=some c
 fre:∀n,scope.names.lookup n=some .free→∀c,cl.lookup n=some c→X.env.cells.lookup n=some c
 own:∀x c,scope.names.lookup x=some .cell→cl.lookup x=some c→lo≤c
section
variable {X : Cx} {pins : List (Addr × Obj)} {σ : St} {H : Hp} {s : Shared} {N' : List Str} {scope : Scope} {k : Nat} {fr : List Nat} {cl : List (Str × Addr)}
theorem compOk {C:Addr} {fp:List Addr} {h1:Heap} (I:Inv X pins σ H s) (S:CompScope X.N X.env.scope N' scope k fr) (B:BlkC X scope cl s.heap.objs.size C h1)
  (hC:s.heap.objs.size≤C) (f2:∀b∈fp,FpOk X pins H b) (lt:∀b∈fp,b<s.heap.objs.size):(cxC X N' scope cl C s H fp).Ok where
 mod:=I.ok.mod
 kind:=S.kind
 glob:=I.ok.glob
 blt:=I.ok.blt
 above:=hC
 inj:=fun x y c h1 h2=>by
  rcases B.old _ _ h1 with o1 | o1 <;>rcases B.old _ _ h2 with o2 | o2
  ·exact I.ok.inj x y c o1 o2
  ·exact B.inj x y c o2.2.1 h1 h2
  ·exact B.inj x y c o1.2.1 h1 h2
  ·exact B.inj x y c o1.2.1 h1 h2
 has:=fun x hx=>B.has x (relabel_back hx)
 cab:=fun x c z e=>B.own x c (by
  have z:(scope.names.lookup x==some NameKind.cell)=true:=z
  simpa using z) e
 hd:=I.ok.hd
 frames:=I.ok.frames
 stk:=.inl rfl
 exf:=fun b hb=>⟨Nat.ne_of_lt (Nat.lt_of_lt_of_le (lt b hb) hC),fun x c e=>(B.old _ _ e).elim (fun o=>(f2 b hb).2.2.2.2.1 x c o) fun o=>Nat.ne_of_gt (Nat.lt_of_lt_of_le (lt b hb) o.1)⟩
 bs:=I.bs
 bsz:=Nat.le_trans I.ok.bsz I.sz
 noex:=fun b o e hb=>by
  rcases(f2 b hb).2.2.2.1 with z | z
  ·exact I.ok.noex b o e z
  ·exact absurd (Nat.lt_of_lt_of_le (Heap.lt_size e) (Nat.le_trans I.ok.bsz z)) (Nat.lt_irrefl _)
 exfs:=fun b hb z=>by
  rcases List.mem_cons.mp (I.stkSub b z) with q | q
  ·exact(f2 b hb).2.1 q
  ·exact(f2 b hb).2.2.1 q
 funs:=I.stack
 frf:=I.stkFree
theorem compInv {C:Addr} {fp:List Addr} {h1:Heap} {tk:Nat} {m:Str→Option Value} (I:Inv X pins σ H s) (S:CompScope X.N X.env.scope N' scope k fr) (B:BlkC X scope cl s.heap.objs.size C h1)
  (hC:s.heap.objs.size≤C) (f2:∀b∈fp,FpOk X pins H b) (lt:∀b∈fp,b<s.heap.objs.size) (old:∀b o,s.heap.get? b=some o→h1.get? b=some o) (hn:h1.Ns C m):
  Inv (cxC X N' scope cl C s H fp) [] (stC k fr σ) H {s with heap:=h1,toks:=tk}:=by
 refine⟨compOk I S B hC f2 lt,rfl,I.bare,Un.kept old,⟨m,hn,fun i x v e1 e2 e3=>?_⟩,fun x c e=>?_,I.hok.fresh hC,fun x c e=>(B.old _ _ e).elim (fun o=>I.freeC x c o) fun o=>I.hok.fresh o.1,fun p hp=>absurd (show p∈([]:List (Addr×Obj)) from hp) (by simp),I.hok.kept old,?_⟩
 ·have e1:N'[i]?=some x:=e1
  unfold stC at e2
  by_cases hi:i<k
  ·rw[List.getElem?_append_left (by simpa using hi),List.getElem?_replicate,if_pos hi] at e2
   cases e2
  ·rw[List.getElem?_append_right (by simpa using hi),List.length_replicate,List.getElem?_map] at e2
   cases q:fr[i - k]? with
   | none=>rw[q] at e2;cases e2
   | some j=>
    rw[q] at e2
    have e2:(σ[j]?).join=some v:=Option.some.inj e2
    have ej:σ[j]?=some (some v):=by
     cases z:σ[j]? with
     | none=>rw[z] at e2;cases e2
     | some o=>rw[z] at e2;exact congrArg some e2
    have hlt:i - k<fr.length:=(List.getElem?_eq_some_iff.mp q).1
    have hat:=S.at_ (i - k) hlt
    rw[q,show k+ (i - k)=i by omega,e1] at hat
    have hat:X.N[j]?=some x:=hat
    have hxm:x∈N'.drop k:=List.mem_iff_getElem?.mpr ⟨i - k,by rw[List.getElem?_drop,show k+ (i - k)=i by omega];exact e1⟩
    have hfr:=S.fre x hxm
    have hmem:(x,NameKind.free)∈scope.names:=PySem.mem_of_lookup hfr
    have hout:=S.outer _ hmem rfl
    obtain⟨m0,hn0,hl0⟩:=I.loc
    obtain⟨u,r,l⟩:=hl0 j x v hat ej (.inr hout)
    refine⟨u,r,.inr ⟨lookup_relabel_free hfr,?_⟩⟩
    rcases l with ⟨kk,_⟩ | ⟨_,c,e,z⟩
    ·have kk:X.env.scope.names.lookup x=some .local:=kk
     rcases hout with q1 | q1
     ·rw[kk] at q1;cases q1
     ·rw[kk] at q1;cases q1
    ·obtain⟨c',e'⟩:=B.has x (.inl hmem)
     have ec:=B.fre x hfr _ e'
     rw[e] at ec
     cases ec
     obtain⟨ob,ho,hd⟩:=z
     exact⟨c,e',ob,old _ _ ho,hd⟩
 ·rcases B.old _ _ e with o | o
  ·obtain⟨v,ob,ho,hd⟩:=I.cell x c o
   exact⟨v,ob,old _ _ ho,hd⟩
  ·exact⟨none,o.2.2⟩
 ·unfold stC
  rw[List.length_append,List.length_replicate,List.length_map]
  exact S.len.symm
end
section
variable {prog : Program} {w : World} {A : Around} {E : Value → Shared → Prop} {R : Result → Shared → Prop} {s : Shared}
theorem codeAny_compLoop_any {elt target iter:Expr} {ifs:List Expr} {scope:Scope} {pos:Pos} {it acc:Value} {env:Env} (I:Nat→Shared→Prop)
  (turn:∀n s,I n s→wpAny (model prog w) A (pyNext it) (fun r s₁=>match r with
   | none=>R (.ok .next) s₁
   | some v=>wpAny (model prog w) A (letOwnedTupleGo target it v) (fun _ s₁'=>wpAny (model prog w) A (assign target env v) (fun _ s₂=>
     wpAny (model prog w) A (forIn ifs true fun c r=>if r=true then do let ok ←isTrue c env (eval c env);pure (ForInStep.yield ok) else pure (ForInStep.yield r)) (fun ok s₃=>
      if ok=true then wpAny (model prog w) A (eval elt env) (fun x s₄=>
       wpAny (model prog w) A (call (.builtin "list.append") [acc,x]) (fun _ s₅=>∃m,m<n∧I m s₅) (fun _ _=>False) s₄) (notedBy (model prog w) A env fun x s'=>R (.error x) s') s₃
      else ∃m,m<n∧I m s₃) (fun _ _=>False) s₂) (fun _ _=>False) s₁') (fun _ _=>False) s₁) (fun _ _=>False) s)
  (n:Nat) (h:I n s):
  codeAny (model prog w) A (.compLoop (.ListComp elt [⟨target,iter,ifs,0⟩] scope pos) 0 it acc env) R s:=by
 refine codeAny_loop rfl I (fun n s hI=>?_) n h
 show wpAny _ A ((compTurn (.ListComp elt [⟨target,iter,ifs,0⟩] scope pos) 0 it acc env).onRaise (fun x=>do noteFrame x env;theTreesLotGoes x)) _ _ s
 refine wpAny_noted ?_
 rw[compTurn_list]
 refine wpAny_bind (wpAny_standAt (wpAny_bind (wpAny_mono (turn n s hI) (fun r s₁ h₁=>?_) fun _ _ h'=>h'.elim)))
 cases r with
 | none=>exact wpAny_pure h₁
 | some v=>
  refine wpAny_bind (wpAny_mono h₁ (fun _ s₁' h₁'=>?_) fun _ _ h'=>h'.elim)
  refine wpAny_bind (wpAny_mono h₁' (fun _ s₂ h₂=>wpAny_bind (wpAny_mono h₂ (fun ok s₃ h₃=>?_) fun _ _ h'=>h'.elim)) fun _ _ h'=>h'.elim)
  cases ok with
  | false=>exact wpAny_pure ⟨rfl,h₃⟩
  | true=>
   exact wpAny_bind (wpAny_bind (wpAny_mono h₃ (fun x s₄ h₄=>wpAny_bind (wpAny_mono h₄ (fun _ s₅ h₅=>wpAny_pure (wpAny_pure ⟨rfl,h₅⟩)) fun _ _ h'=>h'.elim)) fun _ _ h'=>h'))
end
noncomputable def PTs (X:Cx) (ifs:List Expr) (t:TT):Prop:=
 ∀(pins:List (Addr×Obj)) (s:Shared) (σ:St) (H:Hp) (Q:Bool→Hp→Prop),Inv X pins σ H s→t σ H Q→
  wpAny (model X.prog X.w) X.A (forIn ifs true fun c r=>if r=true then do let ok ←isTrue c X.env (eval c X.env);pure (ForInStep.yield ok) else pure (ForInStep.yield r)) (TP X pins σ Q) X.xe s
noncomputable def tYes:TT:=fun _ H Q=>Q true H
theorem pts_nil {X:Cx}:PTs X [] tYes:=fun _ _ _ H _ I h=>wpAny_tests_nil ⟨H,I,h⟩
theorem pts_one {X:Cx} {c:Expr} {t:TT} (h:PT X c t):PTs X [c] t:=fun pins s σ H Q I hq=>wpAny_tests_one (h pins s σ H Q I hq)
section
variable {X : Cx}
noncomputable def tBlock (J:It) (g:TG) (tc:TT) (te:TE) (σ0:St) (H1:Hp) (fin:List V→Hp→Prop):Prop:=
 ∃W:Nat→Nat→List V→St→Hp→Prop,(∃m,W 0 m [] σ0 H1)∧∀i m ys σ2 H2,W i m ys σ2 H2→
  (J.stop i H2∧fin ys H2)∨
  (J.go i H2∧∀x H3,J.yld i H2 x H3→g x σ2 H3 fun σ3 H4=>tc σ3 H4 fun b H5=>if b=true then te σ3 H5 fun y H6=>ys.length<sizeLine∧∃m',m'<m∧W (i+1) m' (ys++ [y]) σ3 H6 else ∃m',m'<m∧W (i+1) m' ys σ3 H5)
noncomputable def lstObj (its:List Value) (n:Nat):Obj:={cls:=.type "list",data:=.seq its.toArray n}
theorem block_in {elt target iter:Expr} {ifs:List Expr} {scope:Scope} {pos:Pos} {g:TG} {tc:TT} {te:TE} {k:Nat} {fr:List Nat} {N':List Str} {cl:List (Str×Addr)} {pins:List (Addr×Obj)} {σ:St} {H2:Hp} {s2:Shared}
  {it:Addr} {fp:List Addr} {tn:Nat→Heap→Prop} {J:It} {fin:List V→Hp→Prop} {R0:Result→Shared→Prop} {XE:List (Str×Addr)→Addr→Shared→Hp→List Addr→Value→Shared→Prop}
  (hc:X.calm=true) (S:CompScope X.N X.env.scope N' scope k fr) (c1:∀x c,cl.lookup x=some c→X.env.cells.lookup x=some c) (c2:∀n,(n,NameKind.free)∈scope.names→∃c,cl.lookup n=some c) (cin:∀x c,(x,c)∈cl→∃y,X.env.cells.lookup y=some c) (cno:∀x,(x,NameKind.cell)∈scope.names→∀c,(x,c)∉cl)
  (hg:∀cl C s H ex,PG (cxC X N' scope cl C s H ex) target g) (ht:∀cl C s H ex,PTs (cxC X N' scope cl C s H ex) ifs tc) (he:∀cl C s H ex,PE ((cxC X N' scope cl C s H ex).wish (XE cl C s H ex)) elt te)
  (I2:Inv X pins σ H2 s2) (T:Turn X.prog X.w X.K target J fp it tn) (st2:tn 0 s2.heap) (f2:∀b∈fp,FpOk X pins H2 b) (hb:tBlock J g tc te (stC k fr σ) H2 fin)
  (hR:∀(C:Addr),C=(s2.heap.push {cls:=.type "list",dict:=none,data:=.seq ([]:List Value).toArray}).objs.size→∀(s':Shared) (m:Str→Option Value) (ys:List V) (its:List Value) (n:Nat) (H':Hp),s2.heap.objs.size<C→s'.heap.Ns C m→Vals ys its→ys.length≤sizeLine→s'.heap.get? s2.heap.objs.size=some (lstObj its n)→H' s2.heap.objs.size=none→H' C=none→fin ys H'→
   s'.os=s2.os→AllBare s'.gens→Un (frs X.stack) fp H2 H' s2.heap s'.heap→HOk X.prog X.w H' s'.heap→R0 (.ok .next) s')
  (hE:∀cl C x s',C=(s2.heap.push {cls:=.type "list",dict:=none,data:=.seq ([]:List Value).toArray}).objs.size→s2.heap.objs.size<C→XE cl C s2 H2 fp x s'→notedBy (model X.prog X.w) X.A (compEnvC scope cl C X.env) (fun y s''=>R0 (.error y) s'') x s'):
  codeAny (model X.prog X.w) X.A (.compStart (.ListComp elt [⟨target,iter,ifs,0⟩] scope pos) 0 (.ref it) (.ref s2.heap.objs.size) (compEnvC scope (cellsFrom ((s2.heap.push {cls:=.type "list",dict:=none,data:=.seq ([]:List Value).toArray}).objs.size+1) scope.names cl) (s2.heap.push {cls:=.type "list",dict:=none,data:=.seq ([]:List Value).toArray}).objs.size X.env)) R0 {s2 with heap:=pushCells ((s2.heap.push {cls:=.type "list",dict:=none,data:=.seq ([]:List Value).toArray}).push {cls:=.type "dict",data:=.dict #[]}) scope.names}:=by
 obtain⟨W,⟨m0,w0⟩,turn⟩:=hb
 have lt:∀b∈fp,b<s2.heap.objs.size:=fun b hb=>by
  obtain⟨o,e,_⟩:=T.obj _ _ st2 b hb
  exact Heap.lt_size e
 generalize hH2:s2.heap.push {cls:=.type "list",dict:=none,data:=.seq ([]:List Value).toArray}=G2 at hR hE ⊢
 have hCs:G2.objs.size=s2.heap.objs.size+1:=by rw[←hH2,Heap.size_push]
 have hDC:s2.heap.objs.size≠G2.objs.size:=by rw[hCs];exact Nat.ne_of_lt (Nat.lt_succ_self _)
 have hC:s2.heap.objs.size≤G2.objs.size:=by rw[hCs];exact Nat.le_succ _
 have old:∀b o,s2.heap.get? b=some o→(pushCells (G2.push {cls:=.type "dict",data:=.dict #[]}) scope.names).get? b=some o:=fun b o e=>by
  refine pushCells_keeps _ _ b o (Heap.get?_push_of_some _ ?_)
  rw[←hH2]
  exact Heap.get?_push_of_some _ e
 have hacc:(pushCells (G2.push {cls:=.type "dict",data:=.dict #[]}) scope.names).get? s2.heap.objs.size=some (lstObj [] 0):=by
  refine pushCells_keeps _ _ _ _ (Heap.get?_push_of_some _ ?_)
  rw[←hH2]
  exact Heap.get?_push_size _ rfl
 have hns₁:(pushCells (G2.push {cls:=.type "dict",data:=.dict #[]}) scope.names).Ns G2.objs.size fun _=>none:=(Heap.Ns.new G2 (.type "dict")).keeps (pushCells_keeps _ _)
 have cl0:∀x c,(x,c)∈cl→c<G2.objs.size+1:=fun x c m=>by
  obtain⟨y,hy⟩:=cin x c m
  obtain⟨v,q⟩:=I2.cell y c hy
  rw[hCs]
  exact Nat.lt_succ_of_lt (Nat.lt_succ_of_lt q.lt)
 have B:BlkC X scope (cellsFrom (G2.objs.size+1) scope.names cl) s2.heap.objs.size G2.objs.size (pushCells (G2.push {cls:=.type "dict",data:=.dict #[]}) scope.names):=by
  have own:=cells_own scope.names (G2.push {cls:=.type "dict",data:=.dict #[]}) cl
  rw[Heap.size_push] at own
  refine⟨fun x c e=>?_,fun x y c hc h1 h2=>?_,fun n hn=>?_,fun n hn c e=>?_,fun x c hx e=>?_⟩
  ·by_cases hx:(x,NameKind.cell)∈scope.names
   ·rcases own x c (PySem.mem_of_lookup e) with m | ⟨q1,q2,_⟩
    ·
     exfalso
     exact cno x hx c m
    ·exact .inr ⟨Nat.le_trans hC (Nat.le_of_succ_le q1),q1,q2⟩
   ·rw[cells_skip _ _ _ _ hx] at e
    exact .inl (c1 x c e)
  ·exact cells_inj scope.names (G2.objs.size+1) (G2.objs.size+1) cl cl0 (fun x y c hl m1 _=>absurd (cl0 x c m1) (Nat.not_lt.mpr hl)) x y c hc (PySem.mem_of_lookup h1) (PySem.mem_of_lookup h2)
  ·refine Option.isSome_iff_exists.mp (cells_has _ _ _ n ?_)
   rcases hn with hn | hn
   ·obtain⟨c,e⟩:=c2 n hn
    exact .inr (by rw[e];rfl)
   ·exact .inl hn
  ·have hx:(n,NameKind.cell)∉scope.names:=fun m=>by
    have:=(S.cels _ m rfl).1
    rw[hn] at this
    cases this
   rw[cells_skip _ _ _ _ hx] at e
   exact c1 n c e
  ·have hx:=PySem.mem_of_lookup hx
   rcases own x c (PySem.mem_of_lookup e) with m | ⟨q1,q2,_⟩
   ·exact absurd m (cno x hx c)
   ·exact Nat.le_trans hC (Nat.le_of_succ_le q1)
 generalize pushCells (G2.push {cls:=.type "dict",data:=.dict #[]}) scope.names=h₁ at *
 generalize cellsFrom (G2.objs.size+1) scope.names cl=cl2 at *
 generalize hDd:s2.heap.objs.size=D at *
 generalize hCc:G2.objs.size=C at *
 have fD:H2 D=none:=by rw[←hDd];exact I2.hok.fresh (Nat.le_refl _)
 have cells:∀x c,cl2.lookup x=some c→c≠D:=fun x c e=>by
  rcases B.old _ _ e with o | o
  ·obtain⟨v,q⟩:=I2.cell x c o
   rw[←hDd]
   exact Nat.ne_of_lt q.lt
  ·exact Nat.ne_of_gt (Nat.lt_trans (by rw[hCs];exact Nat.lt_succ_self _) o.2.1)
 have loop:∀(itv:Addr) (s3:Shared),itv=it→(∃tk,s3={s2 with heap:=h₁,toks:=tk})→
   codeAny (model X.prog X.w) X.A (.compLoop (.ListComp elt [⟨target,iter,ifs,0⟩] scope pos) 0 (.ref itv) (.ref D) (compEnvC scope cl2 C X.env)) R0 s3:=by
  rintro itv s3 rfl ⟨tk,rfl⟩
  have I3:Inv (cxC X N' scope cl2 C s2 H2 fp) [] (stC k fr σ) H2 {s2 with heap:=h₁,toks:=tk}:=compInv I2 S (by rw[hDd];exact B) (by rw[hDd];exact hC) f2 (by rw[hDd];exact lt) old hns₁
  have stat:∀{H':Hp} {o:Obj},(∀b∈fp,H' b=none)→∀b∈fp,FpOk (cxC X N' scope cl2 C s2 H2 fp) [(D,o)] H' b:=fun {H' o} hn b hb=>
   ⟨hn b hb,Nat.ne_of_lt (Nat.lt_of_lt_of_le (lt b hb) hC),fun z=>by
    rcases List.mem_cons.mp (I2.stkSub b z) with q | q
    ·exact(f2 b hb).2.1 q
    ·exact(f2 b hb).2.2.1 q,.inl hb,fun x c e=>(B.old _ _ e).elim (fun o=>(f2 b hb).2.2.2.2.1 x c o) (fun o=>Nat.ne_of_gt (Nat.lt_of_lt_of_le (lt b hb) o.1)),fun p hp=>by
    have e:p=(D,o):=by simpa [cxC] using hp
    rw[e]
    exact Nat.ne_of_gt (lt b hb)⟩
  have addD:∀{σ':St} {H':Hp} {s':Shared} {o:Obj},Inv (cxC X N' scope cl2 C s2 H2 fp) [] σ' H' s'→s'.heap.get? D=some o→H' D=none→(∀v,o.data≠.cell v)→Inv (cxC X N' scope cl2 C s2 H2 fp) [(D,o)] σ' H' s':=fun {σ' H' s' o} I' e n hd=>
   I'.pins_of fun p hp=>by
    have q:p=(D,o):=by simpa using hp
    subst q
    refine⟨e,n,hDC,fun z=>?_,hd⟩
    obtain⟨_,ob,ho,_⟩:=I2.stack.mem z
    exact absurd (Heap.lt_size ho) (by rw[hDd];exact Nat.lt_irrefl _)
  have ndL:∀{its:List Value} {n:Nat} (v:Option Value),(lstObj its n).data≠.cell v:=fun v z=>by
   have z:Data.seq _ _=Data.cell v:=z
   cases z
  refine codeAny_compLoop_any (fun n s'=>∃i ys σ' H' its cap,Inv (cxC X N' scope cl2 C s2 H2 fp) [] σ' H' s'∧tn i s'.heap∧(∀b∈fp,H' b=none)∧s'.heap.get? D=some (lstObj its cap)∧H' D=none∧Vals ys its∧ys.length≤sizeLine∧W i n ys σ' H') ?_ m0
   ⟨0,[],_,H2,[],0,I3,T.keep _ _ _ st2 (fun b _ o e=>old b o e),fun b hb=>(f2 b hb).1,hacc,fD,.nil,Nat.zero_le _,w0⟩
  rintro n s4 ⟨i,ys,σ4,H4,its,cap,I4,st4,fr4,hD4,nD4,vl4,sz4,w4⟩
  have I4':=addD I4 hD4 nD4 ndL
  rcases turn i n ys σ4 H4 w4 with ⟨stop,qf⟩ | ⟨go,step⟩
  ·refine thn (T.done (cxC X N' scope cl2 C s2 H2 fp) rfl rfl rfl hc i _ s4 σ4 H4 _ I4' (stat fr4) st4 stop) fun r s5 ⟨hr,I5⟩=>?_
   subst hr
   obtain⟨m5,hn5,_⟩:=I5.loc
   exact hR C rfl s5 m5 ys its cap H4 (by rw[hCs];exact Nat.lt_succ_self _) hn5 vl4 sz4 (I5.pin (D,lstObj its cap) (List.mem_append_right _ List.mem_cons_self)).1 nD4 I5.free qf I5.os I5.bare I5.base I5.hok
  ·refine thn (T.item (cxC X N' scope cl2 C s2 H2 fp) rfl rfl rfl hc i _ s4 σ4 H4 _ I4' (stat fr4) st4 go) fun r s5 ⟨u,hr,h5⟩=>?_
   subst hr
   refine thn h5 fun _ s6 hh_=>?_
   obtain⟨x,H6,I6,r6,y6,st6,fr6⟩:=hh_
   have I6':=I6.pinned (stat fr6) (T.obj _ _ st6)
   refine thn (hg cl2 C s2 H2 fp _ s6 σ4 H6 x u _ I6' r6 (step x H6 y6)) fun _ s7 ⟨σ7,H7,I7,q7⟩=>?_
   refine thn (ht cl2 C s2 H2 fp _ s7 σ7 H7 _ I7 q7) fun ok s8 ⟨H8,I8,q8⟩=>?_
   have back:∀{σ':St} {H':Hp} {s':Shared},Inv (cxC X N' scope cl2 C s2 H2 fp) ([(D,lstObj its cap)]++pinsAt fp s6.heap) σ' H' s'→tn (i+1) s'.heap∧(∀b∈fp,H' b=none)∧s'.heap.get? D=some (lstObj its cap)∧H' D=none:=fun {σ' H' s'} I'=>by
    have pD:=I'.pin (D,lstObj its cap) (List.mem_append_right _ (List.mem_append_left _ (by simp)))
    refine⟨T.keep _ _ _ st6 fun b hb o e=>(I'.pin (b,o) (List.mem_append_right _ (List.mem_append_right _ (mem_pinsAt hb e)))).1,fun b hb=>?_,pD.1,pD.2.1⟩
    obtain⟨o,e,d⟩:=T.obj _ _ st6 b hb
    exact(I'.pin (b,o) (List.mem_append_right _ (List.mem_append_right _ (mem_pinsAt hb e)))).2.1
   cases ok with
   | false=>
    rw[if_neg Bool.false_ne_true]
    rw[if_neg Bool.false_ne_true] at q8
    obtain⟨m',hm,w8⟩:=q8
    obtain⟨b1,b2,b3,b4⟩:=back I8
    exact⟨m',hm,i+1,ys,σ7,H8,its,cap,I8.pins_of (fun p hp=>absurd hp (by simp)),b1,b2,b3,b4,vl4,sz4,w8⟩
   | true=>
    rw[if_pos rfl]
    rw[if_pos rfl] at q8
    refine wpAny_mono (he cl2 C s2 H2 fp _ s8 σ7 H8 _ (I8.wish _) q8) (fun y s9 ⟨z,H9,I9,r9,hlt,m',hm,w9⟩=>?_) fun x s' hx=>hE cl2 C x s' rfl (by rw[hCs];exact Nat.lt_succ_self _) hx
    have I9:=I9.unwish
    obtain⟨b1,b2,b3,b4⟩:=back I9
    have hl:=vl4.length
    refine call_meets F.slot_list_append ⟨_,b3,rfl⟩ F.entry_list_append (F.args_list_append_2 _ _) (PySem.list_append D its.toArray cap y (by rw[List.size_toArray];omega)) ⟨b3,?_⟩
    obtain⟨c',q⟩:∃c',(s9.heap.update D (Obj.mapSeq fun x=>x.push y)).get? D=some (lstObj (its++ [y]) c'):=by
     have q:=PySem.IsL.update b3 (fun x=>x.push y)
     rw[show its.toArray.push y=(its++ [y]).toArray by simp] at q
     exact⟨_,q⟩
    have I9':Inv (cxC X N' scope cl2 C s2 H2 fp) [] σ7 H9 s9:=I9.pins_of (fun p hp=>absurd hp (by simp))
    have kp:∀b o,b≠D→s9.heap.get? b=some o→(s9.heap.update D (Obj.mapSeq fun x=>x.push y)).get? b=some o:=fun b o hb e=>(Heap.get?_update_other s9.heap (Obj.mapSeq fun x=>x.push y) (Ne.symm hb)).trans e
    have I10:=I9'.turned (t':=s9.toks) (it:=D) (h':=s9.heap.update D (Obj.mapSeq fun x=>x.push y)) kp b4 hDC (.inr (by show s2.heap.objs.size≤D;rw[hDd];exact Nat.le_refl _)) (fun x c e=>cells x c e) (fun p hp=>absurd hp (by simp [cxC]))
    refine⟨m',hm,i+1,ys++ [z],σ7,H9,its++ [y],c',I10,T.keep _ _ _ b1 (fun b hb o e=>kp b o (Nat.ne_of_lt (lt b hb)) e),b2,q,b4,vl4.append (.cons r9 .nil),?_,w9⟩
    ·rw[List.length_append,List.length_singleton]
     omega
 exact codeAny_compStart_list (loop it _ rfl ⟨_,rfl⟩) (T.self _ 0 _ _ _ (T.keep _ _ _ st2 (fun b _ o e=>old b o e)) (loop it _ rfl ⟨_,rfl⟩))
theorem block_run {elt target iter:Expr} {ifs:List Expr} {scope:Scope} {pos:Pos} {g:TG} {tc:TT} {te:TE} {k:Nat} {fr:List Nat} {N':List Str} {cl:List (Str×Addr)} {pins:List (Addr×Obj)} {σ:St} {H2:Hp} {s2:Shared}
  {it:Addr} {fp:List Addr} {tn:Nat→Heap→Prop} {J:It} {E:Value→Shared→Prop} {fin:List V→Hp→Prop} {RR:Value→Addr→Result→Shared→Prop} {XE:List (Str×Addr)→Addr→Shared→Hp→List Addr→Value→Shared→Prop}
  (hc:X.calm=true) (S:CompScope X.N X.env.scope N' scope k fr) (c1:∀x c,cl.lookup x=some c→X.env.cells.lookup x=some c) (c2:∀n,(n,NameKind.free)∈scope.names→∃c,cl.lookup n=some c) (cin:∀x c,(x,c)∈cl→∃y,X.env.cells.lookup y=some c) (cno:∀x,(x,NameKind.cell)∈scope.names→∀c,(x,c)∉cl)
  (hg:∀cl C s H ex,PG (cxC X N' scope cl C s H ex) target g) (ht:∀cl C s H ex,PTs (cxC X N' scope cl C s H ex) ifs tc) (he:∀cl C s H ex,PE ((cxC X N' scope cl C s H ex).wish (XE cl C s H ex)) elt te)
  (I2:Inv X pins σ H2 s2) (T:Turn X.prog X.w X.K target J fp it tn) (st2:tn 0 s2.heap) (f2:∀b∈fp,FpOk X pins H2 b) (hb:tBlock J g tc te (stC k fr σ) H2 fin)
  (hR:∀(C:Addr) (s':Shared) (m:Str→Option Value) (ys:List V) (its:List Value) (n:Nat) (H':Hp),s2.heap.objs.size<C→s'.heap.Ns C m→Vals ys its→ys.length≤sizeLine→s'.heap.get? s2.heap.objs.size=some (lstObj its n)→H' s2.heap.objs.size=none→H' C=none→fin ys H'→
   s'.os=s2.os→AllBare s'.gens→Un (frs X.stack) fp H2 H' s2.heap s'.heap→HOk X.prog X.w H' s'.heap→RR (.ref s2.heap.objs.size) C (.ok .next) s')
  (hE:∀cl C x s',s2.heap.objs.size<C→XE cl C s2 H2 fp x s'→notedBy (model X.prog X.w) X.A (compEnvC scope cl C X.env) (fun y s''=>RR (.ref s2.heap.objs.size) C (.error y) s'') x s'):
  wpAny (model X.prog X.w) X.A (newList []) (fun acc s₃=>wpAny (model X.prog X.w) X.A (newFunctionEnv scope X.env.globals cl [] X.env.qual none .none (some X.env)) (fun cenv s₄=>
   codeAny (model X.prog X.w) X.A (.compStart (.ListComp elt [⟨target,iter,ifs,0⟩] scope pos) 0 (.ref it) acc {cenv with scope:=relabel scope X.env}) (RR acc cenv.locals) s₄) E s₃) E s2:=by
 refine wpAny_newObj_type (wpAny_newEnv_comp ?_)
 exact block_in (R0:=RR _ _) hc S c1 c2 cin cno hg ht he I2 T st2 f2 hb (fun C e=>by subst e;exact hR _) (fun cl C x s' e=>by subst e;exact hE cl _ x s')
theorem comp_back {fp:List Addr} {pins:List (Addr×Obj)} {σ:St} {H2 H':Hp} {s2 s':Shared} {C:Addr} {ys:List V} {its:List Value} {n:Nat} {h':Heap} (I2:Inv X pins σ H2 s2) (f2:∀b∈fp,FpOk X pins H2 b) (hC:s2.heap.objs.size<C)
  (vl:Vals ys its) (sz:ys.length≤sizeLine) (hD:s'.heap.get? s2.heap.objs.size=some (lstObj its n)) (nD:H' s2.heap.objs.size=none) (nC:H' C=none)
  (os:s'.os=s2.os) (bare:AllBare s'.gens) (un:Un (frs X.stack) fp H2 H' s2.heap s'.heap) (hok:HOk X.prog X.w H' s'.heap) (hs:Heap.SameBut C s'.heap h'):
  Inv X pins σ (upd H' s2.heap.objs.size (.lst ys)) {s' with heap:=h'}:=by
 have ltC:∀b o,s2.heap.get? b=some o→b≠C:=fun b o e=>Nat.ne_of_lt (Nat.lt_trans (Heap.lt_size e) hC)
 have ltD:∀b o,s2.heap.get? b=some o→b≠s2.heap.objs.size:=fun b o e=>Nat.ne_of_lt (Heap.lt_size e)
 have tk:∀b u,H' b=some u→b≠s2.heap.objs.size:=fun b u e z=>by rw[z,nD] at e;cases e
 have tC:∀b u,H' b=some u→b≠C:=fun b u e z=>by rw[z,nC] at e;cases e
 have fD:H2 s2.heap.objs.size=none:=I2.hok.fresh (Nat.le_refl _)
 have t2:∀b u,H2 b=some u→b≠s2.heap.objs.size:=fun b u e z=>by rw[z,fD] at e;cases e
 refine I2.call' (s':={s' with heap:=h'}) (ch:=fp) os ⟨fun b o e m hb hx=>?_,fun b o e m hb hx=>?_,fun b o e m hx=>?_,fun b o e hx=>?_,fun b xs e=>?_,fun b o u e=>?_,fun b ps e=>?_⟩ (fun b u e=>?_) bare fun b hb=>?_
 ·exact(hs.2 b (ltC b o e)).trans (un.keep b o e m hb hx)
 ·obtain⟨sl,q⟩:=un.slot b o e m hb hx
  exact⟨sl,(hs.2 b (ltC b o e)).trans q⟩
 ·rw[upd_ne (ltD b o e)]
  exact un.free b o e m hx
 ·obtain⟨o',q⟩:=un.there b o e hx
  exact⟨o',(hs.2 b (ltC b o e)).trans q⟩
 ·rw[upd_ne (t2 b _ e)]
  exact un.tups b xs e
 ·rw[upd_ne (t2 b _ e)]
  exact un.frzs b o u e
 ·obtain⟨mo,q⟩:=un.tbls b ps e
  exact⟨mo,by rw[upd_ne (t2 b _ e)];exact q⟩
 ·by_cases hb:b=s2.heap.objs.size
  ·subst hb
   rw[upd_same] at e
   cases e
   exact⟨sz,its,n,vl,(hs.2 _ (Nat.ne_of_lt hC)).trans hD⟩
  ·rw[upd_ne hb] at e
   exact(hok b u e).stay (fun c v hc q=>(hs.2 c (by
    rcases hc with rfl | hc
    ·exact tC _ _ e
    ·exact tC _ _ hc)).trans q) (fun c r=>by rw[upd_ne (tk _ _ r)];exact r) fun c xs r=>by rw[upd_ne (tk _ _ r)];exact r
 ·exact⟨(f2 b hb).2.2.2.1,(f2 b hb).2.1,(f2 b hb).2.2.2.2.1,(f2 b hb).2.2.2.2.2⟩
noncomputable def tComp (wi:TI) (g:TG) (tc:TT) (te:TE) (k:Nat) (fr:List Nat):TE:=fun σ H Q=>wi σ H fun J H1=>tBlock J g tc te (stC k fr σ) H1 fun ys H2=>∀D,H1 D=none→H2 D=none→Q (.ref D) (upd H2 D (.lst ys))
theorem pe_comp {elt target iter:Expr} {ifs:List Expr} {scope so:Scope} {pos:Pos} {wi:TI} {g:TG} {tc:TT} {te:TE} {k:Nat} {fr:List Nat} {N N':List Str} (hc:X.calm=true) (hN:X.N=N) (hso:X.env.scope=so) (S:CompScope N so N' scope k fr)
  (hi:PI X target iter wi) (hg:∀cl C s H ex,PG (cxC X N' scope cl C s H ex) target g) (ht:∀cl C s H ex,PTs (cxC X N' scope cl C s H ex) ifs tc) (he:∀cl C s H ex,PE (cxC X N' scope cl C s H ex) elt te)
  (hs:∀x,foldedSetIterable iter X.env x=pure x:=by intro _;rfl):PE X (.ListComp elt [⟨target,iter,ifs,0⟩] scope pos) (tComp wi g tc te k fr):=by
 subst hN hso
 intro pins s σ H Q I h
 rw[eval_ListComp]
 obtain⟨cl,hcl,c1,c2,c3⟩:=closureFor_of (env:=X.env) (scope:=scope) fun n hn=>I.ok.has n (S.outer _ hn rfl)
 refine wpAny_comprehension_free (use:=none) (cl:=cl) rfl hs hcl S.kind S.locs ?_
 refine thn (hi pins s σ H _ I h) fun v s1 h1=>thn h1 fun itv s2 h2=>?_
 obtain⟨it,fp,tn,J,H2,rfl,I2,T,st2,f2,hb⟩:=h2
 refine block_run (RR:=fun acc C=>compPost (model X.prog X.w) X.A X.xe none (EP X pins σ Q) acc C) hc S c1 c2 (fun x c m=>⟨x,(c3 x c m).1⟩) (fun x hx c m=>(S.cels _ hx rfl).2 (c3 x c m).2) (XE:=fun _ _ _ _ _ _ _=>False) hg ht he I2 T st2 f2 hb ?_ (fun _ _ _ _ _ z=>False.elim z)
 intro C s' m ys its n H' hC hn vl sz hD nD nC fin os bare un hok
 exact⟨m,hn,fun h' hs'=>⟨.ref _,_,comp_back I2 f2 hC vl sz hD nD nC os bare un hok hs',rfl,fin _ (I2.hok.fresh (Nat.le_refl _)) nD⟩⟩
theorem ps_setC {elt target iter:Expr} {ifs:List Expr} {scope so:Scope} {pos spos py:Pos} {wi:TI} {g:TG} {tc:TT} {te:TE} {k:Nat} {fr:List Nat} {N N':List Str} {y:Str} {i:Nat} (hc:X.calm=true) (hN:X.N.Nodup) (hy:X.N[i]?=some y) (hl:X.env.scope.names.lookup y=some .local)
  (hNN:X.N=N) (hso:X.env.scope=so) (S:CompScope N so N' scope k fr)
  (hi:PI X target iter wi) (hg:∀cl C s H ex,PG (cxC X N' scope cl C s H ex) target g) (ht:∀cl C s H ex,PTs (cxC X N' scope cl C s H ex) ifs tc) (he:∀cl C s H ex,PE (cxC X N' scope cl C s H ex) elt te)
  (hsw:swapsWith (.ListComp elt [⟨target,iter,ifs,0⟩] scope pos) (some (.Name y py)) spos.line X.env=pure true:=by rfl)
  (hs:∀x,foldedSetIterable iter X.env x=pure x:=by intro _;rfl):PS X (.Assign [.Name y py] (.ListComp elt [⟨target,iter,ifs,0⟩] scope pos) spos) (tAsg (tComp wi g tc te k fr) (gName i)):=by
 subst hNN hso
 intro pins s σ H D I h
 rw[exec_Assign_Name_used _ _ _ _ hsw]
 obtain⟨cl,hcl,c1,c2,c3⟩:=closureFor_of (env:=X.env) (scope:=scope) fun n hn=>I.ok.has n (S.outer _ hn rfl)
 refine wpAny_bind (wpAny_standAt (wpAny_bind ?_))
 show wpAny _ X.A (do let _ ←comprehension (.ListComp elt [⟨target,iter,ifs,0⟩] scope pos) scope X.env _ (newList []) false (eval iter X.env) (some (assign (.Name y py) X.env))) _ _ s
 refine wpAny_bind (wpAny_mono (wpAny_comprehension_free (use:=some (assign (.Name y py) X.env)) (Q:=fun _ s'=>SP X pins D .next s') (cl:=cl) rfl hs hcl S.kind S.locs ?_) (fun _ s' hq=>wpAny_pure (wpAny_pure hq)) fun _ _ e=>e)
 refine thn (hi pins s σ H _ I h) fun v s1 h1=>thn h1 fun itv s2 h2=>?_
 obtain⟨it,fp,tn,J,H2,rfl,I2,T,st2,f2,hb⟩:=h2
 refine block_run (RR:=fun acc C=>compPost (model X.prog X.w) X.A X.xe (some (assign (.Name y py) X.env)) (fun _ s'=>SP X pins D .next s') acc C) hc S c1 c2 (fun x c m=>⟨x,(c3 x c m).1⟩) (fun x hx c m=>(S.cels _ hx rfl).2 (c3 x c m).2) (XE:=fun _ _ _ _ _ _ _=>False) hg ht he I2 T st2 f2 hb ?_ (fun _ _ _ _ _ z=>False.elim z)
 intro C s' m ys its n H' hC hn vl sz hD nD nC fin os bare un hok
 have I3:Inv X pins σ (upd H' s2.heap.objs.size (.lst ys)) s':=comp_back (h':=s'.heap) I2 f2 hC vl sz hD nD nC os bare un hok (.refl ..)
 refine wpAny_assign_Name (store_ok2 (v:=.ref s2.heap.objs.size) I3 hN hy (.inl hl) rfl (fun s4 I4 ch=>?_) (.inr hl))
 have ltL:X.env.locals<s2.heap.objs.size:=I2.lt
 obtain⟨a,hsa,ha⟩:=ch
 have aC:a≠C:=by
  rcases ha with rfl | ha
  ·exact Nat.ne_of_lt (Nat.lt_trans ltL hC)
  ·obtain⟨v,q⟩:=I2.cell _ _ ha
   exact Nat.ne_of_lt (Nat.lt_trans q.lt hC)
 refine⟨m,hn.sameBut hsa (Ne.symm aC),fun h' hs'=>⟨_,_,?_,fin _ (I2.hok.fresh (Nat.le_refl _)) nD⟩⟩
 have nC4:(upd H' s2.heap.objs.size (.lst ys)) C=none:=by rw[upd_ne (Nat.ne_of_gt hC)];exact nC
 exact I4.turned (t':=s4.toks) (it:=C) (h':=h') (fun b o hb e=>(hs'.2 b hb).trans e) nC4 (Nat.ne_of_gt (Nat.lt_trans ltL hC)) (.inr (Nat.le_trans I2.sz (Nat.le_of_lt hC))) (fun x c e z=>by
  obtain⟨v,q⟩:=I2.cell x c e
  exact absurd (Nat.lt_trans q.lt hC) (by rw[z];exact Nat.lt_irrefl _)) (fun p hp z=>by
  have:=Heap.lt_size (I2.pin p hp).1
  rw[z] at this
  exact absurd (Nat.lt_trans this hC) (Nat.lt_irrefl _))
end
structure Src (J:It) (Ok:Hp→Prop) (n:Nat) (Item:Nat→V→Hp→Hp→Prop):Prop where
 go:∀i H,i<n→Ok H→J.go i H
 yld:∀i H x H3,i<n→Ok H→J.yld i H x H3→Item i x H H3
 stop:∀H,Ok H→J.stop n H
theorem src_list {K:PySem.W.Frag} {a:Addr} {xs:List V} {Ok:Hp→Prop} (h:∀H,Ok H→SqL K H a xs):Src (Itl K a) Ok xs.length (fun i x H H3=>H3=H∧xs[i]?=some x) where
 go:=fun i H hi ok=>⟨xs,xs[i],h H ok,by simp [hi]⟩
 yld:=fun i H x H3 hi ok ⟨e,y⟩=>⟨e,y xs (h H ok)⟩
 stop:=fun H ok=>⟨xs,h H ok,Nat.le_refl _⟩
theorem src_range {lo:Int} {n:Nat} {Ok:Hp→Prop}:Src (Itr lo n) Ok n (fun i x H H3=>H3=H∧x=.int (lo+i)) where
 go:=fun _ _ hi _=>hi
 yld:=fun _ _ _ _ _ _ y=>y
 stop:=fun _ _=>Nat.le_refl _
theorem block_src {J:It} {g:TG} {tc:TT} {te:TE} {σ0:St} {H1:Hp} {fin:List V→Hp→Prop} {n:Nat} {Item:Nat→V→Hp→Hp→Prop} (S:Src J (Same H1) n Item) (Own:St→Prop) (h0:Own σ0) (P:Nat→List V→Hp→Prop) (p0:P 0 [] H1) (hz:n≤sizeLine)
  (hs:∀i x σ H ys H3 (Q:St→V→Hp→Prop) (N:St→Hp→Prop),i<n→Same H1 H→P i ys H→ys.length≤i→Own σ→Item i x H H3→
   (∀σ3 y H6,Own σ3→Same H1 H6→P (i+1) (ys++ [y]) H6→Q σ3 y H6)→(∀σ3 H5,Own σ3→Same H1 H5→P (i+1) ys H5→N σ3 H5)→
   g x σ H3 fun σ3 H4=>tc σ3 H4 fun b H5=>if b=true then te σ3 H5 fun y H6=>Q σ3 y H6 else N σ3 H5)
  (hfin:∀ys H,Same H1 H→P n ys H→ys.length≤n→fin ys H):tBlock J g tc te σ0 H1 fin:=by
 refine⟨fun i m ys σ H=>m=n - i∧i≤n∧ys.length≤i∧Own σ∧Same H1 H∧P i ys H,⟨n,by simp,Nat.zero_le _,Nat.le_refl _,h0,Same.refl _,p0⟩,?_⟩
 rintro i m ys σ H ⟨rfl,hi,hl,ow,sm,p⟩
 by_cases hlt:i<n
 ·refine .inr ⟨S.go i H hlt sm,fun x H3 y=>hs i x σ H ys H3 (fun σ3 y H6=>ys.length<sizeLine∧∃m',m'<n - i∧m'=n - (i+1)∧i+1≤n∧(ys++ [y]).length≤i+1∧Own σ3∧Same H1 H6∧P (i+1) (ys++ [y]) H6)
   (fun σ3 H5=>∃m',m'<n - i∧m'=n - (i+1)∧i+1≤n∧ys.length≤i+1∧Own σ3∧Same H1 H5∧P (i+1) ys H5) hlt sm p hl ow (S.yld i H x H3 hlt sm y) (fun σ3 y H6 o s6 q=>?_) (fun σ3 H5 o s5 q=>?_)⟩
  ·exact⟨by omega,n - (i+1),by omega,rfl,hlt,by rw[List.length_append,List.length_singleton];omega,o,s6,q⟩
  ·exact⟨n - (i+1),by omega,rfl,hlt,by omega,o,s5,q⟩
 ·have e:i=n:=by omega
  subst e
  exact .inl ⟨S.stop H sm,hfin ys H sm p hl⟩
theorem comp_map {J:It} {te:TE} {tl:St} {H1:Hp} {fin:List V→Hp→Prop} {n:Nat} {Item:Nat→V→Hp→Hp→Prop} (S:Src J (Same H1) n Item) (sub:∀i x H H3,Item i x H H3→Same H H3) (hz:n≤sizeLine)
  (R:Nat→V→Hp→Prop) (mono:∀i y H H',Same H H'→R i y H→R i y H')
  (hs:∀i x w H H3 (Q:VK),i<n→Same H1 H→Item i x H H3→(∀y H6,Same H3 H6→R i y H6→Q y H6)→te ((w::tl).set 0 (some x)) H3 Q)
  (hfin:∀ys H,Same H1 H→ys.length=n→(∀i y,ys[i]?=some y→R i y H)→fin ys H):tBlock J (gName 0) tYes te (none::tl) H1 fin:=by
 refine⟨fun i m ys σ H=>m=n - i∧i≤n∧ys.length=i∧(∃w,σ=w::tl)∧Same H1 H∧∀j y,ys[j]?=some y→R j y H,⟨n,by simp,Nat.zero_le _,rfl,⟨_,rfl⟩,Same.refl _,fun j y e=>by simp at e⟩,?_⟩
 rintro i m ys σ H ⟨rfl,hi,hl,⟨w,rfl⟩,sm,p⟩
 by_cases hlt:i<n
 ·refine .inr ⟨S.go i H hlt sm,fun x H3 y=>?_⟩
  have it:=S.yld i H x H3 hlt sm y
  have s3:=sub i x H H3 it
  unfold gName tYes
  refine iteT ?_
  refine hs i x w H H3 _ hlt sm it fun y H6 s6 r=>⟨by omega,n - (i+1),by omega,rfl,hlt,by rw[List.length_append,List.length_singleton];omega,⟨_,rfl⟩,sm.trans (s3.trans s6),fun j z e=>?_⟩
  by_cases hj:j<i
  ·rw[List.getElem?_append_left (by omega)] at e
   exact mono j z _ _ (s3.trans s6) (p j z e)
  ·rw[List.getElem?_append_right (by omega)] at e
   have e2:j - ys.length=0:=by
    by_cases q:j - ys.length=0
    ·exact q
    ·rw[List.getElem?_eq_none (by simp;omega)] at e;cases e
   rw[e2] at e
   simp at e
   subst e
   have:j=i:=by omega
   subst this
   exact r
 ·have e:i=n:=by omega
  subst e
  exact .inl ⟨S.stop H sm,hfin ys H sm hl p⟩
noncomputable def tForB (J:It) (g:TG) (tb:TS) (D:Ends) (σ:St) (H:Hp):Prop:=
 ∃W:Nat→Nat→St→Hp→Prop,(∃m,W 0 m σ H)∧∀i m σ H,W i m σ H→
  (J.stop i H∧D.nx σ H)∨(J.go i H∧∃N:St→Hp→Prop,(∀σ' H',N σ' H'→∃m',m'<m∧W (i+1) m' σ' H')∧∀x H',J.yld i H x H'→g x σ H' fun σ2 H2=>tb {D with nx:=N,ct:=N,bk:=D.nx} σ2 H2)
theorem tFor_eq {wi:TI} {g:TG} {tb:TS} {D:Ends} {σ:St} {H:Hp}:tFor wi g tb D σ H=wi σ H fun J H1=>tForB J g tb D σ H1:=rfl
theorem for_src {J:It} {g:TG} {tb:TS} {D:Ends} {σ:St} {H:Hp} {n:Nat} {Item:Nat→V→Hp→Hp→Prop} {Ok:Hp→Prop} (S:Src J Ok n Item) (Pv:Nat→St→Hp→Prop) (h0:Pv 0 σ H) (hok:∀i σ H,i≤n→Pv i σ H→Ok H)
  (hs:∀i x σ H H3,i<n→Pv i σ H→Item i x H H3→g x σ H3 fun σ2 H2=>tb {D with nx:=Pv (i+1),ct:=Pv (i+1),bk:=D.nx} σ2 H2) (hd:∀σ H,Pv n σ H→D.nx σ H):tForB J g tb D σ H:=by
 refine⟨fun i m σ H=>m=n - i∧i≤n∧Pv i σ H,⟨n,by simp,Nat.zero_le _,h0⟩,?_⟩
 rintro i m σ H ⟨rfl,hi,p⟩
 by_cases hlt:i<n
 ·exact .inr ⟨S.go i H hlt (hok i σ H hi p),Pv (i+1),fun σ' H' p'=>⟨n - (i+1),by omega,rfl,hlt,p'⟩,fun x H' y=>hs i x σ H H' hlt p (S.yld i H x H' hlt (hok i σ H hi p) y)⟩
 ·have e:i=n:=by omega
  subst e
  exact .inl ⟨S.stop H (hok i σ H hi p),hd σ H p⟩
theorem comp_map2 {K:PySem.W.Frag} {J:It} {te:TE} {tl:St} {H1:Hp} {fin:List V→Hp→Prop} {n:Nat} {Item:Nat→V→Hp→Hp→Prop} (S:Src J (Same H1) n Item) (It2:Nat→V→V→Hp→Prop)
  (tp:∀i x H H3,i<n→Same H1 H→Item i x H H3→Same H H3∧∃p a b,x=.ref p∧SqT K H3 p [a,b]∧It2 i a b H3) (hz:n≤sizeLine)
  (R:Nat→V→Hp→Prop) (mono:∀i y H H',Same H H'→R i y H→R i y H')
  (hs:∀i a b H3 (Q:VK),i<n→Same H1 H3→It2 i a b H3→(∀y H6,Same H3 H6→R i y H6→Q y H6)→te (some a::some b::tl) H3 Q)
  (hfin:∀ys H,Same H1 H→ys.length=n→(∀(i:Nat) y,ys[i]?=some y→R i y H)→fin ys H):tBlock J (gTup K 2 (gCons (gName 0) (gCons (gName 1) gNil))) tYes te (none::none::tl) H1 fin:=by
 refine⟨fun i m ys σ H=>m=n - i∧i≤n∧ys.length=i∧(∃w w',σ=w::w'::tl)∧Same H1 H∧∀(j:Nat) y,ys[j]?=some y→R j y H,⟨n,by simp,Nat.zero_le _,rfl,⟨_,_,rfl⟩,Same.refl _,fun j y e=>by simp at e⟩,?_⟩
 rintro i m ys σ H ⟨rfl,hi,hl,⟨w,w',rfl⟩,sm,p⟩
 by_cases hlt:i<n
 ·refine .inr ⟨S.go i H hlt sm,fun x H3 y=>?_⟩
  obtain⟨s3,q,a,b,rfl,sq,it⟩:=tp i x H H3 hlt sm (S.yld i H x H3 hlt sm y)
  refine⟨q,_,rfl,sq,rfl,_,_,rfl,_,_,rfl,rfl,?_⟩
  unfold tYes
  refine iteT ?_
  refine hs i a b H3 _ hlt (sm.trans s3) it fun y H6 s6 r=>⟨by omega,n - (i+1),by omega,rfl,hlt,by rw[List.length_append,List.length_singleton];omega,⟨_,_,rfl⟩,sm.trans (s3.trans s6),fun j z e=>?_⟩
  by_cases hj:j<i
  ·rw[List.getElem?_append_left (by omega)] at e
   exact mono j z _ _ (s3.trans s6) (p j z e)
  ·rw[List.getElem?_append_right (by omega)] at e
   have e2:j - ys.length=0:=by
    by_cases q:j - ys.length=0
    ·exact q
    ·rw[List.getElem?_eq_none (by simp;omega)] at e;cases e
   rw[e2] at e
   simp at e
   subst e
   have:j=i:=by omega
   subst this
   exact r
 ·have e:i=n:=by omega
  subst e
  exact .inl ⟨S.stop H sm,hfin ys H sm hl p⟩
end L2
namespace L2
open PySem PySem.Spec PyProof.Rows
section
variable {X : Cx} {pins : List (Addr × Obj)} {σ : St} {H : Hp} {s : Shared}
theorem Inv.moved {h':Heap} {t':Nat} {ch:List Addr} (I:Inv X pins σ H s) (f:∀b∈ch,FpOk X pins H b) (k:∀b o,b∉ch→s.heap.get? b=some o→h'.get? b=some o):Inv X pins σ H {s with heap:=h',toks:=t'}:=by
 have nch:∀b u,H b=some u→b∉ch:=fun b u e z=>by rw[(f b z).1] at e;cases e
 refine I.step (g':=s.gens) (d':=s.drawn) (ch:=ch) (fun b hb=>⟨(f b hb).2.2.2.1,(f b hb).2.1,(f b hb).2.2.2.2.1,(f b hb).2.2.2.2.2⟩) (fun b o _ _ hc e _=>k b o hc e) (fun b o _ _ hc e _=>⟨o.slots,k b o hc e⟩) (fun _ _ _ _ n=>n)
  (fun b o hc e=>⟨o,k b o hc e⟩) (fun _ _ e=>e) (fun _ _ _ e=>e) (fun b ps e=>⟨#[],by rw[e];simp⟩) (fun m hm=>?_) (fun b u e=>?_) I.bare
 ·obtain⟨o,es,ep,ho,r⟩:=hm
  exact⟨o,es,ep,k _ o (fun z=>(f _ z).2.1 rfl) ho,r⟩
 ·refine(I.hok b u e).stay (fun c v hc q=>k c v ?_ q) (fun _ q=>q) fun _ _ q=>q
  rcases hc with z | z
  ·rw[z];exact nch b u e
  ·exact nch c _ z
theorem Inv.take {ad:Addr} {o:HO} (I:Inv X pins σ H s) (f:FpOk X pins H ad) (new:X.s₀.heap.objs.size≤ad) (ok:ObjOk X.prog X.w (upd H ad o) s.heap ad o):Inv X pins σ (upd H ad o) s:=by
 obtain⟨hn,nL,nf,_,nc,np⟩:=f
 have tk:∀b u,H b=some u→b≠ad:=fun b u e z=>by rw[z,hn] at e;cases e
 refine⟨I.ok,I.os,I.bare,⟨I.base.keep,I.base.slot,fun b ob e m hx=>?_,I.base.there,fun b xs e=>?_,fun b ob u e=>?_,fun b ps e=>?_⟩,I.loc,I.cell,?_,fun x c e=>?_,fun p hp=>?_,fun b u e=>?_,I.len⟩
 ·rw[upd_ne (Nat.ne_of_lt (Nat.lt_of_lt_of_le (Heap.lt_size e) new))]
  exact I.base.free b ob e m hx
 ·have q:=I.base.tups b xs e
  rw[upd_ne (tk b _ q)];exact q
 ·have q:=I.base.frzs b ob u e
  rw[upd_ne (tk b _ q)];exact q
 ·obtain⟨mo,q⟩:=I.base.tbls b ps e
  exact⟨mo,by rw[upd_ne (tk b _ q)];exact q⟩
 ·rw[upd_ne (Ne.symm nL)];exact I.free
 ·rw[upd_ne (nc x c e)];exact I.freeC x c e
 ·obtain⟨a,b,c⟩:=I.pin p hp
  exact⟨a,by rw[upd_ne (np p hp)];exact b,c⟩
 ·by_cases hb:b=ad
  ·subst hb
   rw[upd_same] at e
   cases e
   exact ok
  ·rw[upd_ne hb] at e
   exact(I.hok b u e).stay (fun _ _ _ q=>q) (fun c r=>by rw[upd_ne (tk _ _ r)];exact r) fun c xs r=>by rw[upd_ne (tk _ _ r)];exact r
end
noncomputable def Itz (K:PySem.W.Frag) (a b:Addr):It:=
 ⟨fun i H=>∃xs ys x y,SqL K H a xs∧SqL K H b ys∧xs[i]?=some x∧ys[i]?=some y,
  fun i H v H'=>∃p,H p=none∧v=.ref p∧∃x y,(∀xs,SqL K H a xs→xs[i]?=some x)∧(∀ys,SqL K H b ys→ys[i]?=some y)∧H'=upd H p (.tup [x,y]),
  fun i H=>∃xs ys,SqL K H a xs∧SqL K H b ys∧(i=min xs.length ys.length)⟩
theorem turn_zip {P:Program} {w:World} {K:PySem.W.Frag} {elts:List Expr} {k:Nat} {pos:Pos} (z TI TO i1 i2 a b:Addr) (D:ZipApart z TI TO i1 i2 a b):
  Turn P w K (.Tuple elts k pos) (Itz K a b) [z,TI,TO,i1,i2] z (fun i h=>IsZip h z TI TO .none∧IsPair h TI (.ref i1) (.ref i2)∧(∃x y,IsPair h TO x y)∧h.IsListIter i1 a i∧h.IsListIter i2 b i) where
 mem:=by simp
 obj:=fun i h st c hc=>by
  obtain⟨hz,hTI,⟨x,y,hTO⟩,⟨o1,e1,_,d1⟩,⟨o2,e2,_,d2⟩⟩:=st
  simp only[List.mem_cons,List.not_mem_nil,or_false] at hc
  rcases hc with rfl | rfl | rfl | rfl | rfl
  ·exact⟨_,hz,fun v q=>by cases q⟩
  ·exact⟨_,hTI,fun v q=>by cases q⟩
  ·exact⟨_,hTO,fun v q=>by cases q⟩
  ·exact⟨_,e1,fun v q=>by rw[d1] at q;cases q⟩
  ·exact⟨_,e2,fun v q=>by rw[d2] at q;cases q⟩
 keep:=fun i h h' st kp=>by
  obtain⟨hz,hTI,⟨x,y,hTO⟩,h1,h2⟩:=st
  exact⟨kp z (by simp) _ hz,kp TI (by simp) _ hTI,⟨x,y,kp TO (by simp) _ hTO⟩,h1.at fun o e=>kp i1 (by simp) o e,h2.at fun o e=>kp i2 (by simp) o e⟩
 item:=by
  intro X hP hw hK hc i pins s σ H E I hf st hg
  subst hP hw hK
  obtain⟨xs,ys,x,y,hq1,hq2,hx,hy⟩:=hg
  obtain⟨its1,r1,p1,z1⟩:=I.list hq1
  obtain⟨its2,r2,p2,z2⟩:=I.list hq2
  obtain⟨u,eu,ru⟩:=r1.get hx
  obtain⟨v,ev,rv⟩:=r2.get hy
  obtain⟨hz,hTI,⟨x0,y0,hTO⟩,h1,h2⟩:=st
  have W:=WalksT.zip2 (prog:=X.prog) (w:=X.w) (I.ok.hd hc) z TI TO i1 i2 a b D its1.toArray its2.toArray
  have li:i<min its1.toArray.size its2.toArray.size:=by
   have a1:=(List.getElem?_eq_some_iff.mp eu).1
   have a2:=(List.getElem?_eq_some_iff.mp ev).1
   simp only[List.size_toArray]
   omega
  refine W.item i s _ _ li ⟨hz,hTI,⟨x0,y0,hTO⟩,h1,h2,p1.isList,p2.isList⟩ fun T vals h' tk hpt hT hI hm kk=>?_
  have sub:∀c∈[z,TO,i1,i2],c∈[z,TI,TO,i1,i2]:=fun c hc=>by simp at hc ⊢;rcases hc with rfl | rfl | rfl | rfl <;>simp
  have I1:Inv X pins σ H {s with heap:=h',toks:=tk}:=I.moved (ch:=[z,TO,i1,i2]) (fun c hc=>hf c (sub c hc)) kk
  have fT:FpOk X pins H T:=I.fpOk hT (I.hok.fresh hT)
  refine⟨_,rfl,W.go elts k pos i T _ _ _ hm fun h2' st2 kk2=>?_⟩
  have I2:Inv X pins σ H {s with heap:=h2',toks:=tk}:=I1.moved (s:={s with heap:=h',toks:=tk}) (t':=tk) (ch:=[z,TO,i1,i2]) (fun c hc=>hf c (sub c hc)) kk2
  obtain⟨x',y',ex,ey,rfl⟩:=hpt
  have ex':its1[i]?=some x':=by simpa using ex
  have ey':its2[i]?=some y':=by simpa using ey
  rw[eu] at ex';cases ex'
  rw[ev] at ey';cases ey'
  have apT:=W.apart _ _ _ hm
  obtain⟨oT,eT,cT,nT,dT⟩:=hI
  have hI2:IsTup h2' T #[u,v]:=⟨oT,kk2 _ _ apT eT,cT,nT,dT⟩
  have I3:Inv X pins σ (upd H T (.tup [x,y])) {s with heap:=h2',toks:=tk}:=
   I2.take fT (Nat.le_trans I.sz hT) ⟨by show 2≤sizeLine;decide,[u,v],.cons ru (.cons rv .nil),hI2⟩
  obtain⟨b1,b2,b3,b4,b5,_,_⟩:=st2
  refine⟨.ref T,_,I3,rfl,⟨T,fT.1,rfl,x,y,fun xs' q=>?_,fun ys' q=>?_,rfl⟩,⟨b1,b2,b3,b4,b5⟩,fun c hc=>?_⟩
  ·rw[I.list_inj q hq1];exact hx
  ·rw[I.list_inj q hq2];exact hy
  ·rw[upd_ne (fun q=>?_)]
   ·exact(hf c hc).1
   ·subst q
    obtain⟨o,e,_⟩:∃o,s.heap.get? c=some o∧True:=by
     simp only[List.mem_cons,List.not_mem_nil,or_false] at hc
     obtain⟨o1,e1,_⟩:=h1
     obtain⟨o2,e2,_⟩:=h2
     rcases hc with rfl | rfl | rfl | rfl | rfl
     ·exact⟨_,hz,trivial⟩
     ·exact⟨_,hTI,trivial⟩
     ·exact⟨_,hTO,trivial⟩
     ·exact⟨_,e1,trivial⟩
     ·exact⟨_,e2,trivial⟩
    exact absurd (Heap.lt_size e) (Nat.not_lt.mpr hT)
 done:=by
  intro X hP hw hK hc i pins s σ H E I hf st hg
  subst hP hw hK
  obtain⟨xs,ys,hq1,hq2,hi⟩:=hg
  obtain⟨its1,r1,p1,z1⟩:=I.list hq1
  obtain⟨its2,r2,p2,z2⟩:=I.list hq2
  obtain⟨hz,hTI,hTO,h1,h2⟩:=st
  have W:=WalksT.zip2 (prog:=X.prog) (w:=X.w) (I.ok.hd hc) z TI TO i1 i2 a b D its1.toArray its2.toArray
  have l1:=r1.length
  have l2:=r2.length
  have e:i=min its1.toArray.size its2.toArray.size:=by simp only[List.size_toArray];omega
  subst e
  have sub:∀c∈[z,TO,i1,i2],c∈[z,TI,TO,i1,i2]:=fun c hc=>by simp at hc ⊢;rcases hc with rfl | rfl | rfl | rfl <;>simp
  exact W.done s _ _ ⟨hz,hTI,hTO,h1,h2,p1.isList,p2.isList⟩ fun h' tk kk=>⟨rfl,I.moved (ch:=[z,TO,i1,i2]) (fun c hc=>hf c (sub c hc)) kk⟩
 self:=fun _ _ _ _ _ st h=>wpAny_pyIter_zip st.1 h
noncomputable def Ite (K:PySem.W.Frag) (a:Addr):It:=
 ⟨fun i H=>∃xs x,SqL K H a xs∧xs[i]?=some x,
  fun i H v H'=>∃p,H p=none∧v=.ref p∧∃x,(∀xs,SqL K H a xs→xs[i]?=some x)∧H'=upd H p (.tup [.int i,x]),
  fun i H=>∃xs,SqL K H a xs∧xs.length=i⟩
theorem turn_enum {P:Program} {w:World} {K:PySem.W.Frag} {elts:List Expr} {k:Nat} {pos:Pos} (e it a:Addr) (hei:e≠it) (hle:a≠e) (hli:a≠it):
  Turn P w K (.Tuple elts k pos) (Ite K a) [e,it] e (fun i h=>(∃old,IsEnum h e it i old)∧h.IsListIter it a i) where
 mem:=by simp
 obj:=fun i h st c hc=>by
  obtain⟨⟨old,he⟩,⟨o1,e1,_,d1⟩⟩:=st
  simp only[List.mem_cons,List.not_mem_nil,or_false] at hc
  rcases hc with rfl | rfl
  ·exact⟨_,he,fun v q=>by cases q⟩
  ·exact⟨_,e1,fun v q=>by rw[d1] at q;cases q⟩
 keep:=fun i h h' st kp=>by
  obtain⟨⟨old,he⟩,h1⟩:=st
  exact⟨⟨old,kp e (by simp) _ he⟩,h1.at fun o q=>kp it (by simp) o q⟩
 item:=by
  intro X hP hw hK hc i pins s σ H E I hf st hg
  subst hP hw hK
  obtain⟨xs,x,hq1,hx⟩:=hg
  obtain⟨its1,r1,p1,z1⟩:=I.list hq1
  obtain⟨u,eu,ru⟩:=r1.get hx
  obtain⟨he,h1⟩:=st
  have W:=WalksT.enumerate (prog:=X.prog) (w:=X.w) (I.ok.hd hc) e it a hei hle hli its1.toArray
  have li:i<its1.toArray.size:=by
   have a1:=(List.getElem?_eq_some_iff.mp eu).1
   simp only[List.size_toArray]
   omega
  refine W.item i s _ _ li ⟨he,h1,p1.isList⟩ fun T vals h' tk hpt hT hI hm kk=>?_
  have I1:Inv X pins σ H {s with heap:=h',toks:=tk}:=I.moved (ch:=[e,it]) hf kk
  have fT:FpOk X pins H T:=I.fpOk hT (I.hok.fresh hT)
  refine⟨_,rfl,W.go elts k pos i T _ _ _ hm fun h2' st2 kk2=>?_⟩
  have I2:Inv X pins σ H {s with heap:=h2',toks:=tk}:=I1.moved (s:={s with heap:=h',toks:=tk}) (t':=tk) (ch:=[e,it]) hf kk2
  obtain⟨t,x',ex,rfl⟩:=hpt
  have ex':its1[i]?=some x':=by simpa using ex
  rw[eu] at ex';cases ex'
  have apT:=W.apart _ _ _ hm
  obtain⟨oT,eT,cT,nT,dT⟩:=hI
  have hI2:IsTup h2' T #[.int i t,u]:=⟨oT,kk2 _ _ apT eT,cT,nT,dT⟩
  have I3:Inv X pins σ (upd H T (.tup [.int i,x])) {s with heap:=h2',toks:=tk}:=
   I2.take fT (Nat.le_trans I.sz hT) ⟨by show 2≤sizeLine;decide,[.int i t,u],.cons ⟨t,rfl⟩ (.cons ru .nil),hI2⟩
  obtain⟨b1,b2,_⟩:=st2
  refine⟨.ref T,_,I3,rfl,⟨T,fT.1,rfl,x,fun xs' q=>?_,rfl⟩,⟨b1,b2⟩,fun c hc=>?_⟩
  ·rw[I.list_inj q hq1];exact hx
  ·rw[upd_ne (fun q=>?_)]
   ·exact(hf c hc).1
   ·subst q
    obtain⟨o,e,_⟩:∃o,s.heap.get? c=some o∧True:=by
     simp only[List.mem_cons,List.not_mem_nil,or_false] at hc
     obtain⟨old,he⟩:=he
     obtain⟨o1,e1,_⟩:=h1
     rcases hc with rfl | rfl
     ·exact⟨_,he,trivial⟩
     ·exact⟨_,e1,trivial⟩
    exact absurd (Heap.lt_size e) (Nat.not_lt.mpr hT)
 done:=by
  intro X hP hw hK hc i pins s σ H E I hf st hg
  subst hP hw hK
  obtain⟨xs,hq1,hi⟩:=hg
  obtain⟨its1,r1,p1,z1⟩:=I.list hq1
  obtain⟨he,h1⟩:=st
  have W:=WalksT.enumerate (prog:=X.prog) (w:=X.w) (I.ok.hd hc) e it a hei hle hli its1.toArray
  have l1:=r1.length
  have e:i=its1.toArray.size:=by simp only[List.size_toArray];omega
  subst e
  exact W.done s _ _ ⟨he,h1,p1.isList⟩ fun h' tk kk=>⟨rfl,I.moved (ch:=[_,it]) hf kk⟩
 self:=fun _ _ _ _ _ st h=>by
  obtain⟨⟨old,he⟩,_⟩:=st
  exact wpAny_pyIter_enum he h
section
variable {X : Cx} {elts : List Expr} {kk : Nat} {tpos : Pos}
noncomputable def iZip (K:PySem.W.Frag) (ta:TA):TI:=fun σ H R=>ta σ H fun vs H1=>∃a b,vs=[.ref a,.ref b]∧(∃xs,SqL K H1 a xs)∧(∃ys,SqL K H1 b ys)∧R (Itz K a b) H1
theorem pi_zip {a b:Expr} {ta:TA} {p pos:Pos} (hg:Gl X "zip") (hm:X.mg "zip"=none) (ha:PA X [a,b] ta) (hs:starEach [a,b] X.env=[(false,eval a X.env),(false,eval b X.env)]:=by rfl) (hs2:starEach [b] X.env=[(false,eval b X.env)]:=by rfl):
  PI X (.Tuple elts kk tpos) (.Call (.Name "zip" p) [a,b] [] pos) (iZip X.K ta):=by
 intro pins s σ H R I h
 refine Call_ (ld_blt I hg hm rfl (PyProof.Rows.callWith_type1 (thn (ha pos pins s σ H _ I h) fun us s1 hh_=>?_) (by rw[hs,hs2]) (by rw[hs2];rfl)))
 obtain⟨vs,H1,I1,r1,q1⟩:=hh_
 obtain⟨a,b,e,⟨xs,q1⟩,⟨ys,q2⟩,q⟩:=q1
 subst e
 obtain⟨u,u',rfl,ra,rb⟩:=vals2 r1
 cases ra
 cases rb
 obtain⟨its1,v1,p1,z1⟩:=I1.list q1
 obtain⟨its2,v2,p2,z2⟩:=I1.list q2
 refine call_zip_2 p1.isList p2.isList fun h' b1 b2 b3 b4 b5 b6 kp=>?_
 refine wpAny_pyIter_zip b1 ?_
 have I2:Inv X pins σ H1 {s1 with heap:=h'}:=I1.kept (t':=s1.toks) kp
 have la:a<s1.heap.objs.size:=by obtain⟨o,e,_⟩:=p1.isList;exact Heap.lt_size e
 have lb:b<s1.heap.objs.size:=by obtain⟨o,e,_⟩:=p2.isList;exact Heap.lt_size e
 refine⟨s1.heap.objs.size+4,[s1.heap.objs.size+4,s1.heap.objs.size+2,s1.heap.objs.size+3,s1.heap.objs.size,s1.heap.objs.size+1],_,_,H1,rfl,I2,
  turn_zip (s1.heap.objs.size+4) (s1.heap.objs.size+2) (s1.heap.objs.size+3) s1.heap.objs.size (s1.heap.objs.size+1) a b (by constructor <;>(first | exact Nat.ne_of_lt (by omega) | exact Nat.ne_of_gt (by omega) | exact Nat.ne_of_lt la | exact Nat.ne_of_lt lb | exact Nat.ne_of_lt (Nat.lt_of_lt_of_le la (Nat.le_add_right _ _)) | exact Nat.ne_of_lt (Nat.lt_of_lt_of_le lb (Nat.le_add_right _ _)))),⟨b1,b2,⟨_,_,b3⟩,b4,b5⟩,fun c hc=>?_,q⟩
 have hge:s1.heap.objs.size≤c:=by
  simp only[List.mem_cons,List.not_mem_nil,or_false] at hc
  rcases hc with rfl | rfl | rfl | rfl | rfl <;>omega
 exact I1.fpOk hge (I1.hok.fresh hge)
noncomputable def iEnum (K:PySem.W.Frag) (ta:TA):TI:=fun σ H R=>ta σ H fun vs H1=>∃a,vs=[.ref a]∧(∃xs,SqL K H1 a xs)∧R (Ite K a) H1
theorem pi_enumerate {a:Expr} {ta:TA} {p pos:Pos} (hg:Gl X "enumerate") (hm:X.mg "enumerate"=none) (ha:PA X [a] ta) (hs:starEach [a] X.env=[(false,eval a X.env)]:=by rfl):
  PI X (.Tuple elts kk tpos) (.Call (.Name "enumerate" p) [a] [] pos) (iEnum X.K ta):=by
 intro pins s σ H R I h
 refine Call_ (ld_blt I hg hm rfl (PyProof.Rows.callWith_type1 (thn (ha pos pins s σ H _ I h) fun us s1 hh_=>?_) hs rfl))
 obtain⟨vs,H1,I1,r1,q1⟩:=hh_
 obtain⟨a,e,⟨xs,q1⟩,q⟩:=q1
 subst e
 obtain⟨u,rfl,ra⟩:=vals1 r1
 cases ra
 obtain⟨its1,v1,p1,z1⟩:=I1.list q1
 refine call_enumerate_list p1.isList fun h' b1 b2 b3 kp=>?_
 refine wpAny_pyIter_enum b1 ?_
 have I2:Inv X pins σ H1 {s1 with heap:=h'}:=I1.kept (t':=s1.toks) kp
 have la:a<s1.heap.objs.size:=by obtain⟨o,e,_⟩:=p1.isList;exact Heap.lt_size e
 refine⟨s1.heap.objs.size+1,[s1.heap.objs.size+1,s1.heap.objs.size],_,_,H1,rfl,I2,
  turn_enum (s1.heap.objs.size+1) s1.heap.objs.size a (Nat.ne_of_gt (Nat.lt_succ_self _)) (Nat.ne_of_lt (Nat.lt_succ_of_lt la)) (Nat.ne_of_lt la),⟨⟨_,b1⟩,b2⟩,fun c hc=>?_,q⟩
 have hge:s1.heap.objs.size≤c:=by
  simp only[List.mem_cons,List.not_mem_nil,or_false] at hc
  rcases hc with rfl | rfl <;>omega
 exact I1.fpOk hge (I1.hok.fresh hge)
end
theorem src_zip {K:PySem.W.Frag} {a b:Addr} {xs ys:List V} {Ok:Hp→Prop} (h1:∀H,Ok H→SqL K H a xs) (h2:∀H,Ok H→SqL K H b ys):
  Src (Itz K a b) Ok (min xs.length ys.length) (fun i v H H3=>∃p x y,H p=none∧v=.ref p∧xs[i]?=some x∧ys[i]?=some y∧H3=upd H p (.tup [x,y])) where
 go:=fun i H hi ok=>⟨xs,ys,xs[i]'(by omega),ys[i]'(by omega),h1 H ok,h2 H ok,by simp,by simp⟩
 yld:=fun i H x H3 hi ok ⟨p,n,e,u,v,e1,e2,e3⟩=>⟨p,u,v,n,e,e1 xs (h1 H ok),e2 ys (h2 H ok),e3⟩
 stop:=fun H ok=>⟨xs,ys,h1 H ok,h2 H ok,rfl⟩
theorem src_enum {K:PySem.W.Frag} {a:Addr} {xs:List V} {Ok:Hp→Prop} (h1:∀H,Ok H→SqL K H a xs):
  Src (Ite K a) Ok xs.length (fun i v H H3=>∃p x,H p=none∧v=.ref p∧xs[i]?=some x∧H3=upd H p (.tup [.int i,x])) where
 go:=fun i H hi ok=>⟨xs,xs[i],h1 H ok,by simp [hi]⟩
 yld:=fun i H x H3 hi ok ⟨p,n,e,u,e1,e3⟩=>⟨p,u,n,e,e1 xs (h1 H ok),e3⟩
 stop:=fun H ok=>⟨xs,h1 H ok,rfl⟩
end L2
namespace L2
open PySem PySem.Spec PyProof.Rows
inductive Dat where
 | non | bl (b:Bool) | int (i:Int) | str (x:Str) | tup (l:List Dat) | lst (l:List Dat)
mutual
noncomputable def Rep (H:Hp):Dat→V→Prop
 | .non,v=>v=.non
 | .bl b,v=>v=.bl b
 | .int i,v=>v=.int i
 | .str x,v=>v=.str x
 | .tup ds,v=>∃p vs,v=.ref p∧H p=some (.tup vs)∧RepL H ds vs
 | .lst ds,v=>∃p vs,v=.ref p∧H p=some (.lst vs)∧RepL H ds vs
noncomputable def RepL (H:Hp):List Dat→List V→Prop
 | [],vs=>vs=[]
 | d::ds,vs=>∃v r,vs=v::r∧Rep H d v∧RepL H ds r
end
mutual
theorem Rep.mono {H H':Hp} (s:Same H H'):∀{d:Dat} {v:V},Rep H d v→Rep H' d v
 | .non,_,h=>by rw[Rep] at *;exact h
 | .bl _,_,h=>by rw[Rep] at *;exact h
 | .int _,_,h=>by rw[Rep] at *;exact h
 | .str _,_,h=>by rw[Rep] at *;exact h
 | .tup _,_,h=>by
  rw[Rep] at *
  obtain⟨p,vs,e,hp,r⟩:=h
  exact⟨p,vs,e,s _ _ hp,RepL.mono s r⟩
 | .lst _,_,h=>by
  rw[Rep] at *
  obtain⟨p,vs,e,hp,r⟩:=h
  exact⟨p,vs,e,s _ _ hp,RepL.mono s r⟩
theorem RepL.mono {H H':Hp} (s:Same H H'):∀{ds:List Dat} {vs:List V},RepL H ds vs→RepL H' ds vs
 | [],_,h=>by rw[RepL] at *;exact h
 | _::_,_,h=>by
  rw[RepL] at *
  obtain⟨v,r,e,h1,h2⟩:=h
  exact⟨v,r,e,Rep.mono s h1,RepL.mono s h2⟩
end
theorem RepL.length {H:Hp}:∀{ds:List Dat} {vs:List V},RepL H ds vs→ds.length=vs.length
 | [],_,h=>by rw[RepL] at h;subst h;rfl
 | _::_,_,h=>by
  rw[RepL] at h
  obtain⟨v,r,rfl,_,h2⟩:=h
  simp [h2.length]
theorem RepL.get {H:Hp}:∀{ds:List Dat} {vs:List V} {i:Nat} {v:V},RepL H ds vs→vs[i]?=some v→∃d,ds[i]?=some d∧Rep H d v
 | [],_,i,v,h,e=>by rw[RepL] at h;subst h;simp at e
 | d::ds,_,i,v,h,e=>by
  rw[RepL] at h
  obtain⟨v',r,rfl,h1,h2⟩:=h
  cases i with
  | zero=>simp at e;subst e;exact⟨d,rfl,h1⟩
  | succ i=>simp at e;obtain⟨d',e',r'⟩:=h2.get e;exact⟨d',by simpa using e',r'⟩
theorem RepL.at {H:Hp}:∀{ds:List Dat} {vs:List V} {i:Nat} {d:Dat},RepL H ds vs→ds[i]?=some d→∃v,vs[i]?=some v∧Rep H d v
 | [],_,i,v,h,e=>by simp at e
 | d::ds,_,i,d',h,e=>by
  rw[RepL] at h
  obtain⟨v',r,rfl,h1,h2⟩:=h
  cases i with
  | zero=>simp at e;subst e;exact⟨v',rfl,h1⟩
  | succ i=>simp at e;obtain⟨v,e',r'⟩:=h2.at e;exact⟨v,by simpa using e',r'⟩
theorem RepL.of {H:Hp}:∀{ds:List Dat} {vs:List V},ds.length=vs.length→(∀(i:Nat) d v,ds[i]?=some d→vs[i]?=some v→Rep H d v)→RepL H ds vs
 | [],[],_,_=>by rw[RepL]
 | [],_::_,h,_=>by simp at h
 | _::_,[],h,_=>by simp at h
 | d::ds,v::vs,h,k=>by
  rw[RepL]
  exact⟨v,vs,rfl,k 0 d v rfl rfl,RepL.of (by simpa using h) fun i d' v' e1 e2=>k (i+1) d' v' (by simpa using e1) (by simpa using e2)⟩
theorem RepL.append {H:Hp}:∀{as bs:List Dat} {us vs:List V},RepL H as us→RepL H bs vs→RepL H (as++bs) (us++vs)
 | [],_,_,_,h,k=>by rw[RepL] at h;subst h;exact k
 | _::_,_,_,_,h,k=>by
  rw[RepL] at h
  obtain⟨v,r,rfl,h1,h2⟩:=h
  show RepL H (_::(_++_)) (_::(_++_))
  rw[RepL]
  exact⟨_,_,rfl,h1,h2.append k⟩
noncomputable def depth:Dat→Nat
 | .tup l=>1+dL l
 | .lst l=>1+dL l
 | _=>0
where dL:List Dat→Nat
 | []=>0
 | d::ds=>max (depth d) (dL ds)
theorem depth_mem {d:Dat}:∀{ds:List Dat},d∈ds→depth d≤depth.dL ds
 | e::ds,h=>by
  rw[depth.dL]
  rcases List.mem_cons.mp h with rfl | h
  ·exact Nat.le_max_left _ _
  ·exact Nat.le_trans (depth_mem h) (Nat.le_max_right _ _)
section
variable {X : Cx} {pins : List (Addr × Obj)} {σ : St} {H : Hp} {s : Shared}
theorem all_true (n:Nat):((List.range n).all fun _=>true)=true:=by simp
theorem eqAt_D (I:Inv X pins σ H s):∀(n:Nat) (d:Dat),depth d≤n→∀(v v':V) (u u':Value) (A:Around),Rep H d v→Rep H d v'→RelV v u→RelV v' u'→A.units+n<cLine→SeqAt.EqAt A s u u' true:=by
 intro n
 induction n with
 | zero=>
  intro d hd v v' u u' A h h' r r' hu
  cases d with
  | non=>rw[Rep] at h h';subst h h';cases r;cases r';exact SeqAt.EqAt.same _
  | bl b=>rw[Rep] at h h';subst h h';cases r;cases r';exact SeqAt.EqAt.same _
  | int i=>rw[Rep] at h h';subst h h';obtain⟨t,rfl⟩:=r;obtain⟨t',rfl⟩:=r';have:=SeqAt.EqAt.int_int (A:=A) (s:=s) i t i t';simpa using this
  | str x=>rw[Rep] at h h';subst h h';obtain⟨t,rfl⟩:=r;obtain⟨t',rfl⟩:=r';have:=SeqAt.EqAt.str_str (A:=A) (s:=s) x t x t';simpa using this
  | tup l=>rw[depth] at hd;omega
  | lst l=>rw[depth] at hd;omega
 | succ n ih=>
  intro d hd v v' u u' A h h' r r' hu
  cases d with
  | non=>rw[Rep] at h h';subst h h';cases r;cases r';exact SeqAt.EqAt.same _
  | bl b=>rw[Rep] at h h';subst h h';cases r;cases r';exact SeqAt.EqAt.same _
  | int i=>rw[Rep] at h h';subst h h';obtain⟨t,rfl⟩:=r;obtain⟨t',rfl⟩:=r';have:=SeqAt.EqAt.int_int (A:=A) (s:=s) i t i t';simpa using this
  | str x=>rw[Rep] at h h';subst h h';obtain⟨t,rfl⟩:=r;obtain⟨t',rfl⟩:=r';have:=SeqAt.EqAt.str_str (A:=A) (s:=s) x t x t';simpa using this
  | tup l=>
   rw[Rep] at h h'
   obtain⟨p,vs,rfl,hp,rl⟩:=h
   obtain⟨p',vs',rfl,hp',rl'⟩:=h'
   cases r
   cases r'
   rw[depth] at hd
   by_cases hpp:p=p'
   ·subst hpp;exact SeqAt.EqAt.same _
   obtain⟨its,rv,pl,hz⟩:=I.tuple (SqT.of hp)
   obtain⟨its',rv',pl',hz'⟩:=I.tuple (SqT.of hp')
   have e1:=rl.length
   have e2:=rl'.length
   have l1:=rv.length
   have l2:=rv'.length
   have R:=SeqAt.RcAt.tuples (A:=A) (e:=fun _=>true) pl pl' (by omega) (fun j h1 h2=>?_)
   ·simp only[List.size_toArray,all_true,Bool.true_and] at R
    rw[show(its.length==its'.length)=true by simp;omega] at R
    exact .of_refs hpp R
   ·rw[List.size_toArray] at h1 h2
    obtain⟨d,ed⟩:∃d,l[j]?=some d:=⟨l[j]'(by omega),by simp⟩
    obtain⟨v1,f1,q1⟩:=rl.at ed
    obtain⟨v2,f2,q2⟩:=rl'.at ed
    obtain⟨u1,g1,w1⟩:=rv.get f1
    obtain⟨u2,g2,w2⟩:=rv'.get f2
    have a1:its.toArray[j]=u1:=by simpa [List.getElem?_eq_getElem h1] using g1
    have a2:its'.toArray[j]=u2:=by simpa [List.getElem?_eq_getElem h2] using g2
    rw[a1,a2]
    have:=depth_mem (List.mem_of_getElem? ed)
    exact ih d (by omega) v1 v2 u1 u2 A.in1 q1 q2 w1 w2 (by show A.units+1+n<cLine;omega)
  | lst l=>
   rw[Rep] at h h'
   obtain⟨p,vs,rfl,hp,rl⟩:=h
   obtain⟨p',vs',rfl,hp',rl'⟩:=h'
   cases r
   cases r'
   rw[depth] at hd
   by_cases hpp:p=p'
   ·subst hpp;exact SeqAt.EqAt.same _
   obtain⟨its,rv,pl,hz⟩:=I.list (SqL.of hp)
   obtain⟨its',rv',pl',hz'⟩:=I.list (SqL.of hp')
   have e1:=rl.length
   have e2:=rl'.length
   have l1:=rv.length
   have l2:=rv'.length
   have R:=SeqAt.RcAt.lists (A:=A) (e:=fun _=>true) pl.isList pl'.isList (by simp only[List.size_toArray];omega) (by omega) (fun j h1 h2=>?_)
   ·rw[all_true] at R
    exact .of_refs hpp R
   ·rw[List.size_toArray] at h1 h2
    obtain⟨d,ed⟩:∃d,l[j]?=some d:=⟨l[j]'(by omega),by simp⟩
    obtain⟨v1,f1,q1⟩:=rl.at ed
    obtain⟨v2,f2,q2⟩:=rl'.at ed
    obtain⟨u1,g1,w1⟩:=rv.get f1
    obtain⟨u2,g2,w2⟩:=rv'.get f2
    have a1:its.toArray[j]=u1:=by simpa [List.getElem?_eq_getElem h1] using g1
    have a2:its'.toArray[j]=u2:=by simpa [List.getElem?_eq_getElem h2] using g2
    rw[a1,a2]
    have:=depth_mem (List.mem_of_getElem? ed)
    exact ih d (by omega) v1 v2 u1 u2 A.in1 q1 q2 w1 w2 (by show A.units+1+n<cLine;omega)
end
section
variable {X : Cx}
noncomputable def rEqD (b:Bool):R2:=fun x y H Q=>∃d,Rep H d x∧Rep H d y∧(∃p,x=.ref p)∧depth d≤40∧Q (.bl b) H
theorem seqs_D {pins:List (Addr×Obj)} {σ:St} {H:Hp} {s:Shared} {d:Dat} {p p':Addr} (I:Inv X pins σ H s) (hu:X.A.units+64<cLine) (h:Rep H d (.ref p)) (h':Rep H d (.ref p')) (hd:depth d≤40):
  (∃its its':List Value,IsTup s.heap p its.toArray∧IsTup s.heap p' its'.toArray∧its.length=its'.length∧∀j (h1:j<its.toArray.size) (h2:j<its'.toArray.size),SeqAt.EqAt X.A.in1 s its.toArray[j] its'.toArray[j] true)∨
  (∃its its':List Value,s.heap.IsList p its.toArray∧s.heap.IsList p' its'.toArray∧its.length=its'.length∧∀j (h1:j<its.toArray.size) (h2:j<its'.toArray.size),SeqAt.EqAt X.A.in1 s its.toArray[j] its'.toArray[j] true):=by
 cases d with
 | non=>rw[Rep] at h;cases h
 | bl b=>rw[Rep] at h;cases h
 | int i=>rw[Rep] at h;cases h
 | str x=>rw[Rep] at h;cases h
 | tup l=>
  left
  rw[Rep] at h h'
  obtain⟨_,vs,e,hp,rl⟩:=h
  cases e
  obtain⟨_,vs',e,hp',rl'⟩:=h'
  cases e
  rw[depth] at hd
  obtain⟨its,rv,pl,hz⟩:=I.tuple (SqT.of hp)
  obtain⟨its',rv',pl',hz'⟩:=I.tuple (SqT.of hp')
  have e1:=rl.length
  have e2:=rl'.length
  have l1:=rv.length
  have l2:=rv'.length
  refine⟨its,its',pl,pl',by omega,fun j h1 h2=>?_⟩
  rw[List.size_toArray] at h1 h2
  obtain⟨d,ed⟩:∃d,l[j]?=some d:=⟨l[j]'(by omega),by simp⟩
  obtain⟨v1,f1,q1⟩:=rl.at ed
  obtain⟨v2,f2,q2⟩:=rl'.at ed
  obtain⟨u1,g1,w1⟩:=rv.get f1
  obtain⟨u2,g2,w2⟩:=rv'.get f2
  have a1:its.toArray[j]=u1:=by simpa [List.getElem?_eq_getElem h1] using g1
  have a2:its'.toArray[j]=u2:=by simpa [List.getElem?_eq_getElem h2] using g2
  rw[a1,a2]
  have:=depth_mem (List.mem_of_getElem? ed)
  exact eqAt_D I 40 d (by omega) v1 v2 u1 u2 X.A.in1 q1 q2 w1 w2 (by show X.A.units+1+40<cLine;omega)
 | lst l=>
  right
  rw[Rep] at h h'
  obtain⟨_,vs,e,hp,rl⟩:=h
  cases e
  obtain⟨_,vs',e,hp',rl'⟩:=h'
  cases e
  rw[depth] at hd
  obtain⟨its,rv,pl,hz⟩:=I.list (SqL.of hp)
  obtain⟨its',rv',pl',hz'⟩:=I.list (SqL.of hp')
  have e1:=rl.length
  have e2:=rl'.length
  have l1:=rv.length
  have l2:=rv'.length
  refine⟨its,its',pl.isList,pl'.isList,by omega,fun j h1 h2=>?_⟩
  rw[List.size_toArray] at h1 h2
  obtain⟨d,ed⟩:∃d,l[j]?=some d:=⟨l[j]'(by omega),by simp⟩
  obtain⟨v1,f1,q1⟩:=rl.at ed
  obtain⟨v2,f2,q2⟩:=rl'.at ed
  obtain⟨u1,g1,w1⟩:=rv.get f1
  obtain⟨u2,g2,w2⟩:=rv'.get f2
  have a1:its.toArray[j]=u1:=by simpa [List.getElem?_eq_getElem h1] using g1
  have a2:its'.toArray[j]=u2:=by simpa [List.getElem?_eq_getElem h2] using g2
  rw[a1,a2]
  have:=depth_mem (List.mem_of_getElem? ed)
  exact eqAt_D I 40 d (by omega) v1 v2 u1 u2 X.A.in1 q1 q2 w1 w2 (by show X.A.units+1+40<cLine;omega)
theorem op_eqD (hu:X.A.units+64<cLine):OpR X (compareOp .Eq) (rEqD true):=by
 intro pins s σ H x y v u Q I rx ry h
 obtain⟨d,h1,h2,⟨p,rfl⟩,hd,q⟩:=h
 obtain⟨p',rfl⟩:∃p',y=.ref p':=by
  cases d with
  | non=>rw[Rep] at h1;cases h1
  | bl b=>rw[Rep] at h1;cases h1
  | int i=>rw[Rep] at h1;cases h1
  | str x=>rw[Rep] at h1;cases h1
  | tup l=>rw[Rep] at h2;obtain⟨p',_,e,_⟩:=h2;exact⟨p',e⟩
  | lst l=>rw[Rep] at h2;obtain⟨p',_,e,_⟩:=h2;exact⟨p',e⟩
 cases rx
 cases ry
 rcases seqs_D I hu h1 h2 hd with ⟨its,its',a,b,e,k⟩ | ⟨its,its',a,b,e,k⟩
 ·refine SeqAt.eq_tupleAt (e:=fun _=>true) a b (by omega) k ⟨.bl true,H,I,?_,q⟩
  show Value.bool _=Value.bool true
  rw[all_true,List.size_toArray,List.size_toArray,e]
  simp
 ·refine SeqAt.eq_listAt (e:=fun _=>true) a b (by simp only[List.size_toArray];exact e) (by omega) k ⟨.bl true,H,I,?_,q⟩
  show Value.bool _=Value.bool true
  rw[all_true]
theorem op_neD (hu:X.A.units+64<cLine):OpR X (compareOp .NotEq) (rEqD false):=by
 intro pins s σ H x y v u Q I rx ry h
 obtain⟨d,h1,h2,⟨p,rfl⟩,hd,q⟩:=h
 obtain⟨p',rfl⟩:∃p',y=.ref p':=by
  cases d with
  | non=>rw[Rep] at h1;cases h1
  | bl b=>rw[Rep] at h1;cases h1
  | int i=>rw[Rep] at h1;cases h1
  | str x=>rw[Rep] at h1;cases h1
  | tup l=>rw[Rep] at h2;obtain⟨p',_,e,_⟩:=h2;exact⟨p',e⟩
  | lst l=>rw[Rep] at h2;obtain⟨p',_,e,_⟩:=h2;exact⟨p',e⟩
 cases rx
 cases ry
 rcases seqs_D I hu h1 h2 hd with ⟨its,its',a,b,e,k⟩ | ⟨its,its',a,b,e,k⟩
 ·refine SeqAt.RcNeAt.tuples (A:=X.A) (e:=fun _=>true) a b (by omega) k X.prog X.w X.xe _ ⟨.bl false,H,I,?_,q⟩
  show Value.bool _=Value.bool false
  rw[all_true,List.size_toArray,List.size_toArray,e]
  simp
 ·refine SeqAt.RcNeAt.lists (A:=X.A) (e:=fun _=>true) a b (by simp only[List.size_toArray];exact e) (by omega) k X.prog X.w X.xe _ ⟨.bl false,H,I,?_,q⟩
  show Value.bool _=Value.bool false
  rw[all_true]
  rfl
noncomputable def rNeT:R2:=fun x y H Q=>∃p q xs ys,x=.ref p∧y=.ref q∧H p=some (.tup xs)∧H q=some (.tup ys)∧xs.all flatV=true∧ys.all flatV=true∧Q (.bl (!eqL xs ys)) H
end
end L2
namespace Nm
noncomputable def ins (x:Int):List Int→List Int
 | []=>[x]
 | y::r=>if x≤y then x::y::r else y::ins x r
noncomputable def srt:List Int→List Int
 | []=>[]
 | x::r=>ins x (srt r)
theorem ins_perm (x:Int):∀l,(ins x l).Perm (x::l)
 | []=>.refl _
 | y::r=>by
  unfold ins
  split
  ·exact .refl _
  ·exact((ins_perm x r).cons y).trans (.swap ..)
theorem srt_perm:∀l,(srt l).Perm l
 | []=>.refl _
 | x::r=>(ins_perm x _).trans ((srt_perm r).cons x)
set_option tactic.hygienic true in
theorem ins_ord (x:Int):∀l:List Int,l.Pairwise (·≤·)→(ins x l).Pairwise (·≤·)
 | [],_=>by unfold ins;simp
 | y::r,h=>by
  unfold ins
  rw[List.pairwise_cons] at h
  split
  ·rename_i c
   rw[List.pairwise_cons,List.pairwise_cons]
   refine⟨fun z hz=>?_,h.1,h.2⟩
   rcases List.mem_cons.mp hz with rfl | hz
   ·exact c
   ·have:=h.1 z hz;omega
  ·rename_i c
   rw[List.pairwise_cons]
   refine⟨fun z hz=>?_,ins_ord x r h.2⟩
   rcases List.mem_cons.mp ((ins_perm x r).mem_iff.mp hz) with rfl | hz
   ·omega
   ·exact h.1 z hz
theorem srt_ord:∀l:List Int,(srt l).Pairwise (·≤·)
 | []=>by unfold srt;simp
 | x::r=>ins_ord x _ (srt_ord r)
theorem srt_length (l:List Int):(srt l).length=l.length:=(srt_perm l).length_eq
theorem ord_one:∀{a b:List Int},a.Perm b→a.Pairwise (·≤·)→b.Pairwise (·≤·)→a=b
 | [],b,p,_,_=>by simpa using p.symm.eq_nil
 | x::a,[],p,_,_=>by simpa using p.eq_nil
 | x::a,y::b,p,ha,hb=>by
  rw[List.pairwise_cons] at ha hb
  have e:x=y:=by
   have h1:y∈x::a:=p.mem_iff.mpr List.mem_cons_self
   have h2:x∈y::b:=p.mem_iff.mp List.mem_cons_self
   rcases List.mem_cons.mp h1 with h1 | h1
   ·exact h1.symm
   ·rcases List.mem_cons.mp h2 with h2 | h2
    ·exact h2
    ·have:=ha.1 y h1
     have:=hb.1 x h2
     omega
  subst e
  rw[ord_one ((List.perm_cons x).mp p) ha.2 hb.2]
theorem srt_one {a b:List Int} (p:a.Perm b) (o:a.Pairwise (·≤·)):a=srt b:=ord_one (p.trans (srt_perm b).symm) o (srt_ord b)
theorem srt_of_ord {a:List Int} (o:a.Pairwise (·≤·)):srt a=a:=(srt_one (.refl _) o).symm
theorem srt_mem {a:Int} {l:List Int}:a∈srt l↔a∈l:=(srt_perm l).mem_iff
theorem srt_lt {l:List Int} (h:l.Nodup):(srt l).Pairwise (·<·):=by
 have n:(srt l).Nodup:=(srt_perm l).nodup_iff.mpr h
 have o:=srt_ord l
 exact(List.pairwise_and_iff.mpr ⟨o,n⟩).imp fun {a b} ⟨x,y⟩=>by omega
end Nm
namespace L2
open PySem PySem.Spec PyProof.Rows PySem.W
section
variable {X : Cx}
theorem ints_items {us:List Value} {ns:List Int} (h:IntsAre us ns):∃xs,us.toArray=intItems xs∧preSum (numAt xs) xs.size=ns.sum:=by
 obtain⟨xs,hx⟩:=h.allInts.items
 refine⟨xs,hx,?_⟩
 have e1:ns=xs.toList.map (·.1):=by
  rw[←nums_intItems,←hx]
  exact h.numsOf.symm
 rw[preSum_eq,List.take_of_length_le (by simp),e1]
theorem call_sum_l (hc:X.calm=true):CallR X (.builtin "sum") (fun xs H Q=>∃p ns,xs=[.ref p]∧SqL X.K H p (List.map V.int ns)∧Q (.int ns.sum) H):=by
 intro pins s σ H xs us Q I r h
 obtain⟨p,ns,rfl,hq,q⟩:=h
 obtain⟨u,rfl,rx⟩:=vals1 r
 cases rx
 obtain⟨its,rv,pl,hz⟩:=I.list hq
 obtain⟨ys,e1,e2⟩:=ints_items (intsAre_of rv)
 have hl:=pl.isList
 rw[e1] at hl
 refine sum_intListG (I.ok.hd hc) hl fun h' tk t' hk=>⟨.int ns.sum,H,I.kept (t':=tk) hk,⟨t',?_⟩,q⟩
 rw[e2]
theorem vals_ints_of {us:List Value} {ns:List Int} (h:IntsAre us ns):Vals (ns.map V.int) us:=by
 induction h with
 | nil=>exact .nil
 | cons n t _ ih=>exact .cons ⟨t,rfl⟩ ih
noncomputable def keysI (kvs:List (Key×V)):List Int:=kvs.map fun p=>match p.1 with | .inl i=>i | .inr _=>0
noncomputable def allI (kvs:List (Key×V)):Prop:=∀p∈kvs,∃i,p.1=Sum.inl i
theorem call_sorted_d (hc:X.calm=true):CallR X (.builtin "sorted") (fun xs H Q=>∃d kvs,xs=[.ref d]∧Rd H d (.dK kvs)∧allI kvs∧kvs.length<64∧∀l,H l=none→Q (.ref l) (upd H l (.lst (List.map V.int (Nm.srt (keysI kvs)))))):=by
 intro pins s σ H xs us Q I r h
 obtain⟨d,kvs,rfl,hd,hall,hn,q⟩:=h
 obtain⟨u,rfl,rx⟩:=vals1 r
 cases rx
 obtain⟨hz,lo,vs,kv,dd⟩:=dk_rd I.hok hd
 have hlen:kvs.length=vs.length:=Paired.length kv
 obtain⟨ep,hat⟩:=dd.dictAt
 refine Calls.call_function_entry kind_sorted plain_sorted entry_sorted (args_sorted1 _) ?_
 unfold Builtin.«sorted»
 refine wpAny_bind (m:=checkCount "sorted" 1 1 _) (wpAny_pure ?_)
 refine wpAny_bind (kdu_collect (A:=X.A.in1) (kdl_dict (kvs:=vs) (ep:=ep) lo) (I.ok.hd hc) hat (by rw[←hlen,sizeLine_eq];omega) fun h' tk acc hk hacc=>?_)
 have hl:acc.toList.length=vs.length:=by rw[Array.length_toList];exact hacc.1
 have hI:IntsAre acc.toList (keysI kvs):=by
  have all:∀(j:Nat) v,acc.toList[j]?=some v→∃i t,v=Value.int i t∧(keysI kvs)[j]?=some i:=fun j v e=>by
   obtain⟨k,x,hx,hk⟩:=hacc.2 j v (by rw[←Array.getElem?_toList];exact e)
   obtain⟨p,e1,e2⟩:∃p,kvs[j]?=some p∧p.1=k:=by
    have:∀{as:List (Key×V)} {bs:List (Key×Value)} (j:Nat) {b},KV as bs→bs[j]?=some b→∃a,as[j]?=some a∧a.1=b.1:=by
     intro as bs j b r
     induction r generalizing j with
     | nil=>intro e;simp at e
     | cons r1 r2 ih=>
      intro e
      cases j with
      | zero=>simp at e;subst e;exact⟨_,rfl,r1.1⟩
      | succ j=>simp at e;obtain⟨a,e1,e2⟩:=ih j e;exact⟨a,by simpa using e1,e2⟩
    obtain⟨a,e1,e2⟩:=this j kv hx
    exact⟨a,e1,e2⟩
   obtain⟨i,hi⟩:=hall p (List.mem_of_getElem? e1)
   rw[←e2,hi] at hk
   have hk:keyIs (.inl i) v=true:=hk
   rcases keyIs_shape hk with ⟨i',t,e3,e4⟩ | ⟨x',t,e3,_⟩
   ·cases e3
    refine⟨i,t,e4,?_⟩
    unfold keysI
    rw[List.getElem?_map,e1]
    simp [hi]
   ·cases e3
  have go:∀(us:List Value) (ns:List Int),us.length=ns.length→(∀(j:Nat) v,us[j]?=some v→∃i t,v=Value.int i t∧ns[j]?=some i)→IntsAre us ns:=by
   intro us
   induction us with
   | nil=>intro ns hl _;cases ns with | nil=>exact .nil | cons _ _=>simp at hl
   | cons u us ih=>
    intro ns hl k
    cases ns with
    | nil=>simp at hl
    | cons n ns=>
     obtain⟨i,t,rfl,e⟩:=k 0 u rfl
     simp at e
     subst e
     exact .cons n t (ih ns (by simpa using hl) fun j v e=>by
      obtain⟨i,t,e1,e2⟩:=k (j+1) v (by simpa using e)
      exact⟨i,t,e1,by simpa using e2⟩)
  refine go _ _ ?_ all
  unfold keysI
  rw[List.length_map,hl,hlen]
 refine wpAny_bind (wpAny_newList ?_ (by rw[hl,←hlen,sizeLine_eq];omega))
 have hoL:(h'.push (seqObj "list" acc.toList.toArray 0)).get? h'.objs.size=some (seqObj "list" acc.toList.toArray 0):=Heap.get?_push_size _ rfl
 have I1:Inv X pins σ H {s with heap:=h',toks:=tk}:=I.kept (t':=tk) hk
 refine wpAny_bind (wpAny_holding (wpAny_call_entry slot_list_sort ⟨_,hoL,rfl⟩ entry_list_sort (list_sort_tree hoL hI (by omega) fun out ns' a1 a2 a3=>⟨_,rfl,?_⟩) (args_list_sort _)))
 obtain rfl:=Nm.srt_one a2 a3
 obtain⟨e,he⟩:=sortedHeap_at (out:=out) hoL
 have fr:=I1.hok.fresh (a:=h'.objs.size) (Nat.le_refl _)
 refine wpAny_pure ⟨_,rfl,.ref h'.objs.size,_,I1.laid (t':=tk) (fun b o eb=>?_) (Nat.le_refl _) (o:=.lst (List.map V.int (Nm.srt (keysI kvs)))) ⟨?_,out.toList,e,vals_ints_of a1,?_⟩,rfl,q _ fr⟩
 ·rw[sortedHeap_old (Nat.ne_of_lt (Heap.lt_size eb)) (by rw[Heap.size_push];exact Nat.lt_succ_of_lt (Heap.lt_size eb))]
  exact Heap.get?_push_of_some _ eb
 ·rw[List.length_map,Nm.srt_length,sizeLine_eq]
  unfold keysI
  rw[List.length_map]
  omega
 ·exact he
end
section
variable {X : Cx} {pins : List (Addr × Obj)} {σ : St} {H : Hp} {s : Shared}
end
noncomputable def Itd (d:Addr) (o:Obj) (kvs:List (Key×V)):It:=
 ⟨fun i H=>H d=some (.frz o (.dK kvs))∧i<kvs.length,fun i H x H'=>H'=H∧∃p,kvs[i]?=some p∧x=kV p.1,fun i H=>H d=some (.frz o (.dK kvs))∧i=kvs.length⟩
section
variable {X : Cx} {x : Str} {xpos : Pos}
noncomputable def iDict (tl:TE):TI:=fun σ H R=>tl σ H fun v H1=>∃d kvs,v=.ref d∧H1 d=some (.dK kvs)∧∀o,R (Itd d o kvs) (upd H1 d (.frz o (.dK kvs)))
end
end L2
namespace L2
open PySem PySem.Spec PyProof.Rows PySem.W
section
variable {X : Cx} {K : PySem.W.Frag}
theorem pi_listK {tg l:Expr} {tl:TE} (hl:PE X l tl) (hK:X.K=K:=by rfl):PI X tg l (iList K tl):=by subst hK;exact pi_list hl
theorem pi_tupK {tg l:Expr} {tl:TE} (hl:PE X l tl) (hK:X.K=K:=by rfl):PI X tg l (iTup K tl):=by subst hK;exact pi_tup hl
theorem pi_zipK {elts:List Expr} {kk:Nat} {tpos:Pos} {a b:Expr} {ta:TA} {p pos:Pos} (hg:Gl X "zip") (hm:X.mg "zip"=none) (ha:PA X [a,b] ta) (n1:noStar a=true:=by rfl) (n2:noStar b=true:=by rfl) (hK:X.K=K:=by rfl):
  PI X (.Tuple elts kk tpos) (.Call (.Name "zip" p) [a,b] [] pos) (iZip K ta):=by subst hK;exact pi_zip hg hm ha (by rw[se n1,se n2];rfl) (by rw[se n2];rfl)
theorem pi_enumerateK {elts:List Expr} {kk:Nat} {tpos:Pos} {a:Expr} {ta:TA} {p pos:Pos} (hg:Gl X "enumerate") (hm:X.mg "enumerate"=none) (ha:PA X [a] ta) (n1:noStar a=true:=by rfl) (hK:X.K=K:=by rfl):
  PI X (.Tuple elts kk tpos) (.Call (.Name "enumerate" p) [a] [] pos) (iEnum K ta):=by subst hK;exact pi_enumerate hg hm ha (by rw[se n1];rfl)
theorem pg_tupK {es:List Expr} {k:Nat} {t:TGs} {n:Nat} {pos:Pos} (hc:X.calm=true) (h:PGs X es t) (hn:(assignEach es X.env).length=n:=by rfl) (hst:(assignEach es X.env).findIdx? (·.1)=none:=by rfl) (hK:X.K=K:=by rfl):PG X (.Tuple es k pos) (gTup K n t):=by
 subst hK;exact pg_tup hc h hn hst
theorem ix_listSK (hK:X.K=K:=by rfl):IxR X (rIxQ K):=by subst hK;exact ix_listS
theorem call_lenQK (hK:X.K=K:=by rfl):CallR X (.builtin "len") (fun xs H Q=>∃p ns,xs=[.ref p]∧SqL K H p (List.map V.int ns)∧Q (.int (List.length ns:Nat)) H):=by subst hK;exact call_lenQ
theorem op_notIn_seqK (hK:X.K=K:=by rfl):OpR X (compareOp .NotIn) (rIn K true):=by subst hK;exact op_notIn_seq
theorem call_list_ofK (hK:X.K=K:=by rfl):CallR X (.type "list") (fun xs H Q=>∃p ys,xs=[.ref p]∧(SqL K H p ys∨SqT K H p ys)∧∀l,H l=none→Q (.ref l) (upd H l (.lst ys))):=by subst hK;exact call_list_of
theorem call_isTK (hK:X.K=K:=by rfl):CallR X (.builtin "isinstance") (fun xs H Q=>∃x c t b,xs=[x,.ty c]∧TyOf K H x t∧PySem.W.kitOne K t (.type c)=some b∧Q (.bl b) H):=by subst hK;exact call_isT
theorem call_sum_lK (hc:X.calm=true:=by rfl) (hK:X.K=K:=by rfl):CallR X (.builtin "sum") (fun xs H Q=>∃p ns,xs=[.ref p]∧SqL K H p (List.map V.int ns)∧Q (.int ns.sum) H):=by subst hK;exact call_sum_l hc
theorem call_sorted_dK (hc:X.calm=true:=by rfl):CallR X (.builtin "sorted") (fun xs H Q=>∃d kvs,xs=[.ref d]∧Rd H d (.dK kvs)∧allI kvs∧kvs.length<64∧∀l,H l=none→Q (.ref l) (upd H l (.lst (List.map V.int (Nm.srt (keysI kvs)))))):=call_sorted_d hc
theorem sl_listK (hK:X.K=K:=by rfl):SlR X (rSlL K):=by subst hK;exact sl_list
theorem MtM.r {id:String} {r:V→List V→Hp→VK→Prop} (h:MtM X id r):MtR X id r:=h
end
end L2
namespace Nm
abbrev Ws:=List (Int×Int)
noncomputable def keys (ws:Ws):List Int:=ws.map (·.1)
noncomputable def look:Ws→Int→Int
 | [],_=>0
 | p::r,k=>if p.1=k then p.2 else look r k
noncomputable def put:Ws→Int→Int→Ws
 | [],k,v=>[(k,v)]
 | p::r,k,v=>if p.1=k then (k,v)::r else p::put r k v
noncomputable def tot (ws:Ws):Int:=(ws.map (·.2)).sum
structure Over (as ws:Ws) (B T:Int):Prop where
 nd:(keys ws).Nodup
 perm:(keys as).Perm (keys ws)
 val:∀k∈keys ws,look as k*T=look ws k*B
end Nm
namespace L2
open PySem PySem.Spec PyProof.Rows
noncomputable def wrowD (p:Int×Int):Dat:=.tup [.int p.1,.int p.2]
theorem rep_wrow {H:Hp} {r:Int×Int} {v:V}:Rep H (wrowD r) v↔∃p,v=.ref p∧H p=some (.tup [.int r.1,.int r.2]):=by
 unfold wrowD
 simp only[Rep,RepL]
 constructor
 ·rintro⟨p,vs,rfl,hp,a,b,rfl,rfl,c,d,rfl,rfl,rfl⟩
  exact⟨p,rfl,hp⟩
 ·rintro⟨p,rfl,hp⟩
  exact⟨p,_,rfl,hp,_,_,rfl,rfl,_,_,rfl,rfl,rfl⟩
theorem rep_lst {H:Hp} {ds:List Dat} {v:V}:Rep H (.lst ds) v↔∃p vs,v=.ref p∧H p=some (.lst vs)∧RepL H ds vs:=by rw[Rep]
noncomputable def Sqs (H H':Hp):Prop:=∀p xs,(H p=some (.tup xs)→H' p=some (.tup xs))∧(H p=some (.lst xs)→H' p=some (.lst xs))
mutual
theorem Rep.sqs {H H':Hp} (s:Sqs H H'):∀{d:Dat} {v:V},Rep H d v→Rep H' d v
 | .non,_,h=>by rw[Rep] at *;exact h
 | .bl _,_,h=>by rw[Rep] at *;exact h
 | .int _,_,h=>by rw[Rep] at *;exact h
 | .str _,_,h=>by rw[Rep] at *;exact h
 | .tup _,_,h=>by
  rw[Rep] at *
  obtain⟨p,vs,e,hp,r⟩:=h
  exact⟨p,vs,e,(s _ _).1 hp,RepL.sqs s r⟩
 | .lst _,_,h=>by
  rw[Rep] at *
  obtain⟨p,vs,e,hp,r⟩:=h
  exact⟨p,vs,e,(s _ _).2 hp,RepL.sqs s r⟩
theorem RepL.sqs {H H':Hp} (s:Sqs H H'):∀{ds:List Dat} {vs:List V},RepL H ds vs→RepL H' ds vs
 | [],_,h=>by rw[RepL] at *;exact h
 | _::_,_,h=>by
  rw[RepL] at *
  obtain⟨v,r,e,h1,h2⟩:=h
  exact⟨v,r,e,Rep.sqs s h1,RepL.sqs s h2⟩
end
theorem none_of {H H':Hp} (s:Same H H') {p:Addr} (h:H' p=none):H p=none:=by
 cases e:H p with
 | none=>rfl
 | some o=>rw[s p o e] at h;cases h
end L2
namespace Nm
end Nm
namespace L2
open PySem PySem.Spec PyProof.Rows
theorem comp_ints {α:Type} {J:It} {tc:TT} {te:TE} {tl:St} {H1:Hp} {fin:List V→Hp→Prop} {Item:Nat→V→Hp→Hp→Prop} (as:List α) (f:α→Option Int) (S:Src J (Same H1) as.length Item) (sub:∀i x H H3,Item i x H H3→H3=H) (hz:as.length≤sizeLine)
  (hs:∀i a x,as[i]?=some a→Item i x H1 H1→∀(Y:VK) (N:Hp→Prop),(∀z,f a=some z→Y (.int z) H1)→(f a=none→N H1)→tc (some x::tl) H1 fun b H5=>if b=true then te (some x::tl) H5 Y else N H5)
  (hfin:fin (List.map V.int (as.filterMap f)) H1):tBlock J (gName 0) tc te (none::tl) H1 fin:=by
 refine block_src S (fun σ=>∃w0,σ=w0::tl) ⟨_,rfl⟩ (fun i ys H=>H=H1∧ys=List.map V.int ((as.take i).filterMap f)) ⟨rfl,by simp⟩ hz ?_ ?_
 ·rintro i x σ H ys H3 Q N hi sm ⟨rfl,rfl⟩ hl ⟨w0,rfl⟩ it kq kn
  obtain rfl:=sub _ _ _ _ it
  have ea:as[i]?=some as[i]:=List.getElem?_eq_getElem hi
  refine hs i _ x ea it _ _ (fun z e=>kq _ _ _ ⟨_,rfl⟩ sm ⟨rfl,?_⟩) (fun e=>kn _ _ ⟨_,rfl⟩ sm ⟨rfl,?_⟩)
  ·rw[List.take_add_one,ea,List.filterMap_append,List.map_append]
   simp [e]
  ·rw[List.take_add_one,ea,List.filterMap_append,List.map_append]
   simp [e]
 ·rintro ys H sm ⟨rfl,rfl⟩ hl
  rw[List.take_of_length_le (Nat.le_refl _)]
  exact hfin
theorem comp_ints2 {K:PySem.W.Frag} {α:Type} {J:It} {tc:TT} {te:TE} {tl:St} {H1:Hp} {fin:List V→Hp→Prop} {Item:Nat→V→Hp→Hp→Prop} (as:List α) (f:α→Option Int) (S:Src J (Same H1) as.length Item) (sub:∀i x H H3,Item i x H H3→H3=H) (hz:as.length≤sizeLine)
  (hs:∀i a x,as[i]?=some a→Item i x H1 H1→∃p u v,x=.ref p∧SqT K H1 p [u,v]∧∀(Y:VK) (N:Hp→Prop),(∀z,f a=some z→Y (.int z) H1)→(f a=none→N H1)→tc (some u::some v::tl) H1 fun b H5=>if b=true then te (some u::some v::tl) H5 Y else N H5)
  (hfin:fin (List.map V.int (as.filterMap f)) H1):tBlock J (gTup K 2 (gCons (gName 0) (gCons (gName 1) gNil))) tc te (none::none::tl) H1 fin:=by
 refine block_src S (fun σ=>∃w0 w1,σ=w0::w1::tl) ⟨_,_,rfl⟩ (fun i ys H=>H=H1∧ys=List.map V.int ((as.take i).filterMap f)) ⟨rfl,by simp⟩ hz ?_ ?_
 ·rintro i x σ H ys H3 Q N hi sm ⟨rfl,rfl⟩ hl ⟨w0,w1,rfl⟩ it kq kn
  obtain rfl:=sub _ _ _ _ it
  have ea:as[i]?=some as[i]:=List.getElem?_eq_getElem hi
  obtain⟨p,u,v,rfl,sq,k⟩:=hs i _ x ea it
  refine⟨p,_,rfl,sq,rfl,_,_,rfl,_,_,rfl,rfl,?_⟩
  refine k _ _ (fun z e=>kq _ _ _ ⟨_,_,rfl⟩ sm ⟨rfl,?_⟩) (fun e=>kn _ _ ⟨_,_,rfl⟩ sm ⟨rfl,?_⟩)
  ·rw[List.take_add_one,ea,List.filterMap_append,List.map_append]
   simp [e]
  ·rw[List.take_add_one,ea,List.filterMap_append,List.map_append]
   simp [e]
 ·rintro ys H sm ⟨rfl,rfl⟩ hl
  rw[List.take_of_length_le (Nat.le_refl _)]
  exact hfin
theorem fm_some {α β:Type} (f:α→β) (l:List α):l.filterMap (fun a=>some (f a))=l.map f:=by
 rw[←List.filterMap_eq_map];rfl
end L2
namespace L2
open PySem PySem.Spec PyProof.Rows PySem.W
section
variable {X : Cx} {K : PySem.W.Frag}
theorem bools_of:∀{us:List Value} {bs:List Bool},Vals (bs.map V.bl) us→LSm.BoolsAre us bs
 | _,[],.nil=>.nil
 | _,b::bs,.cons r t=>by
  have e:_=Value.bool b:=r
  subst e
  exact .cons b (bools_of t)
theorem call_all_l (hc:X.calm=true):CallR X (.builtin "all") (fun xs H Q=>∃p bs,xs=[.ref p]∧SqL X.K H p (List.map V.bl bs)∧Q (.bl (bs.all id)) H):=by
 intro pins s σ H xs us Q I r h
 obtain⟨p,bs,rfl,hq,q⟩:=h
 obtain⟨u,rfl,rx⟩:=vals1 r
 cases rx
 obtain⟨its,rv,pl,hz⟩:=I.list hq
 have hb:=bools_of rv
 have hl:=pl.isList
 have hlt:p<s.heap.objs.size:=by obtain⟨_,e,_⟩:=hl;exact Heap.lt_size e
 refine call_all_walk (wpAny_pyIter_list hl ?_)
 refine⟨s.heap.objs.size,[s.heap.objs.size,p],[s.heap.objs.size],its.toArray.size,_,_,fun i=>(bs[i]?).getD true,rfl,Walks.list (A:=X.A.in1) (I.ok.hd hc) _ p (Nat.ne_of_lt hlt) its.toArray,
  ⟨⟨_,Heap.get?_push_size _ rfl,rfl,rfl⟩,hl.push _⟩,fun i v s' Q' E' hP hQ=>?_,fun h' tk hk=>?_⟩
 ·obtain⟨b,e,rfl⟩:=hb.get i v (by simpa using hP)
  simp only[e,Option.getD_some] at hQ
  exact wpAny_truthy_bool hQ
 ·have e:((List.range its.toArray.size).all fun i=>(bs[i]?).getD true)=bs.all id:=by
   rw[List.size_toArray,hb.length];exact LSm.range_all bs
  rw[e]
  exact⟨.bl _,H,I.kept (t':=tk) (LSm.kept_iter hk),rfl,q⟩
theorem call_any_l (hc:X.calm=true):CallR X (.builtin "any") (fun xs H Q=>∃p bs,xs=[.ref p]∧SqL X.K H p (List.map V.bl bs)∧Q (.bl (bs.any id)) H):=by
 intro pins s σ H xs us Q I r h
 obtain⟨p,bs,rfl,hq,q⟩:=h
 obtain⟨u,rfl,rx⟩:=vals1 r
 cases rx
 obtain⟨its,rv,pl,hz⟩:=I.list hq
 have hb:=bools_of rv
 have hl:=pl.isList
 have hlt:p<s.heap.objs.size:=by obtain⟨_,e,_⟩:=hl;exact Heap.lt_size e
 refine call_any_walk (wpAny_pyIter_list hl ?_)
 refine⟨s.heap.objs.size,[s.heap.objs.size,p],[s.heap.objs.size],its.toArray.size,_,_,fun i=>(bs[i]?).getD false,rfl,Walks.list (A:=X.A.in1) (I.ok.hd hc) _ p (Nat.ne_of_lt hlt) its.toArray,
  ⟨⟨_,Heap.get?_push_size _ rfl,rfl,rfl⟩,hl.push _⟩,fun i v s' Q' E' hP hQ=>?_,fun h' tk hk=>?_⟩
 ·obtain⟨b,e,rfl⟩:=hb.get i v (by simpa using hP)
  simp only[e,Option.getD_some] at hQ
  exact wpAny_truthy_bool hQ
 ·have e:((List.range its.toArray.size).any fun i=>(bs[i]?).getD false)=bs.any id:=by
   rw[List.size_toArray,hb.length];exact LSm.range_any bs
  rw[e]
  exact⟨.bl _,H,I.kept (t':=tk) (LSm.kept_iter hk),rfl,q⟩
theorem call_all_lK (hc:X.calm=true:=by rfl) (hK:X.K=K:=by rfl):CallR X (.builtin "all") (fun xs H Q=>∃p bs,xs=[.ref p]∧SqL K H p (List.map V.bl bs)∧Q (.bl (bs.all id)) H):=by subst hK;exact call_all_l hc
theorem call_any_lK (hc:X.calm=true:=by rfl) (hK:X.K=K:=by rfl):CallR X (.builtin "any") (fun xs H Q=>∃p bs,xs=[.ref p]∧SqL K H p (List.map V.bl bs)∧Q (.bl (bs.any id)) H):=by subst hK;exact call_any_l hc
noncomputable def tSumV (to:TE):TE:=fun σ H Q=>to σ H fun v H1=>∃d kvs ns,v=.ref d∧H1 d=some (.dK kvs)∧kvs.map (·.2)=List.map V.int ns∧Q (.int ns.sum) H1
theorem comp_vals {α:Type} {J:It} {tc:TT} {te:TE} {tl:St} {H1:Hp} {fin:List V→Hp→Prop} {Item:Nat→V→Hp→Hp→Prop} (as:List α) (f:α→Option V) (S:Src J (Same H1) as.length Item) (sub:∀i x H H3,Item i x H H3→H3=H) (hz:as.length≤sizeLine)
  (hs:∀i a x,as[i]?=some a→Item i x H1 H1→∀(Y:VK) (N:Hp→Prop),(∀z,f a=some z→Y z H1)→(f a=none→N H1)→tc (some x::tl) H1 fun b H5=>if b=true then te (some x::tl) H5 Y else N H5)
  (hfin:fin (as.filterMap f) H1):tBlock J (gName 0) tc te (none::tl) H1 fin:=by
 refine block_src S (fun σ=>∃w0,σ=w0::tl) ⟨_,rfl⟩ (fun i ys H=>H=H1∧ys=(as.take i).filterMap f) ⟨rfl,by simp⟩ hz ?_ ?_
 ·rintro i x σ H ys H3 Q N hi sm ⟨rfl,rfl⟩ hl ⟨w0,rfl⟩ it kq kn
  obtain rfl:=sub _ _ _ _ it
  have ea:as[i]?=some as[i]:=List.getElem?_eq_getElem hi
  refine hs i _ x ea it _ _ (fun z e=>kq _ _ _ ⟨_,rfl⟩ sm ⟨rfl,?_⟩) (fun e=>kn _ _ ⟨_,rfl⟩ sm ⟨rfl,?_⟩)
  ·rw[List.take_add_one,ea,List.filterMap_append]
   simp [e]
  ·rw[List.take_add_one,ea,List.filterMap_append]
   simp [e]
 ·rintro ys H sm ⟨rfl,rfl⟩ hl
  rw[List.take_of_length_le (Nat.le_refl _)]
  exact hfin
theorem seq_gen {a b:TS} {D:Ends} {σ:St} {H:Hp} (C:St→Hp→Prop) (hb:∀σ' H',C σ' H'→b D σ' H') (ha:∀N:St→Hp→Prop,(∀σ' H',C σ' H'→N σ' H')→a {D with nx:=N} σ H):tSeq a b D σ H:=ha _ hb
end
end L2
namespace Nm
noncomputable def pos (ps:Ws):Ws:=ps.filter fun p=>decide (0<p.2)
end Nm
namespace L2
open PySem PySem.Spec PyProof.Rows PySem.W
section
variable {X : Cx} {K : PySem.W.Frag}
noncomputable def rJoin (K:PySem.W.Frag):V→List V→Hp→VK→Prop:=fun x xs H Q=>∃sep p ts,x=.str sep∧xs=[.ref p]∧SqL K H p (List.map V.str ts)∧JoinOk sep ts=true∧Q (.str (Txt.join sep ts)) H
theorem call_int_b:CallR X (.type "int") (fun xs H Q=>∃k,xs=[.bl k]∧Q (.int (if k then 1 else 0)) H):=by
 intro pins s σ H xs us Q I r h
 exact call_int1 pins s σ H xs us Q I r (.inr h)
abbrev TJ:=Str→TE
noncomputable def jNil:TJ:=fun acc _ H Q=>Q (.str acc) H
noncomputable def jLit (x:Str) (t:TJ):TJ:=fun acc σ H Q=>(acc++x).length≤sizeLine∧t (acc++x) σ H Q
noncomputable def jInt (te:TE) (t:TJ):TJ:=fun acc σ H Q=>te σ H fun v H1=>∃i,v=.int i∧i.natAbs.log2<1920∧(acc++toString i).length≤sizeLine∧t (acc++toString i) σ H1 Q
noncomputable def jStr (te:TE) (t:TJ):TJ:=fun acc σ H Q=>te σ H fun v H1=>∃z,v=.str z∧z.length≤sizeLine∧(acc++z).length≤sizeLine∧t (acc++z) σ H1 Q
noncomputable def tJoined (t:TJ):TE:=fun σ H Q=>t Str.empty σ H Q
end
end L2
namespace L2
open PySem PySem.Spec PyProof.Rows PySem.W
inductive Pl where
 | fin (w:Int×Int) | thr (w:Int×Int) (ws:List (Int×Int)) | pck (who:Int) (to:List Int)
noncomputable def plD:Pl→Dat
 | .fin w=>.tup [.str (Str.ofString "end"),wrowD w]
 | .thr w ws=>.tup [.str (Str.ofString "throw"),wrowD w,.lst (ws.map wrowD)]
 | .pck who to=>.tup [.str (Str.ofString "pick"),.int who,.lst (to.map .int)]
noncomputable def brD (b:List Pl):Dat:=.lst (b.map plD)
theorem repL_ints {H:Hp}:∀{ns:List Int} {vs:List V},RepL H (ns.map Dat.int) vs↔vs=ns.map V.int
 | [],vs=>by simp only[List.map_nil,RepL]
 | n::ns,vs=>by
  simp only[List.map_cons,RepL,Rep]
  constructor
  ·rintro⟨v,r,rfl,rfl,h⟩
   rw[repL_ints.mp h]
  ·rintro rfl
   exact⟨_,_,rfl,rfl,repL_ints.mpr rfl⟩
theorem rep_fin {H:Hp} {w:Int×Int} {v:V}:Rep H (plD (.fin w)) v↔∃p q,v=.ref p∧H p=some (.tup [.str (Str.ofString "end"),.ref q])∧H q=some (.tup [.int w.1,.int w.2]):=by
 show Rep H (.tup [.str (Str.ofString "end"),wrowD w]) v↔_
 rw[Rep]
 simp only[RepL,rep_wrow]
 constructor
 ·rintro⟨p,vs,rfl,hp,_,_,rfl,e,_,_,rfl,⟨q,rfl,hq⟩,rfl⟩
  rw[Rep] at e
  subst e
  exact⟨p,q,rfl,hp,hq⟩
 ·rintro⟨p,q,rfl,hp,hq⟩
  exact⟨p,_,rfl,hp,_,_,rfl,by rw[Rep],_,_,rfl,⟨q,rfl,hq⟩,rfl⟩
theorem rep_thr {H:Hp} {w:Int×Int} {ws:List (Int×Int)} {v:V}:Rep H (plD (.thr w ws)) v↔∃p q l xs,v=.ref p∧H p=some (.tup [.str (Str.ofString "throw"),.ref q,.ref l])∧H q=some (.tup [.int w.1,.int w.2])∧H l=some (.lst xs)∧RepL H (ws.map wrowD) xs:=by
 show Rep H (.tup [.str (Str.ofString "throw"),wrowD w,.lst (ws.map wrowD)]) v↔_
 rw[Rep]
 simp only[RepL,rep_wrow]
 constructor
 ·rintro⟨p,vs,rfl,hp,_,_,rfl,e,_,_,rfl,⟨q,rfl,hq⟩,_,_,rfl,k,rfl⟩
  rw[Rep] at e
  subst e
  obtain⟨l,xs,rfl,hl,r⟩:=rep_lst.mp k
  exact⟨p,q,l,xs,rfl,hp,hq,hl,r⟩
 ·rintro⟨p,q,l,xs,rfl,hp,hq,hl,r⟩
  exact⟨p,_,rfl,hp,_,_,rfl,by rw[Rep],_,_,rfl,⟨q,rfl,hq⟩,_,_,rfl,rep_lst.mpr ⟨l,xs,rfl,hl,r⟩,rfl⟩
theorem rep_pck {H:Hp} {who:Int} {to:List Int} {v:V}:Rep H (plD (.pck who to)) v↔∃p l,v=.ref p∧H p=some (.tup [.str (Str.ofString "pick"),.int who,.ref l])∧H l=some (.lst (to.map V.int)):=by
 show Rep H (.tup [.str (Str.ofString "pick"),.int who,.lst (to.map .int)]) v↔_
 rw[Rep]
 simp only[RepL]
 constructor
 ·rintro⟨p,vs,rfl,hp,_,_,rfl,e,_,_,rfl,e2,_,_,rfl,k,rfl⟩
  rw[Rep] at e
  rw[Rep] at e2
  subst e e2
  obtain⟨l,xs,rfl,hl,r⟩:=rep_lst.mp k
  rw[repL_ints] at r
  subst r
  exact⟨p,l,rfl,hp,hl⟩
 ·rintro⟨p,l,rfl,hp,hl⟩
  exact⟨p,_,rfl,hp,_,_,rfl,by rw[Rep],_,_,rfl,by rw[Rep],_,_,rfl,rep_lst.mpr ⟨l,_,rfl,hl,repL_ints.mpr rfl⟩,rfl⟩
theorem rep_pl {H:Hp} {q:Pl} {v:V} (h:Rep H (plD q) v):∃p k r,v=.ref p∧H p=some (.tup (.str k::r)):=by
 cases q with
 | fin w=>obtain⟨p,q,rfl,hp,_⟩:=rep_fin.mp h;exact⟨p,_,_,rfl,hp⟩
 | thr w ws=>obtain⟨p,q,l,xs,rfl,hp,_⟩:=rep_thr.mp h;exact⟨p,_,_,rfl,hp⟩
 | pck who to=>obtain⟨p,l,rfl,hp,_⟩:=rep_pck.mp h;exact⟨p,_,_,rfl,hp⟩
theorem depth_flat {ds:List Dat} {n:Nat} (h:∀d∈ds,depth d≤n):depth.dL ds≤n:=by
 induction ds with
 | nil=>rw[depth.dL];omega
 | cons d ds ih=>
  rw[depth.dL]
  have:=h d List.mem_cons_self
  have:=ih fun e he=>h e (List.mem_cons_of_mem _ he)
  omega
theorem depth_wrow (p:Int×Int):depth (wrowD p)=1:=by simp [wrowD,depth,depth.dL]
theorem depth_pl (q:Pl):depth (plD q)≤3:=by
 cases q with
 | fin w=>simp [plD,depth,depth.dL,depth_wrow]
 | thr w ws=>
  have:=depth_flat (ds:=ws.map wrowD) (n:=1) fun d hd=>by obtain⟨p,_,rfl⟩:=List.mem_map.mp hd;rw[depth_wrow];exact Nat.le_refl _
  simp only[plD,depth,depth.dL,depth_wrow]
  omega
 | pck who to=>
  have:=depth_flat (ds:=to.map Dat.int) (n:=0) fun d hd=>by obtain⟨p,_,rfl⟩:=List.mem_map.mp hd;simp [depth]
  simp only[plD,depth,depth.dL]
  omega
theorem depth_br (b:List Pl):depth (brD b)≤40:=by
 have:=depth_flat (ds:=b.map plD) (n:=3) fun d hd=>by obtain⟨p,_,rfl⟩:=List.mem_map.mp hd;exact depth_pl p
 unfold brD
 rw[depth]
 omega
theorem rep_br_get {H:Hp} {b:List Pl} {xs:List V} {i:Nat} {x:V} (h:RepL H (b.map plD) xs) (e:xs[i]?=some x):∃q,b[i]?=some q∧Rep H (plD q) x:=by
 obtain⟨d,ed,rd⟩:=h.get e
 rw[List.getElem?_map] at ed
 obtain⟨q,eq,rfl⟩:=Option.map_eq_some_iff.mp ed
 exact⟨q,eq,rd⟩
theorem rep_br_at {H:Hp} {b:List Pl} {xs:List V} {i:Nat} {q:Pl} (h:RepL H (b.map plD) xs) (e:b[i]?=some q):∃x,xs[i]?=some x∧Rep H (plD q) x:=
 h.at (by rw[List.getElem?_map,e];rfl)
theorem repL_map {α:Type} {H:Hp} {f:α→Dat} {as:List α} {ys:List V} (hl:ys.length=as.length) (h:∀(i:Nat) y,ys[i]?=some y→∀a,as[i]?=some a→Rep H (f a) y):RepL H (as.map f) ys:=
 RepL.of (by rw[List.length_map,hl]) fun i d v e1 e2=>by
  rw[List.getElem?_map] at e1
  obtain⟨a,ea,rfl⟩:=Option.map_eq_some_iff.mp e1
  exact h i v e2 a ea
noncomputable def hid (H:Hp) (p:Addr):Hp:=fun a=>if a=p then none else H a
theorem hid_ne {H:Hp} {p a:Addr} (h:a≠p):hid H p a=H a:=if_neg h
theorem hid_upd {H:Hp} {p:Addr} {o:HO}:Same (hid H p) (upd H p o):=fun a u e=>by
 unfold hid at e
 by_cases h:a=p
 ·rw[if_pos h] at e;cases e
 ·rw[if_neg h] at e;rw[upd_ne h];exact e
theorem hid_sub {H:Hp} {p:Addr}:Same (hid H p) H:=fun a u e=>by
 unfold hid at e
 by_cases h:a=p
 ·rw[if_pos h] at e;cases e
 ·rw[if_neg h] at e;exact e
theorem same_hid {H0 H:Hp} {p:Addr} (s:Same H0 H) (n:H0 p=none):Same H0 (hid H p):=fun a u e=>by
 rw[hid_ne (fun z=>by rw[z,n] at e;cases e)]
 exact s _ _ e
theorem hid_mono {H H':Hp} {p:Addr} (s:Same H H'):Same (hid H p) (hid H' p):=fun a u e=>by
 unfold hid at *
 by_cases h:a=p
 ·rw[if_pos h] at e;cases e
 ·rw[if_neg h] at e ⊢;exact s _ _ e
theorem same_upd_of {H0 H:Hp} {p:Addr} {o:HO} (s:Same H0 H) (n:H0 p=none):Same H0 (upd H p o):=(same_hid s n).trans hid_upd
theorem rep_push {H:Hp} {p:Addr} {ds:List Dat} {xs:List V} {d:Dat} {v:V} (h:RepL (hid H p) ds xs) (k:Rep (hid H p) d v):RepL (hid (upd H p (.lst (xs++ [v]))) p) (ds++ [d]) (xs++ [v]):=by
 have s:Same (hid H p) (hid (upd H p (.lst (xs++ [v]))) p):=same_hid hid_upd (if_pos rfl)
 refine(h.mono s).append ?_
 rw[RepL]
 exact⟨v,[],rfl,k.mono s,by rw[RepL]⟩
theorem atI_pl {α β:Type} {f:α→β} {as:List α} {i:Nat} {a:α} (h:as[i]?=some a):atI (as.map f) (i:Int)=some (f a):=atI_nat (by rw[List.getElem?_map,h];rfl)
theorem while_at {c:TT} {tb:TS} {D:Ends} {σ:St} {H:Hp} (W:Nat→St→Hp→Prop) {m:Nat} (h0:W m σ H)
  (hs:∀m σ H,W m σ H→c σ H fun b H1=>if b=true then tb {D with nx:=fun σ' H'=>∃m',m'<m∧W m' σ' H',ct:=fun σ' H'=>∃m',m'<m∧W m' σ' H',bk:=D.nx} σ H1 else D.nx σ H1)
  (mono:∀σ H Q Q',(∀b H1,Q b H1→Q' b H1)→c σ H Q→c σ H Q'):tWhile c tb D σ H:=by
 refine⟨W,⟨m,h0⟩,fun m σ H w=>mono σ H _ _ (fun b H1 q=>?_) (hs m σ H w)⟩
 cases b with
 | true=>exact⟨_,fun _ _ h=>h,q⟩
 | false=>exact q
theorem comp_sel2 {K:PySem.W.Frag} {α:Type} {J:It} {tc:TT} {te:TE} {tl:St} {H1:Hp} {fin:List V→Hp→Prop} {Item:Nat→V→Hp→Hp→Prop} (as:List α) (f:α→Option V) (S:Src J (Same H1) as.length Item) (It2:Nat→V→V→Hp→Prop)
  (tp:∀i x H H3,i<as.length→Same H1 H→Item i x H H3→Same H H3∧∃p a b,x=.ref p∧SqT K H3 p [a,b]∧It2 i a b H3) (hz:as.length≤sizeLine)
  (hs:∀i a u v H3,as[i]?=some a→Same H1 H3→It2 i u v H3→∀(Y:VK) (N:Hp→Prop),(∀z H6,f a=some z→Same H3 H6→Y z H6)→(∀H6,f a=none→Same H3 H6→N H6)→tc (some u::some v::tl) H3 fun b H5=>if b=true then te (some u::some v::tl) H5 Y else N H5)
  (hfin:∀H2,Same H1 H2→fin (as.filterMap f) H2):tBlock J (gTup K 2 (gCons (gName 0) (gCons (gName 1) gNil))) tc te (none::none::tl) H1 fin:=by
 refine block_src S (fun σ=>∃w0 w1,σ=w0::w1::tl) ⟨_,_,rfl⟩ (fun i ys _=>ys=(as.take i).filterMap f) (by simp) hz ?_ ?_
 ·rintro i x σ H ys H3 Q N hi sm rfl hl ⟨w0,w1,rfl⟩ it kq kn
  obtain⟨s3,p,u,v,rfl,sq,i2⟩:=tp i x H H3 hi sm it
  have ea:as[i]?=some as[i]:=List.getElem?_eq_getElem hi
  refine⟨p,_,rfl,sq,rfl,_,_,rfl,_,_,rfl,rfl,?_⟩
  refine hs i _ u v H3 ea (sm.trans s3) i2 _ _ (fun z H6 e s6=>kq _ _ _ ⟨_,_,rfl⟩ (sm.trans (s3.trans s6)) ?_) (fun H6 e s6=>kn _ _ ⟨_,_,rfl⟩ (sm.trans (s3.trans s6)) ?_)
  ·rw[List.take_add_one,ea,List.filterMap_append]
   simp [e]
  ·rw[List.take_add_one,ea,List.filterMap_append]
   simp [e]
 ·rintro ys H sm rfl hl
  rw[List.take_of_length_le (Nat.le_refl _)]
  exact hfin H sm
theorem fm_filter {α:Type} (f:α→V) (p:α→Bool):∀l:List α,l.filterMap (fun i=>if p i=true then some (f i) else none)=(l.filter p).map f
 | []=>rfl
 | x::l=>by
  rw[List.filterMap_cons,List.filter_cons]
  by_cases c:p x=true
  ·simp only[c,if_true,List.map_cons,fm_filter f p l]
  ·simp only[c,if_false,fm_filter f p l]
   rfl
section
variable {X : Cx} {K : PySem.W.Frag}
end
end L2
namespace Lv
open L2
abbrev Fs:=List (Option Int)
noncomputable def gls:Pl→List Int
 | .fin _=>[]
 | .thr _ ws=>ws.map (·.2)
 | .pck _ to=>to
noncomputable def lk (fs:Fs) (g:Int):Option Int:=fs.getD g.toNat none
noncomputable def rdy (fs:Fs) (q:Pl):Bool:=
 match q with
 | .thr _ ws=>(ws.map (·.2)).any fun g=>(lk fs g).isSome
 | .fin _=>true
 | .pck _ to=>to.all fun g=>(lk fs g).isSome
noncomputable def isRdy (b:List Pl) (fs:Fs) (i:Nat):Bool:=(fs.getD i none).isNone && (match b[i]? with | some q=>rdy fs q | none=>false)
noncomputable def fresh (b:List Pl) (fs:Fs):List Nat:=(List.range b.length).filter (isRdy b fs)
noncomputable def setAll (fs:Fs) (is:List Nat) (L:Int):Fs:=is.foldl (fun acc i=>acc.set i (some L)) fs
noncomputable def run (b:List Pl):Nat→Fs→Int→Fs
 | 0,fs,_=>fs
 | m+1,fs,L=>if fresh b fs=[] then fs else run b m (setAll fs (fresh b fs) L) (L+1)
noncomputable def lv0:Pl→Option Int
 | .fin _=>some 0
 | _=>none
noncomputable def fs0 (b:List Pl):Fs:=b.map lv0
noncomputable def lvs (b:List Pl):Fs:=run b b.length (fs0 b) 1
noncomputable def nones (fs:Fs):Nat:=fs.countP (·.isNone)
theorem set_len (fs:Fs):∀(is:List Nat) (L:Int),(setAll fs is L).length=fs.length
 | is,L=>by
  induction is generalizing fs with
  | nil=>rfl
  | cons i is ih=>
   show(setAll (fs.set i (some L)) is L).length=_
   rw[ih,List.length_set]
theorem set_get (L:Int):∀(is:List Nat) (fs:Fs) (k:Nat),(setAll fs is L)[k]?=if k∈is∧k<fs.length then some (some L) else fs[k]?
 | [],fs,k=>by simp [setAll]
 | i::is,fs,k=>by
  show(setAll (fs.set i (some L)) is L)[k]?=_
  rw[set_get L is,List.length_set]
  by_cases h:k<fs.length
  ·by_cases h1:k∈is
   ·rw[if_pos ⟨h1,h⟩,if_pos ⟨List.mem_cons_of_mem _ h1,h⟩]
   ·rw[if_neg (fun z=>h1 z.1)]
    by_cases h2:k=i
    ·subst h2
     rw[if_pos ⟨List.mem_cons_self,h⟩,List.getElem?_set_self h]
    ·rw[if_neg (fun z=>(List.mem_cons.mp z.1).elim h2 h1),List.getElem?_set_ne (Ne.symm h2)]
  ·rw[if_neg (fun z=>h z.2),if_neg (fun z=>h z.2),List.getElem?_eq_none (by rw[List.length_set];omega),List.getElem?_eq_none (by omega)]
theorem nones_cons (x:Option Int) (fs:Fs):nones (x::fs)=nones fs+if x.isNone then 1 else 0:=by
 unfold nones
 rw[List.countP_cons]
theorem nones_set (L:Int):∀(fs:Fs) (i:Nat),nones (fs.set i (some L))≤nones fs
 | [],i=>by simp
 | x::fs,0=>by
  rw[List.set_cons_zero,nones_cons,nones_cons]
  simp
 | x::fs,i+1=>by
  rw[List.set_cons_succ,nones_cons,nones_cons]
  have:=nones_set L fs i
  omega
theorem nones_lt (L:Int):∀(fs:Fs) (i:Nat),fs[i]?=some none→nones (fs.set i (some L))<nones fs
 | [],i,h=>by simp at h
 | x::fs,0,h=>by
  simp at h
  subst h
  rw[List.set_cons_zero,nones_cons,nones_cons]
  simp
 | x::fs,i+1,h=>by
  rw[List.set_cons_succ,nones_cons,nones_cons]
  have:=nones_lt L fs i (by simpa using h)
  omega
theorem nones_all (L:Int):∀(is:List Nat) (fs:Fs),nones (setAll fs is L)≤nones fs
 | [],fs=>Nat.le_refl _
 | i::is,fs=>Nat.le_trans (nones_all L is (fs.set i (some L))) (nones_set L fs i)
theorem nones_all_lt (L:Int) {is:List Nat} {fs:Fs} (h:is≠[]) (k:∀i∈is,fs[i]?=some none):nones (setAll fs is L)<nones fs:=by
 cases is with
 | nil=>exact absurd rfl h
 | cons i is=>exact Nat.lt_of_le_of_lt (nones_all L is _) (nones_lt L fs i (k i List.mem_cons_self))
theorem fresh_mem {b:List Pl} {fs:Fs} {i:Nat}:i∈fresh b fs↔i<b.length∧isRdy b fs i=true:=by
 unfold fresh
 rw[List.mem_filter,List.mem_range]
theorem fresh_none {b:List Pl} {fs:Fs} (hl:fs.length=b.length) {i:Nat} (h:i∈fresh b fs):fs[i]?=some none:=by
 obtain⟨h1,h2⟩:=fresh_mem.mp h
 unfold isRdy at h2
 rw[Bool.and_eq_true] at h2
 have e:fs[i]?=some fs[i]:=List.getElem?_eq_getElem (by omega)
 rw[List.getD_eq_getElem?_getD,e] at h2
 rw[e]
 cases h:fs[i] with
 | none=>rfl
 | some v=>rw[h] at h2;simp at h2
noncomputable def At (fs:Fs) (L:Int) (i:Nat):Pl→Prop
 | .fin _=>fs[i]?=some (some 0)
 | .thr _ ws=>(fs[i]?=some none∧∀g∈ws.map (·.2),∀u,lk fs g=some u→u=L - 1)∨
   ∃v,fs[i]?=some (some v)∧1≤v∧(∃g∈ws.map (·.2),lk fs g=some (v - 1))∧∀g∈ws.map (·.2),∀u,lk fs g=some u→v - 1≤u
 | .pck _ to=>(fs[i]?=some none∧((∀g∈to,(lk fs g).isSome=true)→∃g∈to,lk fs g=some (L - 1)))∨
   ∃v,fs[i]?=some (some v)∧1≤v∧(∀g∈to,∃u,lk fs g=some u∧u≤v - 1)∧∃g∈to,lk fs g=some (v - 1)
structure Good (b:List Pl):Prop where
 rng:∀q∈b,∀g∈gls q,0≤g∧g<b.length
 pck:∀q∈b,∀w to,q=.pck w to→to≠[]
structure Inv (b:List Pl) (fs:Fs) (L:Int):Prop where
 len:fs.length=b.length
 lt:∀(i:Nat) (v:Int),fs[i]?=some (some v)→0≤v∧v<L
 at_:∀(i:Nat) q,b[i]?=some q→At fs L i q
theorem inv0 {b:List Pl} (g:Good b):Inv b (fs0 b) 1:=by
 have h0:∀(i:Nat) (v:Int),(fs0 b)[i]?=some (some v)→v=0:=fun i v e=>by
  unfold fs0 at e
  rw[List.getElem?_map] at e
  obtain⟨q,_,e⟩:=Option.map_eq_some_iff.mp e
  cases q <;>simp [lv0] at e
  exact e.symm
 have hk:∀(g u:Int),lk (fs0 b) g=some u→u=0:=fun g u e=>by
  unfold lk at e
  rw[List.getD_eq_getElem?_getD] at e
  cases h:(fs0 b)[g.toNat]? with
  | none=>rw[h] at e;simp at e
  | some o=>rw[h] at e;simp at e;subst e;exact h0 _ _ h
 refine⟨by simp [fs0],fun i v e=>by have:=h0 i v e;omega,fun i q e=>?_⟩
 have e2:(fs0 b)[i]?=some (lv0 q):=by unfold fs0;rw[List.getElem?_map,e];rfl
 cases q with
 | fin w=>exact e2
 | thr w ws=>exact .inl ⟨e2,fun g _ u h=>hk g u h⟩
 | pck w to=>
  refine .inl ⟨e2,fun h=>?_⟩
  cases to with
  | nil=>exact absurd rfl (g.pck _ (List.mem_of_getElem? e) _ _ rfl)
  | cons x r=>
   refine⟨x,List.mem_cons_self,?_⟩
   have:=h x List.mem_cons_self
   obtain⟨u,hu⟩:=Option.isSome_iff_exists.mp this
   have:=hk x u hu
   rw[hu,this]
   rfl
theorem lk_of {fs:Fs} {g:Int} {u:Int}:lk fs g=some u↔fs[g.toNat]?=some (some u):=by
 unfold lk
 rw[List.getD_eq_getElem?_getD]
 cases h:fs[g.toNat]? with
 | none=>simp
 | some o=>simp
theorem step {b:List Pl} (gb:Good b) {fs:Fs} {L:Int} (I:Inv b fs L) (L1:1≤L):Inv b (setAll fs (fresh b fs) L) (L+1):=by
 have hl:=I.len
 have get:∀(k:Nat),(setAll fs (fresh b fs) L)[k]?=if k∈fresh b fs∧k<fs.length then some (some L) else fs[k]?:=set_get L _ _
 have old:∀(k:Nat) (v:Int),fs[k]?=some (some v)→(setAll fs (fresh b fs) L)[k]?=some (some v):=fun k v e=>by
  rw[get,if_neg,e]
  intro z
  rw[fresh_none hl z.1] at e
  cases e
 have lold:∀(g u:Int),lk fs g=some u→lk (setAll fs (fresh b fs) L) g=some u:=fun g u h=>lk_of.mpr (old _ _ (lk_of.mp h))
 have lnew:∀(g u:Int),lk (setAll fs (fresh b fs) L) g=some u→lk fs g=some u∨u=L:=fun g u h=>by
  have h:=lk_of.mp h
  rw[get] at h
  split at h
  ·right;simpa using h.symm
  ·exact .inl (lk_of.mpr h)
 refine⟨by rw[set_len];exact hl,fun i v e=>?_,fun i q e=>?_⟩
 ·rw[get] at e
  split at e
  ·simp at e;omega
  ·have:=I.lt i v e;omega
 ·have hi:i<b.length:=(List.getElem?_eq_some_iff.mp e).1
  have A:=I.at_ i q e
  have rd:∀(q:Pl),b[i]?=some q→fs[i]?=some none→(i∈fresh b fs↔rdy fs q=true):=fun q e e2=>by
   rw[fresh_mem]
   unfold isRdy
   rw[List.getD_eq_getElem?_getD,e2,e]
   simp [hi]
  cases q with
  | fin w=>exact old _ _ A
  | thr w ws=>
   rcases A with ⟨a1,a2⟩ | ⟨v,a1,a2,⟨x,hx,a3⟩,a4⟩
   ·by_cases c:i∈fresh b fs
    ·right
     refine⟨L,by rw[get,if_pos ⟨c,by omega⟩],L1,?_,fun g hg u h=>?_⟩
     ·have:=(rd _ e a1).mp c
      have:(ws.map (·.2)).any (fun g=>(lk fs g).isSome)=true:=this
      obtain⟨x,hx,h⟩:=List.any_eq_true.mp this
      obtain⟨u,hu⟩:=Option.isSome_iff_exists.mp h
      have:=a2 x hx u hu
      subst this
      exact⟨x,hx,lold _ _ hu⟩
     ·rcases lnew _ _ h with h | h
      ·have:=a2 g hg u h;omega
      ·omega
    ·left
     refine⟨by rw[get,if_neg (fun z=>c z.1)];exact a1,fun g hg u h=>?_⟩
     rcases lnew _ _ h with h | h
     ·exfalso
      refine c ((rd _ e a1).mpr ?_)
      show(ws.map (·.2)).any (fun g=>(lk fs g).isSome)=true
      exact List.any_eq_true.mpr ⟨g,hg,by rw[h];rfl⟩
     ·omega
   ·right
    refine⟨v,old _ _ a1,a2,⟨x,hx,lold _ _ a3⟩,fun g hg u h=>?_⟩
    rcases lnew _ _ h with h | h
    ·exact a4 g hg u h
    ·have:=I.lt i v a1;omega
  | pck w to=>
   rcases A with ⟨a1,a2⟩ | ⟨v,a1,a2,a3,x,hx,a4⟩
   ·by_cases c:i∈fresh b fs
    ·right
     have r:=(rd _ e a1).mp c
     have r:to.all (fun g=>(lk fs g).isSome)=true:=r
     have r:=List.all_eq_true.mp r
     obtain⟨x,hx,h⟩:=a2 r
     refine⟨L,by rw[get,if_pos ⟨c,by omega⟩],L1,fun g hg=>?_,x,hx,lold _ _ h⟩
     obtain⟨u,hu⟩:=Option.isSome_iff_exists.mp (r g hg)
     exact⟨u,lold _ _ hu,by have:=I.lt _ _ (lk_of.mp hu);omega⟩
    ·left
     refine⟨by rw[get,if_neg (fun z=>c z.1)];exact a1,fun h=>?_⟩
     have:¬∀g∈to,(lk fs g).isSome=true:=fun z=>c ((rd _ e a1).mpr (show to.all (fun g=>(lk fs g).isSome)=true from List.all_eq_true.mpr z))
     have:∃g∈to,lk fs g=none:=by
      apply Classical.byContradiction
      intro n
      apply this
      intro g hg
      cases h:lk fs g with
      | none=>exact absurd ⟨g,hg,h⟩ n
      | some u=>rfl
     obtain⟨g,hg,hn⟩:=this
     obtain⟨u,hu⟩:=Option.isSome_iff_exists.mp (h g hg)
     refine⟨g,hg,?_⟩
     rcases lnew _ _ hu with h | h
     ·rw[hn] at h;cases h
     ·rw[hu,h];congr 1;omega
   ·right
    refine⟨v,old _ _ a1,a2,fun g hg=>?_,x,hx,lold _ _ a4⟩
    obtain⟨u,h1,h2⟩:=a3 g hg
    exact⟨u,lold _ _ h1,h2⟩
noncomputable def Ends (fs:Fs) (i:Nat):Pl→Prop
 | .fin _=>fs[i]?=some (some 0)
 | .thr _ ws=>(fs[i]?=some none∧∀g∈ws.map (·.2),lk fs g=none)∨
   ∃v,fs[i]?=some (some v)∧1≤v∧(∃g∈ws.map (·.2),lk fs g=some (v - 1))∧∀g∈ws.map (·.2),∀u,lk fs g=some u→v - 1≤u
 | .pck _ to=>(fs[i]?=some none∧∃g∈to,lk fs g=none)∨
   ∃v,fs[i]?=some (some v)∧1≤v∧(∀g∈to,∃u,lk fs g=some u∧u≤v - 1)∧∃g∈to,lk fs g=some (v - 1)
theorem ends_of {b:List Pl} {fs:Fs} {L:Int} (I:Inv b fs L) (h:fresh b fs=[]) (i:Nat) (q:Pl) (e:b[i]?=some q):Ends fs i q:=by
 have hi:i<b.length:=(List.getElem?_eq_some_iff.mp e).1
 have nr:fs[i]?=some none→rdy fs q=false:=fun e2=>by
  have:i∉fresh b fs:=by rw[h];simp
  rw[fresh_mem] at this
  cases hr:rdy fs q with
  | false=>rfl
  | true=>
   exfalso
   apply this
   refine⟨hi,?_⟩
   unfold isRdy
   rw[List.getD_eq_getElem?_getD,e2,e]
   simp [hr]
 have A:=I.at_ i q e
 cases q with
 | fin w=>exact A
 | thr w ws=>
  rcases A with ⟨a1,a2⟩ | A
  ·refine .inl ⟨a1,fun g hg=>?_⟩
   have:=nr a1
   have:(ws.map (·.2)).any (fun g=>(lk fs g).isSome)=false:=this
   have:=List.any_eq_false.mp this g hg
   simpa using this
  ·exact .inr A
 | pck w to=>
  rcases A with ⟨a1,a2⟩ | A
  ·refine .inl ⟨a1,?_⟩
   have:=nr a1
   have:to.all (fun g=>(lk fs g).isSome)=false:=this
   obtain⟨g,hg,n⟩:=List.all_eq_false.mp this
   exact⟨g,hg,by simpa using n⟩
  ·exact .inr A
theorem nones_pos {b:List Pl} {fs:Fs} (hl:fs.length=b.length) (h:fresh b fs≠[]) (L:Int):nones (setAll fs (fresh b fs) L)<nones fs:=nones_all_lt L h fun _ hi=>fresh_none hl hi
theorem run_inv {b:List Pl} (gb:Good b):∀(m:Nat) (fs:Fs) (L:Int),Inv b fs L→1≤L→nones fs≤m→∃L',L'≤L+m∧Inv b (run b m fs L) L'∧fresh b (run b m fs L)=[]
 | 0,fs,L,I,L1,h=>by
  refine⟨L,by omega,I,?_⟩
  show fresh b fs=[]
  apply Classical.byContradiction
  intro n
  have:=nones_pos I.len n L
  omega
 | m+1,fs,L,I,L1,h=>by
  show ∃L',L'≤L+ (m+1:Nat)∧Inv b (if fresh b fs=[] then fs else run b m (setAll fs (fresh b fs) L) (L+1)) L'∧fresh b (if fresh b fs=[] then fs else run b m (setAll fs (fresh b fs) L) (L+1))=[]
  by_cases c:fresh b fs=[]
  ·rw[if_pos c]
   exact⟨L,by omega,I,c⟩
  ·rw[if_neg c]
   have:=nones_pos I.len c L
   obtain⟨L',h1,h2⟩:=run_inv gb m _ _ (step gb I L1) (by omega) (by omega)
   exact⟨L',by omega,h2⟩
theorem nones_le (fs:Fs):nones fs≤fs.length:=List.countP_le_length
theorem lvs_len {b:List Pl} (gb:Good b):(lvs b).length=b.length:=by
 obtain⟨L,_,I,_⟩:=run_inv gb b.length _ _ (inv0 gb) (by decide) (by have:=nones_le (fs0 b);simpa [fs0] using this)
 exact I.len
theorem lvs_ends {b:List Pl} (gb:Good b) (i:Nat) (q:Pl) (e:b[i]?=some q):Ends (lvs b) i q:=by
 obtain⟨L,_,I,f⟩:=run_inv gb b.length _ _ (inv0 gb) (by decide) (by have:=nones_le (fs0 b);simpa [fs0] using this)
 exact ends_of I f i q e
end Lv
namespace Bf
open L2 Lv
abbrev En:=Int×Option (Int×Nat)×List Nat
noncomputable def keys (es:List En):List Int:=es.map (·.1)
noncomputable def gAt (b:List Pl) (k:Int):List Int:=match b[k.toNat]? with | some q=>gls q | none=>[]
noncomputable def addG (here:Int) (path:List Nat):Nat→List Int→List En→List En
 | _,[],es=>es
 | w,g::gs,es=>addG here path (w+1) gs (if g∈keys es then es else es++ [(g,some (here,w),path++ [w])])
noncomputable def bfs (b:List Pl):Nat→Nat→List En→List En
 | 0,_,es=>es
 | m+1,t,es=>match es[t]? with | none=>es | some e=>bfs b m (t+1) (addG e.1 e.2.2 0 (gAt b e.1) es)
noncomputable def steps (b:List Pl) (start:Int):List En:=bfs b (b.length+1) 0 [(start,none,[])]
structure Core (b:List Pl) (start:Int) (es:List En):Prop where
 nd:(keys es).Nodup
 rng:∀e∈es,0≤e.1∧e.1<b.length
 hd:es[0]?=some (start,none,[])
 par:∀(i:Nat) e,es[i]?=some e→0<i→∃(j:Nat) (ej:En) (w:Nat),j<i∧es[j]?=some ej∧e.2.1=some (ej.1,w)∧(gAt b ej.1)[w]?=some e.1∧e.2.2=ej.2.2++ [w]
 mono:∀(i j:Nat) ei ej,i≤j→es[i]?=some ei→es[j]?=some ej→ei.2.2.length≤ej.2.2.length
structure Mid (b:List Pl) (start:Int) (t:Nat) (e:En) (k:Nat) (es:List En):Prop extends Core b start es where
 at_:es[t]?=some e
 top:∀(i:Nat) ei,es[i]?=some ei→ei.2.2.length≤e.2.2.length+1
 old:∀(j:Nat) ej,j<t→es[j]?=some ej→∀g∈gAt b ej.1,∃(i:Nat) (ei:En),es[i]?=some ei∧ei.1=g∧ei.2.2.length≤ej.2.2.length+1
 now:∀g∈(gAt b e.1).take k,∃(i:Nat) (ei:En),es[i]?=some ei∧ei.1=g∧ei.2.2.length≤e.2.2.length+1
structure Inv (b:List Pl) (start:Int) (t:Nat) (es:List En):Prop extends Core b start es where
 top:∀(i:Nat) ei et,es[i]?=some ei→es[t]?=some et→ei.2.2.length≤et.2.2.length+1
 old:∀(j:Nat) ej,j<t→es[j]?=some ej→∀g∈gAt b ej.1,∃(i:Nat) (ei:En),es[i]?=some ei∧ei.1=g∧ei.2.2.length≤ej.2.2.length+1
theorem get_snoc {α:Type} {l:List α} {x y:α} {i:Nat} (h:(l++ [x])[i]?=some y):l[i]?=some y∨(i=l.length∧y=x):=by
 by_cases c:i<l.length
 ·rw[List.getElem?_append_left c] at h
  exact .inl h
 ·rw[List.getElem?_append_right (by omega)] at h
  have:i - l.length=0:=by
   by_cases q:i - l.length=0
   ·exact q
   ·rw[List.getElem?_eq_none (by simp;omega)] at h;cases h
  rw[this] at h
  simp at h
  exact .inr ⟨by omega,h.symm⟩
theorem up {α:Type} {l:List α} {x y:α} {i:Nat} (h:l[i]?=some y):(l++ [x])[i]?=some y:=by
 rw[List.getElem?_append_left (List.getElem?_eq_some_iff.mp h).1]
 exact h
theorem one {b:List Pl} (gb:Good b) {start:Int} {t:Nat} {e:En} {k:Nat} {es:List En} {g:Int} (M:Mid b start t e k es) (hg:(gAt b e.1)[k]?=some g):
  Mid b start t e (k+1) (if g∈keys es then es else es++ [(g,some (e.1,k),e.2.2++ [k])]):=by
 have tk:(gAt b e.1).take (k+1)=(gAt b e.1).take k++ [g]:=by rw[List.take_add_one,hg];rfl
 by_cases c:g∈keys es
 ·rw[if_pos c]
  refine {M with now:=fun x hx=>?_}
  rw[tk] at hx
  rcases List.mem_append.mp hx with hx | hx
  ·exact M.now x hx
  ·have:x=g:=by simpa using hx
   subst this
   obtain⟨ei,hei,rfl⟩:=List.mem_map.mp c
   obtain⟨i,hi⟩:=List.getElem?_of_mem hei
   exact⟨i,ei,hi,rfl,M.top i ei hi⟩
 ·rw[if_neg c]
  have rg:0≤g∧g<b.length:=by
   unfold gAt at hg
   cases hb:b[e.1.toNat]? with
   | none=>rw[hb] at hg;simp at hg
   | some q=>
    rw[hb] at hg
    exact gb.rng q (List.mem_of_getElem? hb) g (List.mem_of_getElem? hg)
  have tl:t<es.length:=(List.getElem?_eq_some_iff.mp M.at_).1
  refine⟨⟨?_,fun x hx=>?_,up M.hd,fun i x hx i0=>?_,fun i j ei ej hij hi hj=>?_⟩,up M.at_,fun i ei hi=>?_,fun j ej hj hej x hx=>?_,fun x hx=>?_⟩
  ·unfold keys at *
   rw[List.map_append]
   refine List.nodup_append.mpr ⟨M.nd,by simp,fun a ha b' hb'=>?_⟩
   have:b'=g:=by simpa using hb'
   subst this
   intro z
   exact c (z▸ha)
  ·rcases List.mem_append.mp hx with hx | hx
   ·exact M.rng x hx
   ·have:x=(g,some (e.1,k),e.2.2++ [k]):=by simpa using hx
    subst this
    exact rg
  ·rcases get_snoc hx with hx | ⟨rfl,rfl⟩
   ·obtain⟨j,ej,w,a1,a2,a3⟩:=M.par i x hx i0
    exact⟨j,ej,w,a1,up a2,a3⟩
   ·exact⟨t,e,k,tl,up M.at_,rfl,hg,rfl⟩
  ·rcases get_snoc hi with hi | ⟨rfl,rfl⟩
   ·rcases get_snoc hj with hj | ⟨rfl,rfl⟩
    ·exact M.mono i j ei ej hij hi hj
    ·have:=M.top i ei hi
     simpa using this
   ·rcases get_snoc hj with hj | ⟨rfl,rfl⟩
    ·have:=(List.getElem?_eq_some_iff.mp hj).1
     omega
    ·exact Nat.le_refl _
  ·rcases get_snoc hi with hi | ⟨rfl,rfl⟩
   ·exact M.top i ei hi
   ·simp
  ·rcases get_snoc hej with hej | ⟨rfl,rfl⟩
   ·obtain⟨i,ei,a1,a2⟩:=M.old j ej hj hej x hx
    exact⟨i,ei,up a1,a2⟩
   ·omega
  ·rw[tk] at hx
   rcases List.mem_append.mp hx with hx | hx
   ·obtain⟨i,ei,a1,a2⟩:=M.now x hx
    exact⟨i,ei,up a1,a2⟩
   ·have:x=g:=by simpa using hx
    subst this
    exact⟨es.length,(x,some (e.1,k),e.2.2++ [k]),by rw[List.getElem?_append_right (Nat.le_refl _)];simp,rfl,by simp⟩
theorem addG_mid {b:List Pl} (gb:Good b) {start:Int} {t:Nat} {e:En}:∀(gs:List Int) (k:Nat) (es:List En),Mid b start t e k es→(∀(i:Nat) g,gs[i]?=some g→(gAt b e.1)[k+i]?=some g)→Mid b start t e (k+gs.length) (addG e.1 e.2.2 k gs es)
 | [],k,es,M,_=>M
 | g::gs,k,es,M,h=>by
  have:=addG_mid gb gs (k+1) _ (one gb M (h 0 g rfl)) fun i x hx=>by
   have:=h (i+1) x (by simpa using hx)
   rwa [show k+1+i=k+ (i+1) by omega]
  rw[List.length_cons,show k+ (gs.length+1)=k+1+gs.length by omega]
  exact this
theorem mid_of {b:List Pl} {start:Int} {t:Nat} {e:En} {es:List En} (I:Inv b start t es) (h:es[t]?=some e):Mid b start t e 0 es:=
 {I with at_:=h,top:=fun i ei hi=>I.top i ei e hi h,now:=fun g hg=>by simp at hg}
theorem inv_of {b:List Pl} {start:Int} {t:Nat} {e:En} {es:List En} (M:Mid b start t e (gAt b e.1).length es):Inv b start (t+1) es:=by
 refine {M with top:=fun i ei et hi ht=>?_,old:=fun j ej hj hej g hg=>?_}
 ·have h1:=M.top i ei hi
  have h2:=M.mono t (t+1) e et (by omega) M.at_ ht
  omega
 ·by_cases c:j<t
  ·exact M.old j ej c hej g hg
  ·have:j=t:=by omega
   subst this
   rw[M.at_] at hej
   cases hej
   exact M.now g (by rw[List.take_of_length_le (Nat.le_refl _)];exact hg)
theorem turn {b:List Pl} (gb:Good b) {start:Int} {t:Nat} {e:En} {es:List En} (I:Inv b start t es) (h:es[t]?=some e):Inv b start (t+1) (addG e.1 e.2.2 0 (gAt b e.1) es):=by
 have:=addG_mid gb (gAt b e.1) 0 es (mid_of I h) fun i g hg=>by rw[Nat.zero_add];exact hg
 rw[Nat.zero_add] at this
 exact inv_of this
theorem inv0 {b:List Pl} {start:Int} (h0:0≤start) (h1:start<b.length):Inv b start 0 [(start,none,[])]:=by
 refine⟨⟨by simp [keys],fun e he=>?_,rfl,fun i e he hi=>?_,fun i j ei ej _ hi hj=>?_⟩,fun i ei et hi ht=>?_,fun j ej hj=>by omega⟩
 ·have:e=(start,none,[]):=by simpa using he
  subst this
  exact⟨h0,h1⟩
 ·rw[List.getElem?_eq_none (by simp;omega)] at he
  cases he
 ·cases i with
  | zero=>simp at hi;subst hi;simp
  | succ i=>rw[List.getElem?_eq_none (by simp)] at hi;cases hi
 ·cases i with
  | zero=>simp at hi;subst hi;simp
  | succ i=>rw[List.getElem?_eq_none (by simp)] at hi;cases hi
theorem few_nat:∀(n:Nat) (l:List Nat),l.Nodup→(∀x∈l,x<n)→l.length≤n
 | 0,l,_,h=>by
  cases l with
  | nil=>exact Nat.le_refl _
  | cons x r=>have:=h x List.mem_cons_self;omega
 | n+1,l,nd,h=>by
  have:=few_nat n (l.erase n) (nd.erase n) fun x hx=>by
   have h1:=(nd.mem_erase_iff).mp hx
   have:=h x h1.2
   have:=h1.1
   omega
  have:=List.length_erase (a:=n) (l:=l)
  split at this <;>omega
theorem few_of {n:Nat} {l:List Int} (nd:l.Nodup) (h:∀x∈l,0≤x∧x< (n:Int)):l.length≤n:=by
 have:=few_nat n (l.map Int.toNat) (by
  unfold List.Nodup at *
  rw[List.pairwise_map]
  refine nd.imp_of_mem ?_
  intro a b ha hb hab z
  have:=h a ha
  have:=h b hb
  omega) fun x hx=>by
   obtain⟨y,hy,rfl⟩:=List.mem_map.mp hx
   have:=h y hy
   omega
 rwa [List.length_map] at this
theorem Core.few {b:List Pl} {start:Int} {es:List En} (C:Core b start es):es.length≤b.length:=by
 have:=few_of (n:=b.length) C.nd fun x hx=>by
  obtain⟨e,he,rfl⟩:=List.mem_map.mp hx
  exact C.rng e he
 unfold keys at this
 rwa [List.length_map] at this
theorem bfs_inv {b:List Pl} (gb:Good b) {start:Int}:∀(m t:Nat) (es:List En),Inv b start t es→b.length<m+t→∃t',es.length≤(bfs b m t es).length∧(bfs b m t es).length≤t'∧Inv b start t' (bfs b m t es)
 | 0,t,es,I,h=>⟨t,Nat.le_refl _,by have:=I.toCore.few;show es.length≤t;omega,I⟩
 | m+1,t,es,I,h=>by
  unfold bfs
  cases ht:es[t]? with
  | none=>exact⟨t,Nat.le_refl _,List.getElem?_eq_none_iff.mp ht,I⟩
  | some e=>
   obtain⟨t',a1,a2,a3⟩:=bfs_inv gb m (t+1) _ (turn gb I ht) (by omega)
   refine⟨t',Nat.le_trans ?_ a1,a2,a3⟩
   have:∀(gs:List Int) (k:Nat) (es:List En),es.length≤(addG e.1 e.2.2 k gs es).length:=by
    intro gs
    induction gs with
    | nil=>intro k es;exact Nat.le_refl _
    | cons g gs ih=>
     intro k es
     unfold addG
     refine Nat.le_trans ?_ (ih (k+1) _)
     split
     ·exact Nat.le_refl _
     ·simp
   exact this _ _ _
theorem steps_ok {b:List Pl} (gb:Good b) {start:Int} (h0:0≤start) (h1:start<b.length):Core b start (steps b start)∧
  ∀(j:Nat) ej,(steps b start)[j]?=some ej→∀g∈gAt b ej.1,∃(i:Nat) (ei:En),(steps b start)[i]?=some ei∧ei.1=g∧ei.2.2.length≤ej.2.2.length+1:=by
 obtain⟨t,_,a2,I⟩:=bfs_inv gb (b.length+1) 0 _ (inv0 (b:=b) h0 h1) (by omega)
 refine⟨I.toCore,fun j ej hj=>I.old j ej ?_ hj⟩
 have:=(List.getElem?_eq_some_iff.mp hj).1
 show j<t
 unfold steps at *
 omega
noncomputable def go (b:List Pl):Int→List Nat→Option Int
 | k,[]=>some k
 | k,w::ws=>match (gAt b k)[w]? with | some g=>go b g ws | none=>none
theorem go_snoc {b:List Pl}:∀{ws:List Nat} {k g:Int} {w:Nat},go b k (ws++ [w])=(match go b k ws with | some x=>(gAt b x)[w]? | none=>none)
 | [],k,g,w=>by
  show(match (gAt b k)[w]? with | some g=>go b g [] | none=>none)=(gAt b k)[w]?
  cases (gAt b k)[w]? <;>rfl
 | v::ws,k,g,w=>by
  show(match (gAt b k)[v]? with | some g=>go b g (ws++ [w]) | none=>none)=(match (match (gAt b k)[v]? with | some g=>go b g ws | none=>none) with | some x=>(gAt b x)[w]? | none=>none)
  cases (gAt b k)[v]? with
  | none=>rfl
  | some x=>exact go_snoc (g:=g)
theorem path_ok {b:List Pl} {start:Int} {es:List En} (C:Core b start es):∀(i:Nat) (e:En),es[i]?=some e→go b start e.2.2=some e.1:=by
 intro i
 induction i using Nat.strongRecOn with
 | ind i ih=>
  intro e he
  by_cases c:i=0
  ·subst c
   rw[C.hd] at he
   cases he
   rfl
  ·obtain⟨j,ej,w,a1,a2,a3,a4,a5⟩:=C.par i e he (by omega)
   rw[a5,go_snoc (g:=e.1),ih j a1 ej a2]
   exact a4
end Bf
namespace PySem
section
variable {prog : Program} {w : World} {A : Around} {E : Value → Shared → Prop} {s : Shared}
end
end PySem
namespace L2
open PySem PySem.Spec PyProof.Rows PySem.W
section
variable {X : Cx} {K : PySem.W.Frag}
noncomputable def tRev (K:PySem.W.Frag) (te:TE):TE:=fun σ H Q=>te σ H fun v H1=>∃p xs,v=.ref p∧SqL K H1 p xs∧∀l,H1 l=none→Q (.ref l) (upd H1 l (.lst xs.reverse))
noncomputable def tD1 (tk tv:TE):TE:=fun σ H Q=>∀d,H d=none→tk σ (upd H d (.dK [])) fun x H1=>tv σ H1 fun v H2=>∃k,x=kV k∧H2 d=some (.dK [])∧Q (.ref d) (upd H2 d (.dK [(k,v)]))
theorem pe_d1 {ke ve:Expr} {tk tv:TE} {pos:Pos} (hk:PE X ke tk) (hv:PE X ve tv):PE X (.Dict [some ke] [ve] pos) (tD1 tk tv):=by
 intro pins s σ H Q I h
 refine wpAny_Dict_pairs (knd:=mixKind X.prog X.w) (pairs:=[(eval ke X.env,do let x ←eval ve X.env;standAt pos;pure x)]) rfl (by simp) (by simp) ?_
 have fr:=I.hok.fresh (a:=s.heap.objs.size) (Nat.le_refl _)
 have I1:Inv X pins σ (upd H s.heap.objs.size (.dK [])) {s with heap:=s.heap.push {cls:=.type "dict",data:=.dict #[]}}:=I.laid (t':=s.toks) (fun _ _ q=>Heap.get?_push_of_some _ q) (Nat.le_refl _) (dk_empty s.heap I.big)
 unfold evalPairs
 refine wpAny_bind (thn (hk pins _ σ _ _ I1 (h _ fr)) fun ku s1 hh_=>?_)
 obtain⟨x,H1,I2,rx,q1⟩:=hh_
 refine wpAny_bind (wpAny_holding (wpAny_bind (thn (hv pins _ σ _ _ I2 q1) fun vu s2 ⟨v,H2,I3,rv,k,ex,hd,q⟩=>wpAny_bind (wpAny_standAt (wpAny_pure ?_)))))
 subst ex
 obtain⟨z,lo,vs,kv,dd⟩:=dk_of I3.hok hd
 cases kv
 unfold evalPairs
 refine wpAny_bind (wpAny_holding (wpAny_pure (wpAny_pure ⟨[(k,vu)],⟨kV_is rx,rfl,trivial⟩,dd,fun h' dd' hs=>?_⟩)))
 have dd':h'.DictOf (mixKind X.prog X.w) s.heap.objs.size [(k,vu)]:=dd'
 have he:∃q,h'.get? s.heap.objs.size=some q:=let ⟨q,_,_,hq,_⟩:=dd';⟨q,hq⟩
 exact⟨.ref s.heap.objs.size,_,d_write I3 (by rw[hd];exact True.intro) hs he (dk_new (kvs:=[(k,v)]) (by rw[sizeLine_eq];simp) lo (.cons ⟨rfl,rv⟩ .nil) dd'),rfl,q⟩
end
end L2
namespace KS
open PySem PySem.W PyProof.Rows
noncomputable def Bd {α:Type} (lt:Nat→Nat→Bool) (n:Nat) (post:α→Prop):KasT α→Prop
 | .ret a=>post a
 | .ask i j k=>i<n∧j<n∧Bd lt n post (k (lt i j))
theorem Bd.bind {α β:Type} {lt:Nat→Nat→Bool} {n:Nat} {post:β→Prop} {f:α→KasT β}:∀{t:KasT α},Bd lt n (fun a=>Bd lt n post (f a)) t→Bd lt n post (t.bind f)
 | .ret _,h=>h
 | .ask _ _ _,⟨h1,h2,h3⟩=>⟨h1,h2,Bd.bind h3⟩
theorem Bd.mono {α:Type} {lt:Nat→Nat→Bool} {n:Nat} {p q:α→Prop} (hpq:∀a,p a→q a):∀{t:KasT α},Bd lt n p t→Bd lt n q t
 | .ret _,h=>hpq _ h
 | .ask _ _ _,⟨h1,h2,h3⟩=>⟨h1,h2,Bd.mono hpq h3⟩
theorem Bd.wp {α:Type} {lt:Nat→Nat→Bool} {n:Nat} {post:α→Prop} {cmp:Nat→Nat→(Bool→Shared→Prop)→Shared→Prop} {Q:α→Shared→Prop} {s:Shared}
  (hc:∀i j C,i<n→j<n→C (lt i j) s→cmp i j C s) (hq:∀a,post a→Q a s):∀{t:KasT α},Bd lt n post t→t.kasWp cmp Q s
 | .ret _,h=>hq _ h
 | .ask i j k,⟨h1,h2,h3⟩=>hc i j _ h1 h2 (Bd.wp hc hq h3)
noncomputable def Pm (n:Nat) (p:Array Nat):Prop:=p.Perm (List.range n).toArray
theorem Pm.lt {n:Nat} {p:Array Nat} (h:Pm n p) (hn:0<n) (i:Nat):p.getD i 0<n:=by
 by_cases hi:i<p.size
 ·have:p.getD i 0=p[i]:=by simp [Array.getD,hi]
  rw[this]
  have hm:p[i]∈p:=Array.getElem_mem hi
  have:=(Array.Perm.mem_iff h).mp hm
  simpa using this
 ·have:p.getD i 0=0:=by simp [Array.getD,hi]
  omega
theorem Pm.rev {n:Nat} {p:Array Nat} (h:Pm n p) (i j:Nat):Pm n (kas_rev p i j):=(mirror_perm _ _ _ _).trans h
theorem Pm.bub {n:Nat} {p:Array Nat} (h:Pm n p) (i j:Nat):Pm n (bubble p i j):=(bubble_perm _ _ _).trans h
variable {lt : Nat → Nat → Bool} {n : Nat}
theorem asc_bd {p:Array Nat} (h:Pm n p) (hn:0<n):∀f k,Bd lt n (fun _=>True) (kas_asc p f k)
 | 0,_=>trivial
 | f+1,k=>by
  refine⟨h.lt hn _,h.lt hn _,?_⟩
  dsimp only
  split
  ·trivial
  ·exact asc_bd h hn f (k+1)
theorem desc_bd (hn:0<n):∀f (p:Array Nat) k q,Pm n p→Bd lt n (fun r=>Pm n r.1) (kas_desc f p k q)
 | 0,p,k,q,h=>h
 | f+1,p,k,q,h=>by
  refine⟨h.lt hn _,h.lt hn _,?_⟩
  dsimp only
  split
  ·split
   ·exact desc_bd hn f _ _ _ (h.rev _ _)
   ·exact desc_bd hn f _ _ _ h
  ·refine⟨h.lt hn _,h.lt hn _,?_⟩
   dsimp only
   split
   ·exact h
   ·exact desc_bd hn f _ _ _ h
theorem tail3_bd (hn:0<n) {p:Array Nat} (h:Pm n p) (m r:Nat):Bd lt n (fun r=>Pm n r.2) (kas_tail3 m r p):=
 Bd.bind ((asc_bd (h.rev _ _) hn _ _).mono fun _ _=>h.rev _ _)
theorem descPart_bd (hn:0<n) {p:Array Nat} (h:Pm n p) (m r:Nat):Bd lt n (fun r=>Pm n r.2) (kas_descPart m r p):=by
 refine Bd.bind ((desc_bd hn _ _ _ _ h).mono fun x hx=>?_)
 split
 ·exact tail3_bd hn (hx.rev _ _) _ _
 ·exact tail3_bd hn hx _ _
theorem count_bd (hn:0<n) {p:Array Nat} (h:Pm n p) (r:Nat):Bd lt n (fun r=>Pm n r.2) (kas_count r p):=by
 refine Bd.bind ((asc_bd h hn _ _).mono fun m _=>?_)
 split
 ·exact h
 ·split
  ·refine⟨h.lt hn _,h.lt hn _,?_⟩
   dsimp only
   split
   ·exact h
   ·exact descPart_bd hn (h.rev _ _) _ _
  ·exact descPart_bd hn h _ _
theorem place_bd (hn:0<n) {p:Array Nat} (h:Pm n p) (k:Nat):∀f l r,Bd lt n (fun _=>True) (kas_place p k f l r)
 | 0,_,_=>trivial
 | f+1,l,r=>by
  unfold kas_place
  split
  ·trivial
  ·refine⟨h.lt hn _,h.lt hn _,?_⟩
   dsimp only
   split
   ·exact place_bd hn h k f _ _
   ·exact place_bd hn h k f _ _
theorem bin_bd (hn:0<n):∀f (p:Array Nat) k,Pm n p→Bd lt n (Pm n) (kas_bin f p k)
 | 0,p,k,h=>h
 | f+1,p,k,h=>Bd.bind ((place_bd hn h k _ _ _).mono fun l _=>bin_bd hn f _ _ (h.bub _ _))
theorem sort_bd (hn:0<n):Bd lt n (Pm n) (kas_sort n):=by
 refine Bd.bind ((count_bd hn (Array.Perm.refl _) n).mono fun r hr=>?_)
 split
 ·exact bin_bd hn _ _ _ hr
 ·exact hr
section
variable {prog : Program} {w : World} {A : Around} {E : Value → Shared → Prop} {s : Shared} {vs : List Value} {κ : SortKind}
theorem list_sort_asksR {R:List Nat→Prop} {a:Addr} {m:Nat} {P:PySem.Fin→Shared→Prop} (ho:s.heap.get? a=some (seqObj "list" vs.toArray m)) (h64:vs.length<64)
  (hkind:2≤vs.length→∀h' Q',(∀b o,b≠a→s.heap.get? b=some o→h'.get? b=some o)→Q' κ {s with heap:=h'}→wpAny (model prog w) A (keyKind' vs.toArray) Q' (fun _ _=>False) {s with heap:=h'})
  (hcmp:∀i j h' C,i<vs.length→j<vs.length→(∀b o,b≠a→s.heap.get? b=some o→h'.get? b=some o)→C (lt i j) {s with heap:=h'}→kas_ask prog w A κ vs i j C {s with heap:=h'})
  (hbd:2≤vs.length→Bd lt vs.length (fun p=>Pm vs.length p∧R p.toList) (kas_sort vs.length)) (h0:vs.length<2→R (List.range vs.length))
  (h:∀p:List Nat,p.Perm (List.range vs.length)→R p→P (.done (.ret .none)) {s with heap:=sortedHeap s.heap a vs (p.map fun i=>vs.getD i Value.none).toArray}):
  wpAny (model prog w) A (Builtin.«list.sort» ⟨[.ref a],[]⟩) P E s:=by
 rw[list_sort_plain]
 have ha:a<s.heap.objs.size:=Heap.lt_size ho
 refine wpAny_bind (listItems_at ho rfl ?_)
 refine wpAny_bind (listUpdate_at ho rfl ?_ (by rw[List.size_toArray,sizeLine_eq];omega) (Nat.zero_le _))
 obtain⟨e1,ho1⟩:∃e1,(s.heap.update a (Obj.mapSeq fun _=>#[])).get? a=some (seqObj "list" #[] e1):=⟨_,get?_update_seq ho (fun _=>#[])⟩
 refine wpAny_bind (seqEpoch_at ho1 rfl ?_)
 refine wpAny_bind (wpAny_newTuple ?_ (by show vs.length≤_;rw[sizeLine_eq];omega))
 refine wpAny_bind (wpAny_newList ?_ (Nat.zero_le _))
 refine wpAny_holding ?_
 have ho6:(((s.heap.update a (Obj.mapSeq fun _=>#[])).push (seqObj "tuple" vs.toArray 0)).push (seqObj "list" #[] 0)).get? a=some (seqObj "list" #[] e1):=by
  rw[Heap.get?_push_ne _ _ _ (by rw[size_push',Heap.size_update];exact Nat.ne_of_lt (Nat.lt_succ_of_lt ha)),Heap.get?_push_ne _ _ _ (by rw[Heap.size_update];exact Nat.ne_of_lt ha)]
  exact ho1
 have keep:∀b o,b≠a→s.heap.get? b=some o→(((s.heap.update a (Obj.mapSeq fun _=>#[])).push (seqObj "tuple" vs.toArray 0)).push (seqObj "list" #[] 0)).get? b=some o:=fun b o hb q=>
  Heap.get?_push_of_some _ (Heap.get?_push_of_some _ ((Heap.get?_update_other _ _ (Ne.symm hb)).trans q))
 show wpAny (model prog w) A _ P E {s with heap:=((s.heap.update a (Obj.mapSeq fun _=>#[])).push (seqObj "tuple" vs.toArray 0)).push (seqObj "list" #[] 0)}
 dsimp only
 have hsz:vs.toArray.size=vs.length:=by simp
 have gd:∀(l:List Value),(List.range l.length).map (fun i=>l.getD i Value.none)=l:=fun l=>by
  apply List.ext_getElem?
  intro i
  rw[List.getElem?_map]
  by_cases hi:i<l.length
  ·rw[List.getElem?_range hi,List.getElem?_eq_getElem hi]
   simp [hi]
  ·rw[List.getElem?_eq_none (by rw[List.length_range];omega),List.getElem?_eq_none (by omega)]
   rfl
 by_cases h2:vs.toArray.size<2
 ·rw[if_pos h2,if_pos h2]
  refine wpAny_bind (wpAny_pure ?_)
  rw[StateT.run_pure]
  refine wpAny_bind (wpAny_pure ?_)
  dsimp only
  refine wpAny_bind (seqEpoch_at ho6 rfl ?_)
  refine wpAny_bind (listUpdate_at ho6 rfl ?_ (hsz2:=by rw[Array.size_map];show(pairsOf vs).size≤_;rw[pairsOf_size,sizeLine_eq];omega))
  simp only[bne_self_eq_false,Bool.false_eq_true,if_false]
  have e:(vs.toArray.zip vs.toArray).map (fun(x:Keyed)=>x.2)=((List.range vs.length).map fun i=>vs.getD i Value.none).toArray:=by
   rw[gd]
   apply Array.toList_inj.mp
   rw[Array.toList_map]
   simp [List.map_snd_zip]
  refine wpAny_pure ?_
  have:=h (List.range vs.length) (List.Perm.refl _) (h0 (by omega))
  rw[←e] at this
  exact this
 ·have h2':2≤vs.length:=by omega
  rw[if_neg h2,if_neg h2]
  refine wpAny_bind (wpAny_mono (hkind h2' _ (fun κ' s'=>κ'=κ∧s'={s with heap:=((s.heap.update a (Obj.mapSeq fun _=>#[])).push (seqObj "tuple" vs.toArray 0)).push (seqObj "list" #[] 0)}) keep ⟨rfl,rfl⟩) ?_ fun _ _ x=>x.elim)
  rintro κ' s' ⟨rfl,rfl⟩
  refine wpAny_bind (wpAny_mono (kat_run (ks:=vs) (vs:=vs) (Q:=fun st' s'=>s'={s with heap:=((s.heap.update a (Obj.mapSeq fun _=>#[])).push (seqObj "tuple" vs.toArray 0)).push (seqObj "list" #[] 0)}∧∃p:Array Nat,p.size=vs.length∧arrOf st'=p.map (kas_item (vs.toArray.zip vs.toArray))∧failedOf st'=none∧Pm vs.length p∧R p.toList)
   (G:=fun p s'=>s'={s with heap:=((s.heap.update a (Obj.mapSeq fun _=>#[])).push (seqObj "tuple" vs.toArray 0)).push (seqObj "list" #[] 0)}∧Pm vs.length p∧R p.toList) rfl h2' h64 (fun p st' s' a1 a2 a3 a4=>⟨a4.1,p,a1,a2,a3,a4.2⟩) ?_) ?_ fun _ _ e=>e)
  ·exact Bd.wp (lt:=lt) (n:=vs.length) (fun i j C hi hj hC=>hcmp i j _ C hi hj keep hC) (fun p hp=>⟨rfl,hp⟩) (hbd h2')
  rintro⟨⟨⟩,st'⟩ s' ⟨rfl,p,hp,har,hf,pm,hR⟩
  dsimp only
  have hout:=kat_snds (ks:=vs) (vs:=vs) rfl har
  rw[hout]
  refine wpAny_bind (seqEpoch_at ho6 rfl ?_)
  refine wpAny_bind (listUpdate_at ho6 rfl ?_ (Nat.zero_le _) (by rw[List.size_toArray,List.length_map,Array.length_toList,hp,sizeLine_eq];omega))
  rw[hf]
  simp only[bne_self_eq_false,Bool.false_eq_true,if_false]
  exact wpAny_pure (h p.toList (by have:=pm.toList;simpa using this) hR)
theorem sorted_asksR {R:List Nat→Prop} {l:Addr} {Q:Value→Shared→Prop} (hl:s.heap.IsList l vs.toArray) (h64:vs.length<64)
  (hkind:2≤vs.length→∀h' Q',(∀b o,s.heap.get? b=some o→h'.get? b=some o)→Q' κ {s with heap:=h'}→wpAny (model prog w) A.in1.in1 (keyKind' vs.toArray) Q' (fun _ _=>False) {s with heap:=h'})
  (hcmp:∀i j h' C,i<vs.length→j<vs.length→(∀b o,s.heap.get? b=some o→h'.get? b=some o)→C (lt i j) {s with heap:=h'}→kas_ask prog w A.in1.in1 κ vs i j C {s with heap:=h'})
  (hbd:2≤vs.length→Bd lt vs.length (fun p=>Pm vs.length p∧R p.toList) (kas_sort vs.length)) (h0:vs.length<2→R (List.range vs.length))
  (h:∀p:List Nat,p.Perm (List.range vs.length)→R p→Q (.ref (s.heap.objs.size+1)) {s with heap:=sortedAll s.heap vs (p.map fun i=>vs.getD i Value.none).toArray}):
  wpAny (model prog w) A (call (.builtin "sorted") [.ref l]) Q E s:=by
 refine Calls.call_function_entry kind_sorted plain_sorted entry_sorted (args_sorted1 _) ?_
 unfold Builtin.«sorted»
 refine wpAny_bind (m:=checkCount "sorted" 1 1 _) (wpAny_pure ?_)
 refine wpAny_bind (collect_list hl ?_ (by rw[sizeLine_eq];omega))
 refine wpAny_bind (wpAny_newList ?_ (by rw[sizeLine_eq];omega))
 have hsz:((s.heap.push (seqObj "list" #[] 0)).update s.heap.objs.size (Obj.mapSeq (·++vs.toArray))).objs.size=s.heap.objs.size+1:=by
  rw[Heap.size_update,size_push']
 have hoL:(((s.heap.push (seqObj "list" #[] 0)).update s.heap.objs.size (Obj.mapSeq (·++vs.toArray))).push (seqObj "list" vs.toArray 0)).get? (s.heap.objs.size+1)=some (seqObj "list" vs.toArray 0):=by
  rw[←hsz];exact Heap.get?_push_size _ rfl
 have keep:∀b o,s.heap.get? b=some o→b≠s.heap.objs.size+1∧(((s.heap.push (seqObj "list" #[] 0)).update s.heap.objs.size (Obj.mapSeq (·++vs.toArray))).push (seqObj "list" vs.toArray 0)).get? b=some o:=fun b o q=>by
  have hlt:b<s.heap.objs.size:=Heap.lt_size q
  refine⟨Nat.ne_of_lt (Nat.lt_succ_of_lt hlt),?_⟩
  rw[Heap.get?_push_ne _ _ _ (by rw[hsz];exact Nat.ne_of_lt (Nat.lt_succ_of_lt hlt)),Heap.get?_update_ne _ _ _ _ (Nat.ne_of_lt hlt),Heap.get?_push_ne _ _ _ (Nat.ne_of_lt hlt)]
  exact q
 show wpAny _ _ _ _ _ {s with heap:=((s.heap.push (seqObj "list" #[] 0)).update s.heap.objs.size (Obj.mapSeq (·++vs.toArray))).push (seqObj "list" vs.toArray 0)}
 rw[hsz]
 refine wpAny_bind (wpAny_holding (wpAny_call_entry slot_list_sort ⟨_,hoL,rfl⟩ entry_list_sort (list_sort_asksR (lt:=lt) (κ:=κ) hoL h64 (fun h2 h' Q' hk hq=>hkind h2 h' Q' (fun b o q=>hk b o (keep b o q).1 (keep b o q).2) hq)
  (fun i j h' C hi hj hk hC=>hcmp i j h' C hi hj (fun b o q=>hk b o (keep b o q).1 (keep b o q).2) hC) hbd h0 fun p hp hR=>⟨_,rfl,?_⟩) (args_list_sort _)))
 exact wpAny_pure ⟨_,rfl,h p hp hR⟩
theorem sorted_asks {l:Addr} {Q:Value→Shared→Prop} (hl:s.heap.IsList l vs.toArray) (h64:vs.length<64)
  (hkind:2≤vs.length→∀h' Q',(∀b o,s.heap.get? b=some o→h'.get? b=some o)→Q' κ {s with heap:=h'}→wpAny (model prog w) A.in1.in1 (keyKind' vs.toArray) Q' (fun _ _=>False) {s with heap:=h'})
  (hcmp:∀i j h' C,i<vs.length→j<vs.length→(∀b o,s.heap.get? b=some o→h'.get? b=some o)→C (lt i j) {s with heap:=h'}→kas_ask prog w A.in1.in1 κ vs i j C {s with heap:=h'})
  (h:∀p:List Nat,p.Perm (List.range vs.length)→Q (.ref (s.heap.objs.size+1)) {s with heap:=sortedAll s.heap vs (p.map fun i=>vs.getD i Value.none).toArray}):
  wpAny (model prog w) A (call (.builtin "sorted") [.ref l]) Q E s:=
 sorted_asksR (R:=fun _=>True) hl h64 hkind hcmp (fun h2=>(sort_bd (by omega)).mono fun _ hp=>⟨hp,trivial⟩) (fun _=>trivial) fun p hp _=>h p hp
noncomputable def ltP (x y:Int×Int):Bool:=if x.1=y.1 then decide (x.2<y.2) else decide (x.1<y.1)
theorem pair_lt {x y:Addr} {ox oy:Obj} {a b c d:Int} {t1 t2 t3 t4:Tok} {n k:Nat} {C:Bool→Shared→Prop} (hx:s.heap.get? x=some ox) (dx:ox.data=.seq #[.int a t1,.int b t2] n) (hy:s.heap.get? y=some oy) (dy:oy.data=.seq #[.int c t3,.int d t4] k)
  (h:C (ltP (a,b) (c,d)) s):wpAny (model prog w) A (keyLt' (tuples' true) (.ref x) (.ref y)) C E s:=by
 refine kat_lt hx dx hy dy (kat_cons (wpAny_eqBool_int ?_))
 unfold ltP at h
 dsimp only at h
 by_cases e:a=c
 ·rw[if_pos e] at h
  subst e
  rw[show(a==a)=true by simp]
  refine kat_yes (kat_cons (wpAny_eqBool_int ?_))
  by_cases e2:b=d
  ·subst e2
   rw[show(b==b)=true by simp]
   refine kat_yes (kat_nil ?_)
   simpa using h
  ·rw[show(b==d)=false by simpa using e2]
   refine kat_no (kat_one _ _ ?_)
   exact CmpOf.ints_lt (P:=fun i v=>∃t,v=Value.int (if i=0 then b else d) t) (fun i=>if i=0 then b else d) (fun i v h=>h) 0 1 _ _ s _ _ ⟨t2,rfl⟩ ⟨t4,rfl⟩ h
 ·rw[if_neg e] at h
  rw[show(a==c)=false by simpa using e]
  exact kat_no (oneLt_int h)
end
end KS
namespace L2
open PySem PySem.Spec PyProof.Rows PySem.W
section
variable {X : Cx} {K : PySem.W.Frag}
theorem perm_vals {xs:List V} {us:List Value} (r:Vals xs us) (p:List Nat) (hp:p.Perm (List.range us.length)):∃ys,ys.Perm xs∧Vals ys (p.map fun i=>us.getD i Value.none):=by
 have hl:=r.length
 have get:∀i,i<us.length→∃x u,xs[i]?=some x∧us[i]?=some u∧RelV x u:=by
  clear hp hl
  induction r with
  | nil=>intro i hi;simp at hi
  | cons r1 r2 ih=>
   intro i hi
   cases i with
   | zero=>exact⟨_,_,rfl,rfl,r1⟩
   | succ i=>
    obtain⟨x,u,a1,a2,a3⟩:=ih i (by simpa using hi)
    exact⟨x,u,by simpa using a1,by simpa using a2,a3⟩
 refine⟨p.map fun i=>xs.getD i .non,?_,?_⟩
 ·refine(hp.map _).trans ?_
  rw[←hl]
  have:(List.range xs.length).map (fun i=>xs.getD i V.non)=xs:=by
   apply List.ext_getElem?
   intro i
   rw[List.getElem?_map]
   by_cases hi:i<xs.length
   ·rw[List.getElem?_range hi,List.getElem?_eq_getElem hi]
    simp [hi]
   ·rw[List.getElem?_eq_none (by rw[List.length_range];omega),List.getElem?_eq_none (by omega)]
    rfl
  rw[this]
 ·have hb:∀i∈p,i<us.length:=fun i hi=>List.mem_range.mp (hp.mem_iff.mp hi)
  clear hp
  induction p with
  | nil=>exact .nil
  | cons i p ih=>
   obtain⟨x,u,a1,a2,a3⟩:=get i (hb i List.mem_cons_self)
   refine .cons ?_ (ih fun j hj=>hb j (List.mem_cons_of_mem _ hj))
   show RelV (xs.getD i V.non) (us.getD i Value.none)
   rw[List.getD_eq_getElem?_getD,List.getD_eq_getElem?_getD,a1,a2]
   exact a3
noncomputable def PairsL (H:Hp) (xs:List V):Prop:=∀x∈xs,∃t a b,x=.ref t∧H t=some (.tup [.int a,.int b])
theorem call_sorted_p:CallR X (.builtin "sorted") (fun xs H Q=>∃p ys,xs=[.ref p]∧SqL X.K H p ys∧ys.length<64∧PairsL H ys∧∀l zs,H l=none→zs.Perm ys→Q (.ref l) (upd H l (.lst zs))):=by
 intro pins s σ H xs us Q I r h
 obtain⟨p,ys,rfl,hq,hn,hP,q⟩:=h
 obtain⟨u,rfl,rx⟩:=vals1 r
 cases rx
 obtain⟨its,rv,pl,hz⟩:=I.list hq
 have hl:=rv.length
 have each:∀v∈its,∃t o a b t1 t2 n,v=.ref t∧s.heap.get? t=some o∧o.cls=.type "tuple"∧o.data=.seq #[.int a t1,.int b t2] n:=by
  clear hq hl q pl hz hn
  induction rv with
  | nil=>intro v hv;simp at hv
  | cons r1 r2 ih=>
   intro v hv
   rcases List.mem_cons.mp hv with rfl | hv
   ·obtain⟨t,a,b,rfl,ht⟩:=hP _ List.mem_cons_self
    cases r1
    obtain⟨is2,v2,tp,_⟩:=I.tuple (SqT.of ht)
    obtain⟨o,ho,hc,n,hd⟩:=tp
    cases v2 with
    | cons q1 q2=>
     cases q2 with
     | cons q3 q4=>
      cases q4
      obtain⟨t1,rfl⟩:=q1
      obtain⟨t2,rfl⟩:=q3
      exact⟨t,o,a,b,t1,t2,n,rfl,ho,hc,by simpa using hd⟩
   ·exact ih (fun x hx=>hP x (List.mem_cons_of_mem _ hx)) v hv
 have each':∀i:Nat,∃pr:Int×Int,∀v,its[i]?=some v→∃t o t1 t2 n,v=.ref t∧s.heap.get? t=some o∧o.cls=.type "tuple"∧o.data=.seq #[.int pr.1 t1,.int pr.2 t2] n:=fun i=>by
  cases hi:its[i]? with
  | none=>exact⟨(0,0),fun v hv=>by cases hv⟩
  | some v=>
   obtain⟨t,o,a,b,t1,t2,n,e1,e2,e3,e4⟩:=each v (List.mem_of_getElem? hi)
   exact⟨(a,b),fun v' hv=>by cases hv;exact⟨t,o,t1,t2,n,e1,e2,e3,e4⟩⟩
 obtain⟨f,hf⟩:=Classical.skolem.mp each'
 refine KS.sorted_asks (lt:=fun i j=>KS.ltP (f i) (f j)) (κ:=tuples' true) pl.isList (by omega) (fun h2 h' Q' hk hq=>?_) (fun i j h' C hi hj hk hC=>?_) fun p hp=>?_
 ·have tups:∀(l:List Value),(∀v∈l,v∈its)→∃fs,KatTups h' l fs∧fs.length=l.length∧∀v∈fs,∃a t,v=Value.int a t:=by
   intro l
   induction l with
   | nil=>intro _;exact⟨[],trivial,rfl,fun v hv=>by simp at hv⟩
   | cons v l ih=>
    intro hm
    obtain⟨fs,k1,k2,k3⟩:=ih fun x hx=>hm x (List.mem_cons_of_mem _ hx)
    obtain⟨t,o,a,b,t1,t2,n,rfl,e2,e3,e4⟩:=each v (hm v List.mem_cons_self)
    refine⟨.int a t1::fs,KatTups.cons (hk _ _ e2) e3 e4 rfl k1,by simp [k2],fun x hx=>?_⟩
    rcases List.mem_cons.mp hx with rfl | hx
    ·exact⟨a,t1,rfl⟩
    ·exact k3 x hx
  obtain⟨fs,k1,k2,k3⟩:=tups its fun v hv=>hv
  exact kat_kind (T:=.type "int") (s:={s with heap:=h'}) k1 (by omega) (fun v hv=>by obtain⟨a,t,rfl⟩:=k3 v hv;exact .now) (by decide) hq
 ·obtain⟨t,o,t1,t2,n,e1,e2,e3,e4⟩:=hf i _ (List.getElem?_eq_getElem hi)
  obtain⟨t',o',t3,t4,n',e1',e2',e3',e4'⟩:=hf j _ (List.getElem?_eq_getElem hj)
  unfold kas_ask
  rw[List.getD_eq_getElem?_getD,List.getD_eq_getElem?_getD,List.getElem?_eq_getElem hi,List.getElem?_eq_getElem hj,e1,e1']
  exact KS.pair_lt (s:={s with heap:=h'}) (hk _ _ e2) e4 (hk _ _ e2') e4' hC
 ·obtain⟨zs,pz,vz⟩:=perm_vals rv p hp
  obtain⟨e,he⟩:=sortedAll_at s.heap its (p.map fun i=>its.getD i Value.none).toArray
  have fr:=I.hok.fresh (a:=s.heap.objs.size+1) (Nat.le_succ _)
  refine⟨.ref (s.heap.objs.size+1),_,I.laid (t':=s.toks) (fun _ _=>sortedAll_old) (Nat.le_succ _) (o:=.lst zs) ⟨?_,_,e,vz,?_⟩,rfl,q _ _ fr pz⟩
  ·rw[pz.length_eq,sizeLine_eq];omega
  ·exact he
theorem call_sorted_pK (hK:X.K=K:=by rfl):CallR X (.builtin "sorted") (fun xs H Q=>∃p ys,xs=[.ref p]∧SqL K H p ys∧ys.length<64∧PairsL H ys∧∀l zs,H l=none→zs.Perm ys→Q (.ref l) (upd H l (.lst zs))):=by subst hK;exact call_sorted_p
end
end L2
namespace Lv
open L2
theorem lk_nat {fs:Fs} {k:Nat} {u:Int}:lk fs (k:Int)=some u↔fs[k]?=some (some u):=by
 rw[lk_of,Int.toNat_natCast]
noncomputable def nm (s:List Nat) (g:Int):Int:=((s.getD g.toNat 0:Nat):Int)
noncomputable def ren (s:List Nat):Pl→Pl
 | .fin w=>.fin w
 | .thr w ws=>.thr w (ws.map fun p=>(p.1,nm s p.2))
 | .pck w to=>.pck w (to.map (nm s))
noncomputable def turn (s:List Nat) (b:List Pl):List Pl:=(List.range b.length).map fun j=>ren s (b.getD (s.idxOf j) (.fin (0,1)))
section
variable {s : List Nat} {n : Nat} (p : s.Perm (List.range n))
include p
theorem nm_nodup:s.Nodup:=p.nodup_iff.mpr List.nodup_range
theorem nm_inj {i i' j:Nat} (h:s[i]?=some j) (h':s[i']?=some j):i=i':=by
 have l1:=(List.getElem?_eq_some_iff.mp h).1
 exact(List.getElem?_inj l1 (nm_nodup p)).mp (h.trans h'.symm)
theorem nm_idx {i j:Nat} (h:s[i]?=some j):s.idxOf j=i:=by
 have hm:j∈s:=List.mem_of_getElem? h
 have hl:s.idxOf j<s.length:=List.idxOf_lt_length_iff.mpr hm
 have:s[s.idxOf j]?=some j:=by rw[List.getElem?_eq_getElem hl,List.getElem_idxOf]
 exact nm_inj p this h
end
end Lv
namespace PySem
open Builtin Builtin.Str
section
variable {prog : Program} {w : World} {A : Around} {E : Value → Shared → Prop} {s : Shared} {x y : Str} {t u : Tok} {Q : Value → Shared → Prop}
end
end PySem
namespace L2
open PySem PySem.Spec PyProof.Rows PySem.W
section
variable {X : Cx} {K : PySem.W.Frag}
noncomputable def Its (z:Str):It:=⟨fun i _=>i<z.cps.size,fun i H x H'=>H'=H∧∃c,z.cps[i]?=some c∧x=.str ⟨#[c]⟩,fun i _=>z.cps.size≤i⟩
noncomputable def iStr (tl:TE):TI:=fun σ H R=>tl σ H fun x H1=>∃z,x=.str z∧z.cps.all (·<128)=true∧R (Its z) H1
theorem pe_globI {x:Str} {i:Int} {pos:Pos} (hg:Gl X x) (h:∃t,X.mg x=some (.int i t)) (hd:(x==("__debug__":Str))=false:=by decide):PE X (.Name x pos) (tC (.int i)):=by
 obtain⟨t,h⟩:=h
 exact pe_glob hg h ⟨t,rfl⟩ hd
end
end L2
namespace PySem
end PySem
namespace PySem
section
variable {M : Model} {A : Around} {E : Value → Shared → Prop} {s : Shared} {env : Env}
end
end PySem
namespace L2
open PySem PySem.Spec PyProof.Rows PySem.W
section
variable {M : Model} {A : Around} {E : Value → Shared → Prop} {s : Shared} {B : Heap} {l : List Env} {ad L : Addr} {cls a0 : Value}
end
section
variable {P : Program} {w : World} {K : PySem.W.Frag} {mg : Str → Option Value} {base : Heap} {N : List Str} {qual : Str} {scope : Scope} {f : Addr} {cdv : Value} {A : Around} {outer : List Env} {s0 : Shared} {H0 : Hp} {E : XK}
end
end L2
namespace L2
open PySem PySem.Spec PyProof.Rows PySem.W
section
variable {X : Cx}
noncomputable def rIns:V→List V→Hp→VK→Prop:=fun x vs H Q=>∃l xs i y,x=.ref l∧vs=[.int i,y]∧H l=some (.lst xs)∧0≤i∧i≤(xs.length:Nat)∧xs.length<sizeLine∧Q .non (upd H l (.lst (xs.take i.toNat++y::xs.drop i.toNat)))
theorem mt_insert:MtM X "list.insert" rIns:=by
 intro pins s σ H x vs v us Q I rx rv h
 obtain⟨l,xs,i,y,rfl,rfl,hH,h0,h1,hz,q⟩:=h
 cases rx
 obtain⟨u1,u2,rfl,⟨t,rfl⟩,ru⟩:=vals2 rv
 obtain⟨z,its,n,r,hl,e⟩:=I.lstM hH
 have sl:=sizeLine_eq
 refine call_meets PySem.F.slot_list_insert ⟨_,e,rfl⟩ PySem.F.entry_list_insert (PySem.F.args_list_insert_3 _ _ _) (AutoSeq1.list_insert_list_int_val_1 l its.toArray n i t u2 (by rw[fitsIndex_both (by omega) (by omega)];decide) (by rw[List.size_toArray];omega)) ⟨e,?_⟩
 have k2:(if i<0 then (i+ (its.toArray.size:Int)).toNat else min i.toNat its.toArray.size)=i.toNat:=by
  rw[if_neg (by omega),List.size_toArray]
  omega
 refine⟨.non,_,I.lset (its':=its.take i.toNat++u2::its.drop i.toNat) hH e ?_ ?_ ?_,rfl,q⟩
 ·show(its.toArray.extract 0 (if i<0 then (i+ (its.toArray.size:Int)).toNat else min i.toNat its.toArray.size)).push u2++its.toArray.extract (if i<0 then (i+ (its.toArray.size:Int)).toNat else min i.toNat its.toArray.size)=_
  rw[k2]
  apply Array.toList_inj.mp
  simp [List.take_of_length_le]
 ·exact(r.take _).append (.cons ru (r.drop _))
 ·simp
  omega
end
end L2
namespace L2
open PySem PySem.Spec PyProof.Rows
structure MkCal (P:Program) (w:World) (K:PySem.W.Frag) (mg:Str→Option Value) (base:Heap) (CX:CXT) (k:Nat) (x:Str) (C:Addr) (ps:List Str) (sp:Sp):Prop where
 ex:∃f fd,Mk K C f∧FnOk P w K mg base CX k f fd ps sp∧mg x=some (.ref C)∧Binds K fd ps []
section
variable {X : Cx}
theorem pe_mk {CX:CXT} {k:Nat} {x:Str} {C:Addr} {ps:List Str} {sp:Sp} {E:XK} {e:Expr} {es:List Expr} {t:TA} {p pos:Pos} (M:MkCal X.prog X.w X.K X.mg X.base CX k x C ps sp) (hr:Room (k+1) X.A) (hg:Gl X x) (hx:Passes CX X E) (ha:PA X (e::es) t)
  (hdb:(x==("__debug__":Str))=false:=by decide) (he:starEach (e::es) X.env=(false,eval e X.env)::starEach es X.env:=by rfl) (hpl:(backTo pos (starEach es X.env)).any (·.1)=false:=by rfl):
  PE X (.Call (.Name x p) (e::es) [] pos) (tMake C sp [] E t):=by
 obtain⟨f,fd,m,F,hm,hb⟩:=M.ex
 exact pe_make m F hr hg hm hb .nil hx ha hdb he hpl
end
structure DnI (K:PySem.W.Frag) (mg:Str→Option Value) (x qual:Str) (st:Stmt) (C:Addr):Prop where
 ex:∃f fd,Fun K "__init__" qual st f fd∧Mk K C f∧mg x=some (.ref C)
theorem DnI.cal {P:Program} {w:World} {K:PySem.W.Frag} {mg:Str→Option Value} {base:Heap} {CX:CXT} {x qual:Str} {st:Stmt} {C:Addr} {ps:List Str} {k:Nat} {sp:Sp} (D:DnI K mg x qual st C)
  (hb:∀(kV doc pm:Value) (an:Option Addr) (cdv ct:Value) (us:List Value),us.length=ps.length→bindArgs (PySem.W.fnOf "__init__" qual (defArgs st) (defBody st) (defScope st) .none kV doc pm an cdv ct) ⟨us,[]⟩=pure (ps.zip us))
  (h:∀f fd,Fun K "__init__" qual st f fd→FnOk P w K mg base CX k f fd ps sp):MkCal P w K mg base CX k x C ps sp:=by
 obtain⟨f,fd,F,m,hm⟩:=D.ex
 exact⟨f,fd,m,h f fd F,hm,F.binds hb⟩
end L2
namespace L2
open PySem PySem.Spec PyProof.Rows PySem.W
noncomputable def Itrv (K:PySem.W.Frag) (a:Addr) (n:Nat):It:=
 ⟨fun i H=>∃xs x,SqL K H a xs∧xs.length=n∧xs.reverse[i]?=some x,fun i H x H'=>H'=H∧∀xs,SqL K H a xs→xs.reverse[i]?=some x,fun i _=>i=n⟩
theorem turn_rev {P:Program} {w:World} {K:PySem.W.Frag} {tg:Expr} (a it:Addr) (n:Nat):Turn P w K tg (Itrv K a n) [it] it (fun i h=>h.IsRevIter it a ((n:Int) - 1 - (i:Int))) where
 mem:=by simp
 obj:=fun i h st b hb=>by
  have e:b=it:=by simpa using hb
  subst e
  obtain⟨o,e,c,d⟩:=st
  exact⟨o,e,fun v z=>by rw[d] at z;cases z⟩
 keep:=fun i h h' st k=>st.at fun o e=>k it (by simp) o e
 item:=by
  intro X hP hw hK hc i pins s σ H E I hf st hg
  subst hP hw hK
  obtain⟨xs,x,hq,hn,hx⟩:=hg
  subst hn
  obtain⟨its,rv,p,hz⟩:=I.list hq
  have hi:i<xs.length:=by
   have:=(List.getElem?_eq_some_iff.mp hx).1
   rwa [List.length_reverse] at this
  have hx':=hx
  rw[List.getElem?_reverse hi] at hx'
  obtain⟨u,hu,ru⟩:=rv.get hx'
  obtain⟨f0,f1,f2,f3,f4,f5⟩:=hf it (by simp)
  have e:(xs.length:Int) - 1 - (i:Int)=((xs.length - 1 - i:Nat):Int):=by omega
  have st0:=st
  rw[e] at st
  refine wpAny_pyNext_rev_item st p.isList (x:=u) (by simpa using hu) fun h' st' sb=>?_
  have I1:Inv X pins σ H {s with heap:=h'}:=I.turned (t':=s.toks) (fun b o hb e=>(sb.2 b hb).trans e) f0 f1 f3 f4 f5
  obtain⟨o,e1,c,d⟩:=id st'
  have e2:((xs.length - 1 - i:Nat):Int) - 1=(xs.length:Int) - 1 - ((i+1:Nat):Int):=by omega
  rw[e2] at st'
  exact⟨u,rfl,go_of (s:={s with heap:=h'}) e1 c d (by decide) ⟨x,H,I1,ru,⟨rfl,fun ys hy=>by rw[I.list_inj hy hq];exact hx⟩,st',fun b hb=>(hf b hb).1⟩⟩
 done:=by
  intro X hP hw hK hc i pins s σ H E I hf st hg
  subst hP hw hK
  have hg:i=n:=hg
  subst hg
  obtain⟨f0,f1,f2,f3,f4,f5⟩:=hf it (by simp)
  have e:(i:Int) - 1 - (i:Int)= -1:=by omega
  rw[e] at st
  exact wpAny_pyNext_rev_end (I.ok.hd hc) st fun h' eb=>⟨rfl,I.turned (t':=s.toks) (fun b o hb e=>eb b o hb e) f0 f1 f3 f4 f5⟩
 self:=fun _ _ _ _ _ st h=>wpAny_pyIter_revIter st h
section
variable {X : Cx}
noncomputable def iRevd (K:PySem.W.Frag) (ta:TA):TI:=fun σ H R=>ta σ H fun vs H1=>∃a xs,vs=[.ref a]∧SqL K H1 a xs∧R (Itrv K a xs.length) H1
theorem pi_reversed {tg a:Expr} {ta:TA} {p pos:Pos} (hg:Gl X "reversed") (hm:X.mg "reversed"=none) (ha:PA X [a] ta) (hs:starEach [a] X.env=[(false,eval a X.env)]:=by rfl):
  PI X tg (.Call (.Name "reversed" p) [a] [] pos) (iRevd X.K ta):=by
 intro pins s σ H R I h
 refine Call_ (ld_blt I hg hm rfl (PyProof.Rows.callWith_type1 (thn (ha pos pins s σ H _ I h) fun us s1 hh_=>?_) hs rfl))
 obtain⟨vs,H1,I1,r1,q1⟩:=hh_
 obtain⟨a,xs,e,q1,q⟩:=q1
 subst e
 obtain⟨u,rfl,ra⟩:=vals1 r1
 cases ra
 obtain⟨its1,v1,p1,z1⟩:=I1.list q1
 have lv:=v1.length
 refine call_reversed_list p1.isList ?_
 have I2:Inv X pins σ H1 {s1 with heap:=s1.heap.push (revObj a ((its1.toArray.size:Int) - 1))}:=I1.kept (t':=s1.toks) fun b o e=>Heap.get?_push_of_some _ e
 have it0:(s1.heap.push (revObj a ((its1.toArray.size:Int) - 1))).IsRevIter s1.heap.objs.size a ((xs.length:Int) - 1 - ((0:Nat):Int)):=⟨_,Heap.get?_push_size _ rfl,rfl,by
  have e:(its1.toArray.size:Int) - 1=(xs.length:Int) - 1 - ((0:Nat):Int):=by rw[List.size_toArray];omega
  rw[e]
  rfl⟩
 refine wpAny_pyIter_revIter it0 ?_
 refine⟨s1.heap.objs.size,[s1.heap.objs.size],_,_,H1,rfl,I2,turn_rev a s1.heap.objs.size xs.length,it0,fun c hc=>?_,q⟩
 have hge:s1.heap.objs.size≤c:=Nat.le_of_eq (List.mem_singleton.mp hc).symm
 exact I1.fpOk hge (I1.hok.fresh hge)
theorem pi_reversedK {K:PySem.W.Frag} {tg a:Expr} {ta:TA} {p pos:Pos} (hg:Gl X "reversed") (hm:X.mg "reversed"=none) (ha:PA X [a] ta) (n1:noStar a=true:=by rfl) (hK:X.K=K:=by rfl):
  PI X tg (.Call (.Name "reversed" p) [a] [] pos) (iRevd K ta):=by subst hK;exact pi_reversed hg hm ha (by rw[se n1];rfl)
end
theorem src_rev {K:PySem.W.Frag} {a:Addr} {xs:List V} {Ok:Hp→Prop} (h:∀H,Ok H→SqL K H a xs):Src (Itrv K a xs.length) Ok xs.length (fun i x H H3=>H3=H∧xs.reverse[i]?=some x) where
 go:=fun i H hi ok=>⟨xs,xs.reverse[i]'(by rw[List.length_reverse];exact hi),h H ok,rfl,List.getElem?_eq_getElem _⟩
 yld:=fun i H x H3 hi ok ⟨e,e1⟩=>⟨e,e1 xs (h H ok)⟩
 stop:=fun H ok=>rfl
end L2
namespace L2
open PySem PySem.Spec PyProof.Rows
structure LamB (base:Heap) (mg:Str→Option Value) (tc tp:Addr):Prop where
 blt:base.BuiltinsAt mg tp
 code:PySem.W.CodeHd base tc tp
theorem law_callT {P:Program} {tp tc:Addr} {dsc:Array Value} {w:World} {K:PySem.W.Frag} {mg mb:Str→Option Value} {CX:CXT} {k:Nat} {fa a:Addr} {fd:FuncData} {x:Str} {sp:Sp} {s₁:Shared} {vs:List Value} {ns:List Int}
  (KX:K.In s₁.heap) (hns:s₁.heap.Ns mainGlobals mg) (hb:s₁.heap.Ns builtinsNs mb) (hbb:∀x:Str,x≠"__name__"→mb x=bootBuiltins x) (hlim:s₁.heap.NoLimit) (hg:s₁.gens=#[])
  (ha:s₁.heap.get? a=some {cls:=.type "list",data:=.seq vs.toArray}) (hi:IntsAre vs ns) (hl:ns.length≤sizeLine) (hr:Room k callerA)
  (htp:s₁.heap.get? tp=some (PySem.W.tabObj #[])) (hct:PySem.W.CodeHd s₁.heap tc tp) (hpk:K.lookup tp=none) (hbm:s₁.heap.BuiltinsAt mg tp)
  (F:∀base:Heap,K.In base→base.Ns mainGlobals mg→LamB base mg tc tp→FnOk P w K mg base CX k fa fd [x] sp) (hbind:∀(s:Shared) (u:Value),BindsTo s fd ⟨[u],[]⟩ [(x,u)])
  (hsp:∀H:Hp,H tp=some (.tbl dsc)→SqL K H a (ns.map V.int)→sp [.ref a] H (fun v _=>v=.bl true) fun _ _ _=>False)
  (hCX:∀H e s',CX [] H s₁ (fun _ _ _=>False) e s'→False):
  codeAny (model P w) callerA (.call (.ref fa) ⟨[.ref a],[]⟩) (fun r s'=>r=.ok (.ret (.bool true))∧OldK s₁.heap s'.heap∧s'.os=s₁.os∧AllBare s'.gens) s₁:=by
 have rv:=vals_ints hi
 have lenV:=hi.length
 have hpa:tp≠a:=fun z=>by rw[z,ha] at htp;cases htp
 have core:∀H:Hp,(∀b,b≠tp→H b=none∨∃o xs,H b=some (.frz o (.lst xs)))→H tp=some (.tbl dsc)→SqL K H a (ns.map V.int)→HOk P w H s₁.heap→(∀b,H b≠none→b=a∨b=tp)→(H a≠none→K.lookup a=none)→
   codeAny (model P w) callerA (.call (.ref fa) ⟨[.ref a],[]⟩) (fun r s'=>r=.ok (.ret (.bool true))∧OldK s₁.heap s'.heap∧s'.os=s₁.os∧AllBare s'.gens) s₁:=by
  intro H hO hT hS hok hA hK
  have base_of:∀{b:Addr} {o:Obj},s₁.heap.get? b=some o→H b=none→(hidT s₁.heap H).get? b=some o:=fun e n=>hidT_get e n
  have noA:∀{b:Addr} {o:Obj} {es:Array DictEntry} {ep:Nat},s₁.heap.get? b=some o→o.data=.dict es ep→H b=none:=fun {b o es ep} e d=>by
   cases q:H b with
   | none=>rfl
   | some u=>
    rcases hA b (by rw[q];simp) with e' | e'
    ·subst e'
     rw[ha] at e;cases e
     have d':Data.seq vs.toArray _=Data.dict es ep:=d
     cases d'
    ·subst e'
     rw[htp] at e;cases e
     cases d
  have nsK:∀{b:Addr} {m:Str→Option Value},s₁.heap.Ns b m→(hidT s₁.heap H).Ns b m:=fun {b m} ⟨o,es,ep,e,d,r⟩=>⟨o,es,ep,base_of e (noA e d),d,r⟩
  have hKb:K.In (hidT s₁.heap H):=fun b o e=>base_of (KX b o e) (by
   cases q:H b with
   | none=>rfl
   | some u=>
    rcases hA b (by rw[q];simp) with e' | e'
    ·subst e'
     rw[hK (by rw[q];simp)] at e;cases e
    ·subst e'
     rw[hpk] at e;cases e)
  have hM:Mod K mg (hidT s₁.heap H):=⟨hKb,nsK hns,⟨mb,nsK hb,hbb⟩,let ⟨mc,h1,h2⟩:=hlim;⟨mc,nsK h1,h2⟩⟩
  have e0:Env0 P w K mg (hidT s₁.heap H) callerA [] s₁ H:=⟨rfl,hM,fun b o e=>of_hidT e,Nat.le_of_eq (hidT_size _ _),trivial,fun b hb=>absurd (show b∈([]:List Addr) from hb) (by simp),hok,.of_eq hg⟩
  have hLB:LamB (hidT s₁.heap H) mg tc tp:=by
   have look:∀{b:Addr} {o:Obj},s₁.heap.get? b=some o→b≠tp→o.cls≠.type "list"→(hidT s₁.heap H).get? b=some o:=fun {b o} e n c=>base_of e (by
    cases q:H b with
    | none=>rfl
    | some u=>
     rcases hA b (by rw[q];simp) with e' | e'
     ·subst e'
      rw[ha] at e;cases e
      exact absurd rfl c
     ·exact absurd e' n)
   obtain⟨bm,o,b1,b2,b3,b4,b5,b6,b7⟩:=hbm
   obtain⟨o',vs',file,tf,flags,tg,inF,text,tt,c1,c2,c3⟩:=hct
   exact⟨⟨bm,o,b1,b2,b3,b4,look b5 b4 (fun z=>by rw[b6] at z;injection z with z;exact absurd z (by decide)),b6,b7⟩,⟨o',vs',file,tf,flags,tg,inF,text,tt,look c1 c3.2.2.2.2.2.2.2 (fun z=>by rw[c2] at z;injection z with z;exact absurd z (by decide)),c2,c3⟩⟩
  refine codeAny_mono ((F _ hKb (nsK hns) hLB).run callerA [] s₁ H ⟨[.ref a],[]⟩ [.ref a] [.ref a] _ _ hr e0 (hbind s₁ (.ref a)) (.cons rfl .nil) (hsp H hT hS)) fun r s' h=>?_
  cases r with
  | error e=>exact(hCX H e s' h).elim
  | ok fl=>
   cases fl with
   | next=>exact False.elim h
   | brk=>exact False.elim h
   | cont=>exact False.elim h
   | ret u=>
    obtain⟨v,H',os,bare,un,hok',r',q⟩:=h
    have q':v=.bl true:=q
    subst q'
    obtain rfl:u=Value.bool true:=r'
    have fin:∀b o,b≠tp→s₁.heap.get? b=some o→s'.heap.get? b=some o:=fun b o hb e=>by
     cases q:H b with
     | none=>exact un.keep b o e q (by intro z;exact absurd (show b∈([]:List Addr) from z) (by simp)) (by simp)
     | some u=>
      rcases hO b hb with z | ⟨ob,xs,z⟩
      ·rw[q] at z;cases z
      ·have z2:=un.frzs b ob _ z
       obtain⟨e1,_⟩:=hok b _ z
       obtain⟨e2,_⟩:=hok' b _ z2
       rw[e] at e1;cases e1
       exact e2
    obtain⟨more,hm⟩:=un.tbls tp _ hT
    obtain⟨mo,e7,_⟩:=hok' tp _ hm
    have htp':s'.heap.get? tp=some {cls:=.none,data:=.fields (#[]++mo)}:=by rw[Array.empty_append];exact e7
    refine⟨rfl,⟨fun b o e=>?_,fun b o e=>?_⟩,os,bare⟩
    ·by_cases hb:b=tp
     ·subst hb
      rw[htp] at e
      cases e
      exact .inr (.inl ⟨(hct.tab htp).isCodeTable,rfl,_,mo,rfl,htp'⟩)
     ·exact .inl (fin b o hb e)
    ·by_cases hb:b=tp
     ·subst hb
      exact⟨_,htp'⟩
     ·exact⟨o,fin b o hb e⟩
 cases hk:K.lookup a with
 | some o=>
  have e:=KX a o hk
  rw[ha] at e
  cases e
  refine core (fun b=>if b=tp then some (.tbl dsc) else none) (fun b hb=>.inl (if_neg hb)) (if_pos rfl) (.inr ⟨_,vs.toArray,_,hk,rfl,rfl,rfl,by rw[List.size_toArray,lenV];exact hl,by simpa using rv⟩) (fun b u z=>?_) (fun b z=>?_) fun z=>absurd (if_neg (Ne.symm hpa)) z
  ·by_cases hb:b=tp
   ·have z':=(if_pos hb).symm.trans z
    cases z'
    subst hb
    exact⟨#[],htp,.inl rfl⟩
   ·have z':=(if_neg hb).symm.trans z
    cases z'
  ·by_cases hb:b=tp
   ·exact .inr hb
   ·exact absurd (if_neg hb) z
 | none=>
  refine core (fun b=>if b=tp then some (.tbl dsc) else if b=a then some (.frz {cls:=.type "list",data:=.seq vs.toArray} (.lst (ns.map V.int))) else none) (fun b hb=>?_) (if_pos rfl) (.inl (.inr ⟨{cls:=.type "list",data:=.seq vs.toArray},(if_neg (Ne.symm hpa)).trans (if_pos rfl)⟩)) (fun b u z=>?_) (fun b z=>?_) fun _=>hk
  ·by_cases ha':b=a
   ·exact .inr ⟨_,_,(if_neg hb).trans (if_pos ha')⟩
   ·exact .inl ((if_neg hb).trans (if_neg ha'))
  ·by_cases hb:b=tp
   ·have z':=(if_pos hb).symm.trans z
    cases z'
    subst hb
    exact⟨#[],htp,.inl rfl⟩
   ·by_cases ha':b=a
    ·have z':=((if_neg hb).trans (if_pos ha')).symm.trans z
     cases z'
     subst ha'
     exact⟨ha,by rw[List.length_map];exact hl,vs,_,rv,ha⟩
    ·have z':=((if_neg hb).trans (if_neg ha')).symm.trans z
     cases z'
  ·by_cases hb:b=tp
   ·exact .inr hb
   ·by_cases ha':b=a
    ·exact .inl ha'
    ·exact absurd ((if_neg hb).trans (if_neg ha')) z
theorem walk_ofT {tp tc:Addr} {dsc:Array Value} {l:PySem.W.OpenLaw} {n k:Nat} {q:Program} {loose:List Str} {XP:(Str→Option Value)→Heap→Prop} {YP:World→Heap→Prop} {d:DefRec} {K:Params→PySem.W.Frag} {CX:World→CXT} {sp:World→Sp} {x:Str}
  (hn:l.most=some n) (hn2:n≤sizeLine) (hdf:d.params.defaults=[]) (hr:Room k callerA)
  (hY:∀(w:World) (h:Heap),YP w h→(K w.params).In h)
  (hTp:∀(w:World) (h:Heap),YP w h→h.get? tp=some (PySem.W.tabObj #[])∧PySem.W.CodeHd h tc tp∧(K w.params).lookup tp=none)
  (F:∀(w:World) (mg:Str→Option Value) (fa:Addr) (h:Heap),(K w.params).In h→h.Ns mainGlobals mg→mg d.name=some (.ref fa)→
   ∃fd:FuncData,(∀(s:Shared) (u:Value),BindsTo s fd ⟨[u],[]⟩ [(x,u)])∧
    ∀base:Heap,(K w.params).In base→base.Ns mainGlobals mg→LamB base mg tc tp→FnOk l.prog w (K w.params) mg base (CX w) k fa fd [x] (sp w))
  (hsp:∀(w:World) (H:Hp) (a:Addr) (ns:List Int),ns.length≤n→H tp=some (.tbl dsc)→SqL (K w.params) H a (ns.map V.int)→sp w [.ref a] H (fun v _=>v=.bl true) fun _ _ _=>False)
  (hCX:∀(w:World) (H:Hp) (s:Shared) (e:Value) (s':Shared),CX w [] H s (fun _ _ _=>False) e s'→False):
  PySem.W.WalkO q loose XP YP l.row.toRowW d [] (fun f vs=>PySem.call f vs):=by
 refine Att.attach_call hn hdf fun w s₀ s₁ mg mb fa o pm cd doc a vs ns G Y ho hd hcd hmg hobj hints hlen hg=>?_
 have KX:=hY w _ Y
 obtain⟨fd,hb,hF⟩:=F w mg fa _ KX G.T.g hmg
 obtain⟨t1,t2,t3⟩:=hTp w _ Y
 have hbm:s₁.heap.BuiltinsAt mg tp:=by
  obtain⟨bm,ob,b1,b2,b3,b4,b5,b6⟩:=G.T.bmain
  refine⟨bm,ob,b1,b2,fun q=>?_,fun q=>?_,b3,b4,b5,b6⟩
  ·obtain⟨o,es,ep,e,hd,_⟩:=G.T.g
   rw[q,e] at b3;cases b3;rw[hd] at b6;cases b6
  ·rw[q,t1] at b3;cases b3;cases b4
 exact law_callT KX G.T.g G.T.b G.T.builtins G.T.nolimit hg hobj hints (Nat.le_trans hlen hn2) hr t1 t2 t3 hbm hF hb (fun H hO hS=>hsp w H a ns hlen hO hS) fun H e s'=>hCX w H s₁ e s'
end L2
namespace L2
open PySem PySem.Spec PyProof.Rows
structure MtCal (P:Program) (w:World) (K:PySem.W.Frag) (mg:Str→Option Value) (base:Heap) (CX:CXT) (k:Nat) (C:Addr) (m:Str) (ps:List Str) (sp:Sp):Prop where
 ex:∃f fd,Meth K C m f∧FnOk P w K mg base CX k f fd ps sp∧Binds K fd ps []
section
variable {X : Cx} {CX : CXT} {k : Nat} {C : Addr} {m : Str} {ps : List Str} {sp : Sp} {E : XK} {e o : Expr} {es : List Expr} {ta : TE} {t : TA} {pos apos : Pos} {pl : Sem Bool}
theorem pe_mt (M:MtCal X.prog X.w X.K X.mg X.base CX k C m ps sp) (c:Cls X.K C) (he:PE X o ta) (hr:Room k X.A) (hx:Passes CX X E) (ha:PA X (e::es) t)
  (hst:starEach (e::es) X.env=(false,eval e X.env)::starEach es X.env:=by rfl) (hpl:(backTo pos (starEach es X.env)).any (·.1)=false:=by rfl)
  (ht:eval (.Call (.Attribute o m apos) (e::es) [] pos) X.env=(do
   let ov ←eval o X.env
   standAt apos.atName
   let (f,first) ←holding [ov] (getMethod ov m pl)
   callWith pos f first (backTo pos (starEach (e::es) X.env)) (backToKw pos (keywordEach [] X.env))):=by rfl):
  PE X (.Call (.Attribute o m apos) (e::es) [] pos) (tMeth C m sp [] E ta t):=by
 obtain⟨f,fd,hm,F,hb⟩:=M.ex
 exact pe_meth he c hm F hr hb .nil hx ha hst hpl ht
theorem pe_mt0 (M:MtCal X.prog X.w X.K X.mg X.base CX k C m ps sp) (c:Cls X.K C) (he:PE X o ta) (hr:Room k X.A) (hx:Passes CX X E)
  (ht:eval (.Call (.Attribute o m apos) [] [] pos) X.env=(do
   let ov ←eval o X.env
   standAt apos.atName
   let (f,first) ←holding [ov] (getMethod ov m pl)
   callWith pos f first (backTo pos (starEach [] X.env)) (backToKw pos (keywordEach [] X.env))):=by rfl):
  PE X (.Call (.Attribute o m apos) [] [] pos) (tMeth C m sp [] E ta tNil):=by
 obtain⟨f,fd,hm,F,hb⟩:=M.ex
 exact pe_meth0 he c hm F hr hb .nil hx ht
end
structure DnM (K:PySem.W.Frag) (C:Addr) (m qual:Str) (st:Stmt):Prop where
 ex:∃f fd,Fun K m qual st f fd∧Meth K C m f
theorem DnM.cal {P:Program} {w:World} {K:PySem.W.Frag} {mg:Str→Option Value} {base:Heap} {CX:CXT} {m qual:Str} {st:Stmt} {C:Addr} {ps:List Str} {k:Nat} {sp:Sp} (D:DnM K C m qual st)
  (hb:∀(kV doc pm:Value) (an:Option Addr) (cdv ct:Value) (us:List Value),us.length=ps.length→bindArgs (PySem.W.fnOf m qual (defArgs st) (defBody st) (defScope st) .none kV doc pm an cdv ct) ⟨us,[]⟩=pure (ps.zip us))
  (h:∀f fd,Fun K m qual st f fd→FnOk P w K mg base CX k f fd ps sp):MtCal P w K mg base CX k C m ps sp:=by
 obtain⟨f,fd,F,hm⟩:=D.ex
 exact⟨f,fd,hm,h f fd F,F.binds hb⟩
end L2
namespace L2
open PySem PySem.Spec PyProof.Rows PySem.W
abbrev lamArgs (mp:Pos):Arguments:={posonlyargs:=[],args:=[{arg:="members",annotation:=none,pos:=mp}],vararg:=none,kwonlyargs:=[],kw_defaults:=[],kwarg:=none,defaults:=[]}
abbrev lamBody (p2 p3 p4 p5 p6 p7 p8:Pos):Expr:=.Call (.Name "len" p2) [.Subscript (.Name "reach" p3) (.Subscript (.Name "members" p4) (.Constant (.int 0) 0 p5) p6) p7] [] p8
abbrev lamScope:Scope:={kind:=.function,names:=[(Str.ofString "members",.local),(Str.ofString "reach",.free),(Str.ofString "len",.globalImplicit)],isGenerator:=false,isCoroutine:=false,more:=[]}
section
variable {prog : Program} {w : World} {A : Around} {s : Shared}
theorem lam_call {mg mb:Str→Option Value} {qual:Str} {mp p2 p3 p4 p5 p6 p7 p8:Pos} {clos:List (Str×Addr)} {pm ctv:Value} {f c1 cell ra b d:Addr} {rs ms:Array Value} {i:Int} {t0:Tok} {kvs:List (Key×Value)} {Q:Value→Shared→Prop} {E:Value→Shared→Prop}
  (hf:s.heap.get? f=some (kla_obj "<lambda>" qual (lamArgs mp) (lamBody p2 p3 p4 p5 p6 p7 p8) lamScope clos pm c1 ctv)) (hcd:s.heap.CodeRec (.ref c1) qual) (hroom:A.depth<recursionLimit) (hlim:s.heap.NoLimit)
  (hg:s.heap.Ns mainGlobals mg) (hlen:mg "len"=none) (hb:s.heap.Ns builtinsNs mb) (hbb:∀x:Str,x≠"__name__"→mb x=bootBuiltins x)
  (hcl:clos.lookup (Str.ofString "reach")=some cell) (hcell:s.heap.IsCell cell (some (.ref ra))) (hra:s.heap.IsList ra rs) (hms:s.heap.IsList b ms) (h0:ms[0]?=some (.int i t0)) (hi0:0≤i) (hi:i<2^63)
  (hri:rs[i.toNat]?=some (.ref d)) (hd:(d==sysModules)=false) (dd:s.heap.DictOf (mixKind prog w) d kvs) (hfit:(kvs.length:Int)<2^63)
  (h:∀h' tk t,(∀x o,s.heap.get? x=some o→h'.get? x=some o)→Q (.int kvs.length t) {s with heap:=h',toks:=tk}):
  wpAny (model prog w) A (call (.ref f) [.ref b]) Q E s:=by
 refine wpAny_call (kla_callFunE hroom hf rfl rfl rfl rfl hcd ?_)
 have hbind:bindArgs (kla_fn "<lambda>" qual (lamArgs mp) (lamBody p2 p3 p4 p5 p6 p7 p8) lamScope clos pm (.ref c1) ctv) ⟨[.ref b],[]⟩=pure [(Str.ofString "members",.ref b)]:=rfl
 rw[hbind]
 have hc0:∀x∈lamScope.names,x.2≠NameKind.cell:=by decide +kernel
 have hl0:∀x∈[(Str.ofString "members",Value.ref b)],lamScope.names.lookup x.1=some NameKind.local:=fun x hx=>by rw[List.mem_singleton.mp hx];rfl
 refine wpAny_pure (wpAny_newFunctionEnv hc0 hl0 (fun h₁ hns hsb=>⟨hlim.fresh _ hsb,?_⟩) rfl)
 have hk:∀x o,s.heap.get? x=some o→h₁.get? x=some o:=fun x o e=>hsb.extBut x o (Nat.ne_of_lt (Heap.lt_size e)) (Heap.get?_push_of_some _ e)
 show codeAny _ _ (.expr (lamBody p2 p3 p4 p5 p6 p7 p8) (envX qual lamScope s.heap.objs.size f (.ref c1) clos)) _ _
 refine kla_codeExpr ?_
 refine wpAny_Call_Name_kw (Calls.Name_function_global rfl rfl (Calls.loadGlobal_builtin (hg.keeps hk) hlen (hb.keeps hk) ((hbb _ (by decide)).trans (show bootBuiltins "len"=some (.builtin "len") from rfl)) ?_) (by decide))
 refine PyProof.Rows.callWith_builtin1 ?_
 refine Calls.spliced_cons (Subscript_ (wpAny_Name (wpAny_loadName_free rfl rfl hcl (hcell.keeps hk) ?_)))
 refine Subscript_ (wpAny_Name (wpAny_loadName_local rfl rfl hns (v:=.ref b) rfl (wpAny_Constant_int ?_)))
 obtain⟨om,m1,m2,m3⟩:=hms
 obtain⟨orr,r1,r2,r3⟩:=hra
 refine item_listR (s:={s with heap:=h₁,toks:=_}) (l:=b) (items:=ms) ⟨om,hk _ _ m1,m2,m3⟩ (by decide) (by decide) (x:=.int i t0) h0 ?_
 refine item_listR (s:={s with heap:=h₁,toks:=_}) (l:=ra) (items:=rs) ⟨orr,hk _ _ r1,r2,r3⟩ hi0 hi (x:=.ref d) hri (Calls.spliced_nil ?_)
 obtain⟨o,es,ep,e1,e2⟩:=dd
 exact call_len_dict hd (show(Shared.mk _ _ _ _ _).heap.DictOf (mixKind prog w) d kvs from⟨o,es,ep,hk _ _ e1,e2⟩) hfit (h _ _ _ hk)
end
noncomputable def tSortL (tp:Addr) (dsc:Array Value) (i:Nat) (te:TE):TE:=fun σ H Q=>te σ H fun v H1=>∃(a:Addr) (bs:List Addr) (key:Addr→Int) (ra:Addr) (rs:List V),v=.ref a∧H1 a=some (.lst (List.map V.ref bs))∧bs.length<64∧σ[i]?=some (some (.ref ra))∧H1 ra=some (.lst rs)∧H1 tp=some (.tbl dsc)∧
 (∀b∈bs,∃j xs d kvs,H1 b=some (.lst (.int j::xs))∧0≤j∧j<1000000∧rs[j.toNat]?=some (.ref d)∧H1 d=some (.dK kvs)∧key b=(kvs.length:Int))∧
 ∀p cs H2,Same H1 H2→H1 p=none→H2 p=some (.lst (List.map V.ref cs))→cs.Perm bs→cs.Pairwise (fun b c=>key b≤key c)→Q (.ref p) H2
noncomputable def adO:Value→Addr
 | .ref a=>a
 | _=>0
theorem vals_refs:∀{bs:List Addr} {its:List Value},Vals (bs.map V.ref) its→its=bs.map Value.ref
 | [],_,.nil=>rfl
 | _::bs,_,.cons r t=>by rw[vals_refs (bs:=bs) t,show _=Value.ref _ from r];rfl
section
variable {X : Cx}
theorem pe_sortL {i k:Nat} {tc tp:Addr} {dsc:Array Value} {t0:Tok} {e:Expr} {te:TE} {p1 pos kp lp mp p2 p3 p4 p5 p6 p7 p8:Pos} (hg:Gl X "sorted") (hm:X.mg "sorted"=none) (hl:X.mg "len"=none) (hB:LamB X.base X.mg tc tp)
  (hcode:X.env.code=.ref tc) (hr:Room k X.A) (hdsc:dsc=#[rawInt lp.line,rawInt lp.col,.str (X.env.qual++"<lambda>") t0]) (he:PE X e te) (hN:X.N[i]?=some "reach":=by rfl) (hv:X.env.kindOf "reach"=some .cell:=by rfl) (n1:noStar e=true:=by rfl):
  PE X (.Call (.Name "sorted" p1) [e] [⟨some "key",.Lambda (lamArgs mp) (lamBody p2 p3 p4 p5 p6 p7 p8) lamScope lp,kp⟩] pos) (tSortL tp dsc i te):=by
 intro pins s σ H Q I h
 refine wpAny_Call_Name_kw (ld_blt I hg hm (u:=.builtin "sorted") rfl ?_ (by decide) (by decide))
 refine PyProof.Rows.callWith_kw (e:=e) (rest:=[]) ?_ (by rw[se n1];rfl) (by rw[se n1];rfl) rfl rfl
 rw[se n1]
 show wpAny _ _ (spliced [(false,eval e X.env)]) _ _ s
 refine Calls.spliced_cons (thn (he pins s σ H _ I h) fun u s1 ⟨x,H1,I1,r1,q1⟩=>Calls.spliced_nil ?_)
 obtain⟨a,bs,key,ra,rs,rfl,ha,h64,eσ,hra,htp,hks,q⟩:=q1
 cases r1
 obtain⟨cell,ec⟩:=I1.ok.has "reach" (.inl hv)
 obtain⟨cl,ecl,c1,c2,c3⟩:=closureFor_of (env:=X.env) (scope:=lamScope) (fun n hn=>by
  have:n="reach":=by
   simp only[List.mem_cons,Prod.mk.injEq,List.not_mem_nil,or_false] at hn
   rcases hn with ⟨_,z⟩ | ⟨z,_⟩ | ⟨_,z⟩
   ·cases z
   ·exact z
   ·cases z
  rw[this]
  exact⟨cell,ec⟩)
 have hcl:cl.lookup (Str.ofString "reach")=some cell:=by
  obtain⟨c,ee⟩:=c2 "reach" (.tail _ (.head _))
  have:=c1 _ _ ee
  rw[ec] at this
  cases this
  exact ee
 have mk:∀R:Value→Shared→Prop,(∀f c1 pm ctv H2 s2,Inv X pins σ H2 s2→Same H1 H2→s2.heap.get? f=some (kla_obj "<lambda>" (X.env.qual++"<lambda>") (lamArgs mp) (lamBody p2 p3 p4 p5 p6 p7 p8) lamScope cl pm c1 ctv)→s2.heap.CodeRec (.ref c1) (X.env.qual++"<lambda>")→R (.ref f) s2)→
   wpAny (model X.prog X.w) X.A (makeFunction "<lambda>" (X.env.qual++"<lambda>") (lamArgs mp) (.expr (lamBody p2 p3 p4 p5 p6 p7 p8)) lamScope X.env [] [] [] lp lp.line) R X.xe s1:=by
  intro R hR
  obtain⟨mo,e1,e2⟩:=I1.hok tp _ htp
  have hgs:=I1.mod.glob.keeps I1.bk
  have hC:=hB.code.keeps I1.bk
  have hBl:=hB.blt.keeps I1.bk
  rcases e2 with rfl | ⟨l,c,c',qn,t,f1,rfl,f3,f4⟩
  ·refine kla_makeFunction (mg:=X.mg) (c:=tc) (P:=tp) ecl I1.ok.glob hgs hcode hC e1 trivial rfl (fun z=>?_) hBl fun c' ctv h' tk hx hge hlt hrec htb=>?_
   ·obtain⟨o,es,ep,ee,hd,_⟩:=hgs
    rw[z,e1] at ee;cases ee;cases hd
   have htb:h'.get? tp=some (tabObj #[rawInt lp.line,rawInt lp.col,.ref c']):=htb
   have nc:H1 c'=none:=I1.hok.fresh hge
   have ntc:tp≠c':=fun z=>by rw[z,nc] at htp;cases htp
   have kk:∀b o,b≠tp→s1.heap.get? b=some o→(h'.push (kla_obj "<lambda>" (X.env.qual++"<lambda>") (lamArgs mp) (lamBody p2 p3 p4 p5 p6 p7 p8) lamScope cl ((X.mg "__name__").getD .none) c' ctv)).get? b=some o:=fun b o hb ee=>Heap.get?_push_of_some _ (hx b o hb ee)
   obtain⟨c2',oc,vs,t2,g1,g2,g3,g4⟩:=hrec
   cases g1
   refine hR _ c' _ _ (upd H1 c' (.own tp)) _ (I1.un (t':=tk) ⟨fun b o ee n _ _=>kk b o (fun z=>by rw[z,htp] at n;cases n) ee,fun b o ee n _ _=>⟨o.slots,kk b o (fun z=>by rw[z,htp] at n;cases n) ee⟩,fun b o ee n _=>?_,fun b o ee _=>?_,fun b xs ee=>?_,fun b o u ee=>?_,fun b ps ee=>⟨#[],?_⟩⟩ fun b o ee=>?_) (fun b o ee=>?_) (Heap.get?_push_size _ rfl) ⟨c',oc,vs,t2,rfl,Heap.get?_push_of_some _ g2,g3,g4⟩
   ·rw[upd_ne (Nat.ne_of_lt (Nat.lt_of_lt_of_le (Heap.lt_size ee) hge))];exact n
   ·by_cases hb:b=tp
    ·subst hb;exact⟨_,Heap.get?_push_of_some _ htb⟩
    ·exact⟨o,kk b o hb ee⟩
   ·rw[upd_ne (ne_of_none ee nc)];exact ee
   ·rw[upd_ne (ne_of_none ee nc)];exact ee
   ·rw[upd_ne (ne_of_none ee nc),ee,Array.append_empty]
   ·by_cases hb:b=c'
    ·subst hb
     rw[upd_same] at ee
     cases ee
     exact⟨oc,Heap.get?_push_of_some _ g2⟩
    ·rw[upd_ne hb] at ee
     by_cases hb2:b=tp
     ·subst hb2
      rw[htp] at ee
      cases ee
      exact⟨_,Heap.get?_push_of_some _ htb,.inr ⟨_,_,c',_,_,hdsc,rfl,upd_same,c',oc,vs,t2,rfl,Heap.get?_push_of_some _ g2,g3,g4⟩⟩
     ·refine(I1.hok b o ee).stay (fun x u hx' e3=>kk x u (fun z=>?_) e3) (fun x e3=>by rw[upd_ne (ne_of_none e3 nc)];exact e3) fun x xs e3=>by rw[upd_ne (ne_of_none e3 nc)];exact e3
      rcases hx' with hx' | hx'
      ·exact hb2 (hx'.symm.trans z)
      ·rw[z,htp] at hx';cases hx'
   ·rw[upd_ne (ne_of_none ee nc)];exact ee
  ·rw[hdsc] at f1
   have f1:=congrArg Array.toList f1
   simp only[List.cons.injEq,and_true] at f1
   obtain⟨f1,f2,f5⟩:=f1
   injection f5 with f5 _
   subst f1 f2 f5
   have ht:TriplesOk [rawInt lp.line,rawInt lp.col,Value.ref c']:=by simp [TriplesOk,rawInt]
   have hf:codeAmong lp [rawInt lp.line,rawInt lp.col,Value.ref c']=some (.ref c'):=by simp [codeAmong,rawInt]
   refine kla_makeFunctionHit (mg:=X.mg) (c:=tc) (P:=tp) ecl I1.ok.glob hgs hcode hC e1 ht hf hBl fun ctv h' tk hk hsz=>?_
   obtain⟨c2',oc,vs,t2,g1,g2,g3,g4⟩:=f4
   cases g1
   exact hR _ c' _ _ H1 _ (I1.kept (t':=tk) fun b o ee=>Heap.get?_push_of_some _ (hk b o ee)) (Same.refl _) (Heap.get?_push_size _ rfl) ⟨c',oc,vs,t2,rfl,Heap.get?_push_of_some _ (hk _ _ g2),g3,g4⟩
 refine PyProof.Rows.kws_cons (kla_eval rfl (mk _ fun f c' pm ctv H2 s2 I2 sm hf hcd=>PyProof.Rows.kws_nil ?_))
 show wpAny _ _ (call (.builtin "sorted") [.ref a] [(Str.ofString "key",.ref f)]) _ _ _
 obtain⟨m2,hns2,hl2⟩:=I2.loc
 obtain⟨its,n,rv,eo,hz⟩:=I2.lst (sm _ _ ha)
 have eits:=vals_refs rv
 subst eits
 have hcell:s2.heap.IsCell cell (some (.ref ra)):=by
  obtain⟨u,ru,lu⟩:=hl2 i "reach" (.ref ra) hN eσ (.inr (.inl hv))
  cases ru
  rcases lu with ⟨hk,_⟩ | ⟨_,c,e1,e2⟩
  ·rw[hv] at hk;cases hk
  ·rw[ec] at e1;cases e1;exact e2
 have nL:∀{b:Addr} {u:HO},H2 b=some u→b≠X.env.locals:=fun e z=>by rw[z,I2.free] at e;cases e
 have dL:∀{b:Addr} {o:Obj},s2.heap.get? b=some o→(∀es ep,o.data≠.dict es ep)→b≠X.env.locals:=fun e hd z=>by
  obtain⟨o',es,ep,e',hd',_⟩:=hns2
  rw[z,e'] at e;cases e;exact hd es ep hd'
 refine ksk_sorted (h₀:=Att.noObjs s2.heap) (L:=X.env.locals) (m:=m2) (news:=Att.ledger s2.heap X.env.locals X.env.locals) (kz:=bs.map key) (vs:=bs.map Value.ref) (f:=.ref f) (b:=false) (Att.fr_all hns2)
  (fun p hp=>by obtain⟨x,o⟩:=p;obtain⟨n1,_,ee⟩:=Att.mem_ledger.mp hp;exact⟨ee,n1,Att.noObjs_get _ _⟩) ⟨_,eo,rfl,_,rfl⟩ (by rw[List.length_map,List.length_map]) (by rw[List.length_map];exact h64) (ksk_s1 _ _) (fun x=>ksk_l1 _ _) (fun x=>ksk_t1 _ _) ?turn ?done
 case turn=>
  intro j v k0 ev ek h3 tk own F3 N3
  rw[List.getElem?_map] at ev ek
  obtain⟨b,eb,rfl⟩:=Option.map_eq_some_iff.mp ev
  rw[eb] at ek
  cases ek
  have kp:∀x o,x≠X.env.locals→s2.heap.get? x=some o→h3.get? x=some o:=fun x o hx ee=>(N3 (x,o) (List.mem_append_left _ (Att.mem_ledger.mpr ⟨hx,hx,ee⟩))).1
  have kb:∀x o,X.base.get? x=some o→h3.get? x=some o:=fun x o ee=>kp x o (fun z=>by
   have l1:x<X.base.objs.size:=Heap.lt_size ee
   have l2:=I2.ok.bsz
   have l3:=I2.ok.above
   rw[z] at l1
   exact absurd (Nat.lt_of_lt_of_le l1 (Nat.le_trans l2 l3)) (Nat.lt_irrefl _)) (I2.bk x o ee)
  obtain⟨j0,xs,d,kvs,hb,g0,g1,gd,hd,ekey⟩:=hks b (List.mem_of_getElem? eb)
  obtain⟨itb,nb,rvb,eob,_⟩:=I2.lst (sm _ _ hb)
  obtain⟨itr,nr,rvr,eor,_⟩:=I2.lst (sm _ _ hra)
  obtain⟨mb,hmb,hmb2⟩:=I2.mod.blt
  obtain⟨ui,eui,t1,rfl⟩:=rvb.get (i:=0) (x:=.int j0) rfl
  obtain⟨ud,eud,rud⟩:=rvr.get gd
  obtain rfl:ud=Value.ref d:=rud
  obtain⟨z1,hsd,vs,rel,o,es,ep,ed,ed2⟩:=I2.hok d _ (sm _ _ hd)
  obtain⟨c2',oc,vs2,t2,w1,w2,w3,w4⟩:=hcd
  cases w1
  obtain⟨oe,he1,he2⟩:=hcell
  have sl:=sizeLine_eq
  have rl:=rel.length
  refine lam_call (s:={s2 with heap:=h3,toks:=tk}) (kvs:=vs) (kp _ _ (dL hf fun _ _ z=>by cases z) hf) ⟨c',oc,vs2,t2,rfl,kp _ _ (dL w2 fun _ _ z=>by rw[w3] at z;cases z) w2,w3,w4⟩ hr.depth (I2.mod.nolimit.keeps kb) (I2.mod.glob.keeps kb) hl (hmb.keeps kb) hmb2 hcl
   ⟨oe,kp _ _ (dL he1 fun _ _ z=>by rw[he2] at z;cases z) he1,he2⟩ ⟨_,kp _ _ (nL (sm _ _ hra)) eor,rfl,_,rfl⟩ ⟨_,kp _ _ (nL (sm _ _ hb)) eob,rfl,_,rfl⟩ (by simpa using eui) g0 (by omega) (by simpa using eud) hsd ⟨o,es,ep,kp _ _ (nL (sm _ _ hd)) ed,ed2⟩ (by omega) fun h4 tk4 t4 k4=>?_
  rw[ekey,show((kvs.length:Nat):Int)=((vs.length:Nat):Int) by rw[rl]]
  exact⟨h4,tk4,t4,rfl,rfl,F3.kept k4,N3.grown k4⟩
 case done=>
  intro D h3 tk out c F3 N3 lt ko
  obtain⟨ps,hp,ho,hs⟩:=ko
  have ez:(bs.map key).zip (bs.map Value.ref)=bs.map fun b=>(key b,Value.ref b):=by
   rw[List.zip_map',]
  rw[ez] at hp
  have mem:∀p∈ps,p=(key (adO p.2),Value.ref (adO p.2)):=fun p hp'=>by
   obtain⟨b,_,rfl⟩:=List.mem_map.mp (hp.mem_iff.mp hp')
   rfl
  have nd:(D:Addr)≠X.env.locals:=(N3 _ (.head _)).2.1
  have dn:s2.heap.get? D=none:=by
   cases ee:s2.heap.get? D with
   | none=>rfl
   | some o=>exact absurd (lt (D,o) (Att.mem_ledger.mpr ⟨nd,nd,ee⟩)) (Nat.lt_irrefl _)
  have hD:H2 D=none:=by
   cases ee:H2 D with
   | none=>rfl
   | some o=>
    obtain⟨ob,e'⟩:=ObjOk.get (I2.hok D o ee)
    rw[dn] at e';cases e'
  have kp:∀x o,x≠X.env.locals→s2.heap.get? x=some o→h3.get? x=some o:=fun x o hx ee=>(N3 (x,o) (List.mem_cons_of_mem _ (Att.mem_ledger.mpr ⟨hx,hx,ee⟩))).1
  have eout:out=((ps.map fun p=>adO p.2).map Value.ref).toArray:=by
   have:out.toList=(ps.map fun p=>adO p.2).map Value.ref:=by
    rw[ho,List.map_map]
    exact List.map_congr_left fun p hp'=>congrArg Prod.snd (mem p hp')
   rw[←this,Array.toArray_toList]
  have pm:(ps.map fun p=>adO p.2).Perm bs:=by
   have:=hp.map fun p=>adO p.2
   rw[List.map_map] at this
   exact this.trans (List.Perm.of_eq (by rw[show((fun p:Int×Value=>adO p.2) ∘fun b=>(key b,Value.ref b))=id from rfl,List.map_id]))
  have pl:=pm.length_eq
  have obD:=(N3 _ (.head _)).1
  have sl:=sizeLine_eq
  refine⟨.ref D,upd H2 D (.lst ((ps.map fun p=>adO p.2).map V.ref)),I2.step (ch:=[]) (g':=s2.gens) (d':=s2.drawn) (t':=tk) (fun _ z=>nomatch z) (fun b o h1 _ _ ee _=>kp b o h1 ee) (fun b o h1 _ _ ee _=>⟨o.slots,kp b o h1 ee⟩) (fun b o _ ee n=>?_) (fun b o _ ee=>?_) (fun b xs ee=>?_) (fun b o u ee=>?_) (fun b qs ee=>⟨#[],?_⟩) (fun m hn=>?_) (fun b o ee=>?_) I2.bare,rfl,?_⟩
  ·rw[upd_ne (fun z=>by rw[z,dn] at ee;cases ee)];exact n
  ·by_cases hb:b=X.env.locals
   ·obtain⟨o',_,_,e',_⟩:=F3.ns
    exact⟨o',by rw[hb];exact e'⟩
   ·exact⟨o,kp b o hb ee⟩
  ·rw[upd_ne (ne_of_none ee hD)];exact ee
  ·rw[upd_ne (ne_of_none ee hD)];exact ee
  ·rw[upd_ne (ne_of_none ee hD),ee,Array.append_empty]
  ·have e1:=hn.eq_nsMap
   have e2:=hns2.eq_nsMap
   rw[e1,←e2]
   exact F3.ns
  ·by_cases hb:b=D
   ·subst hb
    rw[upd_same] at ee
    cases ee
    refine⟨by rw[List.length_map,pl];omega,(ps.map fun p=>adO p.2).map Value.ref,c,?_,by rw[eout] at obD;exact obD⟩
    generalize (ps.map fun p=>adO p.2)=cs
    induction cs with
    | nil=>exact .nil
    | cons x cs ih=>exact .cons rfl ih
   ·rw[upd_ne hb] at ee
    refine(I2.hok b o ee).stay (fun x u hx' e3=>kp x u (fun z=>?_) e3) (fun x e3=>by rw[upd_ne (ne_of_none e3 hD)];exact e3) fun x xs e3=>by rw[upd_ne (ne_of_none e3 hD)];exact e3
    rcases hx' with hx' | hx'
    ·subst hx';exact nL ee z
    ·exact nL hx' z
  ·refine q D _ _ (sm.trans fun b o ee=>by rw[upd_ne (ne_of_none ee hD)];exact ee) ?_ upd_same pm ?_
   ·cases ee:H1 D with
    | none=>rfl
    | some o=>rw[sm _ _ ee] at hD;cases hD
   ·rw[List.pairwise_map]
    refine hs.imp_of_mem fun {x y} hx hy hle=>?_
    have hle:x.1≤y.1:=hle
    rw[mem x hx,mem y hy] at hle
    exact hle
end
noncomputable def LamD (K:PySem.W.Frag) (mg:Str→Option Value) (x:Str) (tc:Addr):Prop:=∃f oc od fd osl,mg x=some (.ref f)∧K.lookup f=some ⟨oc,od,.func fd,osl⟩∧fd.code=.ref tc
section
variable {P : Program} {w : World} {K : PySem.W.Frag} {mg : Str → Option Value} {base : Heap} {CX : CXT}
theorem Fun.okL {x qual:Str} {st:Stmt} {f tc:Addr} {fd:FuncData} {N ps:List Str} {k:Nat} {sp:Sp} (F:Fun K x qual st f fd) (hc:fd.code=.ref tc) (S:FnScope N ps (defScope st)) (len:∀vs H Q E,sp vs H Q E→vs.length=ps.length)
  (hbody:∀(A:Around) (outer:List Env) (s:Shared) (H:Hp) (vs:List V) (Q:VK) (E:XK),Room k (A.deeper (envOfC qual (defScope st) s.heap.objs.size f (.ref tc)))→sp vs H Q E→
   ∃t,PSs (cxOf CX P w K mg base N qual (defScope st) f (.ref tc) A outer s H E).nox (defBody st) t∧t {nx:=fun _ H'=>Q .non H',rt:=Q} (start N vs) H):FnOk P w K mg base CX (k+1) f fd ps sp:=by
 obtain⟨oc,od,kV,doc,pm,an,cdv,ct,osl,rfl,lk,hcd⟩:=F.ex
 have hc:cdv=.ref tc:=hc
 subst hc
 refine fn_of lk hcd S len fun A outer s H vs Q E hr hsp=>?_
 obtain⟨t,h,q⟩:=hbody A outer s H vs Q E hr hsp
 exact⟨t,h.nox,q⟩
theorem Dn.calL {x:Str} {st:Stmt} {ps:List Str} {k:Nat} {sp:Sp} {tc:Addr} (D:Dn K mg x st) (L:LamD K mg x tc)
  (hb:∀(kV doc pm:Value) (an:Option Addr) (cdv ct:Value) (us:List Value),us.length=ps.length→bindArgs (PySem.W.fnOf x x (defArgs st) (defBody st) (defScope st) .none kV doc pm an cdv ct) ⟨us,[]⟩=pure (ps.zip us))
  (h:∀f fd,Fun K x x st f fd→fd.code=.ref tc→FnOk P w K mg base CX k f fd ps sp):Cal P w K mg base CX k x ps sp:=by
 obtain⟨f,fd,F,hm⟩:=D.ex
 obtain⟨f',oc,od,fd',osl,h1,h2,h3⟩:=L
 rw[hm] at h1
 cases h1
 obtain⟨oc',od',_,_,_,_,_,_,osl',_,lk,_⟩:=F.ex
 rw[lk] at h2
 cases h2
 exact⟨f,fd,h f fd F h3,hm,F.kp,F.binds hb⟩
end
end L2
namespace L2
open PySem PyProof.Rows
theorem exV {b:V} {Q:V→Prop}:(∃v,(some (some b):Option (Option V))=some (some v)∧Q v)=Q b:=propext ⟨fun⟨_,e,h⟩=>by cases e;exact h,fun h=>⟨b,rfl,h⟩⟩
theorem exI {a:Int} {Q:Int→Prop}:(∃i,V.int a=V.int i∧Q i)=Q a:=propext ⟨fun⟨_,e,h⟩=>by cases e;exact h,fun h=>⟨a,rfl,h⟩⟩
theorem exB {a:Bool} {Q:Bool→Prop}:(∃i,V.bl a=V.bl i∧Q i)=Q a:=propext ⟨fun⟨_,e,h⟩=>by cases e;exact h,fun h=>⟨a,rfl,h⟩⟩
theorem exR {a:Addr} {Q:Addr→Prop}:(∃i,V.ref a=V.ref i∧Q i)=Q a:=propext ⟨fun⟨_,e,h⟩=>by cases e;exact h,fun h=>⟨a,rfl,h⟩⟩
theorem exS {a:Str} {Q:Str→Prop}:(∃i,V.str a=V.str i∧Q i)=Q a:=propext ⟨fun⟨_,e,h⟩=>by cases e;exact h,fun h=>⟨a,rfl,h⟩⟩
theorem exII {a b:Int} {Q:Int→Int→Prop}:(∃i j,V.int a=V.int i∧V.int b=V.int j∧Q i j)=Q a b:=propext ⟨fun⟨_,_,e,f,h⟩=>by cases e;cases f;exact h,fun h=>⟨a,b,rfl,rfl,h⟩⟩
theorem exRI {a:Addr} {k:Int} {Q:Addr→List V→Int→V→Prop}:(∃p xs i v,V.ref a=V.ref p∧V.int k=V.int i∧Q p xs i v)=∃xs v,Q a xs k v:=propext ⟨fun⟨_,xs,_,v,e,f,h⟩=>by cases e;cases f;exact⟨xs,v,h⟩,fun⟨xs,v,h⟩=>⟨a,xs,k,v,rfl,rfl,h⟩⟩
theorem exRa {α:Type} {a:Addr} {Q:Addr→α→Prop}:(∃p v,V.ref a=V.ref p∧Q p v)=∃v,Q a v:=propext ⟨fun⟨_,v,e,h⟩=>by cases e;exact⟨v,h⟩,fun⟨v,h⟩=>⟨a,v,rfl,h⟩⟩
theorem exRb {α β:Type} {a:Addr} {Q:Addr→α→β→Prop}:(∃p v u,V.ref a=V.ref p∧Q p v u)=∃v u,Q a v u:=propext ⟨fun⟨_,v,u,e,h⟩=>by cases e;exact⟨v,u,h⟩,fun⟨v,u,h⟩=>⟨a,v,u,rfl,h⟩⟩
theorem scal_ss {a b:Str}:scal (.str a) (.str b)=true:=rfl
theorem scal_ii {a b:Int}:scal (.int a) (.int b)=true:=rfl
theorem scal_bb {a b:Bool}:scal (.bl a) (.bl b)=true:=rfl
theorem scal_si {a:Str} {b:Int}:scal (.str a) (.int b)=true:=rfl
theorem scal_is {a:Int} {b:Str}:scal (.int a) (.str b)=true:=rfl
end L2
namespace L2
open PySem PySem.Spec PyProof.Rows
section
variable {X : Cx}
theorem get_list:PGet X rIxLH:=by
 intro pins s σ H x y v u Q I rx ry h
 obtain⟨p,xs,i,z,rfl,rfl,hq,he,q⟩:=h
 cases rx
 obtain⟨t,rfl⟩:=ry
 obtain⟨its,r,pl,hz⟩:=I.list (SqL.of hq)
 obtain⟨j,h1,h2,h3,h4,h5⟩:=atI_get he
 obtain⟨w,ew,rw'⟩:=r.get h2
 have hl:=r.length
 have hn:=line63
 have fin:EP X pins σ Q w s:=⟨z,H,I,rw',q⟩
 by_cases h0:0≤i
 ·have hj:i.toNat=j:=by
   rw[seqIndex_of h0 h5] at h1
   exact Option.some.inj h1
  exact wpAny_getItem_list pl.isList h0 (by omega) (by rw[hj];simpa using ew) fin
 ·have hj:(i+ (its.toArray.size:Int)).toNat=j:=by
   rw[seqIndex_neg (by omega) h4] at h1
   rw[List.size_toArray,←hl]
   exact Option.some.inj h1
  exact wpAny_getItem_list_neg pl.isList (by omega) (by rw[List.size_toArray] <;>omega) (by omega) (by rw[hj];simpa using ew) fin
theorem pe_fldK {K:PySem.W.Frag} {e:Expr} {f:Str} {pos:Pos} {ta:TE} (he:PE X e ta) (hb:attributeBase e f X.env (eval e X.env)=eval e X.env) (hK:X.K=K:=by rfl):PE X (.Attribute e f pos) (tFld K ta f):=by subst hK;exact pe_fld he hb
theorem call_any_i (hc:X.calm=true):CallR X (.builtin "any") (fun xs H Q=>∃p ns,xs=[.ref p]∧SqL X.K H p (List.map V.int ns)∧Q (.bl (ns.any fun n=>n !=0)) H):=by
 intro pins s σ H xs us Q I r h
 obtain⟨p,ns,rfl,hq,q⟩:=h
 obtain⟨u,rfl,rx⟩:=vals1 r
 cases rx
 obtain⟨its,rv,pl,hz⟩:=I.list hq
 have hl:=pl.isList
 have ln:=rv.length
 rw[List.length_map] at ln
 have hlt:p<s.heap.objs.size:=by obtain⟨_,e,_⟩:=hl;exact Heap.lt_size e
 refine call_any_walk (wpAny_pyIter_list hl ?_)
 refine⟨s.heap.objs.size,[s.heap.objs.size,p],[s.heap.objs.size],its.toArray.size,_,_,fun i=>((ns.map fun n=>n !=0)[i]?).getD false,rfl,Walks.list (A:=X.A.in1) (I.ok.hd hc) _ p (Nat.ne_of_lt hlt) its.toArray,
  ⟨⟨_,Heap.get?_push_size _ rfl,rfl,rfl⟩,hl.push _⟩,fun i v s' Q' E' hP hQ=>?_,fun h' tk hk=>?_⟩
 ·have hP:its[i]?=some v:=by simpa using hP
  have hi:i<ns.length:=by have:=(List.getElem?_eq_some_iff.mp hP).1;omega
  obtain⟨w,ew,rw'⟩:=rv.get (show(List.map V.int ns)[i]?=some (V.int ns[i]) by rw[List.getElem?_map,List.getElem?_eq_getElem hi];rfl)
  rw[hP] at ew
  cases ew
  obtain⟨t,rfl⟩:=rw'
  have hQ:Q' (((ns.map fun n=>n !=0)[i]?).getD false) s':=hQ
  rw[List.getElem?_map,List.getElem?_eq_getElem hi] at hQ
  exact truthy_int hQ
 ·have e:((List.range its.toArray.size).any fun i=>((ns.map fun n=>n !=0)[i]?).getD false)=ns.any fun n=>n !=0:=by
   have:=LSm.range_any (ns.map fun n=>n !=0)
   rw[List.length_map,List.any_map] at this
   rw[List.size_toArray,←ln,this]
   rfl
  rw[e]
  exact⟨.bl _,H,I.kept (t':=tk) (LSm.kept_iter hk),rfl,q⟩
theorem call_any_iK {K:PySem.W.Frag} (hc:X.calm=true:=by rfl) (hK:X.K=K:=by rfl):CallR X (.builtin "any") (fun xs H Q=>∃p ns,xs=[.ref p]∧SqL K H p (List.map V.int ns)∧Q (.bl (ns.any fun n=>n !=0)) H):=by subst hK;exact call_any_i hc
end
end L2
namespace Wq
abbrev Sh:=Int×Int
noncomputable def Lw (x:Sh):Prop:=0<x.2∧Nm.g x.1 x.2=1
noncomputable def sc (L:Int) (x:Sh):Int:=x.1* (L / x.2)
theorem sc_bot {L:Int} {x:Sh} (h:x.2∣L):sc L x*x.2=x.1*L:=by
 unfold sc
 rw[Int.mul_assoc,Int.ediv_mul_cancel h]
theorem of_cross {L s:Int} {x:Sh} (h:Lw x) (L0:0<L) (e:x.1*L=s*x.2):x.2∣L∧sc L x=s:=by
 have c:Int.gcd x.1 x.2=1:=by have:=h.2;unfold Nm.g at this;omega
 have d:x.2∣L:=Nm.cop_dvd (q:=x.2) (a:=x.1) ⟨s,by rw[e,Int.mul_comm]⟩ c
 refine⟨d,?_⟩
 have:=sc_bot d
 rw[e] at this
 exact Int.eq_of_mul_eq_mul_right (by have:=h.1;omega) this
noncomputable def low (a b:Int):Sh:=(Nm.st a b,Nm.sb a b)
theorem low_lw {a b:Int} (h:0<b):Lw (low a b):=⟨Nm.sb_pos (by omega),Nm.st_low (by omega)⟩
theorem low_sc {a b L s:Int} (h:0<b) (L0:0<L) (e:a*L=s*b):(low a b).2∣L∧sc L (low a b)=s:=by
 refine of_cross (low_lw h) L0 ?_
 have c:=Nm.st_cross a b
 show Nm.st a b*L=s*Nm.sb a b
 refine Int.eq_of_mul_eq_mul_right (show b≠0 by omega) ?_
 calc Nm.st a b*L*b=(Nm.st a b*b)*L:=Int.mul_right_comm ..
  _=a*Nm.sb a b*L:=by rw[c]
  _=(a*L)*Nm.sb a b:=Int.mul_right_comm ..
  _=s*b*Nm.sb a b:=by rw[e]
  _=s*Nm.sb a b*b:=Int.mul_right_comm ..
noncomputable def pl (x y:Sh):Sh:=low (x.1*y.2+y.1*x.2) (x.2*y.2)
noncomputable def tm (x y:Sh):Sh:=low (x.1*y.1) (x.2*y.2)
theorem pl_sc {L:Int} {x y:Sh} (hx:0<x.2) (hy:0<y.2) (L0:0<L) (dx:x.2∣L) (dy:y.2∣L):Lw (pl x y)∧(pl x y).2∣L∧sc L (pl x y)=sc L x+sc L y:=by
 have e1:=sc_bot dx
 have e2:=sc_bot dy
 refine⟨low_lw (Int.mul_pos hx hy),low_sc (Int.mul_pos hx hy) L0 ?_⟩
 calc (x.1*y.2+y.1*x.2)*L=(x.1*L)*y.2+ (y.1*L)*x.2:=by rw[Int.add_mul,Int.mul_right_comm,Int.mul_right_comm y.1]
  _=sc L x*x.2*y.2+sc L y*y.2*x.2:=by rw[e1,e2]
  _=(sc L x+sc L y)* (x.2*y.2):=by rw[Int.add_mul,Int.mul_assoc,Int.mul_assoc,Int.mul_comm y.2 x.2]
theorem tm_sc {L W w:Int} {y:Sh} (hy:0<y.2) (L0:0<L) (W0:0<W) (dy:y.2∣L):Lw (tm (low w W) y)∧(tm (low w W) y).2∣L*W∧sc (L*W) (tm (low w W) y)=w*sc L y:=by
 have lw:=low_lw (a:=w) W0
 have e2:=sc_bot dy
 have c:Nm.st w W*W=w*Nm.sb w W:=Nm.st_cross w W
 refine⟨low_lw (Int.mul_pos lw.1 hy),low_sc (Int.mul_pos lw.1 hy) (Int.mul_pos L0 W0) ?_⟩
 show Nm.st w W*y.1* (L*W)=w*sc L y* (Nm.sb w W*y.2)
 have r:∀a b c d:Int,a*b* (c*d)=(a*d)* (b*c):=by
  intro a b c d
  rw[Int.mul_comm c d,Int.mul_assoc a b,←Int.mul_assoc b d,Int.mul_comm b d,Int.mul_assoc d b,←Int.mul_assoc a d]
 calc Nm.st w W*y.1* (L*W)=(Nm.st w W*W)* (y.1*L):=r ..
  _=(w*Nm.sb w W)* (sc L y*y.2):=by rw[c,e2]
  _=w*sc L y* (Nm.sb w W*y.2):=by rw[Int.mul_comm (sc L y) y.2,r w (Nm.sb w W) y.2 (sc L y)]
end Wq
namespace Wq
open L2
noncomputable def atW (ws:List Sh) (i:Int):Sh:=ws.getD i.toNat (0,1)
noncomputable def totW (ways:List (Int×Int)):Int:=(ways.map (·.1)).sum
end Wq
namespace Wq
open L2
noncomputable def lcmS (c b:Int):Int:=c / Nm.g c b*b
noncomputable def lcmL:Int→List Sh→Int
 | c,[]=>c
 | c,x::xs=>lcmL (lcmS c x.2) xs
noncomputable def Vb (M:Int) (x:Sh):Prop:= -(M*x.2)≤x.1∧x.1≤M*x.2
theorem vb_sc {L M:Int} {x:Sh} (hx:0<x.2) (L0:0<L) (d:x.2∣L):Vb M x↔-(M*L)≤sc L x∧sc L x≤M*L:=by
 have e:=sc_bot d
 have k:M*L*x.2=M*x.2*L:=Int.mul_right_comm ..
 have i1:∀p q:Int,p≤q↔p*L≤q*L:=fun p q=>⟨fun h=>Int.mul_le_mul_of_nonneg_right h (by omega),fun h=>Int.le_of_mul_le_mul_right h L0⟩
 have i2:∀p q:Int,p≤q↔p*x.2≤q*x.2:=fun p q=>⟨fun h=>Int.mul_le_mul_of_nonneg_right h (by omega),fun h=>Int.le_of_mul_le_mul_right h hx⟩
 unfold Vb
 rw[i1 (-(M*x.2)),i1 x.1,i2 (-(M*L)),i2 (sc L x),e,Int.neg_mul,Int.neg_mul,k]
end Wq
namespace Wq
noncomputable def gainP:L2.Pl→Sh
 | .fin g=>g
 | .thr g _=>g
 | .pck _ _=>(0,1)
end Wq
namespace Wq
end Wq
namespace Wq
end Wq
namespace Wq
end Wq
namespace Wq
end Wq
namespace K33
open PySem PySem.Spec PyProof.Rows L2
set_option maxHeartbeats 4000000
local macro_rules | `(tactic| simp! only [$ls,*]) => `(tactic| simp only [↓exV, ↓exI, ↓exB, ↓exR, ↓exS, ↓exII, ↓exRI, ↓exRa, ↓exRb, L2.start, Pr, tRev, tD1, tDPop1, tSl, tNoPart, tPart, rSlL, tDIn, tDNotIn, gSub, rSetL, tLst, tDNewK, tComp, L2.stC, tFor_eq, iList, iTup, iRng1, iRng2, iZip, iEnum, iDict, iStr, tChain, tSumV, tBM, rJoin, tJoined, jNil, jLit, jInt, jStr, tRaise, tDGet, tDGet2, tDGet1, sDPut, Option.join_some, List.getElem?_nil,  tSeq, tRet, tRetN, tIfS, tTest, tB, tOp, tUn, tVar, tC, tCB, tCons, tNil, tCall, tTupS, tAsg, gName, gNil, gCons, tPar, tNext, tDrop, tAnd, tOr, tNot, tAndV, tOrV, tNotV, tIf, rI, rI0, rU, rIxTH, rIxLH, rEqT, rNeT, rInT, rEq, rNe, scal_ss, scal_ii, scal_bb, scal_si, scal_is, CPow, at0, at1, at2, List.map_cons, List.map_nil, List.length_cons, List.length_nil, Nat.reduceSub, Nat.reduceAdd, Nat.zero_add, List.replicate_zero, List.reduceReplicate, List.append_nil, List.nil_append, List.cons_append, List.getElem?_cons_zero, List.getElem?_cons_succ, List.set_cons_zero, List.set_cons_succ, Option.some.injEq, exists_eq_left', exists_eq_left, V.ref.injEq, V.int.injEq, V.bl.injEq, V.str.injEq, V.ty.injEq, HO.tup.injEq, HO.lst.injEq, List.cons.injEq, and_true, true_and, and_assoc, exists_and_left, decide_eq_true_eq, Bool.not_eq_true', decide_eq_false_iff_not, ite_true, ite_false, if_true, if_false, Int.reduceToNat, eq_self_iff_true, $ls,*])
local macro_rules | `(tactic| simp_all only [$ls,*]) => `(tactic| (first | ((dsimp (config := { zetaDelta := true }) only [L2.start, Pr, tRev, tD1, tDPop1, tSl, tNoPart, tPart, rSlL, tDIn, tDNotIn, gSub, rSetL, tLst, tDNewK, tComp, L2.stC, tFor_eq, iList, iTup, iRng1, iRng2, iZip, iEnum, iDict, iStr, tChain, tSumV, tBM, rJoin, tJoined, jNil, jLit, jInt, jStr, tRaise, tDGet, tDGet2, tDGet1, sDPut, tSeq, tRet, tRetN, tIfS, tTest, tB, tOp, tUn, tVar, tC, tCB, tCons, tNil, tCall, tTupS, tAsg, gName, gNil, gCons, tPar, tNext, tDrop, tAnd, tOr, tNot, tAndV, tOrV, tNotV, tIf, rI, rI0, rU, rIxTH, rIxLH, rEqT, rNeT, rInT, rEq, rNe, scal_ss, scal_ii, scal_bb, scal_si, scal_is, CPow, List.getElem?_cons_zero, List.getElem?_cons_succ, List.set_cons_zero, List.set_cons_succ]); try simp! only [$ls,*]) | simp! only [$ls,*]))
seal L2.PE L2.PT L2.PW L2.PA L2.PS L2.PSs L2.PG L2.PGs L2.PI L2.PTs L2.PO L2.OpR L2.UnR L2.CallR L2.IxR L2.SlR L2.MtR L2.MtM
theorem strictP {P:Program} {w:World}:Strict (CX1 P w):=strict1 P w
set_option genInjectivity false in
set_option genSizeOf false in
structure Txt (K:PySem.W.Frag) (mg:Str→Option Value) (q_Book tc:Addr):Prop where
 z_abs:mg "abs"=none
 z_all:mg "all"=none
 z_any:mg "any"=none
 z_bool:mg "bool"=none
 z_enumerate:mg "enumerate"=none
 z_int:mg "int"=none
 z_isinstance:mg "isinstance"=none
 z_len:mg "len"=none
 z_list:mg "list"=none
 z_range:mg "range"=none
 z_reversed:mg "reversed"=none
 z_sorted:mg "sorted"=none
 z_sum:mg "sum"=none
 z_tuple:mg "tuple"=none
 z_zip:mg "zip"=none
 d_goals:Dn K mg "goals" (top 1)
 d_is_ready:Dn K mg "is_ready" (top 2)
 d_ready_places:Dn K mg "ready_places" (top 3)
 d_levels:Dn K mg "levels" (top 4)
 d_ring:Dn K mg "ring" (top 5)
 d_common_divisor:Dn K mg "common_divisor" (top 12)
 d_share:Dn K mg "share" (top 13)
 d_row_with_head:Dn K mg "row_with_head" (top 15)
 d_swapped:Dn K mg "swapped" (top 16)
 d_without_first_column:Dn K mg "without_first_column" (top 17)
 d_swept:Dn K mg "swept" (top 18)
 d_whole_answers:Dn K mg "whole_answers" (top 19)
 d_column_of:Dn K mg "column_of" (top 20)
 d_turned_rows:Dn K mg "turned_rows" (top 21)
 d_steps_from:Dn K mg "steps_from" (top 23)
 d_parts:Dn K mg "parts" (top 24)
 d_ways_of_picks:Dn K mg "ways_of_picks" (top 28)
 d_checked_parts:Dn K mg "checked_parts" (top 29)
 d_weighted_ways:Dn K mg "weighted_ways" (top 30)
 d_all_weighted_ways:Dn K mg "all_weighted_ways" (top 31)
 d_total_weight:Dn K mg "total_weight" (top 32)
 d_part_rows:Dn K mg "part_rows" (top 33)
 d_with_visits:Dn K mg "with_visits" (top 35)
 d_visits:Dn K mg "visits" (top 36)
 d__law_cell:Dn K mg "_law_cell" (top 38)
 d__law_mixed:Dn K mg "_law_mixed" (top 39)
 d__law_low:Dn K mg "_law_low" (top 40)
 d__law_plus:Dn K mg "_law_plus" (top 41)
 d__law_times:Dn K mg "_law_times" (top 42)
 d__law_share:Dn K mg "_law_share" (top 43)
 d__law_turned:Dn K mg "_law_turned" (top 44)
 d__law_throw:Dn K mg "_law_throw" (top 45)
 d__law_board:Dn K mg "_law_board" (top 46)
 d__law_picks:Dn K mg "_law_picks" (top 47)
 d__law_copy:Dn K mg "_law_copy" (top 48)
 d__law_ways:Dn K mg "_law_ways" (top 49)
 d__law_is_share:Dn K mg "_law_is_share" (top 51)
 d__law_are_shares:Dn K mg "_law_are_shares" (top 52)
 d__law_holds:Dn K mg "_law_holds" (top 53)
 c_MOST_PLACES:∃t,mg "MOST_PLACES"=some (.int 40 t)
 c_MOST_PICKS:∃t,mg "MOST_PICKS"=some (.int 4096 t)
 k_Book:mg "Book"=some (.ref q_Book)
 cl_Book:Cls K q_Book
 na_Book_bottom:PySem.W.findIn K (.ref q_Book) "bottom"=some none
 na_Book_tops:PySem.W.findIn K (.ref q_Book) "tops"=some none
 di_Book:DnI K mg "Book" "Book.__init__" (inClass (top 34) 0) q_Book
 dm_Book_as_shares:DnM K q_Book "as_shares" "Book.as_shares" (inClass (top 34) 2)
 dm_Book_scaled:DnM K q_Book "scaled" "Book.scaled" (inClass (top 34) 1)
 l_parts:LamD K mg "parts" tc
theorem us_0 {C:List Value→Prop} (k:C []):∀us:List Value,us.length=0→C us:=fun us h=>by
 cases us with
 | nil=>exact k
 | cons a us=>cases h
theorem us_s {C:List Value→Prop} {n:Nat} (k:∀a (us:List Value),us.length=n→C (a::us)):∀us:List Value,us.length=n+1→C us:=fun us h=>by
 cases us with
 | nil=>cases h
 | cons a us=>exact k a us (Nat.succ.inj h)
theorem us_1 {C:List Value→Prop} (k:∀a,C [a]):∀us:List Value,us.length=1→C us:=us_s fun a=>us_0 (C:=fun us=>C (a::us)) (k a)
theorem us_2 {C:List Value→Prop} (k:∀a b,C [a,b]):∀us:List Value,us.length=2→C us:=us_s fun a=>us_1 (C:=fun us=>C (a::us)) (k a)
theorem us_3 {C:List Value→Prop} (k:∀a b c,C [a,b,c]):∀us:List Value,us.length=3→C us:=us_s fun a=>us_2 (C:=fun us=>C (a::us)) (k a)
theorem us_4 {C:List Value→Prop} (k:∀a b c d,C [a,b,c,d]):∀us:List Value,us.length=4→C us:=us_s fun a=>us_3 (C:=fun us=>C (a::us)) (k a)
abbrev dsc:Array Value:=#[rawInt 118,rawInt 29,.str ((Str.ofString "parts"++".<locals>.")++"<lambda>") 0]
noncomputable def pkV:Option Int→V
 | none=>.non
 | some i=>.int i
noncomputable def pkD:Option Int→Dat
 | none=>.non
 | some i=>.int i
theorem rep_pks {H:Hp} {ps:List (Option Int)} {l:Addr} (h:H l=some (.lst (List.map pkV ps))):Rep H (.lst (ps.map pkD)) (.ref l):=by
 refine rep_lst.mpr ⟨l,_,rfl,h,repL_map (by rw[List.length_map]) fun i y ey o eo=>?_⟩
 rw[List.getElem?_map,eo] at ey
 cases ey
 cases o <;>simp [pkD,pkV,Rep]
theorem depth_pks (ps:List (Option Int)):depth (.lst (ps.map pkD))≤40:=by
 have:=depth_flat (ds:=ps.map pkD) (n:=0) fun d hd=>by obtain⟨o,_,rfl⟩:=List.mem_map.mp hd;cases o <;>simp [pkD,depth]
 rw[depth]
 omega
theorem at_pk {fs:Lv.Fs} {g:Int} (h0:0≤g) (h1:g< (fs.length:Nat)):atI (List.map pkV fs) g=some (pkV (Lv.lk fs g)):=by
 obtain⟨j,rfl⟩:=Int.eq_ofNat_of_zero_le h0
 have hj:j<fs.length:=by omega
 have e:fs[j]?=some fs[j]:=List.getElem?_eq_getElem hj
 rw[atI_pl (f:=pkV) e]
 congr 2
 unfold Lv.lk
 rw[Int.toNat_natCast,List.getD_eq_getElem?_getD,e]
 rfl
theorem pkV_none {o:Option Int}:(pkV o=V.non)↔o=none:=by cases o <;>simp [pkV]
noncomputable def spGls:Sp:=fun vs H Q _=>∃v q,vs=[v]∧Rep H (plD q) v∧(Lv.gls q).length≤100∧∀l H',Same H H'→H l=none→H' l=some (.lst (List.map V.int (Lv.gls q)))→Q (.ref l) H'
noncomputable def spRdy:Sp:=fun vs H Q _=>∃v q f fs,vs=[v,.ref f]∧Rep H (plD q) v∧H f=some (.lst (List.map pkV fs))∧(Lv.gls q).length≤100∧(∀g∈Lv.gls q,0≤g∧g< (fs.length:Nat))∧∀H',Same H H'→Q (.bl (Lv.rdy fs q)) H'
noncomputable def natV (i:Nat):V:=.int i
noncomputable def spRps:Sp:=fun vs H Q _=>∃a b f fs,vs=[.ref a,.ref f]∧Rep H (brD b) (.ref a)∧H f=some (.lst (List.map pkV fs))∧fs.length=b.length∧b.length≤1000∧(∀q∈b,(Lv.gls q).length≤100)∧Lv.Good b∧∀l H',Same H H'→H l=none→H' l=some (.lst (List.map natV (Lv.fresh b fs)))→Q (.ref l) H'
noncomputable def spLvs:Sp:=fun vs H Q _=>∃a b,vs=[.ref a]∧Rep H (brD b) (.ref a)∧b.length≤1000∧(∀q∈b,(Lv.gls q).length≤100)∧Lv.Good b∧∀l H',Same H H'→H l=none→H' l=some (.lst (List.map pkV (Lv.lvs b)))→Q (.ref l) H'
structure LvW (H:Hp) (b:List Pl) (a ff:Addr) (m:Nat) (σ:L2.St) (H':Hp):Prop where
 ex:∃fs L fr z,σ=[some (V.ref a),some (V.ref ff),some (V.int L),some (V.ref fr),z]∧H' ff=some (.lst (List.map pkV fs))∧H' fr=some (.lst (List.map natV (Lv.fresh b fs)))∧fr≠ff∧Same H H'∧fs.length=b.length∧Lv.nones fs≤m∧Lv.run b m fs L=Lv.lvs b
noncomputable def ringOf (b:List Pl):List Nat:=(List.range b.length).filter fun(i:Nat)=>(Lv.lk (Lv.lvs b) (i:Int)).isNone
theorem ring_mem {b:List Pl} {i:Nat}:i∈ringOf b↔i<b.length∧Lv.lk (Lv.lvs b) (i:Int)=none:=by
 unfold ringOf
 rw[List.mem_filter,List.mem_range]
 simp
structure Bd (b:List Pl):Prop where
 len:b.length≤1000
 few:∀q∈b,(Lv.gls q).length≤100
 good:Lv.Good b
noncomputable def spRing:Sp:=fun vs H Q _=>∃a b,vs=[.ref a]∧Rep H (brD b) (.ref a)∧Bd b∧∀l H',Same H H'→H l=none→H' l=some (.lst (List.map natV (ringOf b)))→Q (.ref l) H'
noncomputable def ParV (H:Hp):Option (Int×Nat)→V→Prop
 | none,v=>v=.non
 | some (h,w),v=>∃p,v=.ref p∧H p=some (.tup [.int h,.int (w:Int)])
theorem ParV.mono {H H':Hp} (s:Same H H') {o:Option (Int×Nat)} {v:V} (h:ParV H o v):ParV H' o v:=by
 cases o with
 | none=>exact h
 | some x=>obtain⟨p,e,hp⟩:=h;exact⟨p,e,s _ _ hp⟩
theorem ParV.upd {H:Hp} {a:Addr} {o:HO} {par:Option (Int×Nat)} {v:V} (n:∀xs,H a≠some (.tup xs)) (h:ParV H par v):ParV (upd H a o) par v:=by
 cases par with
 | none=>exact h
 | some x=>obtain⟨p,e,hp⟩:=h;exact⟨p,e,by rw[upd_ne (fun z=>n _ (z▸hp))];exact hp⟩
structure DRep (H:Hp) (d:Addr) (es:List Bf.En):Prop where
 ex:∃kvs,H d=some (.dK kvs)∧kvs.map (·.1)=(Bf.keys es).map Sum.inl∧∀(i:Nat) e,es[i]?=some e→∃v,kvs[i]?=some (Sum.inl e.1,v)∧ParV H e.2.1 v
theorem DRep.mono {H H':Hp} (s:Same H H') {d:Addr} {es:List Bf.En} (h:DRep H d es):DRep H' d es:=by
 obtain⟨kvs,hd,hk,hv⟩:=h
 exact⟨kvs,s _ _ hd,hk,fun i e he=>by obtain⟨v,e1,e2⟩:=hv i e he;exact⟨v,e1,e2.mono s⟩⟩
theorem val_at {κ:Type} [DecidableEq κ]:∀{kvs:List (κ×V)} {i:Nat} {k:κ} {v:V},(kvs.map (·.1)).Nodup→kvs[i]?=some (k,v)→valV kvs k=some v
 | [],i,k,v,_,h=>by simp at h
 | p::r,0,k,v,_,h=>by simp at h;subst h;exact valV_pos rfl
 | p::r,i+1,k,v,nd,h=>by
  simp at h
  rw[List.map_cons,List.nodup_cons] at nd
  rw[valV_neg (fun z=>nd.1 (by rw[z];exact List.mem_map.mpr ⟨(k,v),List.mem_of_getElem? h,rfl⟩))]
  exact val_at nd.2 h
theorem val_out {κ:Type} [DecidableEq κ]:∀{kvs:List (κ×V)} {k:κ},k∉kvs.map (·.1)→valV kvs k=none
 | [],k,_=>rfl
 | p::r,k,h=>by
  rw[List.map_cons] at h
  rw[valV_neg (fun z=>h (by rw[z];exact List.mem_cons_self))]
  exact val_out fun z=>h (List.mem_cons_of_mem _ z)
theorem nd_inl {l:List Int} (h:l.Nodup):(l.map (Sum.inl:Int→Key)).Nodup:=by
 unfold List.Nodup at *
 rw[List.pairwise_map]
 exact h.imp fun {a b} hab z=>hab (by cases z;rfl)
theorem mem_inl {l:List Int} {k:Int}:(Sum.inl k:Key)∈l.map Sum.inl↔k∈l:=by
 rw[List.mem_map]
 constructor
 ·rintro⟨x,hx,e⟩;cases e;exact hx
 ·intro h;exact⟨k,h,rfl⟩
theorem DRep.get {H:Hp} {d:Addr} {es:List Bf.En} (h:DRep H d es) (nd:(Bf.keys es).Nodup) {i:Nat} {e:Bf.En} (he:es[i]?=some e):∃v,DGet H d (.int e.1) (some v)∧ParV H e.2.1 v:=by
 obtain⟨kvs,hd,hk,hv⟩:=h
 obtain⟨v,e1,e2⟩:=hv i e he
 exact⟨v,.inl ⟨kvs,Sum.inl e.1,.inl hd,rfl,(val_at (by rw[hk];exact nd_inl nd) e1).symm⟩,e2⟩
theorem DRep.out {H:Hp} {d:Addr} {es:List Bf.En} (h:DRep H d es) {k:Int} (hk:k∉Bf.keys es):DGet H d (.int k) none:=by
 obtain⟨kvs,hd,hkk,_⟩:=h
 exact .inl ⟨kvs,Sum.inl k,.inl hd,rfl,(val_out (by rw[hkk];exact fun z=>hk (mem_inl.mp z))).symm⟩
theorem DRep.has {H:Hp} {d:Addr} {es:List Bf.En} (h:DRep H d es) (nd:(Bf.keys es).Nodup) (k:Int):∃o,DGet H d (.int k) o∧o.isSome=decide (k∈Bf.keys es):=by
 by_cases c:k∈Bf.keys es
 ·obtain⟨e,he,rfl⟩:=List.mem_map.mp c
  obtain⟨i,hi⟩:=List.getElem?_of_mem he
  obtain⟨v,g,_⟩:=h.get nd hi
  exact⟨_,g,by simp [c]⟩
 ·exact⟨_,h.out c,by simp [c]⟩
theorem DRep.put {H:Hp} {d:Addr} {es:List Bf.En} (h:DRep H d es) {k:Int} {par:Option (Int×Nat)} {path:List Nat} {v:V} (hk:k∉Bf.keys es) (pv:ParV H par v) (hl:es.length<sizeLine):
  ∃o,DPut H d (.int k) v (upd H d o)∧DRep (upd H d o) d (es++ [(k,par,path)]):=by
 obtain⟨kvs,hd,hkk,hv⟩:=h
 have len:kvs.length=es.length:=by
  have:=congrArg List.length hkk
  unfold Bf.keys at this
  simpa using this
 have vn:valV kvs (Sum.inl k)=none:=val_out (by rw[hkk];exact fun z=>hk (mem_inl.mp z))
 have nt:∀xs,H d≠some (.tup xs):=fun xs z=>by rw[hd] at z;cases z
 refine⟨.dK (kvs++ [(Sum.inl k,v)]),?_,⟨kvs++ [(Sum.inl k,v)],upd_same,?_,fun i e he=>?_⟩⟩
 ·have:=DPut.k (k:=Sum.inl k) (v:=v) hd (by omega)
  rw[putK_new v vn] at this
  exact this
 ·unfold Bf.keys at *
  rw[List.map_append,List.map_append,List.map_append,hkk]
  rfl
 ·rcases Bf.get_snoc he with he | ⟨rfl,rfl⟩
  ·obtain⟨v',e1,e2⟩:=hv i e he
   exact⟨v',Bf.up e1,e2.upd nt⟩
  ·refine⟨v,?_,pv.upd nt⟩
   rw[List.getElem?_append_right (by omega),len,Nat.sub_self]
   rfl
theorem addG_snoc {here:Int} {path:List Nat}:∀(gs:List Int) (w:Nat) (es:List Bf.En) (g:Int),Bf.addG here path w (gs++ [g]) es=(if g∈Bf.keys (Bf.addG here path w gs es) then Bf.addG here path w gs es else Bf.addG here path w gs es++ [(g,some (here,w+gs.length),path++ [w+gs.length])])
 | [],w,es,g=>rfl
 | x::gs,w,es,g=>by
  show Bf.addG here path (w+1) (gs++ [g]) _=_
  rw[addG_snoc gs (w+1)]
  show(if g∈Bf.keys (Bf.addG here path (w+1) gs _) then Bf.addG here path (w+1) gs _ else Bf.addG here path (w+1) gs _++ [(g,some (here,w+1+gs.length),path++ [w+1+gs.length])])=_
  rw[List.length_cons,show w+1+gs.length=w+ (gs.length+1) by omega]
  rfl
structure BfW (H:Hp) (b:List Pl) (a d f:Addr) (st:Int) (m:Nat) (σ:L2.St) (H':Hp):Prop where
 ex:∃(t:Nat) (es:List Bf.En),∃z5 z6 z7,σ=[some (V.ref a),some (V.int st),some (V.ref d),some (V.ref f),some (V.int (t:Int)),z5,z6,z7]∧DRep H' d es∧H' f=some (.lst (List.map V.int (Bf.keys es)))∧Same H H'∧Bf.Inv b st t es∧Bf.bfs b m t es=Bf.steps b st∧b.length<m+t
noncomputable def spStp:Sp:=fun vs H Q _=>∃a b st,vs=[.ref a,.int st]∧Rep H (brD b) (.ref a)∧b.length≤1000∧(∀q∈b,(Lv.gls q).length≤100)∧Lv.Good b∧0≤st∧st<b.length∧∀d H',Same H H'→H d=none→DRep H' d (Bf.steps b st)→Q (.ref d) H'
structure BkW (H:Hp) (es:List Bf.En) (a d bk:Addr) (st g:Int) (path:List Nat) (m:Nat) (σ:L2.St) (H':Hp):Prop where
 ex:∃(e:Bf.En) (bs:List Nat) (v:V),es[m]?=some e∧ParV H' e.2.1 v∧H' bk=some (.lst (List.map natV bs))∧path=e.2.2++bs.reverse∧DRep H' d es∧Same H H'∧σ=[some (V.ref a),some (V.int st),some (V.int g),some (V.ref d),some (V.ref bk),some v]
structure BfI (H:Hp) (a d f l:Addr) (st:Int) (t:Nat) (e:Bf.En) (gs:List Int) (es:List Bf.En) (k:Nat) (σ:L2.St) (H':Hp):Prop where
 ex:∃z6 z7,σ=[some (V.ref a),some (V.int st),some (V.ref d),some (V.ref f),some (V.int (t:Int)),some (V.int e.1),z6,z7]
 dr:DRep H' d (Bf.addG e.1 e.2.2 0 (gs.take k) es)
 hf:H' f=some (.lst (List.map V.int (Bf.keys (Bf.addG e.1 e.2.2 0 (gs.take k) es))))
 hl:H' l=some (.lst (List.map V.int gs))
 sm:Same H H'
noncomputable def Al {α:Type} (R:α→V→Prop):List α→List V→Prop
 | [],[]=>True
 | a::as,v::vs=>R a v∧Al R as vs
 | _,_=>False
theorem Al.length {α:Type} {R:α→V→Prop}:∀{as:List α} {vs:List V},Al R as vs→vs.length=as.length
 | [],[],_=>rfl
 | a::as,v::vs,h=>by simp [Al.length h.2]
theorem Al.imp {α:Type} {R S:α→V→Prop} (f:∀a v,R a v→S a v):∀{as:List α} {vs:List V},Al R as vs→Al S as vs
 | [],[],_=>trivial
 | a::as,v::vs,h=>⟨f _ _ h.1,Al.imp f h.2⟩
theorem Al.append {α:Type} {R:α→V→Prop}:∀{as bs:List α} {us vs:List V},Al R as us→Al R bs vs→Al R (as++bs) (us++vs)
 | [],_,[],_,_,k=>k
 | a::as,_,v::vs,_,h,k=>⟨h.1,Al.append h.2 k⟩
theorem Al.one {α:Type} {R:α→V→Prop} {a:α} {v:V} (h:R a v):Al R [a] [v]:=⟨h,trivial⟩
theorem Al.reverse {α:Type} {R:α→V→Prop}:∀{as:List α} {vs:List V},Al R as vs→Al R as.reverse vs.reverse
 | [],[],_=>trivial
 | a::as,v::vs,h=>by
  rw[List.reverse_cons,List.reverse_cons]
  exact(Al.reverse h.2).append (.one h.1)
theorem Al.get {α:Type} {R:α→V→Prop}:∀{as:List α} {vs:List V} {i:Nat} {v:V},Al R as vs→vs[i]?=some v→∃a,as[i]?=some a∧R a v:=by
 intro as
 induction as with
 | nil=>
  intro vs i v h e
  cases vs with
  | nil=>simp at e
  | cons u vs=>exact h.elim
 | cons a as ih=>
  intro vs i v h e
  cases vs with
  | nil=>exact h.elim
  | cons u vs=>
   cases i with
   | zero=>cases e;exact⟨a,rfl,h.1⟩
   | succ i=>exact ih (vs:=vs) (i:=i) h.2 e
theorem Al.at {α:Type} {R:α→V→Prop}:∀{as:List α} {vs:List V} {i:Nat} {a:α},Al R as vs→as[i]?=some a→∃v,vs[i]?=some v∧R a v:=by
 intro as
 induction as with
 | nil=>
  intro vs i v h e
  simp at e
 | cons a as ih=>
  intro vs i v h e
  cases vs with
  | nil=>exact h.elim
  | cons u vs=>
   cases i with
   | zero=>cases e;exact⟨u,rfl,h.1⟩
   | succ i=>exact ih (vs:=vs) (i:=i) h.2 e
theorem Al.of {α:Type} {R:α→V→Prop}:∀{as:List α} {vs:List V},vs.length=as.length→(∀(i:Nat) v a,vs[i]?=some v→as[i]?=some a→R a v)→Al R as vs
 | [],[],_,_=>trivial
 | [],_::_,l,_=>by simp at l
 | _::_,[],l,_=>by simp at l
 | a::as,u::vs,l,h=>⟨h 0 u a rfl rfl,Al.of (by simpa using l) fun i v b e1 e2=>h (i+1) v b (by simpa using e1) (by simpa using e2)⟩
namespace Pr
open Bf Lv
noncomputable def kb (b:List Pl) (p:Int):List Int:=keys (steps b p)
noncomputable def In (b:List Pl) (p:Int):Prop:=0≤p∧p<b.length
section Q1
variable {b : List Pl} (gb : Good b)
include gb
theorem kb_nd {p:Int} (h:In b p):(kb b p).Nodup:=(steps_ok gb h.1 h.2).1.nd
theorem kb_in {p q:Int} (h:In b p) (hq:q∈kb b p):In b q:=by
 obtain⟨e,he,rfl⟩:=List.mem_map.mp hq
 exact(steps_ok gb h.1 h.2).1.rng e he
theorem kb_self {p:Int} (h:In b p):p∈kb b p:=List.mem_map.mpr ⟨_,List.mem_of_getElem? (steps_ok gb h.1 h.2).1.hd,rfl⟩
theorem kb_goal {p q g:Int} (h:In b p) (hq:q∈kb b p) (hg:g∈gAt b q):g∈kb b p:=by
 obtain⟨e,he,rfl⟩:=List.mem_map.mp hq
 obtain⟨j,hj⟩:=List.getElem?_of_mem he
 obtain⟨i,ei,h1,h2,_⟩:=(steps_ok gb h.1 h.2).2 j e hj g hg
 exact List.mem_map.mpr ⟨ei,List.mem_of_getElem? h1,h2⟩
theorem kb_go {p:Int} (h:In b p):∀(ws:List Nat) (q r:Int),q∈kb b p→go b q ws=some r→r∈kb b p
 | [],q,r,hq,e=>by cases e;exact hq
 | w::ws,q,r,hq,e=>by
  have e:(match (gAt b q)[w]? with | some g=>go b g ws | none=>none)=some r:=e
  cases c:(gAt b q)[w]? with
  | none=>rw[c] at e;cases e
  | some g=>rw[c] at e;exact kb_go h ws g r (kb_goal gb h hq (List.mem_of_getElem? c)) e
theorem kb_iff {p q:Int} (h:In b p):q∈kb b p↔∃ws,go b p ws=some q:=by
 constructor
 ·intro hq
  obtain⟨e,he,rfl⟩:=List.mem_map.mp hq
  obtain⟨j,hj⟩:=List.getElem?_of_mem he
  exact⟨_,path_ok (steps_ok gb h.1 h.2).1 j e hj⟩
 ·rintro⟨ws,e⟩
  exact kb_go gb h ws p q (kb_self gb h) e
theorem kb_trans {p q r:Int} (h:In b p) (hq:q∈kb b p) (hr:r∈kb b q):r∈kb b p:=by
 obtain⟨ws,e⟩:=(kb_iff gb (kb_in gb h hq)).mp hr
 exact kb_go gb h ws q r hq e
theorem kb_len {p:Int} (h:In b p):(kb b p).length≤b.length:=by
 have:=(steps_ok gb h.1 h.2).1.few
 unfold kb keys
 rw[List.length_map]
 exact this
end Q1
theorem sub_perm:∀{l m:List Int},l.Nodup→(∀x∈l,x∈m)→∃r,m.Perm (l++r)
 | [],m,_,_=>⟨m,.refl _⟩
 | x::l,m,nd,h=>by
  obtain⟨n1,n2⟩:=List.nodup_cons.mp nd
  obtain⟨r,p⟩:=sub_perm (m:=m.erase x) n2 fun y hy=>(List.mem_erase_of_ne (a:=y) (b:=x) fun z=>n1 (by rw[←z];exact hy)).mpr (h y (List.mem_cons_of_mem _ hy))
  exact⟨r,(List.perm_cons_erase (h x List.mem_cons_self)).trans (p.cons x)⟩
theorem sub_len {l m:List Int} (hl:l.Nodup) (h:∀x∈l,x∈m):l.length≤m.length:=by
 obtain⟨r,p⟩:=sub_perm hl h
 rw[p.length_eq,List.length_append]
 omega
theorem sub_eq {l m:List Int} (hl:l.Nodup) (hm:m.Nodup) (h:∀x∈l,x∈m) (e:m.length≤l.length):∀x∈m,x∈l:=fun x hx=>by
 obtain⟨r,p⟩:=sub_perm hl h
 have:=p.length_eq
 rw[List.length_append] at this
 have:r=[]:=List.length_eq_zero_iff.mp (by omega)
 subst this
 rw[List.append_nil] at p
 exact p.mem_iff.mp hx
noncomputable def prt (b:List Pl) (p:Int):List Int:=(Nm.srt (kb b p)).filter fun o=>decide (p∈kb b o)
noncomputable def rep (b:List Pl) (p:Int):Int:=(prt b p).headD (-1)
noncomputable def hds (b:List Pl) (n:Nat):List Int:=((List.range n).map fun(i:Nat)=>(i:Int)).filter fun p=>decide (rep b p=p)
section Q2
variable {b : List Pl} (gb : Good b)
include gb
omit gb in
theorem prt_mem {p o:Int}:o∈prt b p↔o∈kb b p∧p∈kb b o:=by
 unfold prt
 rw[List.mem_filter,Nm.srt_mem,decide_eq_true_eq]
theorem prt_lt {p:Int} (h:In b p):(prt b p).Pairwise (·<·):=List.Pairwise.filter _ (Nm.srt_lt (kb_nd gb h))
theorem prt_self {p:Int} (h:In b p):p∈prt b p:=prt_mem.mpr ⟨kb_self gb h,kb_self gb h⟩
theorem prt_in {p o:Int} (h:In b p) (ho:o∈prt b p):In b o:=kb_in gb h (prt_mem.mp ho).1
theorem prt_ne {p:Int} (h:In b p):prt b p≠[]:=List.ne_nil_of_mem (prt_self gb h)
theorem prt_sym {p o:Int} (ho:o∈prt b p):p∈prt b o:=prt_mem.mpr (prt_mem.mp ho).symm
theorem kb_same {p o:Int} (h:In b p) (ho:o∈prt b p):∀x,x∈kb b p↔x∈kb b o:=fun x=>by
 obtain⟨h1,h2⟩:=prt_mem.mp ho
 exact⟨fun hx=>kb_trans gb (kb_in gb h h1) h2 hx,fun hx=>kb_trans gb h h1 hx⟩
theorem kb_size {p o:Int} (h:In b p) (ho:o∈prt b p):(kb b p).length=(kb b o).length:=by
 have hi:=prt_in gb h ho
 exact Nat.le_antisymm (sub_len (kb_nd gb h) fun x hx=>(kb_same gb h ho x).mp hx) (sub_len (kb_nd gb hi) fun x hx=>(kb_same gb h ho x).mpr hx)
theorem prt_trans {p o r:Int} (h:In b p) (ho:o∈prt b p) (hr:r∈prt b o):r∈prt b p:=by
 have hi:=prt_in gb h ho
 have hri:=prt_in gb hi hr
 obtain⟨h1,h2⟩:=prt_mem.mp ho
 obtain⟨h3,h4⟩:=prt_mem.mp hr
 exact prt_mem.mpr ⟨kb_trans gb h h1 h3,kb_trans gb hri h4 h2⟩
omit gb in
theorem lt_ext {l m:List Int} (hl:l.Pairwise (·<·)) (hm:m.Pairwise (·<·)) (h:∀x,x∈l↔x∈m):l=m:=by
 have p:l.Perm m:=(List.perm_ext_iff_of_nodup (hl.imp fun h z=>by omega) (hm.imp fun h z=>by omega)).mpr h
 have o1:l.Pairwise (·≤·):=hl.imp fun h=>Int.le_of_lt h
 have o2:m.Pairwise (·≤·):=hm.imp fun h=>Int.le_of_lt h
 rw[Nm.srt_one p o1,Nm.srt_of_ord o2]
theorem prt_eq {p o:Int} (h:In b p) (ho:o∈prt b p):prt b o=prt b p:=by
 have hi:=prt_in gb h ho
 refine lt_ext (prt_lt gb hi) (prt_lt gb h) fun x=>⟨fun hx=>prt_trans gb h ho hx,fun hx=>prt_trans gb hi (prt_sym gb ho) hx⟩
theorem rep_mem {p:Int} (h:In b p):rep b p∈prt b p:=by
 unfold rep
 cases e:prt b p with
 | nil=>exact absurd e (prt_ne gb h)
 | cons x r=>exact List.mem_cons_self
theorem rep_in {p:Int} (h:In b p):In b (rep b p):=prt_in gb h (rep_mem gb h)
theorem prt_rep {p:Int} (h:In b p):prt b (rep b p)=prt b p:=prt_eq gb h (rep_mem gb h)
theorem rep_rep {p:Int} (h:In b p):rep b (rep b p)=rep b p:=by
 show(prt b (rep b p)).headD (-1)=_
 rw[prt_rep gb h]
 rfl
theorem rep_eq {p o:Int} (h:In b p) (ho:o∈prt b p):rep b o=rep b p:=by
 show(prt b o).headD (-1)=_
 rw[prt_eq gb h ho]
 rfl
omit gb in
theorem hds_mem {n:Nat} {p:Int}:p∈hds b n↔(0≤p∧p<n)∧rep b p=p:=by
 unfold hds
 rw[List.mem_filter,List.mem_map,decide_eq_true_eq]
 constructor
 ·rintro⟨⟨i,hi,rfl⟩,h⟩
  have:=List.mem_range.mp hi
  exact⟨⟨by omega,by omega⟩,h⟩
 ·rintro⟨⟨h1,h2⟩,h⟩
  exact⟨⟨p.toNat,List.mem_range.mpr (by omega),by omega⟩,h⟩
omit gb in
theorem hds_nd {n:Nat}:(hds b n).Nodup:=by
 refine List.Pairwise.filter _ ?_
 rw[List.pairwise_map]
 exact List.nodup_range.imp fun h z=>h (by omega)
omit gb in
theorem hds_len {n:Nat}:(hds b n).length≤n:=by
 unfold hds
 refine Nat.le_trans (List.length_filter_le _ _) ?_
 rw[List.length_map,List.length_range]
 exact Nat.le_refl _
omit gb in
theorem hds_succ {n:Nat}:hds b (n+1)=if rep b (n:Int)=(n:Int) then hds b n++ [(n:Int)] else hds b n:=by
 unfold hds
 rw[List.range_succ,List.map_append,List.filter_append]
 by_cases c:rep b (n:Int)=(n:Int)
 ·rw[if_pos c]
  simp [c]
 ·rw[if_neg c]
  simp [c]
theorem rep_hds {p:Int} (h:In b p):rep b p∈hds b b.length:=hds_mem.mpr ⟨rep_in gb h,rep_rep gb h⟩
end Q2
structure Told (b:List Pl) (ps:List Int):Prop where
 pm:ps.Perm (hds b b.length)
 od:ps.Pairwise fun p q=>(kb b p).length≤(kb b q).length
section Q3
variable {b : List Pl} (gb : Good b) {ps : List Int} (T : Told b ps)
include gb T
omit gb in
theorem Told.nd:ps.Nodup:=T.pm.nodup_iff.mpr hds_nd
omit gb in
theorem Told.inB {p:Int} (h:p∈ps):In b p:=(hds_mem.mp (T.pm.mem_iff.mp h)).1
omit gb in
theorem Told.rp {p:Int} (h:p∈ps):rep b p=p:=(hds_mem.mp (T.pm.mem_iff.mp h)).2
theorem Told.has {p:Int} (h:In b p):rep b p∈ps:=T.pm.mem_iff.mpr (rep_hds gb h)
theorem Told.idx_le {p q:Int} (h:In b p) (hq:q∈kb b p):ps.idxOf (rep b q)≤ps.idxOf (rep b p):=by
 have hi:=kb_in gb h hq
 have sub:∀x∈kb b q,x∈kb b p:=fun x hx=>kb_trans gb h hq hx
 have le:=sub_len (kb_nd gb hi) sub
 by_cases c:(kb b p).length≤(kb b q).length
 ·have:p∈kb b q:=sub_eq (kb_nd gb hi) (kb_nd gb h) sub c p (kb_self gb h)
  rw[rep_eq gb h (prt_mem.mpr ⟨hq,this⟩)]
  exact Nat.le_refl _
 ·have l1:=List.idxOf_lt_length_of_mem (T.has gb hi)
  have l2:=List.idxOf_lt_length_of_mem (T.has gb h)
  rcases Nat.lt_or_ge (ps.idxOf (rep b p)) (ps.idxOf (rep b q)) with g | g
  ·have od:=List.pairwise_iff_getElem.mp T.od _ _ l2 l1 g
   rw[List.getElem_idxOf l2,List.getElem_idxOf l1,←kb_size gb h (rep_mem gb h),←kb_size gb hi (rep_mem gb hi)] at od
   omega
  ·exact g
end Q3
noncomputable def numK (b:List Pl):List Int→Nat→List (Int×Int)
 | [],_=>[]
 | p::ps,i=>(prt b p).map (fun x=>(x,(i:Int)))++numK b ps (i+1)
section Q9
variable {b : List Pl} (gb : Good b) {ps : List Int} (T : Told b ps)
include gb T
end Q9
noncomputable def off (b:List Pl) (ps:List Int) (i:Nat):Nat:=(numK b (ps.take i) 0).length
end Pr
namespace Dg
open Lv Bf
structure Down (b:List Pl) (rk:Int→Nat):Prop where
 good:Good b
 dn:∀(i:Nat) q,b[i]?=some q→∀g∈gls q,rk g<rk (i:Int)
 thr:∀q∈b,∀g ws,q=.thr g ws→ws≠[]
section DA
variable {b : List Pl} {rk : Int → Nat} (D : Down b rk)
include D
end DA
end Dg
namespace Dg
abbrev Sh:=Wq.Sh
abbrev Wy:=List (Int×Int)
noncomputable def vl (x:Sh):Rat:=(x.1:Rat) / (x.2:Rat)
theorem rne {a:Int} (h:0<a):(a:Rat)≠0:=fun z=>by
 have:a=0:=Rat.intCast_inj.mp z
 omega
theorem vl_cross {x:Sh} {a b:Int} (hx:0<x.2) (hb:0<b) (h:x.1*b=a*x.2):vl x=(a:Rat) / (b:Rat):=by
 have h1:=rne hx
 have h2:=rne hb
 have h3:(x.1:Rat)* (b:Rat)=(a:Rat)* (x.2:Rat):=by rw[←Rat.intCast_mul,←Rat.intCast_mul,h]
 unfold vl
 generalize (x.1:Rat)=u at *
 generalize (x.2:Rat)=v at *
 generalize (a:Rat)=s at *
 generalize (b:Rat)=t at *
 grind
theorem vl_low {a b:Int} (h:0<b):vl (Wq.low a b)=(a:Rat) / (b:Rat):=vl_cross (Wq.low_lw h).1 h (Nm.st_cross a b)
theorem vl_pl {x y:Sh} (hx:0<x.2) (hy:0<y.2):vl (Wq.pl x y)=vl x+vl y:=by
 unfold Wq.pl
 rw[vl_low (Int.mul_pos hx hy)]
 have h1:=rne hx
 have h2:=rne hy
 rw[Rat.intCast_add,Rat.intCast_mul,Rat.intCast_mul,Rat.intCast_mul]
 unfold vl
 generalize (x.1:Rat)=u at *
 generalize (x.2:Rat)=v at *
 generalize (y.1:Rat)=s at *
 generalize (y.2:Rat)=t at *
 grind
theorem vl_tm {x y:Sh} (hx:0<x.2) (hy:0<y.2):vl (Wq.tm x y)=vl x*vl y:=by
 unfold Wq.tm
 rw[vl_low (Int.mul_pos hx hy)]
 have h1:=rne hx
 have h2:=rne hy
 rw[Rat.intCast_mul,Rat.intCast_mul]
 unfold vl
 generalize (x.1:Rat)=u at *
 generalize (x.2:Rat)=v at *
 generalize (y.1:Rat)=s at *
 generalize (y.2:Rat)=t at *
 grind
theorem vl_inj {x y:Sh} (hx:Wq.Lw x) (hy:Wq.Lw y) (h:vl x=vl y):x=y:=by
 have h1:=rne hx.1
 have h2:=rne hy.1
 have c:(x.1:Rat)* (y.2:Rat)=(y.1:Rat)* (x.2:Rat):=by
  unfold vl at h
  generalize (x.1:Rat)=u at *
  generalize (x.2:Rat)=v at *
  generalize (y.1:Rat)=s at *
  generalize (y.2:Rat)=t at *
  grind
 rw[←Rat.intCast_mul,←Rat.intCast_mul] at c
 obtain⟨a,b⟩:=Nm.low_one hx.1 hy.1 hx.2 hy.2 (Rat.intCast_inj.mp c)
 exact Prod.ext a b
noncomputable def tt (ws:Wy):Int:=if ws=[] then 1 else Wq.totW ws
theorem totW_cons (x:Int×Int) (ws:Wy):Wq.totW (x::ws)=x.1+Wq.totW ws:=rfl
noncomputable def rsum (d:Int) (v:Int→Rat):Wy→Rat
 | []=>0
 | x::ws=>(x.1:Rat) / (d:Rat)*v x.2+rsum d v ws
abbrev Bk:=List Int×Int
noncomputable def val (S:Bk) (q:Int):Rat:=(S.1.getD q.toNat 0:Rat) / (S.2:Rat)
theorem getD_map_mul (ts:List Int) (d:Int) (q:Nat):(ts.map (·*d)).getD q 0=ts.getD q 0*d:=by
 rw[List.getD_eq_getElem?_getD,List.getD_eq_getElem?_getD,List.getElem?_map]
 cases ts[q]? with
 | none=>show(0:Int)=0*d;omega
 | some x=>rfl
theorem getD_set_ne {ts:List Int} {p q:Nat} {x:Int} (h:p≠q):(ts.set p x).getD q 0=ts.getD q 0:=by
 rw[List.getD_eq_getElem?_getD,List.getD_eq_getElem?_getD,List.getElem?_set_ne h]
theorem getD_set_eq {ts:List Int} {p:Nat} {x:Int} (h:p<ts.length):(ts.set p x).getD p 0=x:=by
 rw[List.getD_eq_getElem?_getD,List.getElem?_set_self h]
 rfl
end Dg
namespace Dg
theorem r11:((1:Int):Rat) / ((1:Int):Rat)=1:=by
 have:((1:Int):Rat)=1:=rfl
 grind
theorem r01:((0:Int):Rat) / ((1:Int):Rat)=0:=by
 have:((0:Int):Rat)=0:=rfl
 grind
noncomputable def pr (d:Int) (q:Int):Wy→Rat
 | []=>0
 | x::ws=>(if x.2=q then (x.1:Rat) / (d:Rat) else 0)+pr d q ws
theorem pr_zero {d q:Int}:∀{ws:Wy},(∀x∈ws,x.2≠q)→pr d q ws=0
 | [],_=>rfl
 | x::ws,h=>by
  unfold pr
  rw[if_neg (h x List.mem_cons_self),pr_zero fun y hy=>h y (List.mem_cons_of_mem _ hy)]
  grind
theorem pr_snoc {d q:Int} {x:Int×Int}:∀{ws:Wy},pr d q (ws++ [x])=pr d q ws+if x.2=q then (x.1:Rat) / (d:Rat) else 0
 | []=>by show(if x.2=q then (x.1:Rat) / (d:Rat) else 0)+0=0+_;grind
 | y::ws=>by
  have:=pr_snoc (d:=d) (q:=q) (x:=x) (ws:=ws)
  show(if y.2=q then (y.1:Rat) / (d:Rat) else 0)+pr d q (ws++ [x])=(if y.2=q then (y.1:Rat) / (d:Rat) else 0)+pr d q ws+_
  rw[this]
  grind
noncomputable def Runs (W:Int→Wy):List Int→(Int→Rat)→(Int→Rat)→Prop
 | [],f,g=>∀q,0≤q→g q=f q
 | p::os,f,g=>∃f1,(∀q,0≤q→f1 q=f q+f p*pr (tt (W p)) q (W p))∧Runs W os f1 g
noncomputable def gsum (W:Int→Wy) (g:Int→Rat) (q:Int):List Int→Rat
 | []=>0
 | p::os=>g p*pr (tt (W p)) q (W p)+gsum W g q os
theorem gsum_perm {W:Int→Wy} {g:Int→Rat} {q:Int} {os os':List Int} (h:os.Perm os'):gsum W g q os=gsum W g q os':=by
 induction h with
 | nil=>rfl
 | cons x _ ih=>unfold gsum;rw[ih]
 | swap x y l=>unfold gsum;unfold gsum;grind
 | trans _ _ i1 i2=>rw[i1,i2]
theorem gsum_congr {W:Int→Wy} {g g':Int→Rat} {q:Int}:∀{os:List Int},(∀p∈os,(∃x∈W p,x.2=q)→g p=g' p)→gsum W g q os=gsum W g' q os
 | [],_=>rfl
 | p::os,h=>by
  unfold gsum
  rw[gsum_congr fun r hr=>h r (List.mem_cons_of_mem _ hr)]
  by_cases c:∃x∈W p,x.2=q
  ·rw[h p List.mem_cons_self c]
  ·rw[pr_zero fun x hx z=>c ⟨x,hx,z⟩]
   grind
noncomputable def addW (c:Int):Wy→List Int→List Int
 | [],ts=>ts
 | x::ws,ts=>addW c ws (ts.set x.2.toNat (ts.getD x.2.toNat 0+c*x.1))
theorem addW_len (c:Int):∀(ws:Wy) (ts:List Int),(addW c ws ts).length=ts.length
 | [],_=>rfl
 | x::ws,ts=>by
  unfold addW
  rw[addW_len c ws,List.length_set]
theorem addW_snoc (c:Int) (x:Int×Int):∀(ws:Wy) (ts:List Int),addW c (ws++ [x]) ts=(addW c ws ts).set x.2.toNat ((addW c ws ts).getD x.2.toNat 0+c*x.1)
 | [],_=>rfl
 | y::ws,ts=>addW_snoc c x ws _
noncomputable def isel (q:Int) (ws:Wy):Int:=(ws.map fun x=>if x.2=q then x.1 else 0).sum
theorem addW_get {c q:Int} (q0:0≤q):∀{ws:Wy} {ts:List Int},(∀x∈ws,0≤x.2∧x.2< (ts.length:Int))→(addW c ws ts).getD q.toNat 0=ts.getD q.toNat 0+c*isel q ws
 | [],ts,_=>by show _=_+c*0;rw[Int.mul_zero,Int.add_zero];rfl
 | x::ws,ts,h=>by
  obtain⟨x0,x1⟩:=h x List.mem_cons_self
  have ih:=addW_get (c:=c) q0 (ws:=ws) (ts:=ts.set x.2.toNat (ts.getD x.2.toNat 0+c*x.1)) fun y hy=>by rw[List.length_set];exact h y (List.mem_cons_of_mem _ hy)
  show(addW c ws _).getD q.toNat 0=ts.getD q.toNat 0+c* ((if x.2=q then x.1 else 0)+isel q ws)
  rw[ih,Int.mul_add]
  by_cases e:x.2=q
  ·subst e
   rw[getD_set_eq (by omega),if_pos rfl]
   omega
  ·rw[getD_set_ne (by omega),if_neg e]
   omega
theorem isel_pr {d q:Int} (d0:0<d):∀ws:Wy,(isel q ws:Rat) / (d:Rat)=pr d q ws
 | []=>by show((0:Int):Rat) / _=0;grind
 | x::ws=>by
  have ih:=isel_pr (q:=q) d0 ws
  have h1:=rne d0
  show(((if x.2=q then x.1 else 0)+isel q ws:Int):Rat) / (d:Rat)=(if x.2=q then (x.1:Rat) / (d:Rat) else 0)+pr d q ws
  rw[←ih,Rat.intCast_add]
  split
  ·grind
  ·have:((0:Int):Rat)=0:=rfl
   grind
end Dg
namespace Dg
structure Wst (n:Nat) (G:Int) (i:Nat) (S:Bk):Prop where
 len:S.1.length=n
 pos:0<S.2
 dv:G∣S.2
 bb:Bt (4*i+4) S.2
 bt:∀q,(S.1.getD q 0).natAbs≤S.2.toNat * (6*i)
structure Vst (n:Nat) (i:Nat) (S:Bk):Prop where
 len:S.1.length=n
 pos:0<S.2
 bb:Bt (4*i+1) S.2
 bt:∀q,(S.1.getD q 0).natAbs≤32^i
end Dg
namespace Dg
end Dg
namespace Bar
abbrev Fm:=Nat→Int
noncomputable def X (w:Fm) (F:List Nat→Int):List Nat→Int
 | []=>0
 | c::cs=>w c*F cs - X w (fun l=>F (c::l)) cs
noncomputable def D:List Fm→List Nat→Int
 | [],[]=>1
 | [],_::_=>0
 | w::rs,cs=>X w (D rs) cs
theorem X_add_F (w:Fm):∀(cs:List Nat) (F G:List Nat→Int),X w (fun l=>F l+G l) cs=X w F cs+X w G cs
 | [],_,_=>rfl
 | c::cs,F,G=>by
  simp only[X]
  rw[X_add_F w cs (fun l=>F (c::l)) (fun l=>G (c::l)),Int.mul_add]
  omega
theorem X_mul_F (w:Fm) (k:Int):∀(cs:List Nat) (F:List Nat→Int),X w (fun l=>k*F l) cs=k*X w F cs
 | [],_=>(Int.mul_zero k).symm
 | c::cs,F=>by
  simp only[X]
  rw[X_mul_F w k cs (fun l=>F (c::l)),Int.mul_sub,←Int.mul_assoc,←Int.mul_assoc,Int.mul_comm k (w c)]
theorem X_zero_F (w:Fm):∀(cs:List Nat),X w (fun _=>0) cs=0
 | []=>rfl
 | c::cs=>by simp only[X];rw[X_zero_F w cs];simp
theorem X_neg_F (w:Fm) (cs:List Nat) (F:List Nat→Int):X w (fun l=> - F l) cs= - X w F cs:=by
 have:=X_mul_F w (-1) cs F
 rw[Int.neg_one_mul] at this
 rw[←this]
 congr 1;funext l;rw[Int.neg_one_mul]
theorem X_add_w (v w:Fm):∀(cs:List Nat) (F:List Nat→Int),X (fun c=>v c+w c) F cs=X v F cs+X w F cs
 | [],_=>rfl
 | c::cs,F=>by
  simp only[X]
  rw[X_add_w v w cs (fun l=>F (c::l)),Int.add_mul]
  omega
theorem X_mul_w (k:Int) (w:Fm):∀(cs:List Nat) (F:List Nat→Int),X (fun c=>k*w c) F cs=k*X w F cs
 | [],_=>(Int.mul_zero k).symm
 | c::cs,F=>by
  simp only[X]
  rw[X_mul_w k w cs (fun l=>F (c::l)),Int.mul_sub,Int.mul_assoc]
theorem X_congr {v w:Fm}:∀{cs:List Nat} {F:List Nat→Int},(∀c∈cs,v c=w c)→X v F cs=X w F cs
 | [],_,_=>rfl
 | c::cs,F,h=>by
  simp only[X]
  rw[h c (List.mem_cons_self ..),X_congr (cs:=cs) fun c' hc=>h c' (List.mem_cons_of_mem _ hc)]
theorem X_van {w:Fm}:∀{cs:List Nat} {F:List Nat→Int},(∀c∈cs,w c=0)→X w F cs=0
 | [],_,_=>rfl
 | c::cs,F,h=>by
  simp only[X]
  rw[h c (List.mem_cons_self ..),X_van (cs:=cs) fun c' hc=>h c' (List.mem_cons_of_mem _ hc)]
  simp
theorem X_XX (w:Fm):∀(cs:List Nat) (F:List Nat→Int),X w (X w F) cs=0
 | [],_=>rfl
 | c::cs,F=>by
  simp only[X]
  have e:=X_add_F w cs (fun l=>w c*F l) (fun l=> - X w (fun m=>F (c::m)) l)
  have e2:X w (fun l=>w c*F l - X w (fun m=>F (c::m)) l) cs=X w (fun l=>w c*F l+- X w (fun m=>F (c::m)) l) cs:=by
   congr 1
  rw[e2,e,X_mul_F,X_neg_F,X_XX w cs fun m=>F (c::m)]
  omega
theorem X_anti (v w:Fm) (cs:List Nat) (F:List Nat→Int):X v (X w F) cs= - X w (X v F) cs:=by
 have e:=X_XX (fun c=>v c+w c) cs F
 have e1:X (fun c=>v c+w c) F=fun l=>X v F l+X w F l:=by funext l;exact X_add_w v w l F
 rw[e1,X_add_w,X_add_F,X_add_F,X_XX,X_XX] at e
 omega
theorem D_mem {w:Fm}:∀{rs:List Fm} (_:w∈rs) (cs:List Nat),D (w::rs) cs=0
 | u::rs,h,cs=>by
  rcases List.mem_cons.mp h with rfl | h
  ·exact X_XX _ _ _
  ·show X w (X u (D rs)) cs=0
   rw[X_anti]
   have e:X w (D rs)=fun _=>0:=by funext l;exact D_mem h l
   rw[e,X_zero_F]
   rfl
noncomputable def Sp:List Fm→Fm→Prop
 | [],f=>∀j,f j=0
 | w::rs,f=>∃(c:Int) (g:Fm),Sp rs g∧∀j,f j=c*w j+g j
theorem Sp.congr {f g:Fm}:∀{rs:List Fm},Sp rs f→(∀j,f j=g j)→Sp rs g
 | [],h,e=>fun j=>by rw[←e];exact h j
 | w::rs,⟨c,k,hk,e1⟩,e=>⟨c,k,hk,fun j=>by rw[←e];exact e1 j⟩
theorem Sp.zero:∀{rs:List Fm},Sp rs (fun _=>0)
 | []=>fun _=>rfl
 | _::_=>⟨0,_,Sp.zero,fun j=>by simp⟩
theorem Sp.add {f g:Fm}:∀{rs:List Fm},Sp rs f→Sp rs g→Sp rs (fun j=>f j+g j)
 | [],h,k=>fun j=>by show f j+g j=0;rw[h j,k j];rfl
 | w::rs,⟨c,f',hf,e1⟩,⟨d,g',hg,e2⟩=>⟨c+d,_,hf.add hg,fun j=>by show f j+g j=_;rw[e1,e2,Int.add_mul];omega⟩
theorem Sp.mul {f:Fm} (k:Int):∀{rs:List Fm},Sp rs f→Sp rs (fun j=>k*f j)
 | [],h=>fun j=>by show k*f j=0;rw[h j,Int.mul_zero]
 | w::rs,⟨c,f',hf,e1⟩=>⟨k*c,_,hf.mul k,fun j=>by show k*f j=_;rw[e1,Int.mul_add,Int.mul_assoc]⟩
theorem Sp.X {rs:List Fm} (w:Fm):∀(cs:List Nat) (F:Nat→List Nat→Int),(∀l,Sp rs (fun j=>F j l))→Sp rs (fun j=>Bar.X w (F j) cs)
 | [],_,_=>Sp.zero
 | c::cs,F,h=>by
  have h1:=(h cs).mul (w c)
  have h2:=(Sp.X w cs (fun j l=>F j (c::l)) (fun l=>h (c::l))).mul (-1)
  exact(h1.add h2).congr fun j=>by simp only[Bar.X];rw[Int.neg_one_mul];omega
theorem Sp_D:∀(rs:List Fm) (l:List Nat),Sp rs (fun j=>D rs (j::l))
 | [],l=>fun j=>rfl
 | w::rs,l=>by
  refine⟨D rs l,_,(Sp.X w l (fun j m=>D rs (j::m)) fun m=>Sp_D rs m).mul (-1),fun j=>?_⟩
  show w j*D rs l - X w (fun m=>D rs (j::m)) l=_
  rw[Int.neg_one_mul,Int.mul_comm]
  omega
theorem D_span {us:List Fm}:∀{rs:List Fm} {g:Fm},Sp rs g→(∀r∈rs,r∈us)→∀cs,D (g::us) cs=0
 | [],g,h,_,cs=>X_van fun c _=>h c
 | w::rs,g,⟨c,g',h,e⟩,hs,cs=>by
  have e':g=fun j=>c*w j+g' j:=funext e
  show X g (D us) cs=0
  rw[e',X_add_w,X_mul_w]
  have z1:X w (D us) cs=0:=D_mem (hs w (List.mem_cons_self ..)) cs
  have z2:X g' (D us) cs=0:=D_span h (fun r hr=>hs r (List.mem_cons_of_mem _ hr)) cs
  rw[z1,z2];simp
theorem Sp_E (rs:List Fm) (cs:List Nat) (v:Fm):Sp rs (fun j=>D rs cs*v j+- D (v::rs) (j::cs)):=by
 refine(Sp.X v cs (fun j m=>D rs (j::m)) fun m=>Sp_D rs m).congr fun j=>?_
 show _=D rs cs*v j+- (v j*D rs cs - X v (fun m=>D rs (j::m)) cs)
 rw[Int.mul_comm]
 omega
theorem main (rs:List Fm) (cs:List Nat) (u v:Fm) (j k:Nat) (h:∀c∈cs,D (v::rs) (c::cs)=0):
  D rs cs*D (v::u::rs) (j::k::cs)=D (u::rs) (k::cs)*D (v::rs) (j::cs) - D (v::rs) (k::cs)*D (u::rs) (j::cs):=by
 have s:=Sp_E rs cs v
 have z:=D_span (us:=u::rs) s (fun r hr=>List.mem_cons_of_mem _ hr) (j::k::cs)
 have z':X (fun j=>D rs cs*v j+- D (v::rs) (j::cs)) (D (u::rs)) (j::k::cs)=0:=z
 have e1:D rs cs*D (v::u::rs) (j::k::cs)=X (fun j=>D rs cs*v j) (D (u::rs)) (j::k::cs):=(X_mul_w _ _ _ _).symm
 have e2:X (fun j=>D rs cs*v j+- D (v::rs) (j::cs)) (D (u::rs)) (j::k::cs)=X (fun j=>D rs cs*v j) (D (u::rs)) (j::k::cs)+X (fun j=> - D (v::rs) (j::cs)) (D (u::rs)) (j::k::cs):=X_add_w _ _ _ _
 have e3:X (fun j=> - D (v::rs) (j::cs)) (D (u::rs)) (j::k::cs)= - D (v::rs) (j::cs)*D (u::rs) (k::cs) - (- D (v::rs) (k::cs)*D (u::rs) (j::cs) - X (fun j=> - D (v::rs) (j::cs)) (fun l=>D (u::rs) (j::k::l)) cs):=rfl
 have e4:X (fun j=> - D (v::rs) (j::cs)) (fun l=>D (u::rs) (j::k::l)) cs=0:=X_van fun c hc=>by rw[h c hc];rfl
 rw[e1]
 rw[e2,e3,e4] at z'
 rw[Int.neg_mul,Int.neg_mul] at z'
 rw[Int.mul_comm (D (u::rs) (k::cs))]
 omega
noncomputable def Good:List Fm→List Nat→Prop
 | [],[]=>True
 | u::rs,k::cs=>Good rs cs∧D (u::rs) (k::cs)≠0
 | _,_=>False
theorem Good.ne:∀{rs:List Fm} {cs:List Nat},Good rs cs→D rs cs≠0
 | [],[],_=>by show(1:Int)≠0;decide
 | _::_,_::_,h=>h.2
 | [],_::_,h=>h.elim
 | _::_,[],h=>h.elim
theorem Good.van:∀{rs:List Fm} {cs:List Nat},Good rs cs→∀(v:Fm) (c:Nat),c∈cs→D (v::rs) (c::cs)=0
 | [],[],_,_,_,hc=>by cases hc
 | u::rs,k::cs,h,v,c,hc=>by
  have hm:=main rs cs u v c k (fun c hc=>h.1.van v c hc)
  have hz:D (u::rs) (k::cs)*D (v::rs) (c::cs) - D (v::rs) (k::cs)*D (u::rs) (c::cs)=0:=by
   rcases List.mem_cons.mp hc with rfl | hc
   ·rw[Int.mul_comm];omega
   ·rw[h.1.van v c hc,h.1.van u c hc];simp
  rw[hz] at hm
  rcases Int.mul_eq_zero.mp hm with h0 | h0
  ·exact absurd h0 h.1.ne
  ·exact h0
 | [],_::_,h,_,_,_=>h.elim
 | _::_,[],h,_,_,_=>h.elim
theorem step_div {rs:List Fm} {cs:List Nat} (g:Good rs cs) (u v:Fm) (j k:Nat):
  D (u::rs) (k::cs)*D (v::rs) (j::cs) - D (v::rs) (k::cs)*D (u::rs) (j::cs)=D rs cs*D (v::u::rs) (j::k::cs):=
 (main rs cs u v j k (fun c hc=>g.van v c hc)).symm
noncomputable def dn:Nat→List Nat
 | 0=>[]
 | k+1=>k::dn k
theorem mem_dn:∀{n c:Nat},c∈dn n↔c<n
 | 0,c=>by simp [dn]
 | n+1,c=>by rw[dn,List.mem_cons,mem_dn];omega
theorem dn_length:∀n,(dn n).length=n
 | 0=>rfl
 | n+1=>by rw[dn,List.length_cons,dn_length]
noncomputable def ng (i:Nat):Fm:=fun c=>if c=i then -1 else 0
theorem step_own (rs:List Fm) (u:Fm) (j k:Nat) (h:k<j):
  D (ng k::u::rs) (j::k::dn k)=D (u::rs) (j::dn k):=by
 show ng k j*D (u::rs) (k::dn k) - (ng k k*D (u::rs) (j::dn k) - X (ng k) (fun l=>D (u::rs) (j::k::l)) (dn k))=_
 rw[X_van (w:=ng k) fun c hc=>by have:=mem_dn.mp hc;exact if_neg (by omega)]
 have a:ng k j=0:=if_neg (by omega)
 have b:ng k k= -1:=if_pos rfl
 rw[a,b]
 omega
noncomputable def sm:Nat→(Nat→Int)→Int
 | 0,_=>0
 | n+1,f=>sm n f+f n
theorem sm_ng (u:Fm) (F:List Nat→Int) (cs:List Nat):∀n,sm n (fun i=>u i*X (ng i) F cs)=X (fun c=>if c<n then - u c else 0) F cs
 | 0=>by
  show 0=_
  exact(X_van fun c _=>if_neg (by omega)).symm
 | n+1=>by
  show sm n _+u n*X (ng n) F cs=_
  rw[sm_ng u F cs n,←X_mul_w,←X_add_w]
  refine X_congr fun c _=>?_
  show(if c<n then - u c else 0)+u n* (if c=n then -1 else 0)=_
  by_cases e:c=n
  ·subst e
   rw[if_neg (by omega),if_pos rfl,if_pos (by omega)]
   omega
  ·rw[if_neg e]
   by_cases l:c<n
   ·rw[if_pos l,if_pos (by omega)];simp
   ·rw[if_neg l,if_neg (by omega)];simp
theorem cramer (rs:List Fm) (u:Fm) (k:Nat):
  sm k (fun i=>u i*D (ng i::rs) (k::dn k))=u k*D rs (dn k) - D (u::rs) (k::dn k):=by
 have e:=sm_ng u (D rs) (k::dn k) k
 have e1:X (fun c=>if c<k then - u c else 0) (D rs) (k::dn k)=X (fun c=>(-1)*u c+u k* (if c=k then 1 else 0)) (D rs) (k::dn k):=by
  refine X_congr fun c hc=>?_
  rcases List.mem_cons.mp hc with rfl | hc
  ·rw[if_neg (by omega),if_pos rfl];omega
  ·have:=mem_dn.mp hc
   rw[if_pos this,if_neg (by omega)];omega
 have e2:X (fun c=>if c=k then (1:Int) else 0) (D rs) (k::dn k)=D rs (dn k):=by
  show(if k=k then (1:Int) else 0)*D rs (dn k) - X (fun c=>if c=k then (1:Int) else 0) (fun l=>D rs (k::l)) (dn k)=_
  rw[if_pos rfl,X_van fun c hc=>by have:=mem_dn.mp hc;exact if_neg (by omega)]
  omega
 have e3:sm k (fun i=>u i*D (ng i::rs) (k::dn k))=sm k (fun i=>u i*X (ng i) (D rs) (k::dn k)):=rfl
 rw[e3,e,e1,X_add_w,X_mul_w,X_mul_w,e2]
 show(-1)*D (u::rs) (k::dn k)+u k*D rs (dn k)=_
 omega
theorem perm {rs us:List Fm} (h:rs.Perm us):∃s:Int,(s=1∨s= -1)∧∀cs,D rs cs=s*D us cs:=by
 induction h with
 | nil=>exact⟨1,.inl rfl,fun cs=>(Int.one_mul _).symm⟩
 | cons w _ ih=>
  obtain⟨s,h,e⟩:=ih
  refine⟨s,h,fun cs=>?_⟩
  show X w _ cs=s*X w _ cs
  rw[←X_mul_F]
  congr 1
  funext l
  exact e l
 | swap x y l=>exact⟨-1,.inr rfl,fun cs=>by rw[Int.neg_one_mul];exact X_anti _ _ _ _⟩
 | trans _ _ ih1 ih2=>
  obtain⟨s,h,e⟩:=ih1
  obtain⟨t,k,f⟩:=ih2
  refine⟨s*t,?_,fun cs=>by rw[e,f,Int.mul_assoc]⟩
  rcases h with rfl | rfl <;>rcases k with rfl | rfl <;>decide
theorem perm_ne {rs us:List Fm} (h:rs.Perm us) (cs:List Nat):D rs cs≠0↔D us cs≠0:=by
 obtain⟨s,hs,e⟩:=perm h
 rw[e]
 rcases hs with rfl | rfl <;>omega
theorem sm_congr {f g:Nat→Int}:∀{n},(∀i,i<n→f i=g i)→sm n f=sm n g
 | 0,_=>rfl
 | n+1,h=>by show sm n f+f n=sm n g+g n;rw[sm_congr fun i hi=>h i (by omega),h n (by omega)]
theorem sm_add (f g:Nat→Int):∀n,sm n (fun i=>f i+g i)=sm n f+sm n g
 | 0=>rfl
 | n+1=>by show sm n _+ (f n+g n)=sm n f+f n+ (sm n g+g n);rw[sm_add f g n];omega
theorem sm_mul (k:Int) (f:Nat→Int):∀n,sm n (fun i=>k*f i)=k*sm n f
 | 0=>(Int.mul_zero k).symm
 | n+1=>by show sm n _+k*f n=k* (sm n f+f n);rw[sm_mul k f n,Int.mul_add]
theorem sm_one (g:Nat→Int) (t:Nat):∀n,sm n (fun j=>g j* (if j=t then 1 else 0))=if t<n then g t else 0
 | 0=>by rw[if_neg (by omega)];rfl
 | n+1=>by
  show sm n _+g n* (if n=t then 1 else 0)=_
  rw[sm_one g t n]
  by_cases e:n=t
  ·subst e;rw[if_neg (by omega),if_pos rfl,if_pos (by omega)];omega
  ·rw[if_neg e]
   by_cases l:t<n
   ·rw[if_pos l,if_pos (by omega)];omega
   ·rw[if_neg l,if_neg (by omega)];omega
end Bar
namespace Bar
noncomputable def pβ (β:Nat→Nat):List Nat→Nat
 | []=>1
 | c::cs=>β c*pβ β cs
theorem X_cb {w:Fm} {β:Nat→Nat} (hw:∀c,(w c).natAbs≤β c):∀(cs:List Nat) (M:Nat) (F:List Nat→Int),(∀l,l.length+1=cs.length→(F l).natAbs≤M*pβ β l)→(X w F cs).natAbs≤cs.length* (M*pβ β cs)
 | [],_,_,_=>by simp [X]
 | c::cs,M,F,h=>by
  simp only[X]
  have h1:=Int.natAbs_mul (w c) (F cs)
  have h2:=Nat.mul_le_mul (hw c) (h cs rfl)
  have h3:=X_cb hw cs (M*β c) (fun l=>F (c::l)) (fun l hl=>by
   have:=h (c::l) (by simp only[List.length_cons];omega)
   rw[pβ,←Nat.mul_assoc] at this
   exact this)
  have h4:=Int.natAbs_sub_le (w c*F cs) (X w (fun l=>F (c::l)) cs)
  have e:M*pβ β (c::cs)=β c* (M*pβ β cs):=by rw[pβ];grind
  have e2:M*β c*pβ β cs=β c* (M*pβ β cs):=by grind
  rw[List.length_cons,Nat.add_mul,Nat.one_mul,e]
  rw[e2] at h3
  omega
theorem D_cb {β:Nat→Nat} {N:Nat}:∀{rs:List Fm} (cs:List Nat),(∀w∈rs,∀c,(w c).natAbs≤β c)→cs.length≤N→(D rs cs).natAbs≤N^rs.length*pβ β cs
 | [],[],_,_=>by simp [D,pβ]
 | [],_::_,_,_=>by simp [D]
 | w::rs,cs,h,hl=>by
  have h1:=X_cb (h w (List.mem_cons_self ..)) cs (N^rs.length) (D rs) (fun l hl'=>D_cb l (fun w hw=>h w (List.mem_cons_of_mem _ hw)) (by omega))
  show(X w (D rs) cs).natAbs≤_
  rw[List.length_cons,Nat.pow_succ,Nat.mul_comm (N^_),Nat.mul_assoc]
  exact Nat.le_trans h1 (Nat.mul_le_mul_right _ hl)
end Bar
namespace Bar
noncomputable def fo (r:List Int):Fm:=fun c=>r.getD c 0
noncomputable def rowOf (v:Fm) (rs:List Fm) (k m:Nat):List Int:=(List.range (m - k)).map fun t=>D (v::rs) ((k+t)::dn k)
theorem rowOf_length (v:Fm) (rs:List Fm) (k m:Nat):(rowOf v rs k m).length=m - k:=by simp [rowOf]
theorem rowOf_get {v:Fm} {rs:List Fm} {k m t:Nat} (h:k+t<m):(rowOf v rs k m)[t]?=some (D (v::rs) ((k+t)::dn k)):=by
 unfold rowOf
 rw[List.getElem?_map,List.getElem?_range (by omega)]
 rfl
theorem D_one (v:Fm) (t:Nat):D [v] [t]=v t:=by
 show v t*1 - 0=v t
 omega
theorem rowOf_zero {r:List Int} {m:Nat} (h:r.length=m):rowOf (fo r) [] 0 m=r:=by
 refine List.ext_getElem? fun i=>?_
 by_cases l:i<m
 ·rw[rowOf_get (by omega),List.getElem?_eq_getElem (by omega)]
  show some (D [fo r] [0+i])=_
  rw[D_one,Nat.zero_add]
  simp [fo,List.getD_eq_getElem?_getD,List.getElem?_eq_getElem (show i<r.length by omega)]
 ·rw[List.getElem?_eq_none (by rw[rowOf_length];omega),List.getElem?_eq_none (by omega)]
theorem rowOf_cons {k m:Nat} (h:k<m) (v:Fm) (rs:List Fm):rowOf v rs k m=D (v::rs) (k::dn k)::(List.range (m - (k+1))).map fun t=>D (v::rs) ((k+1+t)::dn k):=by
 unfold rowOf
 rw[show m - k=(m - (k+1))+1 by omega,List.range_succ_eq_map,List.map_cons,List.map_map]
 congr 1
 refine List.map_congr_left fun t _=>?_
 show D (v::rs) ((k+ (t+1))::dn k)=_
 rw[show k+ (t+1)=k+1+t by omega]
theorem own_row {k m:Nat} (h:k<m) (u:Fm) (rs:List Fm):(rowOf u rs k m).tail=rowOf (ng k) (u::rs) (k+1) m:=by
 rw[rowOf_cons h,List.tail_cons]
 unfold rowOf
 refine List.map_congr_left fun t _=>?_
 exact(step_own rs u (k+1+t) k (by omega)).symm
theorem zipWith_map {α:Type} (f:Int→Int→Int) (g h:α→Int):∀l:List α,List.zipWith f (l.map g) (l.map h)=l.map fun a=>f (g a) (h a)
 | []=>rfl
 | a::l=>by simp only[List.map_cons,List.zipWith_cons_cons,zipWith_map f g h l]
theorem elim_row {k m:Nat} (h:k<m) {rs:List Fm} (G:Good rs (dn k)) (u v:Fm):
  List.zipWith (fun one other=>(D (u::rs) (k::dn k)*one - D (v::rs) (k::dn k)*other).fdiv (D rs (dn k))) (rowOf v rs k m).tail (rowOf u rs k m).tail=rowOf v (u::rs) (k+1) m:=by
 rw[rowOf_cons h,rowOf_cons h,List.tail_cons,List.tail_cons,zipWith_map]
 unfold rowOf
 refine List.map_congr_left fun t _=>?_
 rw[step_div G u v (k+1+t) k]
 exact Int.mul_fdiv_cancel_left _ G.ne
structure Stp (U:List Fm) (n k:Nat) (rs V:List Fm):Prop where
 len:V.length=n
 rl:rs.length=k
 good:Good rs (dn k)
 own:∀i,i<k→V[i]?=some (ng i)
 perm:(rs++V.drop k).Perm U
 le:k≤n
theorem Stp.start {U:List Fm}:Stp U U.length 0 [] U:=⟨rfl,rfl,trivial,fun i h=>absurd h (by omega),List.Perm.refl _,Nat.zero_le _⟩
theorem perm_set {α:Type} {u a:α}:∀{l:List α} {i:Nat},l[i]?=some u→(u::l.set i a).Perm (a::l)
 | [],_,h=>by simp at h
 | b::l,0,h=>by
  simp at h;subst h
  exact List.Perm.swap _ _ _
 | b::l,i+1,h=>by
  simp only[List.getElem?_cons_succ] at h
  show(u::b::l.set i a).Perm (a::b::l)
  exact(List.Perm.swap _ _ _).trans (((perm_set h).cons b).trans (List.Perm.swap _ _ _))
noncomputable def swp (V:List Fm) (k spot:Nat) (u a:Fm):List Fm:=(V.set k u).set spot a
theorem Stp.step {U:List Fm} {n k spot:Nat} {rs V:List Fm} {u a:Fm} (S:Stp U n k rs V) (hk:k<n) (hs:k≤spot) (hu:V[spot]?=some u) (ha:V[k]?=some a) (h:D (u::rs) (k::dn k)≠0):
  Stp U n (k+1) (u::rs) ((swp V k spot u a).set k (ng k)):=by
 have l:=S.len
 refine⟨by simp [swp,l],by rw[List.length_cons,S.rl],⟨S.good,h⟩,fun i hi=>?_,?_,hk⟩
 ·by_cases e:i=k
  ·subst e
   rw[List.getElem?_set_self (by simp [swp];omega)]
  ·unfold swp
   rw[List.getElem?_set_ne (by omega),List.getElem?_set_ne (by omega),List.getElem?_set_ne (by omega)]
   exact S.own i (by omega)
 ·refine List.Perm.trans ?_ S.perm
  have hd:V.drop k=a::V.drop (k+1):=by
   obtain⟨h1,h2⟩:=List.getElem?_eq_some_iff.mp ha
   rw[←h2]
   exact List.drop_eq_getElem_cons h1
  have e1:((swp V k spot u a).set k (ng k)).drop (k+1)=((V.drop (k+1)).set (spot - (k+1)) a)∨(spot=k∧((swp V k spot u a).set k (ng k)).drop (k+1)=V.drop (k+1)):=by
   unfold swp
   by_cases e:spot=k
   ·right
    subst e
    refine⟨rfl,?_⟩
    simp [List.drop_set]
   ·left
    simp [List.drop_set]
    intro hh
    omega
  have e2:(u::((swp V k spot u a).set k (ng k)).drop (k+1)).Perm (a::V.drop (k+1)):=by
   rcases e1 with e1 | ⟨e,e1⟩
   ·by_cases e:spot=k
    ·subst e
     have:u=a:=by rw[hu] at ha;exact Option.some.inj ha
     subst this
     unfold swp
     simp [List.drop_set]
    ·rw[e1]
     refine perm_set ?_
     rw[List.getElem?_drop,show k+1+ (spot - (k+1))=spot by omega]
     exact hu
   ·subst e
    have:u=a:=by rw[hu] at ha;exact Option.some.inj ha
    subst this
    rw[e1]
  rw[hd]
  refine List.Perm.trans ?_ (e2.append_left rs)
  show(u::(rs++_)).Perm _
  exact(List.perm_middle).symm
noncomputable def Stuck (k:Nat) (rs V:List Fm):Prop:=∀u∈V.drop k,D (u::rs) (k::dn k)=0
theorem Stp.noughts {U:List Fm} {n k:Nat} {rs V:List Fm} (S:Stp U n k rs V) (z:Stuck k rs V) {u:Fm} (hu:u∈U):sm k (fun i=>u i*D (ng i::rs) (k::dn k))=u k*D rs (dn k):=by
 rw[cramer]
 have:D (u::rs) (k::dn k)=0:=by
  rcases List.mem_append.mp (S.perm.mem_iff.mpr hu) with h | h
  ·exact D_mem h _
  ·exact z u h
 omega
theorem Stp.answers {U:List Fm} {n:Nat} {rs V:List Fm} (S:Stp U n n rs V) {u:Fm} (hu:u∈U):sm n (fun i=>u i*D (ng i::rs) (n::dn n))=u n*D rs (dn n):=by
 rw[cramer]
 have h:u∈rs:=by
  rcases List.mem_append.mp (S.perm.mem_iff.mpr hu) with h | h
  ·exact h
  ·rw[List.drop_eq_nil_of_le (by rw[S.len];exact Nat.le_refl _)] at h;cases h
 rw[D_mem h]
 omega
theorem Stp.all {U:List Fm} {n:Nat} {rs V:List Fm} (S:Stp U n n rs V):rs.Perm U:=by
 have:=S.perm
 rw[List.drop_eq_nil_of_le (by rw[S.len];exact Nat.le_refl _),List.append_nil] at this
 exact this
theorem Stp.ne {U:List Fm} {n:Nat} {rs V:List Fm} (S:Stp U n n rs V):D U (dn n)≠0:=(perm_ne S.all _).mp S.good.ne
end Bar
namespace Bar
theorem Stp.cb {U:List Fm} {n k:Nat} {β:Nat→Nat} {rs V:List Fm} (S:Stp U n k rs V) (b1:∀c,1≤β c) (hb:∀u∈U,∀c,(u c).natAbs≤β c):(∀u∈rs,∀c,(u c).natAbs≤β c)∧∀v∈V,∀c,(v c).natAbs≤β c:=by
 refine⟨fun u hu=>hb u (S.perm.mem_iff.mp (List.mem_append_left _ hu)),fun v hv=>?_⟩
 obtain⟨i,hi,rfl⟩:=List.getElem_of_mem hv
 by_cases l:i<k
 ·have:=S.own i l
  rw[List.getElem?_eq_getElem hi] at this
  rw[Option.some.inj this]
  intro c
  unfold ng
  split
  ·exact b1 c
  ·exact Nat.zero_le _
 ·refine hb _ (S.perm.mem_iff.mp (List.mem_append_right _ ?_))
  refine List.mem_of_getElem? (i:=i - k) ?_
  rw[List.getElem?_drop,show k+ (i - k)=i by omega,List.getElem?_eq_getElem hi]
theorem pβ_dn {β:Nat→Nat} {b n:Nat} (h:∀c,c<n→β c≤b):∀k,k≤n→pβ β (dn k)≤b^k
 | 0,_=>Nat.le_refl _
 | k+1,hk=>by
  rw[dn,pβ,Nat.pow_succ,Nat.mul_comm]
  exact Nat.mul_le_mul (pβ_dn h k (by omega)) (h k (by omega))
theorem Stp.cbD {U:List Fm} {n k b c:Nat} {β:Nat→Nat} {rs V:List Fm} (S:Stp U n k rs V) (b1:∀j,1≤β j) (h:∀j,j<n→β j≤b) (hc:∀j,β j≤c) (hb:∀u∈U,∀j,(u j).natAbs≤β j) {v:Fm} (hv:v∈V) (j:Nat):(D (v::rs) (j::dn k)).natAbs≤(n+1)^ (n+1)* (c*b^k):=by
 obtain⟨h1,h2⟩:=S.cb b1 hb
 have le:=S.le
 have h3:=D_cb (N:=n+1) (β:=β) (rs:=v::rs) (j::dn k) (fun w hw=>by
  rcases List.mem_cons.mp hw with rfl | hw
  ·exact h2 _ hv
  ·exact h1 w hw) (by rw[List.length_cons,dn_length];omega)
 refine Nat.le_trans h3 (Nat.mul_le_mul ?_ ?_)
 ·rw[List.length_cons,S.rl]
  exact Nat.pow_le_pow_right (by omega) (by omega)
 ·rw[pβ]
  exact Nat.mul_le_mul (hc j) (pβ_dn h k le)
theorem Stp.cbd {U:List Fm} {n k b:Nat} {β:Nat→Nat} {rs V:List Fm} (S:Stp U n k rs V) (b1:∀j,1≤β j) (h:∀j,j<n→β j≤b) (hb:∀u∈U,∀j,(u j).natAbs≤β j):(D rs (dn k)).natAbs≤(n+1)^ (n+1)*b^k:=by
 obtain⟨h1,h2⟩:=S.cb b1 hb
 have le:=S.le
 have h3:=D_cb (N:=n+1) (β:=β) (rs:=rs) (dn k) h1 (by rw[dn_length];omega)
 refine Nat.le_trans h3 (Nat.mul_le_mul ?_ (pβ_dn h k le))
 rw[S.rl]
 exact Nat.pow_le_pow_right (by omega) (by omega)
end Bar
namespace Bar
noncomputable def z0:Fm:=fun _=>0
noncomputable def aug (L:List (List Int)) (S:List Int):List (List Int):=List.zipWith (fun r s=>r++ [s]) L S
noncomputable def cell (L:List (List Int)) (i j:Nat):Int:=(L.getD i []).getD j 0
structure Sq (L:List (List Int)) (n:Nat):Prop where
 len:L.length=n
 row:∀r∈L,r.length=n
theorem Sq.at {L:List (List Int)} {n i:Nat} (h:Sq L n) (hi:i<n):∃r,L[i]?=some r∧r.length=n∧r∈L:=by
 have:=h.len
 refine⟨L[i],by simp [this,hi],h.row _ (List.getElem_mem _),List.getElem_mem _⟩
theorem aug_get {L:List (List Int)} {S:List Int} {n i:Nat} {r:List Int} (hS:S.length=n) (hi:i<n) (e:L[i]?=some r):(aug L S)[i]?=some (r++ [S.getD i 0]):=by
 unfold aug
 rw[List.getElem?_zipWith,e,List.getElem?_eq_getElem (show i<S.length by omega)]
 simp [List.getD_eq_getElem?_getD,List.getElem?_eq_getElem (show i<S.length by omega)]
theorem aug_len {L:List (List Int)} {S:List Int} {n:Nat} (hL:L.length=n) (hS:S.length=n):(aug L S).length=n:=by
 unfold aug
 rw[List.length_zipWith,hL,hS,Nat.min_self]
theorem aug_fo {L:List (List Int)} {S:List Int} {n i j:Nat} (hq:Sq L n) (hS:S.length=n) (hi:i<n) (hj:j<n):(((aug L S).map fo).getD i z0) j=cell L i j:=by
 obtain⟨r,e,l,_⟩:=hq.at hi
 rw[List.getD_eq_getElem?_getD,List.getElem?_map,aug_get hS hi e]
 show fo (r++ [S.getD i 0]) j=_
 unfold fo cell
 rw[List.getD_eq_getElem?_getD,List.getElem?_append_left (by omega),List.getD_eq_getElem?_getD (l:=L),e]
 simp [List.getD_eq_getElem?_getD]
theorem aug_side {L:List (List Int)} {S:List Int} {n i:Nat} (hq:Sq L n) (hS:S.length=n) (hi:i<n):(((aug L S).map fo).getD i z0) n=S.getD i 0:=by
 obtain⟨r,e,l,_⟩:=hq.at hi
 rw[List.getD_eq_getElem?_getD,List.getElem?_map,aug_get hS hi e]
 show fo (r++ [S.getD i 0]) n=_
 unfold fo
 rw[List.getD_eq_getElem?_getD,List.getElem?_append_right (by omega),l]
 simp
theorem mem_aug {L:List (List Int)} {S:List Int} {n i:Nat} (hq:Sq L n) (hS:S.length=n) (hi:i<n):((aug L S).map fo).getD i z0∈(aug L S).map fo:=by
 have l:((aug L S).map fo).length=n:=by rw[List.length_map,aug_len hq.len hS]
 rw[List.getD_eq_getElem?_getD,List.getElem?_eq_getElem (show i< ((aug L S).map fo).length by omega)]
 exact List.getElem_mem _
noncomputable def ColRel (L:List (List Int)) (n:Nat):Prop:=∃(g:Nat→Int) (k:Nat),k<n∧g k≠0∧∀i,i<n→sm n (fun j=>g j*cell L i j)=0
theorem stuck_col {L:List (List Int)} {S:List Int} {n k:Nat} {rs V:List Fm} (hq:Sq L n) (hS:S.length=n) (St:Stp ((aug L S).map fo) n k rs V) (hk:k<n) (z:Stuck k rs V):ColRel L n:=by
 refine⟨fun j=>if j<k then - D (ng j::rs) (k::dn k) else if j=k then D rs (dn k) else 0,k,hk,?_,fun i hi=>?_⟩
 ·show(if k<k then _ else if k=k then D rs (dn k) else 0)≠0
  rw[if_neg (Nat.lt_irrefl _),if_pos rfl]
  exact St.good.ne
 ·have e:=St.noughts z (mem_aug hq hS hi)
  have key:∀q,k+1≤q→sm q (fun j=>(if j<k then - D (ng j::rs) (k::dn k) else if j=k then D rs (dn k) else 0)* (((aug L S).map fo).getD i z0) j)=0:=by
   intro q hq
   induction q with
   | zero=>omega
   | succ q ih=>
    by_cases c:q=k
    ·subst c
     show sm q _+_*_=0
     rw[if_neg (Nat.lt_irrefl _),if_pos rfl]
     have e2:sm q (fun j=>(if j<q then - D (ng j::rs) (q::dn q) else if j=q then D rs (dn q) else 0)* (((aug L S).map fo).getD i z0) j)=sm q (fun j=>(-1)* ((((aug L S).map fo).getD i z0) j*D (ng j::rs) (q::dn q))):=sm_congr fun i hi=>by
      rw[if_pos hi,Int.neg_mul,Int.neg_one_mul,Int.mul_comm]
     rw[e2,sm_mul,e,Int.mul_comm (D rs (dn q))]
     omega
    ·show sm q _+_*_=0
     rw[ih (by omega),if_neg (by omega),if_neg c]
     simp
  refine Eq.trans (sm_congr fun j hj=>?_) (key n (by omega))
  rw[aug_fo hq hS hi hj]
noncomputable def trn (L:List (List Int)):List (List Int):=(List.range L.length).map fun c=>L.map fun r=>r.getD c 0
theorem trn_sq {L:List (List Int)} {n:Nat} (h:Sq L n):Sq (trn L) n:=by
 refine⟨by unfold trn;rw[List.length_map,List.length_range,h.len],fun r hr=>?_⟩
 unfold trn at hr
 obtain⟨c,_,rfl⟩:=List.mem_map.mp hr
 rw[List.length_map,h.len]
theorem trn_get {L:List (List Int)} {n c:Nat} (h:Sq L n) (hc:c<n):(trn L)[c]?=some (L.map fun r=>r.getD c 0):=by
 unfold trn
 rw[List.getElem?_map,List.getElem?_range (by rw[h.len];exact hc)]
 rfl
theorem trn_cell {L:List (List Int)} {n i j:Nat} (h:Sq L n) (hi:i<n) (hj:j<n):cell (trn L) i j=cell L j i:=by
 obtain⟨r,e,l,_⟩:=h.at hj
 unfold cell
 rw[List.getD_eq_getElem?_getD (l:=trn L),trn_get h hi,Option.getD_some,List.getD_eq_getElem?_getD (l:=List.map _ _),List.getElem?_map,e,List.getD_eq_getElem?_getD (l:=L),e]
 rfl
noncomputable def wrow (L:List (List Int)) (s:Nat) (l:Int) (i:Nat):List Int:=
 if i=s then (L.getD i []).tail else List.zipWith (fun one other=>((L.getD s []).headD 0*one - (L.getD i []).headD 0*other).fdiv l) (L.getD i []).tail (L.getD s []).tail
noncomputable def wfc (L:List (List Int)) (s:Nat) (l:Int):List (List Int):=(List.range L.length).map (wrow L s l)
theorem getD_map {V:List Fm} {f:Fm→List Int} {i:Nat} {v:Fm} (h:V[i]?=some v):(V.map f).getD i []=f v:=by
 rw[List.getD_eq_getElem?_getD,List.getElem?_map,h]
 rfl
theorem swp_map {V:List Fm} {f:Fm→List Int} {k spot:Nat} {u a:Fm} (hu:V[spot]?=some u) (ha:V[k]?=some a):((V.map f).set k ((V.map f).getD spot [])).set spot ((V.map f).getD k [])=(swp V k spot u a).map f:=by
 rw[getD_map hu,getD_map ha]
 unfold swp
 rw[List.map_set,List.map_set]
theorem swp_at {V:List Fm} {k spot:Nat} {u a:Fm} (hu:V[spot]?=some u) (ha:V[k]?=some a):(swp V k spot u a)[k]?=some u:=by
 have h1:=(List.getElem?_eq_some_iff.mp ha).1
 unfold swp
 by_cases e:spot=k
 ·subst e
  rw[List.getElem?_set_self (by simpa using h1)]
  rw[hu] at ha
  exact ha.symm
 ·rw[List.getElem?_set_ne e,List.getElem?_set_self h1]
theorem wfc_step {n k m spot:Nat} {rs V:List Fm} {u a:Fm} (G:Good rs (dn k)) (hm:k<m) (hu:V[spot]?=some u) (ha:V[k]?=some a):
  wfc ((swp V k spot u a).map fun v=>rowOf v rs k m) k (D rs (dn k))=((swp V k spot u a).set k (ng k)).map fun v=>rowOf v (u::rs) (k+1) m:=by
 have hk:=swp_at hu ha
 generalize swp V k spot u a=W at *
 unfold wfc
 refine List.ext_getElem? fun i=>?_
 rw[List.getElem?_map,List.getElem?_map,List.length_map]
 by_cases l:i<W.length
 ·rw[List.getElem?_range l]
  have ew:W[i]?=some W[i]:=List.getElem?_eq_getElem l
  by_cases e:i=k
  ·subst e
   rw[List.getElem?_set_self l]
   show some (wrow _ i _ i)=some _
   unfold wrow
   rw[if_pos rfl,getD_map hk,own_row hm]
  ·rw[List.getElem?_set_ne (by omega),ew]
   show some (wrow _ k _ i)=some (rowOf W[i] (u::rs) (k+1) m)
   unfold wrow
   rw[if_neg e,getD_map ew,getD_map hk,←elim_row hm G u W[i]]
   have hh:∀v,(rowOf v rs k m).headD 0=D (v::rs) (k::dn k):=fun v=>by rw[rowOf_cons hm];rfl
   rw[hh,hh]
 ·rw[List.getElem?_eq_none (by rw[List.length_range];omega),List.getElem?_eq_none (by rw[List.length_set];omega)]
  rfl
theorem start_rows {L:List (List Int)} {m:Nat} (h:∀r∈L,r.length=m):(L.map fo).map (fun v=>rowOf v [] 0 m)=L:=by
 rw[List.map_map]
 conv=>rhs;rw[←List.map_id L]
 exact List.map_congr_left fun r hr=>rowOf_zero (h r hr)
theorem X_congr2 {v w:Fm}:∀{cs:List Nat} {F G:List Nat→Int},(∀c∈cs,v c=w c)→(∀l,(∀c∈l,c∈cs)→F l=G l)→X v F cs=X w G cs
 | [],_,_,_,_=>rfl
 | c::cs,F,G,h,k=>by
  simp only[X]
  rw[h c (List.mem_cons_self ..),k cs fun c' hc=>List.mem_cons_of_mem _ hc,X_congr2 (cs:=cs) (G:=fun l=>G (c::l)) (fun c' hc=>h c' (List.mem_cons_of_mem _ hc)) fun l hl=>k (c::l) fun c' hc=>?_]
  rcases List.mem_cons.mp hc with rfl | hc
  ·exact List.mem_cons_self ..
  ·exact List.mem_cons_of_mem _ (hl c' hc)
theorem aug_D {n:Nat}:∀(L:List (List Int)) (S:List Int),S.length=L.length→(∀r∈L,r.length=n)→∀cs:List Nat,(∀c∈cs,c<n)→D ((aug L S).map fo) cs=D (L.map fo) cs
 | [],[],_,_,_,_=>rfl
 | [],_::_,h,_,_,_=>by simp at h
 | _::_,[],h,_,_,_=>by simp at h
 | r::L,s::S,h,hr,cs,hc=>by
  show X (fo (r++ [s])) (D ((aug L S).map fo)) cs=X (fo r) (D (L.map fo)) cs
  refine X_congr2 (fun c hcc=>?_) fun l hl=>aug_D L S (by simpa using h) (fun q hq=>hr q (List.mem_cons_of_mem _ hq)) l fun c hcl=>hc c (hl c hcl)
  unfold fo
  have:=hc c hcc
  have lr:=hr r (List.mem_cons_self ..)
  rw[List.getD_eq_getElem?_getD,List.getElem?_append_left (by omega),List.getD_eq_getElem?_getD]
end Bar
namespace Dg
noncomputable def onP (ps:List Int) (g:Nat→Int) (q:Int):Int:=if q∈ps then g (ps.idxOf q) else 0
noncomputable def RowP (ps:List Int) (W:Int→Wy) (L:List (List Int)):Prop:=L.length=ps.length∧(∀r∈L,r.length=ps.length)∧∀i j,i<ps.length→j<ps.length→(L.getD i []).getD j 0=(if i=j then tt (W (ps.getD i 0)) else 0) - isel (ps.getD j 0) (W (ps.getD i 0))
end Dg
namespace Dg
theorem onP_at {ps:List Int} (nd:ps.Nodup) (g:Nat→Int) {i:Nat} (hi:i<ps.length):onP ps g (ps.getD i 0)=g i:=by
 have eg:ps.getD i 0=ps[i]:=by rw[List.getD_eq_getElem?_getD,List.getElem?_eq_getElem hi];rfl
 unfold onP
 rw[eg,if_pos (List.getElem_mem hi)]
 congr 1
 have l:=List.idxOf_lt_length_of_mem (List.getElem_mem hi)
 exact(List.getElem_inj nd).mp (List.getElem_idxOf l)
end Dg
noncomputable def Rw (H:Hp) (r:List Int) (x:V):Prop:=∃q,x=.ref q∧H q=some (.lst (List.map V.int r))
theorem Rw.mono {H H':Hp} {r:List Int} {x:V} (s:Same H H') (h:Rw H r x):Rw H' r x:=by
 obtain⟨q,e,k⟩:=h
 exact⟨q,e,s _ _ k⟩
noncomputable def MtH (H:Hp) (a:Addr) (L:List (List Int)):Prop:=∃xs,H a=some (.lst xs)∧Al (Rw H) L xs
theorem MtH.mono {H H':Hp} {a:Addr} {L:List (List Int)} (s:Same H H') (h:MtH H a L):MtH H' a L:=by
 obtain⟨xs,h1,h2⟩:=h
 exact⟨xs,s _ _ h1,h2.imp fun _ _ k=>k.mono s⟩
theorem cut_drop {xs:List V} {k:Int} (h:0≤k):cutV xs (some k) none=xs.drop k.toNat:=by
 unfold cutV
 obtain⟨n,rfl⟩:=Int.eq_ofNat_of_zero_le h
 rw[HT.sIx_none,HT.sIx_nat,Int.toNat_natCast]
 by_cases c:n≤xs.length
 ·rw[Nat.min_eq_left c,List.take_of_length_le (by rw[List.length_drop];exact Nat.le_refl _)]
 ·rw[Nat.min_eq_right (by omega),List.drop_eq_nil_of_le (Nat.le_refl _),List.drop_eq_nil_of_le (show xs.length≤n by omega)]
  simp
theorem cut_tail (r:List Int):cutV (List.map V.int r) (some 1) none=List.map V.int r.tail:=by
 rw[cut_drop (by decide)]
 cases r <;>rfl
theorem ixN_nat {n i:Nat} (h:i<n):ixN n (i:Int)=some i:=by
 unfold ixN
 rw[if_pos (by omega),if_pos (by omega)]
 rfl
theorem at_row {xs:List V} {L:List (List Int)} {H:Hp} {i:Nat} {r:List Int} (al:Al (Rw H) L xs) (e:L[i]?=some r):∃q,atI xs (i:Int)=some (.ref q)∧H q=some (.lst (List.map V.int r)):=by
 obtain⟨v,ev,q,rfl,hq⟩:=al.at e
 exact⟨q,atI_nat ev,hq⟩
theorem at_int {r:List Int} {j:Nat} (h:j<r.length):atI (List.map V.int r) (j:Int)=some (.int (r.getD j 0)):=by
 refine atI_nat ?_
 rw[List.getElem?_map,List.getElem?_eq_getElem h]
 simp [List.getD_eq_getElem?_getD,List.getElem?_eq_getElem h]
theorem at_head {r:List Int} (h:0<r.length):atI (List.map V.int r) 0=some (.int (r.headD 0)):=by
 cases r with
 | nil=>cases h
 | cons a r=>exact atI_nat (j:=0) rfl
theorem Al.set {α:Type} {R:α→V→Prop} {a:α} {v:V} (h:R a v):∀{as:List α} {vs:List V} {i:Nat},Al R as vs→Al R (as.set i a) (vs.set i v)
 | [],[],_,_=>trivial
 | _::_,_::_,0,k=>⟨h,k.2⟩
 | _::_,_::_,i+1,k=>⟨k.1,Al.set h k.2⟩
theorem hid_hid {H:Hp} {p:Addr} {o:HO}:hid (upd H p o) p=hid H p:=by
 funext a
 unfold hid
 by_cases h:a=p
 ·rw[if_pos h,if_pos h]
 ·rw[if_neg h,if_neg h,upd_ne h]
theorem Rw.push {H:Hp} {a q:Addr} {L:List (List Int)} {xs:List V} {r:List Int} (al:Al (Rw (hid H a)) L xs) (hq:H q=some (.lst (List.map V.int r))) (ne:q≠a):Al (Rw (hid (upd H a (.lst (xs++ [.ref q]))) a)) (L++ [r]) (xs++ [.ref q]):=by
 rw[hid_hid]
 exact al.append (.one ⟨q,rfl,by rw[hid_ne ne];exact hq⟩)
theorem ints_zip {zs:List V} {f:Int→Int→Int} {as bs:List Int} (l:zs.length=min (List.map V.int as).length (List.map V.int bs).length) (h:∀(j:Nat) y,zs[j]?=some y→∀o1 o2,as[j]?=some o1→bs[j]?=some o2→y=.int (f o1 o2)):zs=List.map V.int (List.zipWith f as bs):=by
 rw[List.length_map,List.length_map] at l
 refine List.ext_getElem? fun j=>?_
 by_cases c:j<min as.length bs.length
 ·have e1:as[j]?=some as[j]:=List.getElem?_eq_getElem (by omega)
  have e2:bs[j]?=some bs[j]:=List.getElem?_eq_getElem (by omega)
  rw[List.getElem?_eq_getElem (show j<zs.length by omega),h j _ (List.getElem?_eq_getElem (by omega)) _ _ e1 e2,List.getElem?_map,List.getElem?_zipWith,e1,e2]
  rfl
 ·rw[List.getElem?_eq_none (by omega),List.getElem?_eq_none (by rw[List.length_map,List.length_zipWith];omega)]
noncomputable def spRh:Sp:=fun vs H Q _=>∃a L k,vs=[.ref a,.int (Nat.cast k)]∧MtH H a L∧k≤L.length∧L.length≤64∧(∀r∈L,0<r.length)∧(∀i:Nat,k≤i→i<L.length→(L.getD i []).headD 0≠0→Q (.int i) H)∧((∀i:Nat,k≤i→i<L.length→(L.getD i []).headD 0=0)→Q .non H)
noncomputable def spSwd:Sp:=fun vs H Q _=>∃a L i j,vs=[.ref a,.int (Nat.cast i),.int (Nat.cast j)]∧MtH H a L∧i<L.length∧j<L.length∧L.length≤64∧∀p H',Same H H'→MtH H' p ((L.set i (L.getD j [])).set j (L.getD i []))→Q (.ref p) H'
noncomputable def spWf:Sp:=fun vs H Q _=>∃a L s l m,vs=[.ref a,.int (Nat.cast s),.int l]∧MtH H a L∧s<L.length∧L.length≤64∧m≤64∧(∀r∈L,r.length=m+1)∧l≠0∧Bt 4000 l∧(∀r∈L,∀x∈r,Bt 4000 x)∧∀p H',Same H H'→MtH H' p (Bar.wfc L s l)→Q (.ref p) H'
structure Swb (L:List (List Int)) (n m:Nat):Prop where
 len:L.length=n
 row:∀r∈L,r.length=m
 nm:n≤m
 m64:m≤64
 big:∀k rs W,Bar.Stp (L.map Bar.fo) n k rs W→Bt 4000 (Bar.D rs (Bar.dn k))∧∀v∈W,∀j,Bt 4000 (Bar.D (v::rs) (j::Bar.dn k))
noncomputable def spSw:Sp:=fun vs H Q _=>∃a L n m,vs=[.ref a,.int (Nat.cast n)]∧MtH H a L∧Swb L n m∧∀t p k rs W H',Bar.Stp (L.map Bar.fo) n k rs W→(k<n→Bar.Stuck k rs W)→Same H H'→H' t=some (.tup [.ref p,.int (Nat.cast k),.int (Bar.D rs (Bar.dn k))])→MtH H' p (W.map fun v=>Bar.rowOf v rs k m)→Q (.ref t) H'
noncomputable def sgo (d:Int):Int:=if 0<d then 1 else -1
noncomputable def ansL (n:Nat) (rs:List Bar.Fm):List Int:=(List.range n).map fun i=>Bar.D (Bar.ng i::rs) (n::Bar.dn n)*sgo (Bar.D rs (Bar.dn n))
theorem sgo_or (d:Int):sgo d=1∨sgo d= -1:=by
 unfold sgo
 split
 ·exact .inl rfl
 ·exact .inr rfl
theorem sgo_ok {i d:Int}:IntMulOk i (sgo d):=by
 rcases sgo_or d with h | h <;>rw[h] <;>exact mulOkR
theorem ans_eq {U W rs:List Bar.Fm} {n:Nat} (St:Bar.Stp U n n rs W):W.filterMap (fun v=>some (Bar.D (v::rs) (n::Bar.dn n)*sgo (Bar.D rs (Bar.dn n))))=ansL n rs:=by
 rw[List.filterMap_eq_map']
 unfold ansL
 refine List.ext_getElem? fun i=>?_
 rw[List.getElem?_map,List.getElem?_map]
 by_cases c:i<n
 ·rw[St.own i c,List.getElem?_range c]
  rfl
 ·rw[List.getElem?_eq_none (by rw[St.len];omega),List.getElem?_eq_none (by rw[List.length_range];omega)]
  rfl
noncomputable def spWA:Sp:=fun vs H Q _=>∃a c L S n,vs=[.ref a,.ref c]∧MtH H a L∧H c=some (.lst (List.map V.int S))∧S.length=n∧Bar.Sq L n∧Swb (Bar.aug L S) n (n+1)∧
 (∀k rs W H',Bar.Stp ((Bar.aug L S).map Bar.fo) n k rs W→k<n→Bar.Stuck k rs W→Same H H'→Q .non H')∧
 (∀rs W t p H',Bar.Stp ((Bar.aug L S).map Bar.fo) n n rs W→Same H H'→H' t=some (.tup [.ref p,.int (Bar.D rs (Bar.dn n)*sgo (Bar.D rs (Bar.dn n)))])→H' p=some (.lst (List.map V.int (ansL n rs)))→Q (.ref t) H')
noncomputable def spCol:Sp:=fun vs H Q _=>∃a L c,vs=[.ref a,.int (Nat.cast c)]∧MtH H a L∧L.length≤64∧(∀r∈L,c<r.length)∧∀p H',Same H H'→H' p=some (.lst (List.map V.int (L.map fun r=>r.getD c 0)))→Q (.ref p) H'
noncomputable def spTrw:Sp:=fun vs H Q _=>∃a L n,vs=[.ref a]∧MtH H a L∧Bar.Sq L n∧n≤64∧∀p H',Same H H'→MtH H' p (Bar.trn L)→Q (.ref p) H'
structure Sol (L:List (List Int)) (S:List Int) (n:Nat) (x:List Int) (d:Int):Prop where
 len:x.length=n
 pos:0<d
 bd:Bt 4000 d
 bx:∀v∈x,Bt 4000 v
 eq:∀i,i<n→Bar.sm n (fun j=>Bar.cell L i j*x.getD j 0)=S.getD i 0*d
 ne:Bar.D (L.map Bar.fo) (Bar.dn n)≠0
 dnn:d.natAbs=(Bar.D (L.map Bar.fo) (Bar.dn n)).natAbs
theorem sgo_pos {d:Int} (h:d≠0):0<d*sgo d:=by
 unfold sgo
 split
 ·omega
 ·omega
theorem sgo_abs (x d:Int):(x*sgo d).natAbs=x.natAbs:=by
 rcases sgo_or d with h | h <;>rw[h] <;>omega
theorem ansL_get {n i:Nat} {rs:List Bar.Fm} (h:i<n):(ansL n rs).getD i 0=Bar.D (Bar.ng i::rs) (n::Bar.dn n)*sgo (Bar.D rs (Bar.dn n)):=by
 unfold ansL
 rw[List.getD_eq_getElem?_getD,List.getElem?_map,List.getElem?_range h]
 rfl
theorem sol_of {L:List (List Int)} {S:List Int} {n:Nat} {rs W:List Bar.Fm} (sq:Bar.Sq L n) (lS:S.length=n) (B:Swb (Bar.aug L S) n (n+1)) (St:Bar.Stp ((Bar.aug L S).map Bar.fo) n n rs W):Sol L S n (ansL n rs) (Bar.D rs (Bar.dn n)*sgo (Bar.D rs (Bar.dn n))):=by
 refine⟨by unfold ansL;rw[List.length_map,List.length_range],sgo_pos St.good.ne,?_,fun v hv=>?_,fun i hi=>?_,?_,?_⟩
 ·unfold Bt
  rw[sgo_abs]
  exact(B.big _ _ _ St).1
 ·unfold ansL at hv
  obtain⟨i,hi,rfl⟩:=List.mem_map.mp hv
  unfold Bt
  rw[sgo_abs]
  exact(B.big _ _ _ St).2 _ (List.mem_of_getElem? (St.own i (List.mem_range.mp hi))) n
 ·have e:=St.answers (Bar.mem_aug sq lS hi)
  have e2:Bar.sm n (fun j=>Bar.cell L i j* (ansL n rs).getD j 0)=Bar.sm n (fun j=>sgo (Bar.D rs (Bar.dn n))* ((((Bar.aug L S).map Bar.fo).getD i Bar.z0) j*Bar.D (Bar.ng j::rs) (n::Bar.dn n))):=Bar.sm_congr fun j hj=>by
   rw[ansL_get hj,Bar.aug_fo sq lS hi hj,←Int.mul_assoc,Int.mul_comm]
  rw[e2,Bar.sm_mul,e,Bar.aug_side sq lS hi,Int.mul_comm,Int.mul_assoc]
 ·rw[←Bar.aug_D L S (by rw[lS,sq.len]) sq.row _ fun c hc=>Bar.mem_dn.mp hc]
  exact St.ne
 ·rw[←Bar.aug_D L S (by rw[lS,sq.len]) sq.row _ fun c hc=>Bar.mem_dn.mp hc,sgo_abs]
  obtain⟨s,hs,e⟩:=Bar.perm St.all
  rw[e]
  rcases hs with rfl | rfl <;>omega
theorem swb_big {L:List (List Int)} {S:List Int} {n b c:Nat} (sq:Bar.Sq L n) (lS:S.length=n) (n63:n<64) (b1:1≤b) (bc:b≤c) (hL:∀r∈L,∀x∈r,x.natAbs≤b) (hS:∀x∈S,x.natAbs≤c) (top:(n+1)^ (n+1)* (c*b^n)<2^4000):Swb (Bar.aug L S) n (n+1):=by
 have ge:∀{i:Nat} {r:List Int},(Bar.aug L S)[i]?=some r→∃q,q∈L∧r=q++ [S.getD i 0]∧i<n:=fun {i r} e=>by
  have hi:i<n:=by have:=(List.getElem?_eq_some_iff.mp e).1;rw[Bar.aug_len sq.len lS] at this;exact this
  obtain⟨q,eq,_,mq⟩:=sq.at hi
  rw[Bar.aug_get lS hi eq] at e
  exact⟨q,mq,(Option.some.inj e).symm,hi⟩
 have hU:∀u∈(Bar.aug L S).map Bar.fo,∀j,(u j).natAbs≤if j<n then b else c:=fun u hu j=>by
  obtain⟨r,hr,rfl⟩:=List.mem_map.mp hu
  obtain⟨i,ei⟩:=List.getElem?_of_mem hr
  obtain⟨q,mq,rfl,hi⟩:=ge ei
  have lq:=sq.row q mq
  unfold Bar.fo
  rw[List.getD_eq_getElem?_getD]
  by_cases cj:j<n
  ·rw[if_pos cj,List.getElem?_append_left (by omega),List.getElem?_eq_getElem (by omega)]
   exact hL q mq _ (List.getElem_mem _)
  ·rw[if_neg cj,List.getElem?_append_right (by omega)]
   by_cases e:j=n
   ·rw[e,lq,Nat.sub_self]
    show(S.getD i 0).natAbs≤c
    rw[List.getD_eq_getElem?_getD,List.getElem?_eq_getElem (by omega)]
    exact hS _ (List.getElem_mem _)
   ·rw[List.getElem?_eq_none (by show 1≤_;omega)]
    exact Nat.zero_le _
 have β1:∀j,1≤if j<n then b else c:=fun j=>by split <;>omega
 have βn:∀j,j<n→(if j<n then b else c)≤b:=fun j hj=>by rw[if_pos hj];exact Nat.le_refl _
 have βc:∀j,(if j<n then b else c)≤c:=fun j=>by split <;>omega
 refine⟨Bar.aug_len sq.len lS,fun r hr=>?_,by omega,by omega,fun k rs W St=>⟨?_,fun v hv j=>?_⟩⟩
 ·obtain⟨i,ei⟩:=List.getElem?_of_mem hr
  obtain⟨q,mq,rfl,_⟩:=ge ei
  rw[List.length_append,sq.row q mq]
  rfl
 ·have h:=St.cbd β1 βn hU
  refine Nat.lt_of_le_of_lt (Nat.le_trans h (Nat.mul_le_mul_left _ ?_)) top
  have:=Nat.pow_le_pow_right b1 St.le
  exact Nat.le_trans this (Nat.le_mul_of_pos_left _ (by omega))
 ·have h:=St.cbD β1 βn βc hU hv j
  exact Nat.lt_of_le_of_lt (Nat.le_trans h (Nat.mul_le_mul_left _ (Nat.mul_le_mul_left _ (Nat.pow_le_pow_right b1 St.le)))) top
theorem ans_sz {L:List (List Int)} {S:List Int} {n b c:Nat} {rs W:List Bar.Fm} (sq:Bar.Sq L n) (lS:S.length=n) (b1:1≤b) (bc:b≤c) (hL:∀r∈L,∀x∈r,x.natAbs≤b) (hS:∀x∈S,x.natAbs≤c) (St:Bar.Stp ((Bar.aug L S).map Bar.fo) n n rs W):(Bar.D rs (Bar.dn n)*sgo (Bar.D rs (Bar.dn n))).natAbs≤(n+1)^ (n+1)*b^n∧∀v∈ansL n rs,v.natAbs≤(n+1)^ (n+1)* (c*b^n):=by
 have hU:∀u∈(Bar.aug L S).map Bar.fo,∀j,(u j).natAbs≤if j<n then b else c:=fun u hu j=>by
  obtain⟨r,hr,rfl⟩:=List.mem_map.mp hu
  obtain⟨i,ei⟩:=List.getElem?_of_mem hr
  have hi:i<n:=by have:=(List.getElem?_eq_some_iff.mp ei).1;rw[Bar.aug_len sq.len lS] at this;exact this
  obtain⟨q,eq,lq,mq⟩:=sq.at hi
  rw[Bar.aug_get lS hi eq] at ei
  cases ei
  unfold Bar.fo
  rw[List.getD_eq_getElem?_getD]
  by_cases cj:j<n
  ·rw[if_pos cj,List.getElem?_append_left (by omega),List.getElem?_eq_getElem (by omega)]
   exact hL q mq _ (List.getElem_mem _)
  ·rw[if_neg cj,List.getElem?_append_right (by omega)]
   by_cases e:j=n
   ·rw[e,lq,Nat.sub_self]
    show(S.getD i 0).natAbs≤c
    rw[List.getD_eq_getElem?_getD,List.getElem?_eq_getElem (by omega)]
    exact hS _ (List.getElem_mem _)
   ·rw[List.getElem?_eq_none (by show 1≤_;omega)]
    exact Nat.zero_le _
 have β1:∀j,1≤if j<n then b else c:=fun j=>by split <;>omega
 have βn:∀j,j<n→(if j<n then b else c)≤b:=fun j hj=>by rw[if_pos hj];exact Nat.le_refl _
 have βc:∀j,(if j<n then b else c)≤c:=fun j=>by split <;>omega
 refine⟨by rw[sgo_abs];exact St.cbd β1 βn hU,fun v hv=>?_⟩
 unfold ansL at hv
 obtain⟨i,hi,rfl⟩:=List.mem_map.mp hv
 rw[sgo_abs]
 exact St.cbD β1 βn βc hU (List.mem_of_getElem? (St.own i (List.mem_range.mp hi))) n
namespace Dg
end Dg
noncomputable def wyD (ws:Dg.Wy):Dat:=.lst (ws.map wrowD)
noncomputable def wyAt (wss:List Dg.Wy) (p:Int):Dg.Wy:=wss.getD p.toNat []
noncomputable def spotD (ps:List Int):List (Key×V):=(List.range ps.length).map fun i=>(Sum.inl (ps.getD i 0),.int (i:Int))
noncomputable def spPw2:Sp:=fun vs H Q _=>∃(x wl:Addr) (ps:List Int) (xs:List V) (wss:List Dg.Wy),vs=[.ref x,.ref wl]∧H x=some (.lst (ps.map V.int))∧H wl=some (.lst xs)∧RepL H (wss.map wyD) xs∧ps.Nodup∧ps.length≤40∧(∀p∈ps,0≤p∧p< (wss.length:Int))∧(∀ws∈wss,ws.length≤5)∧
 ∀r L H',Same H H'→MtH H' r L→Dg.RowP ps (wyAt wss) L→Q (.ref r) H'
noncomputable def spTw5:Sp:=fun vs H Q _=>∃(a:Addr) (ws:Dg.Wy),vs=[.ref a]∧Rep H (wyD ws) (.ref a)∧ws.length≤5∧∀H',Same H H'→Q (.int (Dg.tt ws)) H'
theorem spot_keys (ps:List Int):(spotD ps).map (·.1)=ps.map Sum.inl:=by
 unfold spotD
 rw[List.map_map]
 apply List.ext_getElem?
 intro i
 rw[List.getElem?_map,List.getElem?_map]
 by_cases h:i<ps.length
 ·rw[List.getElem?_range h,List.getElem?_eq_getElem h]
  show some (Sum.inl (ps.getD i 0))=some (Sum.inl ps[i])
  rw[List.getD_eq_getElem?_getD,List.getElem?_eq_getElem h]
  rfl
 ·rw[List.getElem?_eq_none (by rw[List.length_range];omega),List.getElem?_eq_none (by omega)]
  rfl
theorem spot_val {ps:List Int} (nd:ps.Nodup) {i:Nat} (h:i<ps.length):valV (spotD ps) (Sum.inl (ps.getD i 0))=some (.int (i:Int)):=by
 refine val_at (i:=i) ?_ ?_
 ·rw[spot_keys]
  exact nd_inl nd
 ·unfold spotD
  rw[List.getElem?_map,List.getElem?_range h]
  rfl
theorem spot_out {ps:List Int} {q:Int} (h:q∉ps):valV (spotD ps) (Sum.inl q)=none:=val_out (by
 rw[spot_keys]
 exact fun z=>h (mem_inl.mp z))
theorem spot_snoc {ps:List Int} {i:Nat} (h:i<ps.length):spotD (ps.take (i+1))=spotD (ps.take i)++ [(Sum.inl (ps.getD i 0),.int (i:Int))]:=by
 have l1:(ps.take (i+1)).length=i+1:=by rw[List.length_take];omega
 have l0:(ps.take i).length=i:=by rw[List.length_take];omega
 unfold spotD
 rw[l1,l0,List.range_succ,List.map_append]
 congr 1
 ·refine List.map_congr_left fun j hj=>?_
  have:=List.mem_range.mp hj
  rw[List.getD_eq_getElem?_getD,List.getD_eq_getElem?_getD,List.getElem?_take_of_lt (by omega),List.getElem?_take_of_lt this]
 ·show[(Sum.inl ((ps.take (i+1)).getD i 0),V.int (i:Int))]=_
  rw[List.getD_eq_getElem?_getD,List.getElem?_take_of_lt (Nat.lt_succ_self _),←List.getD_eq_getElem?_getD]
noncomputable def BkH (C:Addr) (H:Hp) (x:Addr) (S:Dg.Bk):Prop:=∃dx m,H x=some (.ins C dx [("tops",.ref m),("bottom",.int S.2)])∧H m=some (.lst (S.1.map V.int))
theorem BkH.mono {C:Addr} {H H':Hp} {x:Addr} {S:Dg.Bk} (s:Same H H') (h:BkH C H x S):BkH C H' x S:=by
 obtain⟨dx,m,h1,h2⟩:=h
 exact⟨dx,m,s _ _ h1,s _ _ h2⟩
noncomputable def spCd:Sp:=fun vs H Q _=>∃a b,vs=[.int a,.int b]∧Q (.int (Nm.g a b)) H
noncomputable def spSh:Sp:=fun vs H Q _=>∃a b,vs=[.int a,.int b]∧Bt 5000 b∧0<b∧∀p H',Same H H'→H p=none→H' p=some (.tup (Pr (Nm.st a b) (Nm.sb a b)))→Q (.ref p) H'
noncomputable def spIn (C:Addr):Sp:=fun vs H Q _=>∃(x dx l:Addr) (ts:List Int) (b:Int),vs=[.ref x,.ref l,.int b]∧H x=some (.ins C dx [])∧H l=some (.lst (ts.map V.int))∧
 ∀m H',H m=none→H' m=some (.lst (ts.map V.int))→H' x=some (.ins C dx [("tops",.ref m),("bottom",.int b)])→(∀y o,y≠x→H y=some o→H' y=some o)→Q .non H'
noncomputable def spSca (C:Addr):Sp:=fun vs H Q _=>∃(x:Addr) (S:Dg.Bk) (d:Int),vs=[.ref x,.int d]∧BkH C H x S∧Bt 4000 d∧Bt 4000 S.2∧(∀t∈S.1,Bt 4000 t)∧S.1.length≤60∧
 ∀y dy m H',Same H H'→H y=none→H m=none→H' y=some (.ins C dy [("tops",.ref m),("bottom",.int (S.2*d))])→H' m=some (.lst ((S.1.map (·*d)).map V.int))→Q (.ref y) H'
noncomputable def spAs (C:Addr):Sp:=fun vs H Q _=>∃(x:Addr) (S:Dg.Bk),vs=[.ref x]∧BkH C H x S∧0<S.2∧Bt 5000 S.2∧S.1.length≤60∧∀l H',Same H H'→H l=none→Rep H' (.lst ((S.1.map fun t=>Wq.low t S.2).map wrowD)) (.ref l)→Q (.ref l) H'
namespace Dg
noncomputable def Wk5 (n:Nat) (ws:Wy):Prop:=ws.length≤5∧∀x∈ws,1≤x.1∧x.1≤200000∧0≤x.2∧x.2< (n:Int)
theorem tot5:∀{ws:Wy},(∀x∈ws,1≤x.1∧x.1≤200000)→(ws.length:Int)≤Wq.totW ws∧Wq.totW ws≤200000* (ws.length:Int)
 | [],_=>⟨Int.le_refl _,Int.le_refl _⟩
 | x::ws,h=>by
  have ih:=tot5 (ws:=ws) fun y hy=>h y (List.mem_cons_of_mem _ hy)
  have:=h x List.mem_cons_self
  rw[totW_cons,List.length_cons]
  omega
theorem Wk5.tot {n:Nat} {ws:Wy} (h:Wk5 n ws):0≤Wq.totW ws∧Wq.totW ws≤1000000:=by
 have:=tot5 fun x hx=>⟨(h.2 x hx).1,(h.2 x hx).2.1⟩
 have l:=h.1
 omega
theorem Wk5.tt {n:Nat} {ws:Wy} (h:Wk5 n ws):1≤tt ws∧tt ws≤1000000:=by
 have:=tot5 fun x hx=>⟨(h.2 x hx).1,(h.2 x hx).2.1⟩
 have l:=h.1
 unfold Dg.tt
 cases ws with
 | nil=>decide
 | cons x ws=>
  rw[if_neg (by simp)]
  rw[List.length_cons] at this l
  omega
theorem isel5 {q:Int}:∀{ws:Wy},(∀x∈ws,1≤x.1)→0≤isel q ws∧isel q ws≤Wq.totW ws
 | [],_=>⟨Int.le_refl _,Int.le_refl _⟩
 | x::ws,h=>by
  have ih:=isel5 (q:=q) (ws:=ws) fun y hy=>h y (List.mem_cons_of_mem _ hy)
  have:=h x List.mem_cons_self
  show 0≤(if x.2=q then x.1 else 0)+isel q ws∧(if x.2=q then x.1 else 0)+isel q ws≤_
  rw[totW_cons]
  split <;>omega
theorem RowP.ent {ps:List Int} {W:Int→Wy} {L:List (List Int)} {n:Nat} (R:RowP ps W L) (w:∀p∈ps,Wk5 n (W p)):∀r∈L,∀x∈r,x.natAbs≤2^20:=by
 intro r hr x hx
 obtain⟨i,hi,rfl⟩:=List.getElem_of_mem hr
 have lr:=R.2.1 _ (List.getElem_mem hi)
 obtain⟨j,hj,rfl⟩:=List.getElem_of_mem hx
 have hi':i<ps.length:=by rw[←R.1];exact hi
 have hj':j<ps.length:=by omega
 have e:=R.2.2 i j hi' hj'
 rw[List.getD_eq_getElem?_getD (l:=L),List.getElem?_eq_getElem hi,Option.getD_some,List.getD_eq_getElem?_getD,List.getElem?_eq_getElem hj,Option.getD_some] at e
 have mp:ps.getD i 0∈ps:=by rw[List.getD_eq_getElem?_getD,List.getElem?_eq_getElem hi'];exact List.getElem_mem hi'
 have k:=w _ mp
 obtain⟨t0,t1⟩:=k.tt
 obtain⟨u0,u1⟩:=k.tot
 obtain⟨s0,s1⟩:=isel5 (q:=ps.getD j 0) fun x hx=>(k.2 x hx).1
 rw[e]
 split <;>omega
theorem pow_small (n:Nat) (h:n≤31):(n+1)^ (n+1)≤2^ (5*n+5):=by
 have e:(2:Nat)^ (5*n+5)=32^ (n+1):=by rw[show 5*n+5=5* (n+1) by omega,Nat.pow_mul]
 rw[e]
 exact Nat.pow_le_pow_left (by omega) _
noncomputable def putK (ps xs ts:List Int):Nat→List Int
 | 0=>ts
 | k+1=>(putK ps xs ts k).set (ps.getD k 0).toNat (xs.getD k 0)
structure Sz (n M:Nat) (S:Bk):Prop where
 len:S.1.length=n
 pos:0<S.2
 bb:Bt M S.2
 bt:∀q,Bt M (S.1.getD q 0)
theorem Sz.up {n M M':Nat} {S:Bk} (h:Sz n M S) (l:M≤M'):Sz n M' S:=⟨h.len,h.pos,h.bb.mono l,fun q=>(h.bt q).mono l⟩
end Dg
noncomputable def GS (p:Int×Int):Prop:=Bt 40 p.1∧Bt 20 p.2∧Wq.Lw p
noncomputable def PkG (n:Nat):Pl→Prop
 | .fin g=>GS g
 | .thr g ws=>GS g∧0<ws.length∧Dg.Wk5 n ws
 | .pck who to=>(who=1∨who=2)∧0<to.length∧to.length≤4∧∀g∈to,0≤g∧g< (n:Int)
noncomputable def pkN (b:List Pl) (p:Int):Nat:=match b[p.toNat]? with | some (.pck _ to)=>to.length | _=>1
noncomputable def pkPr (b:List Pl):Nat→List Int→Nat
 | a,[]=>a
 | a,p::ps=>pkPr b (a*pkN b p) ps
structure Lad (b:List Pl) (rk:Int→Nat):Prop where
 good:Lv.Good b
 thr:∀(i:Nat) g ws,b[i]?=some (.thr g ws)→∃x∈ws,rk x.2<rk (i:Int)
 pck:∀(i:Nat) w to,b[i]?=some (.pck w to)→∀g∈to,rk g<rk (i:Int)
structure BdW (b:List Pl) (rk:Int→Nat):Prop where
 pos:0<b.length
 len:b.length≤16
 ok:∀q∈b,PkG b.length q
 lad:Lad b rk
 cap:∀p,Pr.In b p→pkPr b 1 (Pr.prt b p)≤4096
section LA
open Lv Bf
variable {b : List Pl} {rk : Int → Nat} (D : Lad b rk)
include D
theorem Lad.lv:∀(m i:Nat),rk (i:Int)<m→i<b.length→lk (lvs b) (i:Int)≠none
 | 0,_,h,_=>absurd h (Nat.not_lt_zero _)
 | m+1,i,h,hi=>by
  have e:b[i]?=some b[i]:=List.getElem?_eq_getElem hi
  have ih:∀g∈gls b[i],rk g<rk (i:Int)→lk (lvs b) g≠none:=fun g hg hr=>by
   obtain⟨h0,h1⟩:=D.good.rng _ (List.mem_of_getElem? e) g hg
   obtain⟨j,rfl⟩:=Int.eq_ofNat_of_zero_le h0
   exact Lad.lv m j (by omega) (by omega)
  have E:=lvs_ends D.good i _ e
  have nn:∀v,(lvs b)[i]?=some (some v)→lk (lvs b) (i:Int)≠none:=fun v hv z=>by
   rw[lk_nat.mpr hv] at z
   cases z
  cases q:b[i] with
  | fin w=>rw[q] at E;exact nn _ E
  | thr w ws=>
   rw[q] at E ih e
   rcases E with ⟨_,a2⟩ | ⟨v,hv,_⟩
   ·obtain⟨x,hx,rx⟩:=D.thr i w ws e
    have m:x.2∈ws.map (·.2):=List.mem_map.mpr ⟨x,hx,rfl⟩
    exact absurd (a2 x.2 m) (ih x.2 m rx)
   ·exact nn v hv
  | pck w to=>
   rw[q] at E ih e
   rcases E with ⟨_,g,hg,a2⟩ | ⟨v,hv,_⟩
   ·exact absurd a2 (ih g hg (D.pck i w to e g hg))
   ·exact nn v hv
theorem Lad.ring:ringOf b=[]:=by
 refine List.eq_nil_iff_forall_not_mem.mpr fun i hi=>?_
 obtain⟨h1,h2⟩:=ring_mem.mp hi
 exact D.lv _ i (Nat.lt_succ_self _) h1 h2
theorem Lad.within {p o:Int} (hp:Pr.In b p) (ho:o∈Pr.prt b p) (ne:o≠p):∃g∈gAt b p,g∈Pr.prt b p:=by
 obtain⟨h1,h2⟩:=Pr.prt_mem.mp ho
 obtain⟨ws,e⟩:=(Pr.kb_iff D.good hp).mp h1
 cases ws with
 | nil=>cases e;exact absurd rfl ne
 | cons w ws=>
  have e:(match (gAt b p)[w]? with | some g=>Bf.go b g ws | none=>none)=some o:=e
  cases c:(gAt b p)[w]? with
  | none=>rw[c] at e;cases e
  | some g=>
   rw[c] at e
   have hg:=List.mem_of_getElem? c
   have kg:=Pr.kb_goal D.good hp (Pr.kb_self D.good hp) hg
   have ig:=Pr.kb_in D.good hp kg
   have ko:o∈Pr.kb b g:=(Pr.kb_iff D.good ig).mpr ⟨ws,e⟩
   exact⟨g,hg,Pr.prt_mem.mpr ⟨kg,Pr.kb_trans D.good ig ko h2⟩⟩
end LA
theorem min_rk (rk:Int→Nat):∀(ps:List Int),ps≠[]→∃q∈ps,∀p∈ps,rk q≤rk p
 | [],h=>absurd rfl h
 | [a],_=>⟨a,List.mem_singleton.mpr rfl,fun p hp=>by rw[List.mem_singleton.mp hp];exact Nat.le_refl _⟩
 | a::b::l,_=>by
  obtain⟨q,hq,h⟩:=min_rk rk (b::l) (by simp)
  by_cases c:rk a≤rk q
  ·refine⟨a,List.mem_cons_self,fun p hp=>?_⟩
   rcases List.mem_cons.mp hp with rfl | hp
   ·exact Nat.le_refl _
   ·exact Nat.le_trans c (h p hp)
  ·refine⟨q,List.mem_cons_of_mem _ hq,fun p hp=>?_⟩
   rcases List.mem_cons.mp hp with rfl | hp
   ·omega
   ·exact h p hp
noncomputable def isPk (b:List Pl) (p:Int):Bool:=match b[p.toNat]? with | some (.pck _ _)=>true | _=>false
set_option tactic.hygienic true in
theorem pkPr_le {b:List Pl} (h:∀p,pkN b p≤4):∀(ps:List Int) (a:Nat),pkPr b a ps≤a*4^ (ps.filter (isPk b)).length
 | [],a=>by show a≤a*1;omega
 | p::ps,a=>by
  have ih:=pkPr_le h ps (a*pkN b p)
  refine Nat.le_trans (show pkPr b (a*pkN b p) ps≤_ from ih) ?_
  by_cases c:isPk b p=true
  ·rw[List.filter_cons_of_pos c,List.length_cons,Nat.pow_succ]
   have:=Nat.mul_le_mul_left a (h p)
   calc a*pkN b p*4^ (ps.filter (isPk b)).length≤a*4*4^ (ps.filter (isPk b)).length:=Nat.mul_le_mul_right _ this
    _=a* (4^ (ps.filter (isPk b)).length*4):=by rw[Nat.mul_assoc,Nat.mul_comm 4]
  ·rw[List.filter_cons_of_neg c]
   have e:pkN b p=1:=by
    unfold isPk at c
    unfold pkN
    split
    ·rename_i e;rw[e] at c;simp at c
    ·rfl
   rw[e,Nat.mul_one]
   exact Nat.le_refl _
set_option tactic.hygienic true in
theorem pkN_le {b:List Pl} (ok:∀q∈b,PkG b.length q) (p:Int):1≤pkN b p∧pkN b p≤4:=by
 unfold pkN
 split
 ·rename_i w to e
  have:=ok _ (List.mem_of_getElem? e)
  exact⟨this.2.1,this.2.2.1⟩
 ·exact⟨Nat.le_refl _,by decide⟩
theorem pkPr_ge {b:List Pl} (ok:∀q∈b,PkG b.length q):∀(ps:List Int) (a:Nat),a≤pkPr b a ps
 | [],a=>Nat.le_refl _
 | p::ps,a=>Nat.le_trans (Nat.le_mul_of_pos_right a (pkN_le ok p).1) (pkPr_ge ok ps _)
theorem cap_of {b:List Pl} {rk:Int→Nat} (D:Lad b rk) (ok:∀q∈b,PkG b.length q) (l8:b.length≤8) {p:Int} (hp:Pr.In b p):pkPr b 1 (Pr.prt b p)≤4096:=by
 refine Nat.le_trans (pkPr_le (fun p=>(pkN_le ok p).2) _ _) ?_
 rw[Nat.one_mul]
 suffices h:((Pr.prt b p).filter (isPk b)).length≤6 by
  exact Nat.le_trans (Nat.pow_le_pow_right (by decide) h) (by decide)
 have nd:(Pr.prt b p).Nodup:=(Pr.prt_lt D.good hp).imp fun h z=>by omega
 obtain⟨q,hq,mn⟩:=min_rk rk _ (Pr.prt_ne D.good hp)
 have iq:=Pr.prt_in D.good hp hq
 by_cases one:∀o∈Pr.prt b p,o=q
 ·have:=Pr.sub_len (l:=(Pr.prt b p).filter (isPk b)) (m:=[q]) (nd.filter _) fun x hx=>List.mem_singleton.mpr (one x (List.mem_filter.mp hx).1)
  have:((Pr.prt b p).filter (isPk b)).length≤1:=this
  omega
 ·obtain⟨o,ho0⟩:=Classical.not_forall.mp one
  obtain⟨ho,ne⟩:=Classical.not_imp.mp ho0
  have ep:=Pr.prt_eq D.good hp hq
  have wi:∀x,x∈Pr.prt b p→∃g∈Bf.gAt b x,g∈Pr.prt b p:=fun x hx=>by
   have ix:=Pr.prt_in D.good hp hx
   have ex:=Pr.prt_eq D.good hp hx
   by_cases c:x=q
   ·subst c
    obtain⟨g,h1,h2⟩:=D.within ix (o:=o) (by rw[ex];exact ho) ne
    exact⟨g,h1,by rw[←ex];exact h2⟩
   ·obtain⟨g,h1,h2⟩:=D.within ix (o:=q) (by rw[ex];exact hq) (fun z=>c z.symm)
    exact⟨g,h1,by rw[←ex];exact h2⟩
  have gat:∀x:Int,Pr.In b x→∃i:Nat,x=i∧∃pl,b[i]?=some pl∧Bf.gAt b x=Lv.gls pl:=fun x hx=>by
   obtain⟨i,rfl⟩:=Int.eq_ofNat_of_zero_le hx.1
   have hi:i<b.length:=by have:=hx.2;omega
   refine⟨i,rfl,b[i],List.getElem?_eq_getElem hi,?_⟩
   unfold Bf.gAt
   rw[Int.toNat_natCast,List.getElem?_eq_getElem hi]
  have hq2:isPk b q=false:=by
   obtain⟨i,rfl,pl,e,eg⟩:=gat q iq
   obtain⟨g,h1,h2⟩:=wi _ hq
   rw[eg] at h1
   unfold isPk
   rw[Int.toNat_natCast,e]
   cases pl with
   | fin w=>rfl
   | thr w ws=>rfl
   | pck w to=>
    have:=D.pck i w to e g h1
    have:=mn g h2
    omega
  obtain⟨f,hf,mf⟩:=min_rk rk ((List.range b.length).map fun(i:Nat)=>(i:Int)) (by
   have:0<b.length:=by have:=hp.1;have:=hp.2;omega
   intro z
   have k:=congrArg List.length z
   rw[List.length_map,List.length_range,List.length_nil] at k
   omega)
  obtain⟨f,hf',rfl⟩:=List.mem_map.mp hf
  have lf:=List.mem_range.mp hf'
  have inr:∀g:Int,Pr.In b g→rk (f:Int)≤rk g:=fun g hg=>by
   obtain⟨j,rfl⟩:=Int.eq_ofNat_of_zero_le hg.1
   exact mf _ (List.mem_map.mpr ⟨j,List.mem_range.mpr (by have:=hg.2;omega),rfl⟩)
  have ef:∃w,b[f]?=some (.fin w):=by
   have e:b[f]?=some b[f]:=List.getElem?_eq_getElem lf
   have rg:=D.good.rng _ (List.mem_of_getElem? e)
   cases c:b[f] with
   | fin w=>exact⟨w,by rw[e,c]⟩
   | thr w ws=>
    rw[c] at e rg
    obtain⟨x,hx,rx⟩:=D.thr f w ws e
    have:=inr x.2 (rg _ (List.mem_map.mpr ⟨x,hx,rfl⟩))
    omega
   | pck w to=>
    rw[c] at e rg
    have ne:=D.good.pck _ (List.mem_of_getElem? e) w to rfl
    obtain⟨g,hg⟩:=List.exists_mem_of_ne_nil _ ne
    have:=D.pck f w to e g hg
    have:=inr g (rg _ hg)
    omega
  obtain⟨w,ef⟩:=ef
  have nf:(f:Int)∉Pr.prt b p:=fun z=>by
   obtain⟨g,h1,_⟩:=wi _ z
   unfold Bf.gAt at h1
   rw[Int.toNat_natCast,ef] at h1
   cases h1
  have:=Pr.sub_len (l:=(f:Int)::q::(Pr.prt b p).filter (isPk b)) (m:=(List.range b.length).map fun(i:Nat)=>(i:Int)) ?_ ?_
  ·rw[List.length_cons,List.length_cons,List.length_map,List.length_range] at this
   omega
  ·refine List.nodup_cons.mpr ⟨fun z=>?_,List.nodup_cons.mpr ⟨fun z=>?_,nd.filter _⟩⟩
   ·rcases List.mem_cons.mp z with z | z
    ·exact nf (by rw[z];exact hq)
    ·exact nf (List.mem_filter.mp z).1
   ·have:=(List.mem_filter.mp z).2
    rw[hq2] at this
    cases this
  ·intro x hx
   have ix:Pr.In b x:=by
    rcases List.mem_cons.mp hx with rfl | hx
    ·exact⟨by omega,by omega⟩
    ·rcases List.mem_cons.mp hx with rfl | hx
     ·exact iq
     ·exact Pr.prt_in D.good hp (List.mem_filter.mp hx).1
   obtain⟨j,rfl⟩:=Int.eq_ofNat_of_zero_le ix.1
   exact List.mem_map.mpr ⟨j,List.mem_range.mpr (by have:=ix.2;omega),rfl⟩
noncomputable def wyP:Pl→Option Int→Dg.Wy
 | .fin _,_=>[]
 | .thr _ ws,_=>ws
 | .pck _ to,k=>[(1,to.getD (k.getD 0).toNat 0)]
noncomputable def PkO:Pl→Option Int→Prop
 | .pck _ to,some k=>0≤k∧k< (to.length:Int)
 | .pck _ _,none=>False
 | _,_=>True
theorem PkG.few {n:Nat} {q:Pl} (h:PkG n q):(Lv.gls q).length≤5:=by
 cases q with
 | fin g=>exact Nat.zero_le _
 | thr g ws=>simp only[Lv.gls,List.length_map];exact h.2.2.1
 | pck w to=>have:=h.2.2.1;show to.length≤5;omega
theorem wy_ok {n:Nat} {q:Pl} {k:Option Int} (h:PkG n q) (hk:PkO q k):Dg.Wk5 n (wyP q k)∧∀x∈wyP q k,x.2∈Lv.gls q:=by
 cases q with
 | fin g=>exact⟨⟨Nat.zero_le _,by simp [wyP]⟩,by simp [wyP]⟩
 | thr g ws=>exact⟨h.2.2,fun x hx=>List.mem_map.mpr ⟨x,hx,rfl⟩⟩
 | pck w to=>
  cases k with
  | none=>exact hk.elim
  | some k=>
   have hl:k.toNat<to.length:=by have:=hk.1;have:=hk.2;omega
   have m:to.getD k.toNat 0∈to:=by rw[List.getD_eq_getElem?_getD,List.getElem?_eq_getElem hl];exact List.getElem_mem hl
   have e:wyP (.pck w to) (some k)=[(1,to.getD k.toNat 0)]:=rfl
   rw[e]
   refine⟨⟨by show 1≤5;omega,fun x hx=>?_⟩,fun x hx=>?_⟩
   ·rw[List.mem_singleton.mp hx]
    exact⟨by show(1:Int)≤1;omega,by show(1:Int)≤200000;omega,h.2.2.2 _ m⟩
   ·rw[List.mem_singleton.mp hx]
    exact m
noncomputable def wysP (b:List Pl) (ks:List (Option Int)):List Dg.Wy:=List.zipWith wyP b ks
noncomputable def gB (b:List Pl):Int:=Wq.lcmL 1 (b.map Wq.gainP)
structure PksO (b:List Pl) (ks:List (Option Int)):Prop where
 len:ks.length=b.length
 ok:∀(i:Nat) q k,b[i]?=some q→ks[i]?=some k→PkO q k
theorem PksO.at {b:List Pl} {ks:List (Option Int)} (h:PksO b ks) {i:Nat} (hi:i<b.length):∃q k,b[i]?=some q∧ks[i]?=some k∧PkO q k∧wyAt (wysP b ks) (i:Int)=wyP q k:=by
 have e1:b[i]?=some b[i]:=List.getElem?_eq_getElem hi
 have hk:i<ks.length:=by rw[h.len];exact hi
 have e2:ks[i]?=some ks[i]:=List.getElem?_eq_getElem hk
 refine⟨_,_,e1,e2,h.ok i _ _ e1 e2,?_⟩
 unfold wyAt wysP
 rw[Int.toNat_natCast,List.getD_eq_getElem?_getD,List.getElem?_zipWith,e1,e2]
 rfl
noncomputable def EqAt (b:List Pl) (ks:List (Option Int)) (p:Nat) (v:Int→Rat):Prop:=∀q k,b[p]?=some q→ks[p]?=some k→v (p:Int)=Dg.vl (Wq.gainP q)+Dg.rsum (Dg.tt (wyP q k)) v (wyP q k)
section WE
variable {b : List Pl} {rk : Int → Nat} (B : BdW b rk)
include B
theorem BdW.few:∀q∈b,(Lv.gls q).length≤100:=fun q hq=>by have:=(B.ok q hq).few;omega
theorem BdW.bd:Bd b:=⟨by have:=B.len;omega,B.few,B.lad.good⟩
theorem BdW.dn {ks:List (Option Int)} (ko:PksO b ks) {p:Int} (hp:Pr.In b p):wyAt (wysP b ks) p=[]∨∃x∈wyAt (wysP b ks) p,rk x.2<rk p:=by
 obtain⟨i,rfl⟩:=Int.eq_ofNat_of_zero_le hp.1
 obtain⟨q,k,e1,e2,po,ew⟩:=ko.at (i:=i) (by have:=hp.2;omega)
 rw[ew]
 cases q with
 | fin g=>exact .inl rfl
 | thr g ws=>exact .inr (B.lad.thr i g ws e1)
 | pck w to=>
  have h:=(wy_ok (B.ok _ (List.mem_of_getElem? e1)) po).2
  refine .inr ⟨_,List.mem_singleton.mpr rfl,B.lad.pck i w to e1 _ (h _ (List.mem_singleton.mpr rfl))⟩
theorem BdW.wk {ks:List (Option Int)} (ko:PksO b ks) {p:Int} (hp:Pr.In b p):Dg.Wk5 b.length (wyAt (wysP b ks) p)∧∀x∈wyAt (wysP b ks) p,x.2∈Bf.gAt b p:=by
 obtain⟨i,rfl⟩:=Int.eq_ofNat_of_zero_le hp.1
 obtain⟨q,k,e1,e2,po,ew⟩:=ko.at (i:=i) (by have:=hp.2;omega)
 rw[ew]
 have h:=wy_ok (B.ok _ (List.mem_of_getElem? e1)) po
 refine⟨h.1,fun x hx=>?_⟩
 unfold Bf.gAt
 rw[Int.toNat_natCast,e1]
 exact h.2 x hx
noncomputable def ixP (b:List Pl) (ps:List Int) (p:Int):Nat:=ps.idxOf (Pr.rep b p)
variable {ps : List Int} (T : Pr.Told b ps)
include T
theorem ix_mem {i:Nat} {h p:Int} (e:ps[i]?=some h) (hp:p∈Pr.prt b h):ixP b ps p=i:=by
 have ih:=T.inB (List.mem_of_getElem? e)
 unfold ixP
 rw[Pr.rep_eq B.lad.good ih hp,T.rp (List.mem_of_getElem? e)]
 have l:=List.idxOf_lt_length_of_mem (List.mem_of_getElem? e)
 obtain⟨hi,hi2⟩:=List.getElem?_eq_some_iff.mp e
 exact(List.getElem_inj T.nd).mp ((List.getElem_idxOf l).trans hi2.symm)
theorem ix_in {i:Nat} {h p:Int} (e:ps[i]?=some h) (hp:Pr.In b p) (z:ixP b ps p=i):p∈Pr.prt b h:=by
 have m:=T.has B.lad.good hp
 have l:=List.idxOf_lt_length_of_mem m
 have e2:ps[ixP b ps p]?=some (Pr.rep b p):=by unfold ixP;rw[List.getElem?_eq_getElem l,List.getElem_idxOf l]
 rw[z,e] at e2
 cases e2
 rw[Pr.prt_rep B.lad.good hp]
 exact Pr.prt_self B.lad.good hp
theorem ix_lt {p:Int} (hp:Pr.In b p):ixP b ps p<ps.length:=List.idxOf_lt_length_of_mem (T.has B.lad.good hp)
theorem ix_goal {p g:Int} (hp:Pr.In b p) (hg:g∈Bf.gAt b p):ixP b ps g≤ixP b ps p∧Pr.In b g:=by
 have k:=Pr.kb_goal B.lad.good hp (Pr.kb_self B.lad.good hp) hg
 exact⟨T.idx_le B.lad.good hp k,Pr.kb_in B.lad.good hp k⟩
end WE
structure WInv (b:List Pl) (ks:List (Option Int)) (ps:List Int) (i:Nat) (S:Dg.Bk):Prop where
 sz:Dg.Sz b.length (330+92*Pr.off b ps i) S
 dv:gB b∣S.2
 eq:∀p:Nat,p<b.length→ixP b ps (p:Int)<i→EqAt b ks p (Dg.val S)
 zr:∀p:Int,Pr.In b p→i≤ixP b ps p→S.1.getD p.toNat 0=0
theorem low_val {S:Dg.Bk} (h:0<S.2) (q:Int) (hq:q.toNat<S.1.length):Dg.vl (Wq.atW (S.1.map fun t=>Wq.low t S.2) q)=Dg.val S q:=by
 unfold Wq.atW Dg.val
 rw[List.getD_eq_getElem?_getD,List.getElem?_map,List.getD_eq_getElem?_getD,List.getElem?_eq_getElem hq]
 exact Dg.vl_low h
noncomputable def spChk2 (tp:Addr):Sp:=fun vs H Q _=>∃(a:Addr) (b:List Pl) (rk:Int→Nat),vs=[.ref a]∧Rep H (brD b) (.ref a)∧BdW b rk∧H tp=some (.tbl dsc)∧
 ∀l ps as H',Pr.Told b ps→Same H H'→H l=none→H' l=some (.lst (List.map V.ref as))→Al (fun p v=>∃x,v=.ref x∧H' x=some (.lst ((Pr.prt b p).map V.int))) ps (as.map V.ref)→Q (.ref l) H'
noncomputable def spWop2:Sp:=fun vs H Q _=>∃(a x:Addr) (b:List Pl) (ps:List Int),vs=[.ref a,.ref x]∧Rep H (brD b) (.ref a)∧H x=some (.lst (ps.map V.int))∧(∀p∈ps,Pr.In b p)∧(∀q∈b,PkG b.length q)∧pkPr b 1 ps≤4096∧Q (.int (pkPr b 1 ps)) H
noncomputable def spWwy:Sp:=fun vs H Q _=>∃(v:V) (q:Pl) (k:Option Int),vs=[v,pkV k]∧Rep H (plD q) v∧PkO q k∧∀l H',Same H H'→Rep H' (wyD (wyP q k)) (.ref l)→Q (.ref l) H'
noncomputable def spAw:Sp:=fun vs H Q _=>∃(a c:Addr) (b:List Pl) (ks:List (Option Int)),vs=[.ref a,.ref c]∧Rep H (brD b) (.ref a)∧b.length≤60∧H c=some (.lst (ks.map pkV))∧PksO b ks∧
 ∀l xs H',Same H H'→H l=none→H' l=some (.lst xs)→RepL (hid H' l) ((wysP b ks).map wyD) xs→Q (.ref l) H'
namespace Dg
noncomputable def lsum (f:Int→Rat):List Int→Rat
 | []=>0
 | q::qs=>f q+lsum f qs
theorem lsum_add (f g:Int→Rat):∀qs,lsum (fun q=>f q+g q) qs=lsum f qs+lsum g qs
 | []=>by show(0:Rat)=0+0;grind
 | q::qs=>by
  show f q+g q+lsum (fun q=>f q+g q) qs=f q+lsum f qs+ (g q+lsum g qs)
  rw[lsum_add f g qs]
  grind
theorem lsum_mul (c:Rat) (f:Int→Rat):∀qs,lsum (fun q=>c*f q) qs=c*lsum f qs
 | []=>by show(0:Rat)=c*0;grind
 | q::qs=>by
  show c*f q+lsum (fun q=>c*f q) qs=c* (f q+lsum f qs)
  rw[lsum_mul c f qs]
  grind
theorem lsum_le {f g:Int→Rat}:∀{qs:List Int},(∀q∈qs,f q≤g q)→lsum f qs≤lsum g qs
 | [],_=>Rat.le_refl
 | q::qs,h=>by
  have:=lsum_le (f:=f) (g:=g) (qs:=qs) fun x hx=>h x (List.mem_cons_of_mem _ hx)
  have:=h q List.mem_cons_self
  show f q+lsum f qs≤g q+lsum g qs
  grind
theorem lsum_congr {f g:Int→Rat}:∀{qs:List Int},(∀q∈qs,f q=g q)→lsum f qs=lsum g qs
 | [],_=>rfl
 | q::qs,h=>by
  show f q+lsum f qs=g q+lsum g qs
  rw[h q List.mem_cons_self,lsum_congr fun x hx=>h x (List.mem_cons_of_mem _ hx)]
theorem lsum_nil (qs:List Int):lsum (fun _=>0) qs=0:=by
 induction qs with
 | nil=>rfl
 | cons q qs ih=>show(0:Rat)+lsum (fun _=>0) qs=0;rw[ih];grind
theorem lsum_one {f:Int→Rat}:∀{qs:List Int},(∀q∈qs,0≤f q)→lsum f qs≤0→∀q∈qs,f q=0
 | [],_,_,q,hq=>by simp at hq
 | p::qs,h,k,q,hq=>by
  have h1:=h p List.mem_cons_self
  have hs:∀q∈qs,0≤f q:=fun x hx=>h x (List.mem_cons_of_mem _ hx)
  have h2:0≤lsum f qs:=by
   have:=lsum_le (f:=fun _=>0) (g:=f) hs
   rw[lsum_nil] at this
   exact this
  have k:f p+lsum f qs≤0:=k
  rcases List.mem_cons.mp hq with rfl | hq
  ·grind
  ·exact lsum_one hs (by grind) q hq
theorem lsum_erase {f:Int→Rat} {x:Int}:∀{qs:List Int},x∈qs→lsum f qs=f x+lsum f (qs.erase x)
 | [],h=>by simp at h
 | q::qs,h=>by
  by_cases c:q=x
  ·subst c
   rw[List.erase_cons_head]
   rfl
  ·have:x∈qs:=by
    rcases List.mem_cons.mp h with h | h
    ·exact absurd h.symm c
    ·exact h
   rw[List.erase_cons_tail (by simpa using c)]
   show f q+lsum f qs=f x+ (f q+lsum f (qs.erase x))
   rw[lsum_erase this]
   grind
noncomputable def inP (d:Int) (qs:List Int):Wy→Rat
 | []=>0
 | x::ws=>(if x.2∈qs then (x.1:Rat) / (d:Rat) else 0)+inP d qs ws
theorem lsum_ind {c:Rat} {y:Int}:∀{qs:List Int},qs.Nodup→lsum (fun q=>if y=q then c else 0) qs=if y∈qs then c else 0
 | [],_=>by rw[if_neg (by simp)];rfl
 | q::qs,h=>by
  have ih:=lsum_ind (c:=c) (y:=y) (List.nodup_cons.mp h).2
  have nq:=(List.nodup_cons.mp h).1
  show(if y=q then c else 0)+lsum (fun q=>if y=q then c else 0) qs=_
  rw[ih]
  by_cases e:y=q
  ·subst e
   rw[if_pos rfl,if_neg nq,if_pos List.mem_cons_self]
   grind
  ·rw[if_neg e]
   by_cases m:y∈qs
   ·rw[if_pos m,if_pos (List.mem_cons_of_mem _ m)];grind
   ·rw[if_neg m,if_neg (fun z=>by rcases List.mem_cons.mp z with z | z;exact e z;exact m z)];grind
theorem lsum_pr {d:Int} {qs:List Int} (nd:qs.Nodup):∀ws:Wy,lsum (fun q=>pr d q ws) qs=inP d qs ws
 | []=>lsum_nil qs
 | x::ws=>by
  have ih:=lsum_pr (d:=d) nd ws
  have e:(fun q=>pr d q (x::ws))=fun q=>(if x.2=q then (x.1:Rat) / (d:Rat) else 0)+pr d q ws:=rfl
  rw[e,lsum_add,ih,lsum_ind nd]
  rfl
theorem rdiv {a d:Int} (h:1≤a) (k:0<d):(0:Rat)< (a:Rat) / (d:Rat):=by
 rw[Rat.div_def]
 exact Rat.mul_pos (Rat.intCast_pos.mpr (by omega)) (Rat.inv_pos.mpr (Rat.intCast_pos.mpr k))
theorem inP_le {d:Int} (d0:0<d) {qs:List Int}:∀{ws:Wy},(∀x∈ws,1≤x.1)→0≤inP d qs ws∧inP d qs ws≤(Wq.totW ws:Rat) / (d:Rat)∧((∃x∈ws,x.2∉qs)→inP d qs ws< (Wq.totW ws:Rat) / (d:Rat))
 | [],_=>by
  refine⟨Rat.le_refl,?_,fun⟨x,hx,_⟩=>by simp at hx⟩
  show(0:Rat)≤((0:Int):Rat) / _
  grind
 | x::ws,h=>by
  obtain⟨i1,i2,i3⟩:=inP_le d0 (qs:=qs) (ws:=ws) fun y hy=>h y (List.mem_cons_of_mem _ hy)
  have c:=rdiv (h x List.mem_cons_self) d0
  have e:((Wq.totW (x::ws):Int):Rat) / (d:Rat)=(x.1:Rat) / (d:Rat)+ (Wq.totW ws:Rat) / (d:Rat):=by
   rw[totW_cons,Rat.intCast_add]
   generalize (x.1:Rat)=a at *
   generalize (Wq.totW ws:Rat)=b at *
   generalize (d:Rat)=u at *
   grind
  rw[e]
  show 0≤(if x.2∈qs then (x.1:Rat) / (d:Rat) else 0)+inP d qs ws∧(if x.2∈qs then (x.1:Rat) / (d:Rat) else 0)+inP d qs ws≤_∧(_→(if x.2∈qs then (x.1:Rat) / (d:Rat) else 0)+inP d qs ws<_)
  generalize (x.1:Rat) / (d:Rat)=a at *
  generalize (Wq.totW ws:Rat) / (d:Rat)=b at *
  generalize hi:inP d qs ws=i at *
  by_cases m:x.2∈qs
  ·rw[if_pos m]
   refine⟨by grind,by grind,fun⟨y,hy,ny⟩=>?_⟩
   rcases List.mem_cons.mp hy with rfl | hy
   ·exact absurd m ny
   ·have:=i3 ⟨y,hy,ny⟩
    grind
  ·rw[if_neg m]
   exact⟨by grind,by grind,fun _=>by grind⟩
noncomputable def ab (x:Rat):Rat:=if 0≤x then x else -x
theorem ab_nn (x:Rat):0≤ab x∧x≤ab x∧-x≤ab x:=by
 unfold ab
 split <;>grind
theorem ab_le {x y:Rat} (h1:x≤y) (h2:-x≤y):ab x≤y:=by
 unfold ab
 split <;>grind
theorem ab_zero {x:Rat} (h:ab x=0):x=0:=by
 obtain⟨a,b,c⟩:=ab_nn x
 grind
theorem pr_nn {d:Int} (d0:0<d) {q:Int}:∀{ws:Wy},(∀x∈ws,1≤x.1)→0≤pr d q ws
 | [],_=>Rat.le_refl
 | x::ws,h=>by
  have ih:=pr_nn d0 (q:=q) (ws:=ws) fun y hy=>h y (List.mem_cons_of_mem _ hy)
  have c:=rdiv (h x List.mem_cons_self) d0
  show 0≤(if x.2=q then (x.1:Rat) / (d:Rat) else 0)+pr d q ws
  generalize (x.1:Rat) / (d:Rat)=a at *
  generalize pr d q ws=b at *
  split <;>grind
theorem gsum_abs {W:Int→Wy} {v:Int→Rat} {q:Int}:∀{ps:List Int},(∀p∈ps,0≤pr (tt (W p)) q (W p))→gsum W v q ps≤gsum W (fun p=>ab (v p)) q ps∧-gsum W v q ps≤gsum W (fun p=>ab (v p)) q ps
 | [],_=>⟨Rat.le_refl,by show -(0:Rat)≤0;grind⟩
 | p::ps,h=>by
  obtain⟨i1,i2⟩:=gsum_abs (W:=W) (v:=v) (q:=q) (ps:=ps) fun x hx=>h x (List.mem_cons_of_mem _ hx)
  have c:=h p List.mem_cons_self
  obtain⟨a0,a1,a2⟩:=ab_nn (v p)
  have m1:=Rat.mul_le_mul_of_nonneg_right a1 c
  have m2:=Rat.mul_le_mul_of_nonneg_right a2 c
  show v p*pr (tt (W p)) q (W p)+gsum W v q ps≤ab (v p)*pr (tt (W p)) q (W p)+gsum W (fun p=>ab (v p)) q ps∧-(v p*pr (tt (W p)) q (W p)+gsum W v q ps)≤ab (v p)*pr (tt (W p)) q (W p)+gsum W (fun p=>ab (v p)) q ps
  generalize pr (tt (W p)) q (W p)=u at *
  generalize ab (v p)=a at *
  generalize v p=b at *
  constructor <;>grind
theorem lsum_gsum {W:Int→Wy} {v:Int→Rat} {qs:List Int} (nd:qs.Nodup):∀ps:List Int,lsum (fun q=>gsum W v q ps) qs=lsum (fun p=>v p*inP (tt (W p)) qs (W p)) ps
 | []=>lsum_nil qs
 | p::ps=>by
  have e:(fun q=>gsum W v q (p::ps))=fun q=>v p*pr (tt (W p)) q (W p)+gsum W v q ps:=rfl
  rw[e,lsum_add,lsum_mul,lsum_pr nd,lsum_gsum nd ps]
  rfl
theorem tt_one {ws:Wy} (h:∀x∈ws,1≤x.1):0<tt ws∧(Wq.totW ws:Rat) / (tt ws:Rat)≤1∧(ws≠[]→(Wq.totW ws:Rat) / (tt ws:Rat)=1)∧(ws=[]→(Wq.totW ws:Rat) / (tt ws:Rat)=0):=by
 cases ws with
 | nil=>exact⟨by decide,by show((0:Int):Rat) / ((1:Int):Rat)≤1;rw[r01];grind,fun z=>absurd rfl z,fun _=>r01⟩
 | cons x ws=>
  have e:tt (x::ws)=Wq.totW (x::ws):=by unfold tt;rw[if_neg (by simp)]
  have p:0<Wq.totW (x::ws):=by
   have:=h x List.mem_cons_self
   have:=(isel5 (q:=0) (ws:=ws) fun y hy=>h y (List.mem_cons_of_mem _ hy))
   rw[totW_cons]
   omega
  have o:(Wq.totW (x::ws):Rat) / (Wq.totW (x::ws):Rat)=1:=by
   have:=rne p
   generalize (Wq.totW (x::ws):Rat)=t at *
   grind
  rw[e]
  exact⟨p,by rw[o];exact Rat.le_refl,fun _=>o,fun z=>by cases z⟩
theorem flow_zero {ps:List Int} {W:Int→Wy} {lv:Int→Nat} {v:Int→Rat} (nd:ps.Nodup) (pos:∀p∈ps,∀x∈W p,1≤x.1) (h:∀q∈ps,v q=gsum W v q ps) (dn:∀p∈ps,W p=[]∨∃x∈W p,lv x.2<lv p):∀p∈ps,v p=0:=by
 have le:∀q∈ps,ab (v q)≤gsum W (fun p=>ab (v p)) q ps:=fun q hq=>by
  obtain⟨g1,g2⟩:=gsum_abs (W:=W) (v:=v) (q:=q) (ps:=ps) fun p hp=>pr_nn (tt_one (pos p hp)).1 (pos p hp)
  rw[←h q hq] at g1 g2
  exact ab_le g1 g2
 have key:∀qs:List Int,qs.Nodup→(∀q∈qs,q∈ps)→lsum (fun q=>ab (v q)) qs=lsum (fun q=>ab (v q)) ps→∀p∈ps,inP (tt (W p)) qs (W p)<1→v p=0:=by
  intro qs nq sub same p hp lt
  have e1:=lsum_le (f:=fun q=>ab (v q)) (g:=fun q=>gsum W (fun p=>ab (v p)) q ps) (qs:=qs) fun q hq=>le q (sub q hq)
  rw[same,lsum_gsum nq] at e1
  have nn:∀p∈ps,0≤ab (v p)+-1* (ab (v p)*inP (tt (W p)) qs (W p)):=fun p hp=>by
   obtain⟨t1,t2,_,_⟩:=tt_one (pos p hp)
   obtain⟨i1,i2,_⟩:=inP_le t1 (qs:=qs) (pos p hp)
   have m:=Rat.mul_le_mul_of_nonneg_left (Rat.le_trans i2 t2) (ab_nn (v p)).1
   generalize ab (v p)=a at *
   generalize inP (tt (W p)) qs (W p)=i at *
   grind
  have z:=lsum_one (f:=fun p=>ab (v p)+-1* (ab (v p)*inP (tt (W p)) qs (W p))) nn (by rw[lsum_add,lsum_mul];grind) p hp
  have z:ab (v p)+-1* (ab (v p)*inP (tt (W p)) qs (W p))=0:=z
  refine ab_zero ?_
  generalize ab (v p)=a at *
  generalize inP (tt (W p)) qs (W p)=i at *
  have:a* (1 - i)=0:=by grind
  rcases Rat.mul_eq_zero.mp this with h | h
  ·exact h
  ·grind
 have low:∀n,∀p∈ps,lv p<n→v p=0:=by
  intro n
  induction n with
  | zero=>exact fun p _ hl=>absurd hl (Nat.not_lt_zero _)
  | succ n ih=>
   intro p hp hl
   obtain⟨t1,t2,t3,t4⟩:=tt_one (pos p hp)
   rcases dn p hp with z | ⟨x,hx,lx⟩
   ·refine key ps nd (fun _ h=>h) rfl p hp ?_
    rw[z]
    show(0:Rat)<1
    decide
   ·obtain⟨_,_,i3⟩:=inP_le t1 (qs:=ps.erase x.2) (pos p hp)
    have nin:x.2∉ps.erase x.2:=fun z=>(nd.mem_erase_iff.mp z).1 rfl
    have lt:=i3 ⟨x,hx,nin⟩
    rw[t3 (List.ne_nil_of_mem hx)] at lt
    refine key (ps.erase x.2) (nd.erase _) (fun q hq=>List.mem_of_mem_erase hq) ?_ p hp lt
    by_cases m:x.2∈ps
    ·rw[lsum_erase m,ih x.2 m (by omega)]
     show _=ab 0+_
     have:ab 0=0:=by decide
     rw[this]
     grind
    ·rw[List.erase_of_not_mem m]
 exact fun p hp=>low _ p hp (Nat.lt_succ_self _)
theorem gsum_sub {W:Int→Wy} {v v':Int→Rat} {q:Int}:∀ps:List Int,gsum W (fun i=>v i - v' i) q ps=gsum W v q ps - gsum W v' q ps
 | []=>by show(0:Rat)=0 - 0;grind
 | p::ps=>by
  have ih:=gsum_sub (W:=W) (v:=v) (v':=v') (q:=q) ps
  show(v p - v' p)*pr (tt (W p)) q (W p)+gsum W (fun i=>v i - v' i) q ps=v p*pr (tt (W p)) q (W p)+gsum W v q ps - (v' p*pr (tt (W p)) q (W p)+gsum W v' q ps)
  rw[ih]
  grind
theorem sole_visits {ps:List Int} {W:Int→Wy} {lv:Int→Nat} {s v v':Int→Rat} (nd:ps.Nodup) (pos:∀p∈ps,∀x∈W p,1≤x.1) (h:∀q∈ps,v q=s q+gsum W v q ps) (h':∀q∈ps,v' q=s q+gsum W v' q ps) (dn:∀p∈ps,W p=[]∨∃x∈W p,lv x.2<lv p):∀p∈ps,v p=v' p:=by
 intro p hp
 have:=flow_zero (v:=fun i=>v i - v' i) nd pos (fun q hq=>by rw[gsum_sub,h q hq,h' q hq];grind) dn p hp
 have:v p - v' p=0:=this
 grind
theorem ends_one {ps:List Int} {W:Int→Wy} {s v:Int→Rat} (nd:ps.Nodup) (pos:∀p∈ps,∀x∈W p,1≤x.1∧x.2∈ps) (h:∀q∈ps,v q=s q+gsum W v q ps):lsum (fun p=>if W p=[] then v p else 0) ps=lsum s ps:=by
 have e:lsum v ps=lsum s ps+lsum (fun p=>v p*inP (tt (W p)) ps (W p)) ps:=by
  rw[←lsum_gsum nd,←lsum_add]
  exact lsum_congr h
 have a:∀{ws:Wy},(∀x∈ws,x.2∈ps)→∀d,inP d ps ws=(Wq.totW ws:Rat) / (d:Rat):=by
  intro ws
  induction ws with
  | nil=>intro _ d;show(0:Rat)=((0:Int):Rat) / _;grind
  | cons x ws ih=>
   intro hw d
   show(if x.2∈ps then (x.1:Rat) / (d:Rat) else 0)+inP d ps ws=_
   rw[if_pos (hw x List.mem_cons_self),ih (fun y hy=>hw y (List.mem_cons_of_mem _ hy)),totW_cons,Rat.intCast_add]
   generalize (x.1:Rat)=a at *
   generalize (Wq.totW ws:Rat)=b at *
   generalize (d:Rat)=u at *
   grind
 have e2:lsum v ps=lsum (fun p=>(if W p=[] then v p else 0)+v p*inP (tt (W p)) ps (W p)) ps:=lsum_congr fun p hp=>by
  obtain⟨_,_,t3,t4⟩:=tt_one fun x hx=>(pos p hp x hx).1
  rw[a fun x hx=>(pos p hp x hx).2]
  by_cases c:W p=[]
  ·rw[if_pos c,t4 c];grind
  ·rw[if_neg c,t3 c];grind
 rw[lsum_add] at e2
 grind
end Dg
namespace Dg
noncomputable def outW (ps:List Int) (ws:Wy):Wy:=ws.filter fun x=>decide (x.2∉ps)
theorem isel_in {ps:List Int} {q:Int} (h:q∈ps):∀ws:Wy,isel q (outW ps ws)=0
 | []=>rfl
 | x::ws=>by
  have ih:=isel_in h ws
  unfold outW at ih ⊢
  by_cases c:x.2∈ps
  ·rw[List.filter_cons_of_neg (by simpa using c)]
   exact ih
  ·rw[List.filter_cons_of_pos (by simpa using c)]
   show(if x.2=q then x.1 else 0)+isel q (ws.filter _)=0
   rw[if_neg (fun z=>c (by rw[z];exact h)),ih]
   rfl
theorem isel_off {ps:List Int} {q:Int} (h:q∉ps):∀ws:Wy,isel q (outW ps ws)=isel q ws
 | []=>rfl
 | x::ws=>by
  have ih:=isel_off h ws
  unfold outW at ih ⊢
  by_cases c:x.2∈ps
  ·rw[List.filter_cons_of_neg (by simpa using c),ih]
   show _=(if x.2=q then x.1 else 0)+isel q ws
   rw[if_neg (fun z=>h (by rw[←z];exact c)),Int.zero_add]
  ·rw[List.filter_cons_of_pos (by simpa using c)]
   show(if x.2=q then x.1 else 0)+isel q (ws.filter _)=(if x.2=q then x.1 else 0)+isel q ws
   rw[ih]
noncomputable def putV (ps xs:List Int) (W:Int→Wy) (ts:List Int):Nat→List Int
 | 0=>ts
 | k+1=>addW (xs.getD k 0) (outW ps (W (ps.getD k 0))) ((putV ps xs W ts k).set (ps.getD k 0).toNat (xs.getD k 0*tt (W (ps.getD k 0))))
theorem putV_len (ps xs:List Int) (W:Int→Wy) (ts:List Int):∀k,(putV ps xs W ts k).length=ts.length
 | 0=>rfl
 | k+1=>by unfold putV;rw[addW_len,List.length_set,putV_len ps xs W ts k]
section PV
variable {ps xs ts : List Int} {W : Int → Wy} {n : Nat} (nd : ps.Nodup) (hp : ∀ p ∈ ps, 0 ≤ p ∧ p < (n : Int)) (lt : ts.length = n) (wk : ∀ p ∈ ps, Wk5 n (W p))
include hp lt wk
theorem putV_rng {k:Nat} (hk:k<ps.length):∀x∈outW ps (W (ps.getD k 0)),0≤x.2∧x.2< (((putV ps xs W ts k).set (ps.getD k 0).toNat (xs.getD k 0*tt (W (ps.getD k 0)))).length:Int):=fun x hx=>by
 have m:ps.getD k 0∈ps:=by rw[List.getD_eq_getElem?_getD,List.getElem?_eq_getElem hk];exact List.getElem_mem hk
 have:=(wk _ m).2 x (List.mem_filter.mp hx).1
 rw[List.length_set,putV_len,lt]
 exact this.2.2
theorem putV_out {q:Int} (q0:0≤q) (h:q∉ps):∀k,k≤ps.length→(putV ps xs W ts k).getD q.toNat 0=ts.getD q.toNat 0+Bar.sm k (fun j=>xs.getD j 0*isel q (W (ps.getD j 0)))
 | 0,_=>by show _=_+0;rw[Int.add_zero];rfl
 | k+1,hk=>by
  have m:ps.getD k 0∈ps:=by rw[List.getD_eq_getElem?_getD,List.getElem?_eq_getElem (by omega)];exact List.getElem_mem _
  have:=hp _ m
  show(addW _ _ _).getD q.toNat 0=_+ (Bar.sm k _+_)
  rw[addW_get q0 (putV_rng hp lt wk (by omega)),isel_off h,getD_set_ne (fun z=>h (by rw[show q=ps.getD k 0 by omega];exact m)),putV_out q0 h k (by omega),Int.add_assoc]
include nd
theorem putV_in {j:Nat}:∀k,k≤ps.length→j<k→(putV ps xs W ts k).getD (ps.getD j 0).toNat 0=xs.getD j 0*tt (W (ps.getD j 0))
 | 0,_,h=>absurd h (Nat.not_lt_zero _)
 | k+1,hk,h=>by
  have e:ps.getD k 0=ps[k]:=by rw[List.getD_eq_getElem?_getD,List.getElem?_eq_getElem (by omega)];rfl
  have ej:ps.getD j 0=ps[j]:=by rw[List.getD_eq_getElem?_getD,List.getElem?_eq_getElem (by omega)];rfl
  have m:=hp _ (List.getElem_mem (l:=ps) (n:=k) (by omega))
  have mj:=hp _ (List.getElem_mem (l:=ps) (n:=j) (by omega))
  show(addW _ _ _).getD (ps.getD j 0).toNat 0=_
  rw[addW_get (by rw[ej];omega) (putV_rng hp lt wk (by omega)),isel_in (by rw[ej];exact List.getElem_mem _),Int.mul_zero,Int.add_zero]
  by_cases c:j=k
  ·subst c
   rw[getD_set_eq (by rw[putV_len,lt,e];omega)]
  ·rw[getD_set_ne ?_,putV_in k (by omega) (by omega)]
   rw[e,ej]
   intro z
   exact c ((List.getElem_inj nd).mp (show ps[j]=ps[k] by omega))
end PV
noncomputable def StV (ps:List Int) (W:Int→Wy) (S T:Bk):Prop:=(T=S∧∀p∈ps,S.1.getD p.toNat 0=0)∨∃(d:Int) (x:List Int),0<d∧T.2=S.2*d∧T.1.length=S.1.length∧(∀j,j<ps.length→T.1.getD (ps.getD j 0).toNat 0=x.getD j 0*tt (W (ps.getD j 0)))∧∀q:Int,0≤q→T.1.getD q.toNat 0=S.1.getD q.toNat 0*d+Bar.sm ps.length (fun i=>x.getD i 0*isel q (W (ps.getD i 0)))
theorem gsum_snoc {W:Int→Wy} {g:Int→Rat} {q p:Int}:∀os:List Int,gsum W g q (os++ [p])=gsum W g q os+g p*pr (tt (W p)) q (W p)
 | []=>by show g p*pr (tt (W p)) q (W p)+0=0+_;grind
 | o::os=>by
  have:=gsum_snoc (W:=W) (g:=g) (q:=q) (p:=p) os
  show g o*pr (tt (W o)) q (W o)+gsum W g q (os++ [p])=g o*pr (tt (W o)) q (W o)+gsum W g q os+_
  rw[this]
  grind
theorem gsum_append {W:Int→Wy} {g:Int→Rat} {q:Int}:∀os os':List Int,gsum W g q (os++os')=gsum W g q os+gsum W g q os'
 | [],os'=>by show _=0+_;grind
 | o::os,os'=>by
  have:=gsum_append (W:=W) (g:=g) (q:=q) os os'
  show g o*pr (tt (W o)) q (W o)+gsum W g q (os++os')=g o*pr (tt (W o)) q (W o)+gsum W g q os+_
  rw[this]
  grind
theorem gsum_nought {W:Int→Wy} {g:Int→Rat} {q:Int}:∀{os:List Int},(∀p∈os,g p=0∨∀x∈W p,x.2≠q)→gsum W g q os=0
 | [],_=>rfl
 | o::os,h=>by
  show g o*pr (tt (W o)) q (W o)+gsum W g q os=0
  rw[gsum_nought fun p hp=>h p (List.mem_cons_of_mem _ hp)]
  rcases h o List.mem_cons_self with z | z
  ·rw[z];grind
  ·rw[pr_zero z];grind
theorem StV.eq {ps:List Int} {W:Int→Wy} {S T:Bk} (h:StV ps W S T) (B0:0<S.2) (t0:∀p∈ps,0<tt (W p)) {q:Int} (q0:0≤q):val T q=val S q+gsum W (val T) q ps:=by
 rcases h with ⟨rfl,z⟩ | ⟨d,x,d0,e2,_,xi,all⟩
 ·rw[gsum_nought fun p hp=>.inl (by unfold val;rw[z p hp];show((0:Int):Rat) / _=0;grind)]
  grind
 ·have T0:0<T.2:=by rw[e2];exact Int.mul_pos B0 d0
  have key:∀k,k≤ps.length→gsum W (val T) q (ps.take k)=(Bar.sm k (fun i=>x.getD i 0*isel q (W (ps.getD i 0))):Rat) / (T.2:Rat):=by
   intro k
   induction k with
   | zero=>intro _;show(0:Rat)=((0:Int):Rat) / _;grind
   | succ k ih=>
    intro hk
    have e:ps.getD k 0=ps[k]:=by rw[List.getD_eq_getElem?_getD,List.getElem?_eq_getElem (by omega)];rfl
    have tk:ps.take (k+1)=ps.take k++ [ps[k]]:=by rw[List.take_add_one,List.getElem?_eq_getElem (by omega)];rfl
    have tp:=t0 _ (List.getElem_mem (show k<ps.length by omega))
    rw[tk,gsum_snoc,ih (by omega),←isel_pr tp]
    show _+val T ps[k]*_=((Bar.sm k (fun i=>x.getD i 0*isel q (W (ps.getD i 0)))+x.getD k 0*isel q (W (ps.getD k 0)):Int):Rat) / _
    have v:val T ps[k]=(x.getD k 0:Rat)* (tt (W ps[k]):Rat) / (T.2:Rat):=by
     have:=xi k (by omega)
     rw[e] at this
     unfold val
     rw[this,Rat.intCast_mul]
    rw[v,e,Rat.intCast_add,Rat.intCast_mul]
    have h1:=rne T0
    have h2:=rne tp
    generalize (T.2:Rat)=a at *
    generalize (tt (W ps[k]):Rat)=b at *
    generalize (x.getD k 0:Rat)=c at *
    generalize (isel q (W ps[k]):Rat)=u at *
    generalize ((Bar.sm k (fun i=>x.getD i 0*isel q (W (ps.getD i 0))):Int):Rat)=m at *
    clear ih
    grind
  have k:=key ps.length (Nat.le_refl _)
  rw[List.take_length] at k
  rw[k]
  unfold val
  rw[all q q0,e2,Rat.intCast_add,Rat.intCast_mul,Rat.intCast_mul]
  have h1:=rne B0
  have h2:=rne d0
  generalize (S.2:Rat)=a at *
  generalize (d:Rat)=b at *
  generalize ((S.1.getD q.toNat 0:Int):Rat)=c at *
  generalize ((Bar.sm ps.length (fun i=>x.getD i 0*isel q (W (ps.getD i 0))):Int):Rat)=m at *
  clear k key
  grind
theorem RowP.turned {ps:List Int} {W:Int→Wy} {lv:Int→Nat} {L:List (List Int)} (R:RowP ps W L) (nd:ps.Nodup) (pos:∀p∈ps,∀x∈W p,1≤x.1) (dn:∀p∈ps,W p=[]∨∃x∈W p,lv x.2<lv p):¬Bar.ColRel (Bar.trn L) ps.length:=by
 rintro⟨g,k,hk,gk,rel⟩
 have sq:Bar.Sq L ps.length:=⟨R.1,R.2.1⟩
 apply gk
 have gd:∀i,i<ps.length→ps.getD i 0=ps[i]!∧ps.getD i 0∈ps:=fun i hi=>⟨by rw[List.getD_eq_getElem?_getD];simp [hi],by rw[List.getD_eq_getElem?_getD,List.getElem?_eq_getElem hi];exact List.getElem_mem hi⟩
 have row:∀i,i<ps.length→tt (W (ps.getD i 0))*g i=Bar.sm ps.length (fun j=>g j*isel (ps.getD i 0) (W (ps.getD j 0))):=fun i hi=>by
  have r:Bar.sm ps.length (fun j=>g j*Bar.cell (Bar.trn L) i j)=0:=rel i hi
  have e:Bar.sm ps.length (fun j=>g j*Bar.cell (Bar.trn L) i j)=Bar.sm ps.length (fun j=>tt (W (ps.getD i 0))* (g j* (if j=i then 1 else 0))+ (-1)* (g j*isel (ps.getD i 0) (W (ps.getD j 0)))):=Bar.sm_congr fun j hj=>by
   rw[Bar.trn_cell sq hi hj,show Bar.cell L j i=(L.getD j []).getD i 0 from rfl,R.2.2 j i hj hi]
   by_cases c:j=i
   ·subst c
    rw[if_pos rfl,if_pos rfl,Int.mul_sub,Int.mul_one,Int.mul_comm (g j) (tt _)]
    omega
   ·rw[if_neg c,if_neg c,Int.mul_sub,Int.mul_zero,Int.mul_zero]
    omega
  rw[e,Bar.sm_add,Bar.sm_mul,Bar.sm_mul,Bar.sm_one,if_pos hi] at r
  omega
 let v:Int→Rat:=fun p=>if p∈ps then ((g (ps.idxOf p)*tt (W p):Int):Rat) else 0
 have vat:∀i,i<ps.length→v (ps.getD i 0)=((g i*tt (W (ps.getD i 0)):Int):Rat):=fun i hi=>by
  have m:=(gd i hi).2
  have o:=onP_at nd g hi
  unfold onP at o
  rw[if_pos m] at o
  show(if ps.getD i 0∈ps then _ else _)=_
  rw[if_pos m,o]
 have key:∀q,∀k,k≤ps.length→gsum W v q (ps.take k)=((Bar.sm k (fun j=>g j*isel q (W (ps.getD j 0))):Int):Rat):=by
  intro q k
  induction k with
  | zero=>intro _;rfl
  | succ k ih=>
   intro hk
   have e:ps.getD k 0=ps[k]:=by rw[List.getD_eq_getElem?_getD,List.getElem?_eq_getElem (by omega)];rfl
   have tk:ps.take (k+1)=ps.take k++ [ps[k]]:=by rw[List.take_add_one,List.getElem?_eq_getElem (by omega)];rfl
   have tp:=(tt_one (pos _ (List.getElem_mem (show k<ps.length by omega)))).1
   have va:=vat k (by omega)
   rw[e] at va
   rw[tk,gsum_snoc,ih (by omega),←isel_pr tp,va]
   show _=((Bar.sm k (fun j=>g j*isel q (W (ps.getD j 0)))+g k*isel q (W (ps.getD k 0)):Int):Rat)
   rw[e,Rat.intCast_add,Rat.intCast_mul,Rat.intCast_mul]
   have h2:=rne tp
   generalize (tt (W ps[k]):Rat)=b at *
   generalize (g k:Rat)=c at *
   generalize (isel q (W ps[k]):Rat)=u at *
   generalize ((Bar.sm k (fun j=>g j*isel q (W (ps.getD j 0))):Int):Rat)=m at *
   clear ih va vat
   grind
 have z:=flow_zero (v:=v) (lv:=lv) nd pos (fun q hq=>by
  obtain⟨i,hi,rfl⟩:=List.getElem_of_mem hq
  have e:ps.getD i 0=ps[i]:=by rw[List.getD_eq_getElem?_getD,List.getElem?_eq_getElem hi];rfl
  have k:=key ps[i] ps.length (Nat.le_refl _)
  rw[List.take_length] at k
  have va:=vat i hi
  have r:=row i hi
  rw[e] at va r
  rw[k,va,←r,Int.mul_comm]) dn (ps.getD k 0) (gd k hk).2
 rw[vat k hk] at z
 have z:g k*tt (W (ps.getD k 0))=0:=Rat.intCast_inj.mp z
 have tp:=(tt_one (pos _ (gd k hk).2)).1
 rcases Int.mul_eq_zero.mp z with h | h
 ·exact h
 ·omega
theorem sm_bd {f:Nat→Int} {b:Nat}:∀{n},(∀i,i<n→(f i).natAbs≤b)→(Bar.sm n f).natAbs≤n*b
 | 0,_=>by show(0:Int).natAbs≤_;simp
 | n+1,h=>by
  have ih:=sm_bd (f:=f) (b:=b) (n:=n) fun i hi=>h i (by omega)
  have:=h n (Nat.lt_succ_self _)
  show(Bar.sm n f+f n).natAbs≤(n+1)*b
  rw[Nat.add_mul]
  omega
theorem vis_sz {n M X:Nat} {ps x:List Int} {W:Int→Wy} {d t q:Int} (p0:0<ps.length) (p16:ps.length≤16) (wk:∀p∈ps,Wk5 n (W p)) (zx:∀j,j<ps.length→(x.getD j 0).natAbs≤X) (hX:X≤2^ (M+ (25*ps.length+5))) (bd:Bt (25*ps.length+6) d) (bt:Bt M t):Bt (M+92*ps.length) (t*d+Bar.sm ps.length (fun i=>x.getD i 0*isel q (W (ps.getD i 0)))):=by
 have s:=sm_bd (f:=fun i=>x.getD i 0*isel q (W (ps.getD i 0))) (b:=X*1000000) (n:=ps.length) fun i hi=>by
  have m:ps.getD i 0∈ps:=by rw[List.getD_eq_getElem?_getD,List.getElem?_eq_getElem hi];exact List.getElem_mem hi
  have k:=isel5 (q:=q) fun y hy=>((wk _ m).2 y hy).1
  have u:=(wk _ m).tot
  rw[Int.natAbs_mul]
  exact Nat.mul_le_mul (zx i hi) (by omega)
 have b1:=bt.mul bd
 unfold Bt at b1 ⊢
 have e1:(2:Nat)^ (M+ (25*ps.length+6))=2^ (M+ (25*ps.length+5))*2:=by rw[show M+ (25*ps.length+6)=M+ (25*ps.length+5)+1 by omega,Nat.pow_succ]
 have e2:(2:Nat)^ (M+92*ps.length)=2^ (M+ (25*ps.length+5))*2^ (67*ps.length - 5):=by rw[←Nat.pow_add];congr 1;omega
 have e3:(2:Nat)^30≤2^ (67*ps.length - 5):=Nat.pow_le_pow_right (by decide) (by omega)
 have P0:0<2^ (M+ (25*ps.length+5)):=Nat.pow_pos (by decide)
 rw[e2]
 rw[e1] at b1
 generalize (2:Nat)^ (M+ (25*ps.length+5))=P at *
 have m1:ps.length* (X*1000000)≤16* (P*1000000):=Nat.mul_le_mul p16 (Nat.mul_le_mul_right _ hX)
 have m2:P*2^30≤P*2^ (67*ps.length - 5):=Nat.mul_le_mul_left _ e3
 omega
end Dg
theorem trn_bd2 {M:List (List Int)} {b:Nat} (h:∀r∈M,∀x∈r,x.natAbs≤b):∀r∈Bar.trn M,∀x∈r,x.natAbs≤b:=by
 intro r hr x hx
 unfold Bar.trn at hr
 obtain⟨c,hc,rfl⟩:=List.mem_map.mp hr
 obtain⟨q,hq,rfl⟩:=List.mem_map.mp hx
 rw[List.getD_eq_getElem?_getD]
 cases e:q[c]? with
 | none=>exact Nat.zero_le _
 | some y=>exact h q hq y (List.mem_of_getElem? e)
theorem Dg.RowP.tsol {ps:List Int} {W:Int→Dg.Wy} {L:List (List Int)} {C x:List Int} {d:Int} (R:Dg.RowP ps W L) (so:∀i,i<ps.length→Bar.sm ps.length (fun j=>Bar.cell (Bar.trn L) i j*x.getD j 0)=C.getD i 0*d) {i:Nat} (hi:i<ps.length):x.getD i 0*Dg.tt (W (ps.getD i 0))=C.getD i 0*d+Bar.sm ps.length (fun j=>x.getD j 0*Dg.isel (ps.getD i 0) (W (ps.getD j 0))):=by
 have sq:Bar.Sq L ps.length:=⟨R.1,R.2.1⟩
 have e:Bar.sm ps.length (fun j=>Bar.cell (Bar.trn L) i j*x.getD j 0)=Bar.sm ps.length (fun j=>Dg.tt (W (ps.getD i 0))* (x.getD j 0* (if j=i then 1 else 0))+ (-1)* (x.getD j 0*Dg.isel (ps.getD i 0) (W (ps.getD j 0)))):=Bar.sm_congr fun j hj=>by
  rw[Bar.trn_cell sq hi hj,show Bar.cell L j i=(L.getD j []).getD i 0 from rfl,R.2.2 j i hj hi,Int.mul_comm]
  by_cases c:j=i
  ·subst c
   rw[if_pos rfl,if_pos rfl,Int.mul_sub,Int.mul_one,Int.mul_comm (x.getD j 0) (Dg.tt _)]
   omega
  ·rw[if_neg c,if_neg c,Int.mul_sub,Int.mul_zero,Int.mul_zero]
   omega
 have s:=so i hi
 rw[e,Bar.sm_add,Bar.sm_mul,Bar.sm_mul,Bar.sm_one,if_pos hi] at s
 rw[Int.mul_comm (x.getD i 0)]
 omega
noncomputable def ind (st:Nat) (q:Int):Rat:=if q=(st:Int) then 1 else 0
noncomputable def rgI (n:Nat):List Int:=(List.range n).map fun(i:Nat)=>(i:Int)
theorem rgI_mem {b:List Pl} {x:Int}:x∈rgI b.length↔Pr.In b x:=by
 constructor
 ·intro hx
  obtain⟨j,hj,rfl⟩:=List.mem_map.mp hx
  have:=List.mem_range.mp hj
  exact⟨by omega,by omega⟩
 ·intro hx
  obtain⟨j,rfl⟩:=Int.eq_ofNat_of_zero_le hx.1
  exact List.mem_map.mpr ⟨j,List.mem_range.mpr (by have:=hx.2;omega),rfl⟩
theorem rgI_nd (n:Nat):(rgI n).Nodup:=List.pairwise_map.mpr (List.nodup_range.imp fun h z=>h (by omega))
noncomputable def VqAt (b:List Pl) (ks:List (Option Int)) (st:Nat) (v:Int→Rat):Prop:=∀q,Pr.In b q→v q=ind st q+Dg.gsum (wyAt (wysP b ks)) v q (rgI b.length)
structure VInv (b:List Pl) (ks:List (Option Int)) (st:Nat) (os:List Int) (S:Dg.Bk):Prop where
 sz:Dg.Sz b.length (330+92*os.length) S
 eq:∀q,Pr.In b q→Dg.val S q=ind st q+Dg.gsum (wyAt (wysP b ks)) (Dg.val S) q os
theorem VInv.start {b:List Pl} {ks:List (Option Int)} {st:Nat} (h:st<b.length):VInv b ks st [] ((List.replicate b.length (0:Int)).set st 1,1):=by
 refine⟨⟨by rw[List.length_set,List.length_replicate],by show(0:Int)<1;decide,by show Bt (330+92*0) (1:Int);exact Bt.mono (m:=1) (Bt.of 1 (by decide) (by decide)) (by decide),fun q=>?_⟩,fun q hq=>?_⟩
 ·show Bt _ (((List.replicate b.length (0:Int)).set st 1).getD q 0)
  refine Bt.mono (m:=1) ?_ (by show 1≤330+92*0;decide)
  rw[List.getD_eq_getElem?_getD,List.getElem?_set,List.getElem?_replicate]
  split
  ·split <;>exact Bt.of 1 (by decide) (by decide)
  ·split <;>exact Bt.of 1 (by decide) (by decide)
 ·show(((List.replicate b.length (0:Int)).set st 1).getD q.toNat 0:Rat) / ((1:Int):Rat)=ind st q+0
  have q0:=hq.1
  unfold ind
  by_cases e:q=(st:Int)
  ·rw[if_pos e,e,Int.toNat_natCast,Dg.getD_set_eq (by rw[List.length_replicate];exact h),Dg.r11]
   grind
  ·rw[if_neg e,Dg.getD_set_ne (by omega),List.getD_eq_getElem?_getD,List.getElem?_replicate]
   have:((if q.toNat<b.length then some (0:Int) else none).getD 0)=0:=by split <;>rfl
   rw[this,Dg.r01]
   grind
theorem VInv.step {b:List Pl} {rk:Int→Nat} {ks:List (Option Int)} {ps os:List Int} {st i:Nat} {S S':Dg.Bk} {h:Int} (B:BdW b rk) (T:Pr.Told b ps) (ko:PksO b ks) (I:VInv b ks st os S) (e:ps[i]?=some h) (ho:∀q∈os,Pr.In b q∧i<ixP b ps q)
  (sv:Dg.StV (Pr.prt b h) (wyAt (wysP b ks)) S S') (sz:Dg.Sz b.length (330+92*os.length+92* (Pr.prt b h).length) S'):VInv b ks st (os++Pr.prt b h) S':=by
 have ih:=T.inB (List.mem_of_getElem? e)
 have inp:∀q∈Pr.prt b h,Pr.In b q:=fun q hq=>Pr.prt_in B.lad.good ih hq
 have t0:∀p∈Pr.prt b h,0<Dg.tt (wyAt (wysP b ks) p):=fun p hp=>by have:=(B.wk ko (inp p hp)).1.tt;omega
 have ve:∀q,0≤q→Dg.val S' q=Dg.val S q+Dg.gsum (wyAt (wysP b ks)) (Dg.val S') q (Pr.prt b h):=fun q q0=>sv.eq I.sz.pos t0 q0
 have same:∀p∈os,Dg.val S p=Dg.val S' p:=fun p hp=>by
  obtain⟨i1,i2⟩:=ho p hp
  rw[ve p i1.1,Dg.gsum_nought fun r hr=>.inr fun x hx z=>?_]
  ·grind
  ·have a:=(B.wk ko (inp r hr)).2 x hx
   have c:=(ix_goal B T (inp r hr) a).1
   rw[z,ix_mem B T e hr] at c
   omega
 refine⟨?_,fun q hq=>?_⟩
 ·rw[List.length_append,Nat.mul_add,←Nat.add_assoc]
  exact sz
 ·rw[ve q hq.1,I.eq q hq,Dg.gsum_append,Dg.gsum_congr (g':=Dg.val S') fun p hp _=>same p hp]
  grind
theorem visits_sole {b:List Pl} {rk:Int→Nat} {ks:List (Option Int)} {st:Nat} {v v':Int→Rat} (B:BdW b rk) (ko:PksO b ks) (h:VqAt b ks st v) (h':VqAt b ks st v'):∀p,Pr.In b p→v p=v' p:=fun p hp=>
 Dg.sole_visits (s:=ind st) (rgI_nd b.length) (fun q hq x hx=>((B.wk ko (rgI_mem.mp hq)).1.2 x hx).1) (fun q hq=>h q (rgI_mem.mp hq)) (fun q hq=>h' q (rgI_mem.mp hq)) (fun q hq=>B.dn ko (rgI_mem.mp hq)) p (rgI_mem.mpr hp)
noncomputable def spWv2 (C:Addr):Sp:=fun vs H Q _=>∃(bk pt wl:Addr) (S:Dg.Bk) (ps:List Int) (n M:Nat) (xs:List V) (wss:List Dg.Wy) (lv:Int→Nat),vs=[.ref bk,.ref pt,.ref wl]∧BkH C H bk S∧H pt=some (.lst (ps.map V.int))∧H wl=some (.lst xs)∧RepL H (wss.map wyD) xs∧
 wss.length=n∧n≤16∧ps.Nodup∧0<ps.length∧ps.length≤16∧(∀p∈ps,0≤p∧p< (n:Int))∧(∀ws∈wss,Dg.Wk5 n ws)∧(∀p∈ps,wyAt wss p=[]∨∃x∈wyAt wss p,lv x.2<lv p)∧
 Dg.Sz n M S∧20≤M∧M+92*ps.length<3900∧
 ∀x T H',Same H H'→BkH C H' x T→Dg.StV ps (wyAt wss) S T→Dg.Sz n (M+92*ps.length) T→Q (.ref x) H'
noncomputable def spVi2 (tp:Addr):Sp:=fun vs H Q _=>∃(a c:Addr) (st:Nat) (b:List Pl) (rk:Int→Nat) (ks:List (Option Int)),vs=[.ref a,.ref c,.int (st:Int)]∧Rep H (brD b) (.ref a)∧BdW b rk∧H c=some (.lst (ks.map pkV))∧PksO b ks∧H tp=some (.tbl dsc)∧st<b.length∧
 ∀l (S:Dg.Bk) H',Same H H'→H l=none→Rep H' (.lst ((S.1.map fun t=>Wq.low t S.2).map wrowD)) (.ref l)→Dg.Sz b.length (330+92*b.length) S→VqAt b ks st (Dg.val S)→Q (.ref l) H'
noncomputable def spC (K:PySem.W.Frag):Sp:=fun vs H Q _=>∃a ns k,vs=[.ref a,.int k]∧SqL K H a (List.map V.int ns)∧0≤k∧k<1000∧∀n,Q (.int n) H
noncomputable def spMix:Sp:=fun vs H Q _=>∃c m,vs=[.int c,.int m]∧0<m∧∀r,0≤r→r<m→Q (.int r) H
noncomputable def spLow:Sp:=fun vs H Q _=>∃a b,vs=[.int a,.int b]∧0<b∧Bt 8900 b∧∀p H',Same H H'→H p=none→H' p=some (.tup (Pr (Nm.st a b) (Nm.sb a b)))→Q (.ref p) H'
noncomputable def Rm (a:Wq.Sh):Prop:=Bt 4000 a.1∧Bt 4000 a.2∧0<a.2
noncomputable def spPls:Sp:=fun vs H Q _=>∃p q a b,vs=[.ref p,.ref q]∧H p=some (.tup (Pr a.1 a.2))∧H q=some (.tup (Pr b.1 b.2))∧Rm a∧Rm b∧
 ∀r H',Same H H'→H r=none→H' r=some (.tup (Pr (Wq.pl a b).1 (Wq.pl a b).2))→Q (.ref r) H'
noncomputable def spTms:Sp:=fun vs H Q _=>∃p q a b,vs=[.ref p,.ref q]∧H p=some (.tup (Pr a.1 a.2))∧H q=some (.tup (Pr b.1 b.2))∧Rm a∧Rm b∧
 ∀r H',Same H H'→H r=none→H' r=some (.tup (Pr (Wq.tm a b).1 (Wq.tm a b).2))→Q (.ref r) H'
noncomputable def spTrn:Sp:=fun vs H Q _=>∃c n,vs=[.int c,.int n]∧0<n∧n≤60∧∀l H' s,Same H H'→H l=none→H' l=some (.lst (List.map natV s))→s.Perm (List.range n.toNat)→Q (.ref l) H'
noncomputable def spIs:Sp:=fun vs H Q _=>∃p x y,vs=[.ref p]∧H p=some (.tup (Pr x y))∧0<y∧Bt 5000 y∧Nm.g x y=1∧∀H',Same H H'→Q (.bl true) H'
noncomputable def spAre:Sp:=fun vs H Q _=>∃(a:Addr) (ws:List (Int×Int)),vs=[.ref a,.int (ws.length:Nat)]∧Rep H (.lst (ws.map wrowD)) (.ref a)∧ws.length≤60∧(∀p∈ws,0<p.2∧Bt 5000 p.2∧Nm.g p.1 p.2=1)∧∀H',Same H H'→Q (.bl true) H'
noncomputable def PtR (H:Hp) (W:Int) (p:Int×Int) (x:V):Prop:=∃t r,x=.ref t∧H t=some (.tup [.ref r,.int p.2])∧H r=some (.tup (Pr (Wq.low p.1 W).1 (Wq.low p.1 W).2))
theorem PtR.mono {H H':Hp} {W:Int} {p:Int×Int} {x:V} (h:PtR H W p x) (s:Same H H'):PtR H' W p x:=by
 obtain⟨t,r,e,h1,h2⟩:=h
 exact⟨t,r,e,s _ _ h1,s _ _ h2⟩
noncomputable def Shz (Z M:Int) (x:Wq.Sh):Prop:=Wq.Lw x∧x.2∣Z∧Wq.Vb M x
noncomputable def LdOk (s:List Nat) (k:Nat) (q:Pl):Prop:=PkG s.length q∧match q with
 | .fin _=>True
 | .thr _ ws=>∃x∈ws,∃j,j<k∧s[j]?=some x.2.toNat
 | .pck _ to=>∀g∈to,∃j,j<k∧s[j]?=some g.toNat
noncomputable def WT (H:Hp) (n:Int) (x:V):Prop:=∃q w t,x=.ref q∧H q=some (.tup [.int w,.int t])∧(1≤w∧w≤200000)∧0≤t∧t<n
theorem WT.mono {H H':Hp} {n:Int} {x:V} (s:Same H H') (h:WT H n x):WT H' n x:=by
 obtain⟨q,w,t,e,hq,r⟩:=h
 exact⟨q,w,t,e,s _ _ hq,r⟩
theorem WT.put {H:Hp} {n:Int} {x:V} {p:Addr} {xs:List V} {o:HO} (hp:H p=some (.lst xs)) (h:WT H n x):WT (upd H p o) n x:=by
 obtain⟨q,w,t,e,hq,r⟩:=h
 refine⟨q,w,t,e,?_,r⟩
 rw[upd_ne (fun z=>by rw[z,hp] at hq;cases hq)]
 exact hq
theorem ex_repL {α:Type} {H:Hp} {f:α→Dat} {P:Nat→α→Prop}:∀{xs:List V},(∀(i:Nat) x,xs[i]?=some x→∃a,Rep H (f a) x∧P i a)→∃as:List α,RepL H (as.map f) xs∧as.length=xs.length∧∀(i:Nat) a,as[i]?=some a→P i a:=by
 intro xs h
 have hc:∀i:Nat,∃a:Option α,∀x,xs[i]?=some x→∃a',a=some a'∧Rep H (f a') x∧P i a':=fun i=>by
  cases e:xs[i]? with
  | none=>exact⟨none,fun x z=>by cases z⟩
  | some x=>
   obtain⟨a,h1,h2⟩:=h i x e
   exact⟨some a,fun y z=>by cases z;exact⟨a,rfl,h1,h2⟩⟩
 have ⟨g,hg⟩:=Classical.axiomOfChoice hc
 have key:∀n,n≤xs.length→∃as:List α,as.length=n∧∀(i:Nat) a,as[i]?=some a→g i=some a:=by
  intro n
  induction n with
  | zero=>exact fun _=>⟨[],rfl,fun i a e=>by simp at e⟩
  | succ n ih=>
   intro hn
   obtain⟨as,l,o⟩:=ih (by omega)
   obtain⟨a,ea,_⟩:=hg n _ (List.getElem?_eq_getElem (show n<xs.length by omega))
   refine⟨as++ [a],by simp [l],fun i b e=>?_⟩
   by_cases c:i<as.length
   ·rw[List.getElem?_append_left c] at e
    exact o i b e
   ·rw[List.getElem?_append_right (by omega)] at e
    have:i - as.length<1:=(List.getElem?_eq_some_iff.mp e).1
    rw[show i - as.length=0 by omega] at e
    cases e
    rw[show i=n by omega]
    exact ea
 obtain⟨as,l,o⟩:=key xs.length (Nat.le_refl _)
 refine⟨as,repL_map l.symm fun i y ey a ea=>?_,l,fun i a ea=>?_⟩
 ·obtain⟨a',e1,r,_⟩:=hg i y ey
  rw[o i a ea] at e1
  cases e1
  exact r
 ·have hi:=(List.getElem?_eq_some_iff.mp ea).1
  obtain⟨a',e1,_,p⟩:=hg i _ (List.getElem?_eq_getElem (show i<xs.length by omega))
  rw[o i a ea] at e1
  cases e1
  exact p
noncomputable def spShr:Sp:=fun vs H Q _=>∃c k,vs=[.int c,.int k]∧0≤k∧k<1000∧∀p H' a,Same H H'→H p=none→H' p=some (.tup (Pr a.1 a.2))→GS a→Q (.ref p) H'
noncomputable def spThr:Sp:=fun vs H Q _=>∃c k n,vs=[.int c,.int k,.int n]∧0<k∧k<n∧∀l H' xs,Same H H'→H' l=some (.lst xs)→(∀x∈xs,WT H' n x)→(∃x∈xs,WT H' k x)→0<xs.length→xs.length≤5→Q (.ref l) H'
noncomputable def spBrd (K:PySem.W.Frag):Sp:=fun vs H Q _=>∃(a:Addr) (ns:List Int) (n:Nat),vs=[.ref a,.int 2,.int (n:Int)]∧SqL K H a (List.map V.int ns)∧0<n∧n≤8∧∀l H' (b:List Pl) rk,Same H H'→H l=none→Rep H' (brD b) (.ref l)→b.length=n→BdW b rk→Q (.ref l) H'
noncomputable def spPck:Sp:=fun vs H Q _=>∃(a:Addr) (b:List Pl) (c:Int),vs=[.ref a,.int c]∧Rep H (brD b) (.ref a)∧b.length≤16∧(∀q∈b,PkG b.length q)∧∀l H' ks,Same H H'→H l=none→H' l=some (.lst (List.map pkV ks))→PksO b ks→Q (.ref l) H'
noncomputable def spCpy:Sp:=fun vs H Q _=>∃a b,vs=[.ref a]∧Rep H (brD b) (.ref a)∧b.length≤16∧∀l H',Same H H'→H l=none→Rep H' (brD b) (.ref l)→Q (.ref l) H'
noncomputable def spWy:Sp:=fun vs H Q _=>∃(a c:Addr) (i:Nat) (b:List Pl) (n:Nat) (q:Pl) (ks:List (Option Int)) (k:Option Int),vs=[.ref a,.ref c,.int (i:Int)]∧Rep H (brD b) (.ref a)∧b[i]?=some q∧PkG n q∧H c=some (.lst (List.map pkV ks))∧ks[i]?=some k∧PkO q k∧
 ∀l us H',Same H H'→H l=none→H' l=some (.lst us)→us.length=(wyP q k).length→(∀(j:Nat) p x,(wyP q k)[j]?=some p→us[j]?=some x→PtR H' (Dg.tt (wyP q k)) p x)→Q (.ref l) H'
noncomputable def shS (S:Dg.Bk):List Wq.Sh:=S.1.map fun t=>Wq.low t S.2
noncomputable def spLaw (K:PySem.W.Frag) (tp:Addr):Sp:=fun vs H Q _=>∃(a:Addr) (ns:List Int),vs=[.ref a]∧H tp=some (.tbl dsc)∧SqL K H a (ns.map V.int)∧ns.length≤63∧∀H',Q (.bl true) H'
theorem bd_of {s:List Nat} {b:List Pl} (pm:s.Perm (List.range s.length)) (l0:0<s.length) (l8:s.length≤8) (lb:b.length=s.length) (ok:∀(k:Nat) p q,s[k]?=some p→b[p]?=some q→LdOk s k q):BdW b (fun g=>s.idxOf g.toNat):=by
 have at_:∀{p:Nat},p<b.length→∃k,s[k]?=some p:=fun hp=>List.getElem?_of_mem (pm.mem_iff.mpr (List.mem_range.mpr (by omega)))
 have okb:∀q∈b,PkG b.length q:=fun q hq=>by
  obtain⟨p,ep⟩:=List.getElem?_of_mem hq
  obtain⟨k,ek⟩:=at_ (List.getElem?_eq_some_iff.mp ep).1
  rw[lb]
  exact(ok k p q ek ep).1
 have lad:Lad b (fun g=>s.idxOf g.toNat):=by
  refine⟨⟨fun q hq g hg=>?_,fun q hq w to e=>?_⟩,fun i g ws e=>?_,fun i w to e g hg=>?_⟩
  ·have:=okb q hq
   cases q with
   | fin w=>simp [Lv.gls] at hg
   | thr w ws=>
    obtain⟨x,hx,rfl⟩:=List.mem_map.mp hg
    exact(this.2.2.2 x hx).2.2
   | pck w to=>exact this.2.2.2 g hg
  ·subst e
   have:=(okb _ hq).2.1
   exact fun z=>by rw[z] at this;cases this
  ·obtain⟨k,ek⟩:=at_ (List.getElem?_eq_some_iff.mp e).1
   obtain⟨x,hx,j,jk,ej⟩:=(ok k i _ ek e).2
   refine⟨x,hx,?_⟩
   show s.idxOf x.2.toNat<s.idxOf ((i:Int)).toNat
   rw[Int.toNat_natCast,Lv.nm_idx pm ej,Lv.nm_idx pm ek]
   exact jk
  ·obtain⟨k,ek⟩:=at_ (List.getElem?_eq_some_iff.mp e).1
   obtain⟨j,jk,ej⟩:=(ok k i _ ek e).2 g hg
   show s.idxOf g.toNat<s.idxOf ((i:Int)).toNat
   rw[Int.toNat_natCast,Lv.nm_idx pm ej,Lv.nm_idx pm ek]
   exact jk
 exact⟨by omega,by omega,okb,lad,fun p hp=>cap_of lad okb (by omega) hp⟩
theorem tm_vb {L W M w:Int} {y:Wq.Sh} (hy:0<y.2) (L0:0<L) (W0:0<W) (dy:y.2∣L) (w0:0≤w) (w1:w≤W) (M0:0≤M) (v:Wq.Vb M y):Wq.Vb M (Wq.tm (Wq.low w W) y):=by
 obtain⟨t1,t2,t3⟩:=Wq.tm_sc (w:=w) hy L0 W0 dy
 refine(Wq.vb_sc t1.1 (Int.mul_pos L0 W0) t2).mpr ?_
 obtain⟨c1,c2⟩:=(Wq.vb_sc hy L0 dy).mp v
 have ml:0≤M*L:=Int.mul_nonneg M0 (by omega)
 have m1:=Int.mul_le_mul_of_nonneg_left c1 w0
 have m2:=Int.mul_le_mul_of_nonneg_left c2 w0
 have m3:=Int.mul_le_mul_of_nonneg_right w1 ml
 rw[Int.mul_neg] at m1
 have e:M* (L*W)=W* (M*L):=by rw[←Int.mul_assoc,Int.mul_comm (M*L) W]
 rw[t3,e]
 omega
theorem vb_up {M N:Int} {x:Wq.Sh} (h:Wq.Vb M x) (l:M≤N) (x0:0<x.2):Wq.Vb N x:=by
 have:=Int.mul_le_mul_of_nonneg_right l (show 0≤x.2 by omega)
 unfold Wq.Vb at h ⊢
 omega
theorem Shz.rm {Z M:Int} {x:Wq.Sh} (h:Shz Z M x) (Z0:0<Z) (bZ:Bt 1950 Z) (M0:0≤M) (bM:Bt 1950 M):Rm x:=by
 obtain⟨lx,d,v⟩:=h
 have l0:=lx.1
 have b2:Bt 1950 x.2:=bZ.le (by have:=Int.le_of_dvd Z0 d;omega)
 have b1:Bt 3900 (M*x.2):=bM.mul b2
 exact⟨Bt.mono (b1.le (by obtain⟨v1,v2⟩:=v;omega)) (by decide),b2.mono (by decide),l0⟩
theorem Shz.up {Z Z' M M':Int} {x:Wq.Sh} (h:Shz Z M x) (hZ:Z∣Z') (hM:M≤M'):Shz Z' M' x:=⟨h.1,Int.dvd_trans h.2.1 hZ,vb_up h.2.2 hM h.1.1⟩
theorem Shz.acc {Z M N d w:Int} {x y:Wq.Sh} (hx:Shz (Z*d) N x) (hy:Shz Z M y) (Z0:0<Z) (d0:0<d) (w0:0≤w) (w1:w≤d) (M0:0≤M):Shz (Z*d) M (Wq.tm (Wq.low w d) y)∧Shz (Z*d) (N+M) (Wq.pl x (Wq.tm (Wq.low w d) y)):=by
 have Zd:0<Z*d:=Int.mul_pos Z0 d0
 obtain⟨t1,t2,t3⟩:=Wq.tm_sc (w:=w) hy.1.1 Z0 d0 hy.2.1
 have tv:=tm_vb hy.1.1 Z0 d0 hy.2.1 w0 w1 M0 hy.2.2
 obtain⟨p1,p2,p3⟩:=Wq.pl_sc hx.1.1 t1.1 Zd hx.2.1 t2
 refine⟨⟨t1,t2,tv⟩,p1,p2,(Wq.vb_sc p1.1 Zd p2).mpr ?_⟩
 have a1:=(Wq.vb_sc hx.1.1 Zd hx.2.1).mp hx.2.2
 have a2:=(Wq.vb_sc t1.1 Zd t2).mp tv
 rw[p3,Int.add_mul]
 omega
theorem low_rm {w d:Int} (w0:0≤w) (w1:w≤1000000) (d0:0<d) (d1:d≤1000000):Rm (Wq.low w d):=by
 have g0:0<Nm.g w d:=Nm.g_pos (by omega)
 have q1:=Nm.quot_abs (a:=w) g0 (Nm.g_dvd_l w d)
 have q2:=Nm.quot_abs (a:=d) g0 (Nm.g_dvd_r w d)
 have e1:(Wq.low w d).1=w / Nm.g w d:=(Nm.st_pos d0).1
 have e2:(Wq.low w d).2=d / Nm.g w d:=(Nm.st_pos d0).2
 have lw:=Wq.low_lw (a:=w) d0
 exact⟨Bt.mono (m:=20) (Bt.of 1000000 (by omega) (by omega)) (by decide),Bt.mono (m:=20) (Bt.of 1000000 (by omega) (by omega)) (by decide),lw.1⟩
theorem atW_at {ss:List Wq.Sh} {q:Int} (h0:0≤q) (h:q< (ss.length:Int)):ss[q.toNat]?=some (Wq.atW ss q):=by
 unfold Wq.atW
 rw[List.getD_eq_getElem?_getD,List.getElem?_eq_getElem (show q.toNat<ss.length by omega)]
 rfl
theorem tt_ge {ws:Dg.Wy} (h:∀y∈ws,1≤y.1) {x:Int×Int} (hx:x∈ws):x.1≤Dg.tt ws:=by
 have go:∀{ws:Dg.Wy},(∀y∈ws,1≤y.1)→0≤Wq.totW ws∧∀{x:Int×Int},x∈ws→x.1≤Wq.totW ws:=by
  intro ws
  induction ws with
  | nil=>exact fun _=>⟨Int.le_refl _,fun hx=>by simp at hx⟩
  | cons y ws ih=>
   intro h
   obtain⟨i1,i2⟩:=ih fun z hz=>h z (List.mem_cons_of_mem _ hz)
   have h1:=h y List.mem_cons_self
   rw[Dg.totW_cons]
   refine⟨by omega,fun hx=>?_⟩
   rcases List.mem_cons.mp hx with rfl | hx
   ·omega
   ·have:=i2 hx
    omega
 unfold Dg.tt
 rw[if_neg (List.ne_nil_of_mem hx)]
 exact(go h).2 hx
theorem low11:Wq.low 1 1=(1,1):=by decide
theorem repW_keep {H H':Hp} {ws:List Wq.Sh} {l:Addr} (h:Rep H (.lst (ws.map wrowD)) (.ref l)) (kl:∀xs,H l=some (.lst xs)→H' l=some (.lst xs)) (kt:∀x vs,H x=some (.tup vs)→H' x=some (.tup vs)):Rep H' (.lst (ws.map wrowD)) (.ref l):=by
 obtain⟨_,xs,e,hl,rl⟩:=rep_lst.mp h
 cases e
 have lx:=rl.length
 rw[List.length_map] at lx
 refine rep_lst.mpr ⟨l,xs,rfl,kl _ hl,repL_map lx.symm fun i y ey a ea=>?_⟩
 obtain⟨d,ed,rd⟩:=rl.get ey
 rw[List.getElem?_map,ea] at ed
 cases ed
 obtain⟨p,rfl,hp⟩:=rep_wrow.mp rd
 exact rep_wrow.mpr ⟨p,rfl,kt _ _ hp⟩
theorem depth_ws (ws:List (Int×Int)):depth (.lst (ws.map wrowD))≤40:=by
 have:=depth_flat (ds:=ws.map wrowD) (n:=1) fun d hd=>by obtain⟨p,_,rfl⟩:=List.mem_map.mp hd;rw[depth_wrow];exact Nat.le_refl _
 rw[depth]
 omega
theorem shz_up {S:Dg.Bk} {n M:Nat} (Z:Dg.Sz n M S):∀x∈shS S,Shz S.2 (2^M) x:=by
 intro x hx
 obtain⟨t,ht,rfl⟩:=List.mem_map.mp hx
 obtain⟨j,hj,rfl⟩:=List.getElem_of_mem ht
 have bt:=Z.bt j
 rw[List.getD_eq_getElem?_getD,List.getElem?_eq_getElem hj,Option.getD_some] at bt
 have S0:=Z.pos
 obtain⟨d,e⟩:=Wq.low_sc (a:=S.1[j]) (s:=S.1[j]) S0 S0 rfl
 have lw:=Wq.low_lw (a:=S.1[j]) S0
 refine⟨lw,d,(Wq.vb_sc lw.1 S0 d).mpr ?_⟩
 rw[e]
 unfold Bt at bt
 have p:(2:Int)^M=((2^M:Nat):Int):=by rw[Int.natCast_pow];rfl
 have m:((2^M:Nat):Int)*1≤((2^M:Nat):Int)*S.2:=Int.mul_le_mul_of_nonneg_left (by omega) (by omega)
 rw[p]
 generalize ((2:Nat)^M)=N at *
 omega
theorem Shz.add {Z M N:Int} {x y:Wq.Sh} (hx:Shz Z N x) (hy:Shz Z M y) (Z0:0<Z):Shz Z (N+M) (Wq.pl x y):=by
 obtain⟨p1,p2,p3⟩:=Wq.pl_sc hx.1.1 hy.1.1 Z0 hx.2.1 hy.2.1
 refine⟨p1,p2,(Wq.vb_sc p1.1 Z0 p2).mpr ?_⟩
 have a1:=(Wq.vb_sc hx.1.1 Z0 hx.2.1).mp hx.2.2
 have a2:=(Wq.vb_sc hy.1.1 Z0 hy.2.1).mp hy.2.2
 rw[p3,Int.add_mul]
 omega
theorem atW_set_eq {ss:List Wq.Sh} {q:Int} {x:Wq.Sh} (h:q.toNat<ss.length):Wq.atW (ss.set q.toNat x) q=x:=by
 unfold Wq.atW
 rw[List.getD_eq_getElem?_getD,List.getElem?_set_self h]
 rfl
theorem atW_set_ne {ss:List Wq.Sh} {p:Nat} {q:Int} {x:Wq.Sh} (h:p≠q.toNat):Wq.atW (ss.set p x) q=Wq.atW ss q:=by
 unfold Wq.atW
 rw[List.getD_eq_getElem?_getD,List.getD_eq_getElem?_getD,List.getElem?_set_ne h]
structure Cm (n:Nat) (Z N:Int) (f:Int→Rat) (cs:List Wq.Sh):Prop where
 len:cs.length=n
 sz:∀x∈cs,Shz Z N x
 val:∀q:Int,0≤q→q< (n:Int)→Dg.vl (Wq.atW cs q)=f q
theorem Cm.up {n:Nat} {Z Z' N N':Int} {f f':Int→Rat} {cs:List Wq.Sh} (C:Cm n Z N f cs) (hZ:Z∣Z') (hN:N≤N') (hf:∀q:Int,0≤q→q< (n:Int)→f q=f' q):Cm n Z' N' f' cs:=
 ⟨C.len,fun x hx=>(C.sz x hx).up hZ hN,fun q h0 h1=>by rw[C.val q h0 h1,hf q h0 h1]⟩
theorem Cm.put {n:Nat} {Z N M d w q:Int} {f:Int→Rat} {cs:List Wq.Sh} {y:Wq.Sh} (C:Cm n (Z*d) N f cs) (hy:Shz Z M y) (Z0:0<Z) (d0:0<d) (w0:0≤w) (w1:w≤d) (M0:0≤M) (q0:0≤q) (q1:q< (n:Int)):
  Cm n (Z*d) (N+M) (fun r=>f r+ (if q=r then (w:Rat) / (d:Rat) else 0)*Dg.vl y) (cs.set q.toNat (Wq.pl (Wq.atW cs q) (Wq.tm (Wq.low w d) y)))∧Shz (Z*d) N (Wq.atW cs q)∧Shz (Z*d) M (Wq.tm (Wq.low w d) y):=by
 have lq:q.toNat<cs.length:=by have:=C.len;omega
 have sx:Shz (Z*d) N (Wq.atW cs q):=C.sz _ (List.mem_of_getElem? (atW_at q0 (by omega)))
 obtain⟨a1,a2⟩:=Shz.acc (w:=w) sx hy Z0 d0 w0 w1 M0
 refine⟨⟨by rw[List.length_set];exact C.len,fun x hx=>?_,fun r r0 r1=>?_⟩,sx,a1⟩
 ·rcases List.mem_or_eq_of_mem_set hx with hx | rfl
  ·exact(C.sz x hx).up (Int.dvd_refl _) (by omega)
  ·exact a2
 ·by_cases c:q=r
  ·subst c
   rw[atW_set_eq lq,if_pos rfl,Dg.vl_pl sx.1.1 a1.1.1,C.val q q0 q1,Dg.vl_tm (Wq.low_lw d0).1 hy.1.1,Dg.vl_low d0]
  ·rw[atW_set_ne (by omega),if_neg c,C.val r r0 r1]
   grind
theorem lsum_snoc (f:Int→Rat) (q:Int):∀qs,Dg.lsum f (qs++ [q])=Dg.lsum f qs+f q
 | []=>by show f q+0=0+f q;grind
 | p::qs=>by
  show f p+Dg.lsum f (qs++ [q])=f p+Dg.lsum f qs+f q
  rw[lsum_snoc f q qs]
  grind
theorem rgI_take {n i:Nat} (h:i<n):(rgI n).take (i+1)=(rgI n).take i++ [(i:Int)]:=by
 unfold rgI
 rw[List.take_add_one,List.getElem?_map,List.getElem?_range h]
 rfl
theorem ind_sum {st n:Nat} (h:st<n):Dg.lsum (ind st) (rgI n)=1:=by
 have e:Dg.lsum (ind st) (rgI n)=Dg.lsum (fun q=>if (st:Int)=q then 1 else 0) (rgI n):=Dg.lsum_congr fun q _=>by
  unfold ind
  by_cases c:q=(st:Int)
  ·rw[if_pos c,if_pos c.symm]
  ·rw[if_neg c,if_neg (Ne.symm c)]
 rw[e,Dg.lsum_ind (rgI_nd n),if_pos (show(st:Int)∈rgI n from List.mem_map.mpr ⟨st,List.mem_range.mpr h,rfl⟩)]
theorem vs_sole {b:List Pl} {rk:Int→Nat} {ks:List (Option Int)} {st M:Nat} {S S':Dg.Bk} (B:BdW b rk) (ko:PksO b ks) (z:Dg.Sz b.length M S) (z':Dg.Sz b.length M S') (h:VqAt b ks st (Dg.val S)) (h':VqAt b ks st (Dg.val S')):shS S=shS S':=by
 have e:=visits_sole B ko h h'
 have l:(shS S).length=b.length:=by unfold shS;rw[List.length_map,z.len]
 have l':(shS S').length=b.length:=by unfold shS;rw[List.length_map,z'.len]
 apply List.ext_getElem?
 intro i
 by_cases hi:i<b.length
 ·have a:=atW_at (ss:=shS S) (q:=(i:Int)) (by omega) (by omega)
  have a':=atW_at (ss:=shS S') (q:=(i:Int)) (by omega) (by omega)
  rw[Int.toNat_natCast] at a a'
  rw[a,a']
  congr 1
  refine Dg.vl_inj (shz_up z _ (List.mem_of_getElem? a)).1 (shz_up z' _ (List.mem_of_getElem? a')).1 ?_
  rw[show Dg.vl (Wq.atW (shS S) (i:Int))=Dg.val S i from low_val z.pos _ (by rw[z.len];omega),show Dg.vl (Wq.atW (shS S') (i:Int))=Dg.val S' i from low_val z'.pos _ (by rw[z'.len];omega)]
  exact e i ⟨by omega,by omega⟩
 ·rw[List.getElem?_eq_none (by omega),List.getElem?_eq_none (by omega)]
noncomputable def spHld3:Sp:=fun vs H Q _=>∃(a c l:Addr) (st:Nat) (b:List Pl) (rk:Int→Nat) (ks:List (Option Int)) (S:Dg.Bk),vs=[.ref a,.ref c,.int (st:Int),.ref l]∧Rep H (brD b) (.ref a)∧BdW b rk∧H c=some (.lst (List.map pkV ks))∧PksO b ks∧Rep H (.lst ((shS S).map wrowD)) (.ref l)∧b.length≤8∧st<b.length∧Dg.Sz b.length 1070 S∧VqAt b ks st (Dg.val S)∧∀H',Same H H'→Q (.bl true) H'
section
variable {P : Program} {w : World} {K : PySem.W.Frag} {mg : Str → Option Value} {base : Heap}
variable {q_Book tc tp : Addr}
theorem pair_snd {H:Hp} {ws:List (Int×Int)} {xs:List V} (rl:RepL H (ws.map wrowD) xs) {i:Nat} {x:V} (ex:xs[i]?=some x):∃p t,ws[i]?=some p∧x=.ref t∧H t=some (.tup [.int p.1,.int p.2]):=by
 obtain⟨d,ed,rd⟩:=rl.get ex
 rw[List.getElem?_map] at ed
 obtain⟨p,ep,rfl⟩:=Option.map_eq_some_iff.mp ed
 obtain⟨t,rfl,ht⟩:=rep_wrow.mp rd
 exact⟨p,t,ep,rfl,ht⟩
theorem sc_goals:FnScope ["place"] ["place"] (defScope (top 1)):=⟨rfl,rfl,rfl,by decide +kernel,rfl,by decide +kernel,by decide +kernel⟩
theorem ok_gls (T:Txt K mg q_Book tc):Cal P w K mg base (CX1 P w) 1 "goals" ["place"] spGls:=by
 refine T.d_goals.cal (fun _ _ _ _ _ _=>us_1 fun _=>rfl) fun f fd F=>F.okC sc_goals (fun vs H Q E h=>?_) (fun cdv A outer s H vs Q E hr h=>?_)
 ·obtain⟨_,_,rfl,_⟩:=h;rfl
 ·refine(?_:let G_:Prop:=_;G_)
  intro G_
  obtain⟨v,q,rfl,rq,lq,kk⟩:=h
  dsimp only[G_]
  have nd:=sc_goals.nd
  refine⟨_,(pss_cons (ps_if (pt_cmpR op_eq (pe_ix ix_tupH (pv 0) pe_int (fun _ _=>rfl)) pe_str (nomark _)) (pss_one (ps_ret (pe_comp rfl (N:=["place"]) (so:=defScope (top 1)) (N':=["weight","to"]) (k:=2) (fr:=[]) rfl rfl ⟨rfl,by decide +kernel,by decide +kernel,by decide +kernel,rfl,by decide +kernel,by decide +kernel⟩ (pi_listK (K:=K) (pe_ix ix_tupH (pv 0) pe_int (fun _ _=>rfl))) (fun _ _ _ _ _=>(pg_tupK (K:=K) (n:=2) rfl (pgs_cons (pg_name (i:=0) (show(["weight","to"]:List Str).Nodup by decide +kernel) rfl (Or.inl rfl)) (pgs_cons (pg_name (i:=1) (show(["weight","to"]:List Str).Nodup by decide +kernel) rfl (Or.inl rfl)) pgs_nil)))) (fun _ _ _ _ _=>pts_nil)
   (fun _ _ _ _ _=>(pv 1)))))
   pss_nil)
  (pss_cons (ps_if (pt_cmpR op_eq (pe_ix ix_tupH (pv 0) pe_int (fun _ _=>rfl)) pe_str (nomark _)) (pss_one (ps_ret (pe_callTy (call_list_ofK (K:=K)) (by rfl) T.z_list rfl (pa_cons (pe_ix ix_tupH (pv 0) pe_int (fun _ _=>rfl)) pa_nil (se rfl)) (he:=se rfl) (hpl:=na rfl))))
   pss_nil)
  (pss_one (ps_ret (pe_lst pa_nil))))),?_⟩
  refine(?_:let q0_:TS:=_;let q1_:TS:=_;let q2_:TS:=_;tSeq q0_ (tSeq q1_ q2_) _ _ _)
  intro q0_ q1_ q2_
  cases q with
  | fin w=>
   refine(?_:let G_:Prop:=_;G_)
   intro G_
   obtain⟨p,r,rfl,hp,_⟩:=rep_fin.mp rq
   dsimp only[G_]
   simp_all only[hp]
   rw[if_neg (by decide +kernel),if_neg (by decide +kernel)]
   exact⟨Nat.zero_le _,fun l nl=>kk _ _ (same_upd nl) nl upd_same⟩
  | thr w ws=>
   refine(?_:let G_:Prop:=_;G_)
   intro G_
   obtain⟨p,r,l,xs,rfl,hp,_,hl,rl⟩:=rep_thr.mp rq
   dsimp only[G_]
   simp_all only[hp]
   refine⟨⟨_,SqL.of hl⟩,?_⟩
   have lx:=rl.length
   rw[List.length_map] at lx
   have S:Src (Itl K l) (Same H) ws.length (fun i x H H3=>H3=H∧xs[i]?=some x):=by rw[lx];exact src_list (fun H' s'=>SqL.of (s' _ _ hl))
   refine comp_ints2 ws (fun p=>some p.2) S (fun _ _ _ _ h=>h.1) (by rw[sizeLine_eq];have:ws.length≤100:=(by simpa [Lv.gls] using lq);omega) ?_ ?_
   ·rintro i p x ep ⟨_,ex⟩
    refine(?_:let G_:Prop:=_;G_)
    intro G_
    obtain⟨p',t,ep',rfl,ht⟩:=pair_snd rl ex
    dsimp only[G_]
    rw[ep] at ep'
    cases ep'
    refine⟨t,_,_,rfl,SqT.of ht,fun Y N y1 _=>?_⟩
    simp_all only[tYes]
    exact y1 _ rfl
   ·intro D n1 n2
    rw[fm_some]
    exact kk _ _ (same_upd n2) n2 upd_same
  | pck w to=>
   refine(?_:let G_:Prop:=_;G_)
   intro G_
   obtain⟨p,l,rfl,hp,hl⟩:=rep_pck.mp rq
   dsimp only[G_]
   simp_all only[hp]
   rw[if_neg (by decide +kernel)]
   exact⟨_,.inl (SqL.of hl),fun m nm=>kk _ _ (same_upd nm) nm upd_same⟩
theorem rdy_gls {fs:Lv.Fs} {q:Pl}:Lv.rdy fs q=match q with | .thr _ _=>(Lv.gls q).any (fun g=>(Lv.lk fs g).isSome) | _=>(Lv.gls q).all fun g=>(Lv.lk fs g).isSome:=by
 cases q <;>rfl
theorem sc_is_ready:FnScope ["place","found","levelled"] ["place","found"] (defScope (top 2)):=⟨rfl,rfl,rfl,by decide +kernel,rfl,by decide +kernel,by decide +kernel⟩
theorem ok_rdy (T:Txt K mg q_Book tc):Cal P w K mg base (CX1 P w) 2 "is_ready" ["place","found"] spRdy:=by
 have c_goals:Cal P w K mg base (CX1 P w) 1 "goals" ["place"] spGls:=ok_gls T
 refine T.d_is_ready.cal (fun _ _ _ _ _ _=>us_2 fun _ _=>rfl) fun f fd F=>F.okC sc_is_ready (fun vs H Q E h=>?_) (fun cdv A outer s H vs Q E hr h=>?_)
 ·obtain⟨_,_,_,_,rfl,_⟩:=h;rfl
 ·refine(?_:let G_:Prop:=_;G_)
  intro G_
  obtain⟨v,q,ff,fs,rfl,rq,hf,lq,gq,kk⟩:=h
  dsimp only[G_]
  have nd:=sc_is_ready.nd
  refine⟨_,(pss_cons (ps_setC (i:=2) rfl nd rfl rfl (N:=["place","found","levelled"]) (so:=defScope (top 2)) (N':=["to","found"]) (k:=1) (fr:=[1]) rfl rfl ⟨rfl,by decide +kernel,by decide +kernel,by decide +kernel,rfl,by decide +kernel,by decide +kernel⟩ (pi_listK (K:=K) (pe_cal c_goals (hr.mono (by decide)) rfl strictP.pass (pa_cons (pv 0) pa_nil (se rfl)) (he:=se rfl) (hpl:=na rfl))) (fun _ _ _ _ _=>(pg_name (i:=0) (show(["to","found"]:List Str).Nodup by decide +kernel) rfl (Or.inl rfl))) (fun _ _ _ _ _=>pts_nil)
   (fun _ _ _ _ _=>(pe_cmpR op_notN (pe_ix ix_listH (pv 1) (pv 0) (fun _ _=>rfl)) pe_non (nomark _))))
  (pss_cons (ps_if (pt_cmpR op_eq (pe_ix ix_tupH (pv 0) pe_int (fun _ _=>rfl)) pe_str (nomark _)) (pss_one (ps_ret (pe_callB (call_any_lK (K:=K)) (by rfl) T.z_any rfl (pa_cons (pv 2) pa_nil (se rfl)) (he:=se rfl) (hpl:=na rfl))))
   pss_nil)
  (pss_one (ps_ret (pe_callB (call_all_lK (K:=K)) (by rfl) T.z_all rfl (pa_cons (pv 2) pa_nil (se rfl)) (he:=se rfl) (hpl:=na rfl)))))),?_⟩
  refine(?_:let q0_:TS:=_;let q1_:TS:=_;let q2_:TS:=_;tSeq q0_ (tSeq q1_ q2_) _ _ _)
  intro q0_ q1_ q2_
  refine(?_:let G_:Prop:=_;G_)
  intro G_
  obtain⟨p,k,r,rfl,hp⟩:=rep_pl rq
  dsimp only[G_]
  simp_all only[spGls]
  refine⟨q,rq,lq,fun l H1 s1 nl hl=>⟨⟨_,SqL.of hl⟩,?_⟩⟩
  have hf1:=s1 _ _ hf
  have hp1:=s1 _ _ hp
  have S:Src (Itl K l) (Same H1) (Lv.gls q).length (fun i x H H3=>H3=H∧(List.map V.int (Lv.gls q))[i]?=some x):=by
   have:=src_list (K:=K) (a:=l) (xs:=List.map V.int (Lv.gls q)) (Ok:=Same H1) (fun H' s'=>SqL.of (s' _ _ hl))
   rw[List.length_map] at this
   exact this
  refine comp_vals (Lv.gls q) (fun g=>some (.bl (Lv.lk fs g).isSome)) S (fun _ _ _ _ h=>h.1) (by rw[sizeLine_eq];omega) ?_ ?_
  ·rintro i g x eg ⟨_,ex⟩ Y N y1 _
   rw[List.getElem?_map,eg] at ex
   cases ex
   have:=gq g (List.mem_of_getElem? eg)
   simp_all only[tYes,hf1,at_pk this.1 this.2]
   have:=y1 _ rfl
   rw[show(!decide (pkV (Lv.lk fs g)=V.non))=(Lv.lk fs g).isSome from by cases Lv.lk fs g <;>simp [pkV]]
   exact this
  ·intro D n1 n2
   rw[fm_some]
   have ebs:List.map (fun g=>V.bl (Lv.lk fs g).isSome) (Lv.gls q)=List.map V.bl ((Lv.gls q).map fun g=>(Lv.lk fs g).isSome):=by rw[List.map_map];rfl
   rw[ebs]
   have sD:=same_upd (o:=.lst (List.map V.bl ((Lv.gls q).map fun g=>(Lv.lk fs g).isSome))) n2
   have fin:=kk _ (s1.trans sD)
   rw[rdy_gls] at fin
   cases q with
   | fin w=>
    refine(?_:let G_:Prop:=_;G_)
    intro G_
    obtain⟨p',r',e,hp',_⟩:=rep_fin.mp rq
    dsimp only[G_]
    cases e
    have hp2:=sD _ _ (s1 _ _ hp')
    simp only[hp2,at0]
    refine⟨_,rfl,_,rfl,rfl,?_⟩
    rw[if_neg (by decide +kernel)]
    refine⟨_,SqL.of upd_same,?_⟩
    rw[List.all_map]
    exact fin
   | thr w ws=>
    refine(?_:let G_:Prop:=_;G_)
    intro G_
    obtain⟨p',r',l',xs,e,hp',_⟩:=rep_thr.mp rq
    dsimp only[G_]
    cases e
    have hp2:=sD _ _ (s1 _ _ hp')
    simp only[hp2,at0]
    refine⟨_,rfl,_,rfl,rfl,?_⟩
    rw[if_pos (by decide +kernel)]
    refine⟨_,SqL.of upd_same,?_⟩
    rw[List.any_map]
    exact fin
   | pck w to=>
    refine(?_:let G_:Prop:=_;G_)
    intro G_
    obtain⟨p',l',e,hp',_⟩:=rep_pck.mp rq
    dsimp only[G_]
    cases e
    have hp2:=sD _ _ (s1 _ _ hp')
    simp only[hp2,at0]
    refine⟨_,rfl,_,rfl,rfl,?_⟩
    rw[if_neg (by decide +kernel)]
    refine⟨_,SqL.of upd_same,?_⟩
    rw[List.all_map]
    exact fin
theorem sc_ready_places:FnScope ["board","found"] ["board","found"] (defScope (top 3)):=⟨rfl,rfl,rfl,by decide +kernel,rfl,by decide +kernel,by decide +kernel⟩
theorem ok_rps (T:Txt K mg q_Book tc):Cal P w K mg base (CX1 P w) 3 "ready_places" ["board","found"] spRps:=by
 have c_is_ready:Cal P w K mg base (CX1 P w) 2 "is_ready" ["place","found"] spRdy:=ok_rdy T
 refine T.d_ready_places.cal (fun _ _ _ _ _ _=>us_2 fun _ _=>rfl) fun f fd F=>F.okC sc_ready_places (fun vs H Q E h=>?_) (fun cdv A outer s H vs Q E hr h=>?_)
 ·obtain⟨_,_,_,_,rfl,_⟩:=h;rfl
 ·refine(?_:let G_:Prop:=_;G_)
  intro G_
  obtain⟨a,b,ff,fs,rfl,rb,hf,lf,lb,gl,gb,kk⟩:=h
  dsimp only[G_]
  have nd:=sc_ready_places.nd
  refine⟨_,(pss_one (ps_ret (pe_comp rfl (N:=["board","found"]) (so:=defScope (top 3)) (N':=["number","place","found"]) (k:=2) (fr:=[1]) rfl rfl ⟨rfl,by decide +kernel,by decide +kernel,by decide +kernel,rfl,by decide +kernel,by decide +kernel⟩ (pi_enumerateK (K:=K) rfl T.z_enumerate (pa_cons (pv 0) pa_nil (se rfl))) (fun _ _ _ _ _=>(pg_tupK (K:=K) (n:=2) rfl (pgs_cons (pg_name (i:=0) (show(["number","place","found"]:List Str).Nodup by decide +kernel) rfl (Or.inl rfl)) (pgs_cons (pg_name (i:=1) (show(["number","place","found"]:List Str).Nodup by decide +kernel) rfl (Or.inl rfl)) pgs_nil)))) (fun _ _ _ _ _=>(pts_one (PW.pt (pw_and (pt_cmpR op_isN (pe_ix ix_listH (pv 2) (pv 0) (fun _ _=>rfl)) pe_non (nomark _)) (pw_and1 (pt_val (pe_cal c_is_ready (hr.mono (by decide)) rfl strictP.pass (pa_cons (pv 1) (pa_cons (pv 2) pa_nil (se rfl)) (se rfl)) (he:=se rfl) (hpl:=na rfl))))))))
   (fun _ _ _ _ _=>(pv 0))))),?_⟩
  refine(?_:let G_:Prop:=_;G_)
  intro G_
  obtain⟨_,xs,e,ha,rl⟩:=rep_lst.mp rb
  dsimp only[G_]
  cases e
  have lx:=rl.length
  rw[List.length_map] at lx
  simp_all only[]
  refine⟨⟨_,SqL.of ha⟩,?_⟩
  have S:Src (Ite K a) (Same H) (List.range b.length).length (fun i v H H3=>∃p x,H p=none∧v=.ref p∧xs[i]?=some x∧H3=upd H p (.tup [.int i,x])):=by rw[List.length_range,lx];exact src_enum (fun H' s'=>SqL.of (s' _ _ ha))
  refine comp_sel2 (K:=K) (List.range b.length) (fun i=>if Lv.isRdy b fs i=true then some (natV i) else none) S (fun i u v _=>u=.int i∧xs[i]?=some v) ?_ (by rw[List.length_range,sizeLine_eq];omega) ?_ ?_
  ·intro i x H1 H2 hi s1 p6_
   refine(?_:let G_:Prop:=_;G_)
   intro G_
   obtain⟨p,v,np,rfl,ev,rfl⟩:=p6_
   dsimp only[G_]
   exact⟨same_upd np,p,_,_,rfl,SqT.of upd_same,rfl,ev⟩
  ·rintro i j u v H3 ej s3 ⟨rfl,ev⟩ Y N y1 n1
   have:j=i:=by
    obtain⟨h1,h2⟩:=List.getElem?_eq_some_iff.mp ej
    rw[List.getElem_range] at h2
    exact h2.symm
   subst this
   refine(?_:let G_:Prop:=_;G_)
   intro G_
   obtain⟨q,eq,rq⟩:=rep_br_get rl ev
   dsimp only[G_]
   have hj:j<b.length:=(List.getElem?_eq_some_iff.mp eq).1
   have hf3:=s3 _ _ hf
   have hq:=List.mem_of_getElem? eq
   simp_all only[hf3,at_pk (show(0:Int)≤(j:Int) by omega) (show(j:Int)< (fs.length:Nat) by omega),spRdy]
   have er:Lv.isRdy b fs j=((Lv.lk fs (j:Int)).isNone && Lv.rdy fs q):=by
    unfold Lv.isRdy Lv.lk
    rw[eq,Int.toNat_natCast]
   by_cases c:Lv.lk fs (j:Int)=none
   ·rw[if_pos (pkV_none.mpr c)]
    refine⟨q,rq.mono s3,fs,rfl,gl q hq,fun g hg=>?_,fun H4 s4=>?_⟩
    ·rw[lf];exact gb.rng q hq g hg
    ·by_cases c2:Lv.rdy fs q=true
     ·rw[if_pos c2]
      exact y1 _ _ (by rw[if_pos (by rw[er,c,c2];rfl)];rfl) s4
     ·rw[if_neg c2]
      exact n1 _ (by rw[if_neg (by rw[er];simp [c2])]) s4
   ·rw[if_neg (fun z=>c (pkV_none.mp z))]
    have nr:¬Lv.isRdy b fs j=true:=by
     rw[er]
     cases h:Lv.lk fs (j:Int) with
     | none=>exact absurd h c
     | some u=>simp
    exact n1 _ (if_neg nr) (Same.refl _)
  ·intro H2 s2 D n1 n2
   have e:List.filterMap (fun i=>if Lv.isRdy b fs i=true then some (natV i) else none) (List.range b.length)=List.map natV (Lv.fresh b fs):=fm_filter natV (Lv.isRdy b fs) _
   rw[e]
   exact kk _ _ (s2.trans (same_upd n2)) (none_of s2 n2) upd_same
theorem sc_levels:FnScope ["board","found","level","fresh","number"] ["board"] (defScope (top 4)):=⟨rfl,rfl,rfl,by decide +kernel,rfl,by decide +kernel,by decide +kernel⟩
theorem ok_lvs (T:Txt K mg q_Book tc):Cal P w K mg base (CX1 P w) 4 "levels" ["board"] spLvs:=by
 have c_ready_places:Cal P w K mg base (CX1 P w) 3 "ready_places" ["board","found"] spRps:=ok_rps T
 refine T.d_levels.cal (fun _ _ _ _ _ _=>us_1 fun _=>rfl) fun f fd F=>F.okC sc_levels (fun vs H Q E h=>?_) (fun cdv A outer s H vs Q E hr h=>?_)
 ·obtain⟨_,_,rfl,_⟩:=h;rfl
 ·refine(?_:let G_:Prop:=_;G_)
  intro G_
  obtain⟨a,b,rfl,rb,lb,gl,gb,kk⟩:=h
  dsimp only[G_]
  have nd:=sc_levels.nd
  refine⟨_,(pss_cons (ps_setC (i:=1) rfl nd rfl rfl (N:=["board","found","level","fresh","number"]) (so:=defScope (top 4)) (N':=["place"]) (k:=1) (fr:=[]) rfl rfl ⟨rfl,by decide +kernel,by decide +kernel,by decide +kernel,rfl,by decide +kernel,by decide +kernel⟩ (pi_listK (K:=K) (pv 0)) (fun _ _ _ _ _=>(pg_name (i:=0) (show(["place"]:List Str).Nodup by decide +kernel) rfl (Or.inl rfl))) (fun _ _ _ _ _=>pts_nil)
   (fun _ _ _ _ _=>(pe_ifExp (pt_cmpR op_eq (pe_ix ix_tupH (pv 0) pe_int (fun _ _=>rfl)) pe_str (nomark _)) pe_int pe_non)))
  (pss_cons (ps_set (i:=2) nd rfl (Or.inl rfl) pe_int)
  (pss_cons (ps_set (i:=3) nd rfl (Or.inl rfl) (pe_cal c_ready_places (hr.mono (by decide)) rfl strictP.pass (pa_cons (pv 0) (pa_cons (pv 1) pa_nil (se rfl)) (se rfl)) (he:=se rfl) (hpl:=na rfl)))
  (pss_cons (ps_while PassesOwn.never (pt_cmpR op_gt (pe_callB call_lenL (by rfl) T.z_len PySem.boot_len (pa_cons (pv 3) pa_nil (se rfl)) (he:=se rfl) (hpl:=na rfl)) pe_int (nomark _)) (pss_cons (ps_for PassesOwn.never rfl (pi_listK (K:=K) (pv 3)) (pg_name (i:=4) nd rfl (Or.inl rfl)) (pss_one (ps_asg (pv 2) (pg_sub (pv 1) (pv 4) set_list))))
  (pss_cons (ps_set (i:=2) nd rfl (Or.inl rfl) (pe_op op_add (pv 2) pe_int))
  (pss_one (ps_set (i:=3) nd rfl (Or.inl rfl) (pe_cal c_ready_places (hr.mono (by decide)) rfl strictP.pass (pa_cons (pv 0) (pa_cons (pv 1) pa_nil (se rfl)) (se rfl)) (he:=se rfl) (hpl:=na rfl)))))))
  (pss_one (ps_ret (pv 1))))))),?_⟩
  refine(?_:let q0_:TS:=_;let q1_:TS:=_;let q2_:TS:=_;let q3_:TS:=_;let q4_:TS:=_;tSeq q0_ (tSeq q1_ (tSeq q2_ (tSeq q3_ q4_))) _ _ _)
  intro q0_ q1_ q2_ q3_ q4_
  refine(?_:let G_:Prop:=_;G_)
  intro G_
  obtain⟨_,xs,e,ha,rl⟩:=rep_lst.mp rb
  dsimp only[G_]
  cases e
  have lx:=rl.length
  rw[List.length_map] at lx
  simp_all only[spRps]
  refine⟨⟨_,SqL.of ha⟩,?_⟩
  have S:Src (Itl K a) (Same H) b.length (fun i x H H3=>H3=H∧xs[i]?=some x):=by rw[lx];exact src_list (fun H' s'=>SqL.of (s' _ _ ha))
  refine comp_vals b (fun q=>some (pkV (Lv.lv0 q))) S (fun _ _ _ _ h=>h.1) (by rw[sizeLine_eq];omega) ?_ ?_
  ·rintro i q x eq ⟨_,ex⟩ Y N y1 _
   refine(?_:let G_:Prop:=_;G_)
   intro G_
   obtain⟨q',eq',rq⟩:=rep_br_get rl ex
   dsimp only[G_]
   rw[eq] at eq'
   cases eq'
   have:=y1 _ rfl
   cases q with
   | fin w=>
    refine(?_:let G_:Prop:=_;G_)
    intro G_
    obtain⟨p,r,rfl,hp,_⟩:=rep_fin.mp rq
    dsimp only[G_]
    simp_all only[tYes,hp]
    exact this
   | thr w ws=>
    refine(?_:let G_:Prop:=_;G_)
    intro G_
    obtain⟨p,r,l',ys,rfl,hp,_⟩:=rep_thr.mp rq
    dsimp only[G_]
    simp_all only[tYes,hp]
    rw[if_neg (by decide +kernel)]
    exact this
   | pck w to=>
    refine(?_:let G_:Prop:=_;G_)
    intro G_
    obtain⟨p,l',rfl,hp,_⟩:=rep_pck.mp rq
    dsimp only[G_]
    simp_all only[tYes,hp]
    rw[if_neg (by decide +kernel)]
    exact this
  ·intro ff n1 n2
   rw[fm_some,show List.map (fun q=>pkV (Lv.lv0 q)) b=List.map pkV (Lv.fs0 b) from by unfold Lv.fs0;rw[List.map_map];rfl]
   have sD:=same_upd (o:=.lst (List.map pkV (Lv.fs0 b))) n2
   refine⟨b,rb.mono sD,Lv.fs0 b,upd_same,by simp [Lv.fs0],lb,gl,gb,fun fr H1 s1 nf hfr=>?_⟩
   have hff:H1 ff=some (.lst (List.map pkV (Lv.fs0 b))):=s1 _ _ upd_same
   have sH:=sD.trans s1
   refine while_at (LvW H b a ff) (m:=b.length) ⟨_,_,_,_,rfl,hff,hfr,(fun z=>by rw[z,upd_same] at nf;cases nf),sH,by simp [Lv.fs0],by have:=Lv.nones_le (Lv.fs0 b);simpa [Lv.fs0] using this,rfl⟩ ?_ ?_
   ·intro m σ H2 p3_
    refine(?_:let G_:Prop:=_;G_)
    intro G_
    obtain⟨fs,L,fr,z,rfl,hf,hr',ne,s2,lf,nm,er⟩:=p3_
    dsimp only[G_]
    simp_all only[]
    refine⟨_,hr',?_⟩
    by_cases c:Lv.fresh b fs=[]
    ·rw[c,if_neg (by simp)]
     have:Lv.run b m fs L=fs:=by
      cases m with
      | zero=>rfl
      | succ m=>
       show(if Lv.fresh b fs=[] then fs else _)=fs
       rw[if_pos c]
     rw[this] at er
     subst er
     exact kk _ _ s2 n2 hf
    ·have l0:(0:Int)< ((List.map natV (Lv.fresh b fs)).length:Nat):=by
      rw[List.length_map]
      have:=List.length_pos_iff.mpr c
      omega
     rw[if_pos l0]
     have lfr:(Lv.fresh b fs).length≤1000:=by
      have:(Lv.fresh b fs).length≤b.length:=by
       have:=List.length_filter_le (Lv.isRdy b fs) (List.range b.length)
       rwa [List.length_range] at this
      omega
     refine⟨⟨_,SqL.of hr'⟩,for_src (src_list (Ok:=fun H'=>H' fr=some (.lst (List.map natV (Lv.fresh b fs)))) (fun H' e=>SqL.of e))
      (fun j σ H'=>H' fr=some (.lst (List.map natV (Lv.fresh b fs)))∧H' ff=some (.lst (List.map pkV (Lv.setAll fs ((Lv.fresh b fs).take j) L)))∧Same H H'∧∃z,σ=[some (V.ref a),some (V.ref ff),some (V.int L),some (V.ref fr),z])
      ⟨hr',by rw[List.take_zero];exact hf,s2,_,rfl⟩ (fun _ _ _ _ h=>h.1) ?_ ?_⟩
     ·intro j x σ H3 H4 hj p6_ p7_
      refine(?_:let G_:Prop:=_;G_)
      intro G_
      obtain⟨h3,f3,s3,z,rfl⟩:=p6_
      obtain⟨rfl,hx⟩:=p7_
      rw[List.getElem?_map] at hx
      obtain⟨i,ei,rfl⟩:=Option.map_eq_some_iff.mp hx
      dsimp only[G_]
      have hi:=(Lv.fresh_mem.mp (List.mem_of_getElem? ei)).1
      simp_all only[gSub,rSetL,natV]
      have ix:ixN (List.map pkV (Lv.setAll fs ((Lv.fresh b fs).take j) L)).length (i:Int)=some i:=by
       unfold ixN
       rw[if_pos (by omega),List.length_map,Lv.set_len,if_pos (by omega)]
       congr 1
      refine⟨_,f3,i,ix,by rw[upd_ne ne];exact h3,?_,same_upd_of s3 n2,_,rfl⟩
      rw[upd_same,List.take_add_one,ei]
      show some (HO.lst ((List.map pkV _).set i (pkV (some L))))=_
      rw[←List.map_set]
      congr 3
      unfold Lv.setAll
      rw[List.foldl_append]
      rfl
     ·intro σ H3 p2_
      refine(?_:let G_:Prop:=_;G_)
      intro G_
      obtain⟨h3,f3,s3,z,rfl⟩:=p2_
      dsimp only[G_]
      rw[List.length_map,List.take_of_length_le (Nat.le_refl _)] at f3
      simp_all only[spRps]
      refine⟨b,rb.mono s3,_,f3,by rw[Lv.set_len];exact lf,lb,gl,gb,fun fr2 H4 s4 n4 h4=>?_⟩
      have lt:=Lv.nones_pos lf c L
      cases m with
      | zero=>omega
      | succ m=>
       refine⟨m,Nat.lt_succ_self _,_,_,_,_,rfl,s4 _ _ f3,h4,(fun z=>by rw[z,f3] at n4;cases n4),s3.trans s4,by rw[Lv.set_len];exact lf,by omega,?_⟩
       rw[←er]
       show _=(if Lv.fresh b fs=[] then fs else _)
       rw[if_neg c]
   ·intro σ H1 Q1 Q2 hq hc
    simp only[L2.start,Pr,tRev,tD1,tDPop1,tSl,tNoPart,tPart,rSlL,tDIn,tDNotIn,gSub,rSetL,tLst,tDNewK,tComp,L2.stC,tFor_eq,iList,iTup,iRng1,iRng2,iZip,iEnum,iDict,iStr,tChain,tSumV,tBM,rJoin,tJoined,jNil,jLit,jInt,jStr,tRaise,tDGet,tDGet2,tDGet1,sDPut,Option.join_some,List.getElem?_nil,tSeq,tRet,tRetN,tIfS,tTest,tB,tOp,tUn,tVar,tC,tCB,tCons,tNil,tCall,tTupS,tAsg,gName,gNil,gCons,tPar,tNext,tDrop,tAnd,tOr,tNot,tAndV,tOrV,tNotV,tIf,rI,rI0,rU,rIxTH,rIxLH,rEqT,rNeT,rInT,rEq,rNe,scal_ss,scal_ii,scal_bb,scal_si,scal_is,CPow,at0,at1,at2,List.map_cons,List.map_nil,List.length_cons,List.length_nil,Nat.reduceSub,Nat.reduceAdd,Nat.zero_add,List.replicate_zero,List.reduceReplicate,List.append_nil,List.nil_append,List.cons_append,List.getElem?_cons_zero,List.getElem?_cons_succ,List.set_cons_zero,List.set_cons_succ,Option.some.injEq,exists_eq_left',exists_eq_left,V.ref.injEq,V.int.injEq,V.bl.injEq,V.str.injEq,V.ty.injEq,HO.tup.injEq,HO.lst.injEq,List.cons.injEq,and_true,true_and,and_assoc,exists_and_left,decide_eq_true_eq,Bool.not_eq_true',decide_eq_false_iff_not,ite_true,ite_false,if_true,if_false,Int.reduceToNat,eq_self_iff_true] at hc ⊢
    refine(?_:let G_:Prop:=_;G_)
    intro G_
    obtain⟨v,e1,ys,e2,xs,e3,q⟩:=hc
    dsimp only[G_]
    exact⟨v,e1,ys,e2,xs,e3,hq _ _ q⟩
theorem sc_ring:FnScope ["board"] ["board"] (defScope (top 5)):=⟨rfl,rfl,rfl,by decide +kernel,rfl,by decide +kernel,by decide +kernel⟩
theorem ok_ring (T:Txt K mg q_Book tc):Cal P w K mg base (CX1 P w) 5 "ring" ["board"] spRing:=by
 have c_levels:Cal P w K mg base (CX1 P w) 4 "levels" ["board"] spLvs:=ok_lvs T
 refine T.d_ring.cal (fun _ _ _ _ _ _=>us_1 fun _=>rfl) fun f fd F=>F.okC sc_ring (fun vs H Q E h=>?_) (fun cdv A outer s H vs Q E hr h=>?_)
 ·obtain⟨_,_,rfl,_⟩:=h;rfl
 ·refine(?_:let G_:Prop:=_;G_)
  intro G_
  obtain⟨a,b,rfl,rb,B,kk⟩:=h
  dsimp only[G_]
  have nd:=sc_ring.nd
  refine⟨_,(pss_one (ps_ret (pe_comp rfl (N:=["board"]) (so:=defScope (top 5)) (N':=["number","level"]) (k:=2) (fr:=[]) rfl rfl ⟨rfl,by decide +kernel,by decide +kernel,by decide +kernel,rfl,by decide +kernel,by decide +kernel⟩ (pi_enumerateK (K:=K) rfl T.z_enumerate (pa_cons (pe_cal c_levels (hr.mono (by decide)) rfl strictP.pass (pa_cons (pv 0) pa_nil (se rfl)) (he:=se rfl) (hpl:=na rfl)) pa_nil (se rfl))) (fun _ _ _ _ _=>(pg_tupK (K:=K) (n:=2) rfl (pgs_cons (pg_name (i:=0) (show(["number","level"]:List Str).Nodup by decide +kernel) rfl (Or.inl rfl)) (pgs_cons (pg_name (i:=1) (show(["number","level"]:List Str).Nodup by decide +kernel) rfl (Or.inl rfl)) pgs_nil)))) (fun _ _ _ _ _=>(pts_one (pt_cmpR op_isN (pv 1) pe_non (nomark _))))
   (fun _ _ _ _ _=>(pv 0))))),?_⟩
  simp_all only[spLvs]
  refine⟨b,rb,B.len,B.few,B.good,fun f1 H1 s1 nf hf=>⟨⟨_,SqL.of hf⟩,?_⟩⟩
  have ll:=Lv.lvs_len B.good
  have bl:=B.len
  have S:Src (Ite K f1) (Same H1) (List.range b.length).length (fun i v H H3=>∃p x,H p=none∧v=.ref p∧(List.map pkV (Lv.lvs b))[i]?=some x∧H3=upd H p (.tup [.int i,x])):=by
   have:=src_enum (K:=K) (a:=f1) (xs:=List.map pkV (Lv.lvs b)) (Ok:=Same H1) (fun H' s'=>SqL.of (s' _ _ hf))
   rw[List.length_map,ll] at this
   rw[List.length_range]
   exact this
  refine comp_sel2 (K:=K) (List.range b.length) (fun i=>if (Lv.lk (Lv.lvs b) (i:Int)).isNone=true then some (natV i) else none) S (fun i u v _=>u=.int i∧v=pkV (Lv.lk (Lv.lvs b) (i:Int))) ?_ (by rw[List.length_range,sizeLine_eq];omega) ?_ ?_
  ·intro i x H2 H3 hi s2 p6_
   refine(?_:let G_:Prop:=_;G_)
   intro G_
   obtain⟨p,v,np,rfl,ev,rfl⟩:=p6_
   dsimp only[G_]
   refine⟨same_upd np,p,_,_,rfl,SqT.of upd_same,rfl,?_⟩
   rw[List.getElem?_map] at ev
   refine(?_:let G_:Prop:=_;G_)
   intro G_
   obtain⟨o,eo,rfl⟩:=Option.map_eq_some_iff.mp ev
   dsimp only[G_]
   unfold Lv.lk
   rw[Int.toNat_natCast,List.getD_eq_getElem?_getD,eo]
   rfl
  ·rintro i j u v H3 ej s3 ⟨rfl,rfl⟩ Y N y1 n1
   have:j=i:=by
    obtain⟨h1,h2⟩:=List.getElem?_eq_some_iff.mp ej
    rw[List.getElem_range] at h2
    exact h2.symm
   subst this
   simp_all only[]
   cases h:Lv.lk (Lv.lvs b) (j:Int) with
   | none=>
    rw[if_pos (pkV_none.mpr rfl)]
    exact y1 _ _ (by rw[h];rfl) (Same.refl _)
   | some x=>
    rw[if_neg (by simp [pkV])]
    exact n1 _ (by rw[h];rfl) (Same.refl _)
  ·intro H2 s2 D n1 n2
   have e:List.filterMap (fun(i:Nat)=>if (Lv.lk (Lv.lvs b) (i:Int)).isNone=true then some (natV i) else none) (List.range b.length)=List.map natV (ringOf b):=fm_filter natV (fun(i:Nat)=>(Lv.lk (Lv.lvs b) (i:Int)).isNone) _
   rw[e]
   exact kk _ _ (s1.trans (s2.trans (same_upd n2))) (none_of (s1.trans s2) n2) upd_same
theorem sc_steps_from:FnScope ["board","start","steps","found","turn","here","way","to"] ["board","start"] (defScope (top 23)):=⟨rfl,rfl,rfl,by decide +kernel,rfl,by decide +kernel,by decide +kernel⟩
theorem ok_stp (T:Txt K mg q_Book tc):Cal P w K mg base (CX1 P w) 2 "steps_from" ["board","start"] spStp:=by
 have c_goals:Cal P w K mg base (CX1 P w) 1 "goals" ["place"] spGls:=ok_gls T
 refine T.d_steps_from.cal (fun _ _ _ _ _ _=>us_2 fun _ _=>rfl) fun f fd F=>F.okC sc_steps_from (fun vs H Q E h=>?_) (fun cdv A outer s H vs Q E hr h=>?_)
 ·obtain⟨_,_,_,rfl,_⟩:=h;rfl
 ·refine(?_:let G_:Prop:=_;G_)
  intro G_
  obtain⟨a,b,st,rfl,rb,lb,few,gb,h0,h1,kk⟩:=h
  dsimp only[G_]
  clear G_
  have nd:=sc_steps_from.nd
  refine⟨_,(pss_cons (ps_set (i:=2) nd rfl (Or.inl rfl) (pe_d1 (pv 1) pe_non))
  (pss_cons (ps_set (i:=3) nd rfl (Or.inl rfl) (pe_lst (pa_cons (pv 1) pa_nil (se rfl))))
  (pss_cons (ps_set (i:=4) nd rfl (Or.inl rfl) pe_int)
  (pss_cons (ps_while PassesOwn.never (pt_cmpR op_lt (pv 4) (pe_callB call_lenL (by rfl) T.z_len PySem.boot_len (pa_cons (pv 3) pa_nil (se rfl)) (he:=se rfl) (hpl:=na rfl)) (nomark _)) (pss_cons (ps_set (i:=5) nd rfl (Or.inl rfl) (pe_ix ix_listH (pv 3) (pv 4) (fun _ _=>rfl)))
  (pss_cons (ps_for PassesOwn.never rfl (pi_enumerateK (K:=K) rfl T.z_enumerate (pa_cons (pe_cal c_goals (hr.mono (by decide)) rfl strictP.pass (pa_cons (pe_ix ix_listH (pv 0) (pv 5) (fun _ _=>rfl)) pa_nil (se rfl)) (he:=se rfl) (hpl:=na rfl)) pa_nil (se rfl))) (pg_tupK (K:=K) (n:=2) rfl (pgs_cons (pg_name (i:=6) nd rfl (Or.inl rfl)) (pgs_cons (pg_name (i:=7) nd rfl (Or.inl rfl)) pgs_nil))) (pss_one (ps_if (pt_cmp (pc_dnotin (hu_of hr) (pv 7) (pv 2))) (pss_cons (ps_dput (hu_of hr) (pv 2) (pv 7) (pe_tupS (pa_cons (pv 5) (pa_cons (pv 6) pa_nil (se rfl)) (se rfl))) rfl)
  (pss_one (ps_expr (pe_bm PySem.F.plainAttrs_list PySem.F.slot_list_append PySem.F.type_list_append mt_append.r (pv 3) (pa_cons (pv 7) pa_nil (se rfl))))))
   pss_nil)))
  (pss_one (ps_set (i:=4) nd rfl (Or.inl rfl) (pe_op op_add (pv 4) pe_int))))))
  (pss_one (ps_ret (pv 2))))))),?_⟩
  refine(?_:let q0_:TS:=_;let q1_:TS:=_;let q2_:TS:=_;let q3_:TS:=_;let q4_:TS:=_;tSeq q0_ (tSeq q1_ (tSeq q2_ (tSeq q3_ q4_))) _ _ _)
  intro q0_ q1_ q2_ q3_ q4_
  refine(?_:let G_:Prop:=_;G_)
  intro G_
  obtain⟨_,xs,e,ha,rl⟩:=rep_lst.mp rb
  dsimp only[G_]
  clear G_
  cases e
  have lx:=rl.length
  rw[List.length_map] at lx
  simp_all only[]
  intro d nd1
  refine⟨Sum.inl st,rfl,upd_same,by decide,fun f1 nf=>?_⟩
  have hdd:upd (upd H d (.dK [])) d (.dK [(Sum.inl st,V.non)])=upd H d (.dK [(Sum.inl st,V.non)]):=upd_upd
  rw[hdd] at nf ⊢
  have sd:=same_upd (o:=.dK [(Sum.inl st,V.non)]) nd1
  have sf:=same_upd (o:=.lst [V.int st]) nf
  have nfd:f1≠d:=fun z=>by rw[z,upd_same] at nf;cases nf
  have nfH:H f1=none:=none_of sd nf
  have D0:DRep (upd (upd H d (.dK [(Sum.inl st,V.non)])) f1 (.lst [V.int st])) d [(st,none,[])]:=by
   refine⟨_,sf _ _ upd_same,rfl,fun i e he=>?_⟩
   match i,he with
   | 0,he=>cases he;exact⟨_,rfl,rfl⟩
  have hf1:(upd (upd H d (.dK [(Sum.inl st,V.non)])) f1 (.lst [V.int st])) f1=some (.lst [V.int st]):=upd_same
  have sH:=sd.trans sf
  generalize upd (upd H d (.dK [(Sum.inl st,V.non)])) f1 (.lst [V.int st])=H1 at *
  refine while_at (BfW H b a d f1 st) (m:=b.length+1) ⟨0,[(st,none,[])],_,_,_,rfl,D0,hf1,sH,Bf.inv0 h0 h1,rfl,by omega⟩ ?_ ?_
  ·intro m σ H2 p3_
   refine(?_:let G_:Prop:=_;G_)
   intro G_
   obtain⟨t,es,z5,z6,z7,rfl,dr,hf,s2,I,eb,lt⟩:=p3_
   dsimp only[G_]
   clear G_
   have lk:(Bf.keys es).length=es.length:=by unfold Bf.keys;rw[List.length_map]
   have fw:=I.toCore.few
   simp_all only[]
   refine⟨_,hf,?_⟩
   rw[List.length_map,lk]
   by_cases c:t<es.length
   ·rw[if_pos (by omega)]
    have et:es[t]?=some es[t]:=List.getElem?_eq_getElem c
    generalize es[t]=e at et
    have rg:=I.rng e (List.mem_of_getElem? et)
    have ee:((e.1.toNat:Nat):Int)=e.1:=Int.toNat_of_nonneg rg.1
    have hb:e.1.toNat<b.length:=by omega
    have ebq:b[e.1.toNat]?=some b[e.1.toNat]:=List.getElem?_eq_getElem hb
    refine(?_:let G_:Prop:=_;G_)
    intro G_
    obtain⟨v,ev,rv⟩:=rep_br_at rl ebq
    dsimp only[G_]
    clear G_
    have hq:=List.getElem_mem hb
    generalize b[e.1.toNat]=q at *
    have ga:Bf.gAt b e.1=Lv.gls q:=by unfold Bf.gAt;rw[ebq]
    have av:atI xs e.1=some v:=by rw[←ee];exact atI_nat ev
    have ak:atI (List.map V.int (Bf.keys es)) (t:Int)=some (V.int e.1):=atI_pl (by unfold Bf.keys;rw[List.getElem?_map,et];rfl)
    simp only[hf,ak,s2 _ _ ha,av,Option.some.injEq,HO.lst.injEq,exists_eq_left',V.int.injEq,V.ref.injEq,spGls]
    refine⟨v,q,rfl,rv.mono s2,few q hq,fun l H3 s3 nl hl=>⟨⟨_,SqL.of hl⟩,?_⟩⟩
    have dr3:=dr.mono s3
    have hf3:=s3 _ _ hf
    have nld:l≠d:=fun z=>by
     refine(?_:let G_:Prop:=_;G_)
     intro G_
     obtain⟨kvs,hd,_⟩:=dr.ex
     dsimp only[G_]
     rw[z,hd] at nl;cases nl
    have nlf:l≠f1:=fun z=>by rw[z,hf] at nl;cases nl
    refine for_src (src_enum (Ok:=fun H'=>H' l=some (.lst (List.map V.int (Lv.gls q)))) (fun H' e=>SqL.of e)) (BfI H a d f1 l st t e (Lv.gls q) es) ⟨⟨_,_,rfl⟩,dr3,hf3,hl,s2.trans s3⟩ (fun _ _ _ _ h=>h.hl) ?_ ?_
    ·intro i x σ H4 H5 hi p6_ p7_
     refine(?_:let G_:Prop:=_;G_)
     intro G_
     obtain⟨⟨z6,z7,rfl⟩,dr4,hf4,hl4,s4⟩:=p6_
     obtain⟨p,y,np,rfl,ey,rfl⟩:=p7_
     rw[List.length_map] at hi
     rw[List.getElem?_map] at ey
     obtain⟨g,eg,rfl⟩:=Option.map_eq_some_iff.mp ey
     dsimp only[G_]
     clear G_
     have s5:=same_upd (o:=.tup [.int i,.int g]) np
     refine⟨p,_,rfl,SqT.of upd_same,rfl,?_⟩
     have dr5:=dr4.mono s5
     have hf5:=s5 _ _ hf4
     have hl5:=s5 _ _ hl4
     have s45:=s4.trans s5
     generalize upd H4 p (.tup [.int i,.int g])=H5 at *
     have M:=Bf.addG_mid gb ((Lv.gls q).take i) 0 es (Bf.mid_of I et) fun j x hx=>by
      rw[Nat.zero_add,ga]
      have hj:=(List.getElem?_eq_some_iff.mp hx).1
      rw[List.length_take] at hj
      rwa [List.getElem?_take_of_lt (by omega)] at hx
     have tk:(Lv.gls q).take (i+1)=(Lv.gls q).take i++ [g]:=by rw[List.take_add_one,eg];rfl
     have lti:((Lv.gls q).take i).length=i:=by rw[List.length_take];omega
     have nx:=addG_snoc (here:=e.1) (path:=e.2.2) ((Lv.gls q).take i) 0 es g
     rw[←tk,lti,Nat.zero_add] at nx
     have few4:=M.toCore.few
     generalize Bf.addG e.1 e.2.2 0 ((Lv.gls q).take i) es=ei at *
     refine(?_:let G_:Prop:=_;G_)
     intro G_
     obtain⟨o,go,ho⟩:=dr5.has M.nd g
     dsimp only[G_]
     simp_all only[]
     refine⟨o,go,?_⟩
     rw[ho]
     by_cases cg:g∈Bf.keys ei
     ·rw[if_neg (by simpa using cg)]
      rw[if_pos cg] at nx
      exact⟨⟨_,_,rfl⟩,by rw[nx];exact dr5,by rw[nx];exact hf5,hl5,s45⟩
     ·rw[if_pos (by simpa using cg)]
      rw[if_neg cg] at nx
      refine⟨by decide,fun p6 H6 s6 np6 e6=>?_⟩
      obtain⟨o7,pt,dr7⟩:=(dr5.mono s6).put (par:=some (e.1,i)) (path:=e.2.2++ [i]) cg ⟨p6,rfl,e6⟩ (by rw[sizeLine_eq];omega)
      have hf6:=s6 _ _ hf5
      have hl6:=s6 _ _ hl5
      have hf7:upd H6 d o7 f1=some (.lst (List.map V.int (Bf.keys ei))):=by rw[upd_ne nfd];exact hf6
      have lke:(Bf.keys ei).length=ei.length:=by unfold Bf.keys;rw[List.length_map]
      refine⟨_,pt,.inl ⟨rfl,_,SqL.of hf7⟩,f1,_,_,rfl,rfl,hf7,by rw[List.length_map,sizeLine_eq];omega,?_⟩
      have sF:Same H (upd (upd H6 d o7) f1 (.lst (List.map V.int (Bf.keys ei)++ [V.int g]))):=same_upd_of (same_upd_of (s45.trans s6) nd1) nfH
      refine⟨⟨_,_,rfl⟩,?_,?_,?_,sF⟩
      ·rw[nx]
       refine(?_:let G_:Prop:=_;G_)
       intro G_
       obtain⟨kvs,k1,k2,k3⟩:=dr7.ex
       dsimp only[G_]
       refine⟨kvs,by rw[upd_ne (Ne.symm nfd)];exact k1,k2,fun j x hx=>?_⟩
       refine(?_:let G_:Prop:=_;G_)
       intro G_
       obtain⟨v,v1,v2⟩:=k3 j x hx
       dsimp only[G_]
       exact⟨v,v1,v2.upd fun ys z=>by rw[hf7] at z;cases z⟩
      ·rw[nx,upd_same]
       unfold Bf.keys
       rw[List.map_append,List.map_append]
       rfl
      ·rw[upd_ne nlf,upd_ne nld]
       exact hl6
    ·intro σ H4 p2_
     refine(?_:let G_:Prop:=_;G_)
     intro G_
     obtain⟨⟨z6,z7,rfl⟩,dr4,hf4,hl4,s4⟩:=p2_
     dsimp only[G_]
     rw[List.length_map,List.take_of_length_le (Nat.le_refl _),←ga] at dr4 hf4
     simp_all only[]
     cases m with
     | zero=>omega
     | succ m=>
      refine⟨m,Nat.lt_succ_self _,⟨t+1,_,_,_,_,rfl,dr4,hf4,s4,Bf.turn gb I et,?_,by omega⟩⟩
      rw[←eb]
      show _=(match es[t]? with | none=>es | some e=>Bf.bfs b m (t+1) (Bf.addG e.1 e.2.2 0 (Bf.gAt b e.1) es))
      rw[et]
   ·rw[if_neg (by omega)]
    have:Bf.bfs b m t es=es:=by
     cases m with
     | zero=>rfl
     | succ m=>
      show(match es[t]? with | none=>es | some e=>Bf.bfs b m (t+1) (Bf.addG e.1 e.2.2 0 (Bf.gAt b e.1) es))=es
      rw[List.getElem?_eq_none (by omega)]
    rw[this] at eb
    subst eb
    exact kk _ _ s2 nd1 dr
  ·intro σ H1 Q1 Q2 hq hc
   simp only[L2.start,Pr,tRev,tD1,tDPop1,tSl,tNoPart,tPart,rSlL,tDIn,tDNotIn,gSub,rSetL,tLst,tDNewK,tComp,L2.stC,tFor_eq,iList,iTup,iRng1,iRng2,iZip,iEnum,iDict,iStr,tChain,tSumV,tBM,rJoin,tJoined,jNil,jLit,jInt,jStr,tRaise,tDGet,tDGet2,tDGet1,sDPut,Option.join_some,List.getElem?_nil,tSeq,tRet,tRetN,tIfS,tTest,tB,tOp,tUn,tVar,tC,tCB,tCons,tNil,tCall,tTupS,tAsg,gName,gNil,gCons,tPar,tNext,tDrop,tAnd,tOr,tNot,tAndV,tOrV,tNotV,tIf,rI,rI0,rU,rIxTH,rIxLH,rEqT,rNeT,rInT,rEq,rNe,scal_ss,scal_ii,scal_bb,scal_si,scal_is,CPow,at0,at1,at2,List.map_cons,List.map_nil,List.length_cons,List.length_nil,Nat.reduceSub,Nat.reduceAdd,Nat.zero_add,List.replicate_zero,List.reduceReplicate,List.append_nil,List.nil_append,List.cons_append,List.getElem?_cons_zero,List.getElem?_cons_succ,List.set_cons_zero,List.set_cons_succ,Option.some.injEq,exists_eq_left',exists_eq_left,V.ref.injEq,V.int.injEq,V.bl.injEq,V.str.injEq,V.ty.injEq,HO.tup.injEq,HO.lst.injEq,List.cons.injEq,and_true,true_and,and_assoc,exists_and_left,decide_eq_true_eq,Bool.not_eq_true',decide_eq_false_iff_not,ite_true,ite_false,if_true,if_false,Int.reduceToNat,eq_self_iff_true] at hc ⊢
   refine(?_:let G_:Prop:=_;G_)
   intro G_
   obtain⟨v,e1,v1,e2,p,e3,x,e4,i,e5,q⟩:=hc
   dsimp only[G_]
   exact⟨v,e1,v1,e2,p,e3,x,e4,i,e5,hq _ _ q⟩
theorem fm_ints (p:Int→Bool):∀l:List Int,l.filterMap (fun o=>if p o=true then some o else none)=l.filter p
 | []=>rfl
 | x::l=>by
  rw[List.filterMap_cons,List.filter_cons,fm_ints p l]
  by_cases c:p x=true
  ·simp [c]
  ·simp [c]
noncomputable def hdAt (H:Hp) (x:Addr):Int:=match H x with
 | some (.lst (.int j::_))=>j
 | _=>0
noncomputable def spPrt (tp:Addr):Sp:=fun vs H Q _=>∃a b,vs=[.ref a]∧Rep H (brD b) (.ref a)∧b.length≤63∧(∀q∈b,(Lv.gls q).length≤100)∧Lv.Good b∧H tp=some (.tbl dsc)∧
 ∀l ps as H',Pr.Told b ps→Same H H'→H l=none→H' l=some (.lst (List.map V.ref as))→Al (fun p v=>∃x,v=.ref x∧H' x=some (.lst (List.map V.int (Pr.prt b p)))∧H x=none) ps (as.map V.ref)→Q (.ref l) H'
theorem sc_parts:FnScope ["board","reach","found","place","part"] ["board"] (defScope (top 24)):=⟨rfl,rfl,rfl,by decide +kernel,rfl,by decide +kernel,by decide +kernel⟩
theorem ok_prt (T:Txt K mg q_Book tc) (LB:LamB base mg tc tp):Cal P w K mg base (CX1 P w) 3 "parts" ["board"] (spPrt tp):=by
 have c_steps_from:Cal P w K mg base (CX1 P w) 2 "steps_from" ["board","start"] spStp:=ok_stp T
 refine T.d_parts.calL T.l_parts (fun _ _ _ _ _ _=>us_1 fun _=>rfl) fun f fd F hc=>F.okL hc sc_parts (fun vs H Q E h=>?_) (fun A outer s H vs Q E hr h=>?_)
 ·obtain⟨_,_,rfl,_⟩:=h;rfl
 ·refine(?_:let G_:Prop:=_;G_)
  intro G_
  obtain⟨a,b,rfl,rb,lb,few,gb,htp,kk⟩:=h
  dsimp only[G_]
  clear G_
  have nd:=sc_parts.nd
  refine⟨_,(pss_cons (ps_set (i:=1) nd rfl (Or.inr rfl) (pe_comp rfl (N:=["board","reach","found","place","part"]) (so:=defScope (top 24)) (N':=["start","board"]) (k:=1) (fr:=[0]) rfl rfl ⟨rfl,by decide +kernel,by decide +kernel,by decide +kernel,rfl,by decide +kernel,by decide +kernel⟩ (pi_range1 rfl T.z_range (pa_cons (pe_callB call_lenL (by rfl) T.z_len PySem.boot_len (pa_cons (pv 0) pa_nil (se rfl)) (he:=se rfl) (hpl:=na rfl)) pa_nil (se rfl))) (fun _ _ _ _ _=>(pg_name (i:=0) (show(["start","board"]:List Str).Nodup by decide +kernel) rfl (Or.inl rfl))) (fun _ _ _ _ _=>pts_nil)
   (fun _ _ _ _ _=>(pe_cal c_steps_from (hr.mono (by decide)) rfl strictP.pass (pa_cons (pv 1) (pa_cons (pv 0) pa_nil (se rfl)) (se rfl)) (he:=se rfl) (hpl:=na rfl)))))
  (pss_cons (ps_set (i:=2) nd rfl (Or.inl rfl) (pe_lst pa_nil))
  (pss_cons (ps_for PassesOwn.never rfl (pi_range1 rfl T.z_range (pa_cons (pe_callB call_lenL (by rfl) T.z_len PySem.boot_len (pa_cons (pv 0) pa_nil (se rfl)) (he:=se rfl) (hpl:=na rfl)) pa_nil (se rfl))) (pg_name (i:=3) nd rfl (Or.inr rfl)) (pss_cons (ps_setC (i:=4) rfl nd rfl rfl (N:=["board","reach","found","place","part"]) (so:=defScope (top 24)) (N':=["other","reach","place"]) (k:=1) (fr:=[1,3]) rfl rfl ⟨rfl,by decide +kernel,by decide +kernel,by decide +kernel,rfl,by decide +kernel,by decide +kernel⟩ (pi_listK (K:=K) (pe_callB call_sorted_dK (by rfl) T.z_sorted rfl (pa_cons (pe_ix ix_listH (pv 1) (pv 3) (fun _ _=>rfl)) pa_nil (se rfl)) (he:=se rfl) (hpl:=na rfl))) (fun _ _ _ _ _=>(pg_name (i:=0) (show(["other","reach","place"]:List Str).Nodup by decide +kernel) rfl (Or.inl rfl))) (fun _ _ _ _ _=>(pts_one (pt_cmp (pc_din (hu_of hr) (pv 2) (pe_ix ix_listH (pv 1) (pv 0) (fun _ _=>rfl))))))
   (fun _ _ _ _ _=>(pv 0)))
  (pss_one (ps_if (pt_cmpR op_eq (pe_ix ix_listH (pv 4) pe_int (fun _ _=>rfl)) (pv 3) (nomark _)) (pss_one (ps_expr (pe_bm PySem.F.plainAttrs_list PySem.F.slot_list_append PySem.F.type_list_append mt_append.r (pv 2) (pa_cons (pv 4) pa_nil (se rfl)))))
   pss_nil))))
  (pss_one (ps_ret (pe_sortL (i:=1) (dsc:=dsc) (t0:=0) rfl T.z_sorted T.z_len LB rfl hr rfl (pv 2))))))),?_⟩
  refine(?_:let q0_:TS:=_;let q1_:TS:=_;let q2_:TS:=_;let q3_:TS:=_;tSeq q0_ (tSeq q1_ (tSeq q2_ q3_)) _ _ _)
  intro q0_ q1_ q2_ q3_
  have sl:=sizeLine_eq
  refine(?_:let G_:Prop:=_;G_)
  intro G_
  obtain⟨_,xs,e,ha,rl⟩:=rep_lst.mp rb
  dsimp only[G_]
  clear G_
  cases e
  have lx:=rl.length
  rw[List.length_map] at lx
  change tSeq _ _ _ [some (.ref a),none,none,none,none] H
  refine seq_gen (fun σ' H1=>Same H H1∧∃r ys,H1 r=some (.lst ys)∧ys.length=b.length∧(∀(i:Nat) y,ys[i]?=some y→∃d,y=.ref d∧DRep H1 d (Bf.steps b (i:Int)))∧σ'=[some (.ref a),some (.ref r),none,none,none]) ?_ (fun N hN=>?_)
  case refine_2=>
   simp_all only[spStp]
   refine⟨_,ha,by omega,by omega,?_⟩
   refine comp_map src_range (fun _ _ _ _ h=>by rw[h.1];exact Same.refl _) (by omega) (fun i y H4=>∃d,y=.ref d∧DRep H4 d (Bf.steps b (i:Int))) (fun i y H4 H5 s5 ⟨d,e,h⟩=>⟨d,e,h.mono s5⟩) ?_ ?_
   ·rintro i x w0 H4 H5 Q2 hi s4 ⟨rfl,rfl⟩ kq
    simp_all only[spStp,Int.zero_add]
    exact⟨b,rb.mono s4,by omega,few,gb,by omega,by omega,fun d H6 s6 n6 dr=>kq _ _ s6 ⟨d,rfl,dr⟩⟩
   ·intro ys H5 s5 ly hy D n1 n2
    refine hN _ _ ⟨s5.trans (same_upd n2),D,ys,upd_same,by omega,fun i y e=>?_,rfl⟩
    refine(?_:let G_:Prop:=_;G_)
    intro G_
    obtain⟨d,e1,h1⟩:=hy i y e
    dsimp only[G_]
    exact⟨d,e1,h1.mono (same_upd n2)⟩
  intro _ H1 p2_
  refine(?_:let G_:Prop:=_;G_)
  intro G_
  obtain⟨s1,r,ys,hr1,ly,hy,rfl⟩:=p2_
  dsimp only[G_]
  clear G_
  change tSeq _ _ _ [some (.ref a),some (.ref r),none,none,none] H1
  refine seq_gen (fun σ' H2=>∃fa,H1 fa=none∧Same H1 H2∧H2 fa=some (.lst [])∧σ'=[some (.ref a),some (.ref r),some (.ref fa),none,none]) ?_ (fun N hN=>?_)
  case refine_2=>
   simp_all only[]
   exact⟨Nat.zero_le _,fun fa nf=>hN _ _ ⟨fa,nf,same_upd nf,upd_same,rfl⟩⟩
  intro _ H2 p2_
  refine(?_:let G_:Prop:=_;G_)
  intro G_
  obtain⟨fa,nf,s2,hf2,rfl⟩:=p2_
  dsimp only[G_]
  clear G_
  have hyat:∀i:Nat,i<b.length→∃d kvs,ys[i]?=some (.ref d)∧DRep H1 d (Bf.steps b (i:Int))∧H1 d=some (.dK kvs)∧keysI kvs=Pr.kb b (i:Int)∧(∀p∈kvs,∃k,p.1=Sum.inl k)∧kvs.length=(Pr.kb b (i:Int)).length:=fun i hi=>by
   refine(?_:let G_:Prop:=_;G_)
   intro G_
   obtain⟨d,e,dr⟩:=hy i _ (List.getElem?_eq_getElem (by omega))
   obtain⟨kvs,hd,hk,_⟩:=dr.ex
   dsimp only[G_]
   refine⟨d,kvs,by rw[List.getElem?_eq_getElem (by omega),e],dr,hd,?_,fun p hp=>?_,?_⟩
   ·have:keysI kvs=(kvs.map (·.1)).map (fun k:Key=>match k with | .inl i=>i | .inr _=>(0:Int)):=by
     unfold keysI
     rw[List.map_map]
     rfl
    rw[this,hk,List.map_map]
    unfold Pr.kb
    simp [Function.comp_def]
   ·have:p.1∈(Bf.keys (Bf.steps b (i:Int))).map Sum.inl:=by rw[←hk];exact List.mem_map.mpr ⟨p,hp,rfl⟩
    refine(?_:let G_:Prop:=_;G_)
    intro G_
    obtain⟨k,_,e⟩:=List.mem_map.mp this
    dsimp only[G_]
    exact⟨k,e.symm⟩
   ·have:=congrArg List.length hk
    rw[List.length_map,List.length_map] at this
    exact this
  change tSeq _ _ _ [some (.ref a),some (.ref r),some (.ref fa),none,none] H2
  refine seq_gen (fun σ' H3=>Same H1 H3∧∃as,H3 fa=some (.lst (List.map V.ref as))∧Al (fun p v=>∃x,v=.ref x∧H3 x=some (.lst (List.map V.int (Pr.prt b p)))∧H1 x=none) (Pr.hds b b.length) (as.map V.ref)∧∃z3 z4,σ'=[some (.ref a),some (.ref r),some (.ref fa),z3,z4]) ?_ (fun N hN=>?_)
  case refine_2=>
   simp_all only[]
   refine⟨_,s2 _ _ (s1 _ _ ha),by omega,by omega,?_⟩
   refine for_src (src_range (Ok:=fun _=>True)) (fun i σ H3=>Same H1 H3∧∃as,H3 fa=some (.lst (List.map V.ref as))∧Al (fun p v=>∃x,v=.ref x∧H3 x=some (.lst (List.map V.int (Pr.prt b p)))∧H1 x=none∧x≠fa) (Pr.hds b i) (as.map V.ref)∧∃z3 z4,σ=[some (.ref a),some (.ref r),some (.ref fa),z3,z4]) ⟨s2,[],hf2,trivial,_,_,rfl⟩ (fun _ _ _ _ _=>trivial) ?_ ?_
   ·intro i x σ H3 H4 hi p6_ p7_
    refine(?_:let G_:Prop:=_;G_)
    intro G_
    obtain⟨s3,as,hf3,al,z3,z4,rfl⟩:=p6_
    obtain⟨rfl,rfl⟩:=p7_
    dsimp only[G_]
    clear G_
    simp_all only[Int.zero_add]
    have hib:i<b.length:=by omega
    have inb:Pr.In b (i:Int):=⟨by omega,by omega⟩
    refine(?_:let G_:Prop:=_;G_)
    intro G_
    obtain⟨d,kvs,ed,dr,hd,ek,ka,kl⟩:=hyat i hib
    dsimp only[G_]
    clear G_
    have kbl:=Pr.kb_len gb inb
    refine⟨ys,s3 _ _ hr1,.ref d,atI_nat ed,d,rfl,kvs,.inl (s3 _ _ hd),ka,by omega,fun l nl=>?_⟩
    rw[ek]
    have sL:=same_upd (o:=.lst (List.map V.int (Nm.srt (Pr.kb b (i:Int))))) nl
    have hl5:(upd H4 l (.lst (List.map V.int (Nm.srt (Pr.kb b (i:Int)))))) l=some (.lst (List.map V.int (Nm.srt (Pr.kb b (i:Int))))):=upd_same
    generalize upd H4 l (.lst (List.map V.int (Nm.srt (Pr.kb b (i:Int)))))=H5 at *
    refine⟨⟨_,SqL.of hl5⟩,?_⟩
    have S:Src (Itl K l) (Same H5) (Nm.srt (Pr.kb b (i:Int))).length (fun j x H H3=>H3=H∧(List.map V.int (Nm.srt (Pr.kb b (i:Int))))[j]?=some x):=by
     have:=src_list (K:=K) (a:=l) (xs:=List.map V.int (Nm.srt (Pr.kb b (i:Int)))) (Ok:=Same H5) (fun H' s'=>SqL.of (s' _ _ hl5))
     rw[List.length_map] at this
     exact this
    refine comp_ints (Nm.srt (Pr.kb b (i:Int))) (fun o=>if decide ((i:Int)∈Pr.kb b o)=true then some o else none) S (fun _ _ _ _ h=>h.1) (by rw[Nm.srt_length];omega) ?_ ?_
    ·rintro j o x eo ⟨_,ex⟩ Y N1 y1 n1
     rw[List.getElem?_map,eo] at ex
     cases ex
     have ho:=Nm.srt_mem.mp (List.mem_of_getElem? eo)
     obtain⟨io0,io1⟩:=Pr.kb_in gb inb ho
     obtain⟨o,rfl⟩:=Int.eq_ofNat_of_zero_le io0
     refine(?_:let G_:Prop:=_;G_)
     intro G_
     obtain⟨d2,kvs2,ed2,dr2,hd2,ek2,ka2,kl2⟩:=hyat o (by omega)
     obtain⟨oo,g1,g2⟩:=(dr2.mono (s3.trans sL)).has (Pr.kb_nd gb ⟨io0,io1⟩) (i:Int)
     dsimp only[G_]
     simp_all only[s3.trans sL _ _ hr1,show atI ys (o:Int)=some (.ref d2) from atI_nat ed2]
     refine⟨oo,g1,?_⟩
     rw[g2]
     exact ite2 (fun c=>y1 _ (if_pos c)) (fun c=>n1 (if_neg c))
    ·intro D n1 n2
     rw[fm_ints]
     have ep:(Nm.srt (Pr.kb b (i:Int))).filter (fun o=>decide ((i:Int)∈Pr.kb b o))=Pr.prt b (i:Int):=rfl
     rw[ep]
     have ne:=Pr.prt_ne gb inb
     have sD:=same_upd (o:=.lst (List.map V.int (Pr.prt b (i:Int)))) n2
     have hD:(upd H5 D (.lst (List.map V.int (Pr.prt b (i:Int))))) D=some (.lst (List.map V.int (Pr.prt b (i:Int)))):=upd_same
     generalize upd H5 D (.lst (List.map V.int (Pr.prt b (i:Int))))=H6 at *
     have s36:Same H1 H6:=s3.trans (sL.trans sD)
     have hf6:H6 fa=some (.lst (List.map V.ref as)):=sD _ _ (sL _ _ hf3)
     have nD:H1 D=none:=none_of (s3.trans sL) n2
     have Df:D≠fa:=fun z=>by rw[z,sL _ _ hf3] at n2;cases n2
     have al6:Al (fun p v=>∃x,v=V.ref x∧H6 x=some (.lst (List.map V.int (Pr.prt b p)))∧H1 x=none∧x≠fa) (Pr.hds b i) (as.map V.ref):=al.imp fun p v ⟨x,e,h1,h2,h3⟩=>⟨x,e,sD _ _ (sL _ _ h1),h2,h3⟩
     have al_len:=al.length
     rw[List.length_map] at al_len
     have hl':=Pr.hds_len (b:=b) (n:=i)
     cases ec:Pr.prt b (i:Int) with
     | nil=>exact absurd ec ne
     | cons x0 rest=>
      have erep:Pr.rep b (i:Int)=x0:=by unfold Pr.rep;rw[ec];rfl
      refine⟨_,hD,.int x0,by rw[ec,List.map_cons];exact at0,rfl,?_⟩
      by_cases c:x0=(i:Int)
      ·rw[if_pos (by rw[c])]
       refine⟨.inl ⟨rfl,_,SqL.of hf6⟩,fa,List.map V.ref as,.ref D,rfl,rfl,hf6,by rw[List.length_map];omega,same_upd_of s36 nf,as++ [D],by rw[upd_same,List.map_append];rfl,?_,_,rfl⟩
       rw[Pr.hds_succ,if_pos (by rw[erep,c]),List.map_append]
       exact(al6.imp fun p v ⟨x,e,h1,h2,h3⟩=>⟨x,e,by rw[upd_ne h3];exact h1,h2,h3⟩).append (.one ⟨D,rfl,by rw[upd_ne Df];exact hD,nD,Df⟩)
      ·rw[if_neg (by intro z;exact c (by injection z))]
       refine⟨s36,as,hf6,?_,_,rfl⟩
       rw[Pr.hds_succ,if_neg (by rw[erep];exact c)]
       exact al6
   ·intro σ H3 p2_
    refine(?_:let G_:Prop:=_;G_)
    intro G_
    obtain⟨s3,as,hf3,al,z3,z4,rfl⟩:=p2_
    dsimp only[G_]
    rw[Int.toNat_natCast,←lx] at al
    exact hN _ _ ⟨s3,as,hf3,al.imp fun p v ⟨x,e,h1,h2,_⟩=>⟨x,e,h1,h2⟩,_,_,rfl⟩
  intro _ H3 p2_
  refine(?_:let G_:Prop:=_;G_)
  intro G_
  obtain⟨s3,as,hf3,al,z3,z4,rfl⟩:=p2_
  dsimp only[G_]
  simp_all only[tSortL]
  have each:∀x∈as,∃p,p∈Pr.hds b b.length∧H3 x=some (.lst (List.map V.int (Pr.prt b p)))∧H1 x=none∧hdAt H3 x=p∧Pr.In b p:=fun x hx=>by
   obtain⟨i,ei⟩:=List.getElem?_of_mem hx
   obtain⟨p,ep,x',e,h1,h2⟩:=al.get (show(as.map V.ref)[i]?=some (.ref x) by rw[List.getElem?_map,ei];rfl)
   cases e
   have mp:=List.mem_of_getElem? ep
   obtain⟨inb,er⟩:=Pr.hds_mem.mp mp
   refine⟨p,mp,h1,h2,?_,inb⟩
   unfold hdAt
   rw[h1]
   unfold Pr.rep at er
   cases ec:Pr.prt b p with
   | nil=>exact absurd ec (Pr.prt_ne gb inb)
   | cons x0 r0=>rw[ec] at er;exact er
  have emap:as.map (hdAt H3)=Pr.hds b b.length:=by
   apply List.ext_getElem?
   intro i
   rw[List.getElem?_map]
   cases ei:as[i]? with
   | none=>
    have l1:=al.length
    rw[List.length_map] at l1
    have l2:=List.getElem?_eq_none_iff.mp ei
    rw[List.getElem?_eq_none (by omega)]
    rfl
   | some x=>
    obtain⟨p,ep,x',e,h1,h2⟩:=al.get (show(as.map V.ref)[i]?=some (.ref x) by rw[List.getElem?_map,ei];rfl)
    cases e
    obtain⟨inb,er⟩:=Pr.hds_mem.mp (List.mem_of_getElem? ep)
    rw[ep]
    show some (hdAt H3 x)=some p
    unfold hdAt
    rw[h1]
    unfold Pr.rep at er
    cases ec:Pr.prt b p with
    | nil=>exact absurd ec (Pr.prt_ne gb inb)
    | cons x0 r0=>rw[ec] at er;exact congrArg some er
  have al_len:=al.length
  rw[List.length_map] at al_len
  have hl':=Pr.hds_len (b:=b) (n:=b.length)
  refine⟨as,hf3,by omega,fun x=>((Pr.kb b (hdAt H3 x)).length:Int),ys,s3 _ _ hr1,s3 _ _ (s1 _ _ htp),fun x hx=>?_,fun p cs H4 s4 np hp pm pw=>?_⟩
  ·refine(?_:let G_:Prop:=_;G_)
   intro G_
   obtain⟨p,mp,h1,h2,h3,inb⟩:=each x hx
   obtain⟨i,rfl⟩:=Int.eq_ofNat_of_zero_le inb.1
   have i1:=inb.2
   obtain⟨d,kvs,ed,dr,hd,ek,ka,kl⟩:=hyat i (by omega)
   dsimp only[G_]
   show ∃j xs,H3 x=some (HO.lst (V.int j::xs))∧0≤j∧j<1000000∧∃x_1,ys[j.toNat]?=some (V.ref x_1)∧∃x_2,H3 x_1=some (HO.dK x_2)∧((Pr.kb b (hdAt H3 x)).length:Int)=((x_2.length:Nat):Int)
   rw[h3]
   have er:=(Pr.hds_mem.mp mp).2
   unfold Pr.rep at er
   cases ec:Pr.prt b (i:Int) with
   | nil=>exact absurd ec (Pr.prt_ne gb inb)
   | cons x0 r0=>
    rw[ec] at er h1
    have er:x0=(i:Int):=er
    subst er
    exact⟨(i:Int),_,h1,by omega,by omega,d,by rw[Int.toNat_natCast];exact ed,kvs,s3 _ _ hd,by rw[kl]⟩
  ·have pm2:(cs.map (hdAt H3)).Perm (Pr.hds b b.length):=by rw[←emap];exact pm.map _
   refine kk p (cs.map (hdAt H3)) cs H4 ⟨pm2,?_⟩ ((s1.trans s3).trans s4) (none_of (s1.trans s3) np) hp ?_
   ·rw[List.pairwise_map]
    exact pw.imp fun {x y} (h:((Pr.kb b (hdAt H3 x)).length:Int)≤((Pr.kb b (hdAt H3 y)).length:Int))=>by omega
   ·refine Al.of (by rw[List.length_map,List.length_map]) fun i v q e1 e2=>?_
    rw[List.getElem?_map] at e1 e2
    refine(?_:let G_:Prop:=_;G_)
    intro G_
    obtain⟨x,ex,rfl⟩:=Option.map_eq_some_iff.mp e1
    dsimp only[G_]
    rw[ex] at e2
    cases e2
    refine(?_:let G_:Prop:=_;G_)
    intro G_
    obtain⟨q,mq,h1,h2,h3,inb⟩:=each x (pm.mem_iff.mp (List.mem_of_getElem? ex))
    dsimp only[G_]
    rw[h3]
    exact⟨x,rfl,s4 _ _ h1,none_of s1 h2⟩
theorem sc_row_with_head:FnScope ["rows","start","spot"] ["rows","start"] (defScope (top 15)):=⟨rfl,rfl,rfl,by decide +kernel,rfl,by decide +kernel,by decide +kernel⟩
theorem ok_rh (T:Txt K mg q_Book tc):Cal P w K mg base (CX1 P w) 1 "row_with_head" ["rows","start"] spRh:=by
 refine T.d_row_with_head.cal (fun _ _ _ _ _ _=>us_2 fun _ _=>rfl) fun f fd F=>F.okC sc_row_with_head (fun vs H Q E h=>?_) (fun cdv A outer s H vs Q E hr h=>?_)
 ·obtain⟨_,_,_,rfl,_⟩:=h;rfl
 ·refine(?_:let G_:Prop:=_;G_)
  intro G_
  obtain⟨a,L,k,rfl,⟨xs,ha,al⟩,kn,n64,ne,kS,kN⟩:=h
  dsimp only[G_]
  have nd:=sc_row_with_head.nd
  refine⟨_,(pss_cons (ps_for PassesOwn.never rfl (pi_range2 rfl T.z_range (pa_cons (pv 1) (pa_cons (pe_callB call_lenL (by rfl) T.z_len PySem.boot_len (pa_cons (pv 0) pa_nil (se rfl)) (he:=se rfl) (hpl:=na rfl)) pa_nil (se rfl)) (se rfl))) (pg_name (i:=2) nd rfl (Or.inl rfl)) (pss_one (ps_if (pt_cmpR op_ne (pe_ix ix_listH (pe_ix ix_listH (pv 0) (pv 2) (fun _ _=>rfl)) pe_int (fun _ _=>rfl)) pe_int (nomark _)) (pss_one (ps_ret (pv 2)))
   pss_nil)))
  (pss_one (ps_ret pe_non))),?_⟩
  have lx:=al.length
  simp_all only[]
  refine⟨_,ha,by omega,by omega,by omega,by omega,for_src (src_range (Ok:=fun _=>True)) (fun i σ H'=>H=H'∧(∀j:Nat,k≤j→j<k+i→(L.getD j []).headD 0=0)∧∃z,σ=[some (.ref a),some (.int (k:Int)),z]) ⟨rfl,fun j h1 h2=>by omega,_,rfl⟩ (fun _ _ _ _ _=>trivial) ?_ ?_⟩
  ·intro i x σ H' H'' hi p6_ p7_
   refine(?_:let G_:Prop:=_;G_)
   intro G_
   obtain⟨rfl,hz,z,rfl⟩:=p6_
   obtain⟨rfl,rfl⟩:=p7_
   have hi2:k+i<L.length:=by omega
   have er:L[k+i]?=some L[k+i]:=List.getElem?_eq_getElem hi2
   obtain⟨q,eq,hq⟩:=at_row al er
   dsimp only[G_]
   have eh:=at_head (ne L[k+i] (List.getElem_mem hi2))
   have eg:L.getD (k+i) []=L[k+i]:=by rw[List.getD_eq_getElem?_getD,er];rfl
   have ei:((k:Int)+ (i:Int))=((k+i:Nat):Int):=by omega
   rw[ei]
   simp_all only[ha,eq,hq,eh]
   refine ite2 (fun c=>?_) (fun c=>?_)
   ·exact kS (k+i) (by omega) hi2 (by rw[eg];exact c)
   ·refine⟨fun j h1 h2=>?_,_,rfl⟩
    by_cases e:j=k+i
    ·rw[e,eg]
     exact Decidable.not_not.mp c
    ·exact hz j h1 (by omega)
  ·intro σ H' p2_
   refine(?_:let G_:Prop:=_;G_)
   intro G_
   obtain⟨rfl,hz,z,rfl⟩:=p2_
   dsimp only[G_]
   simp_all only[]
   exact kN fun i h1 h2=>hz i h1 (by omega)
theorem sc_swapped:FnScope ["rows","one","other","turned"] ["rows","one","other"] (defScope (top 16)):=⟨rfl,rfl,rfl,by decide +kernel,rfl,by decide +kernel,by decide +kernel⟩
theorem ok_swd (T:Txt K mg q_Book tc):Cal P w K mg base (CX1 P w) 1 "swapped" ["rows","one","other"] spSwd:=by
 refine T.d_swapped.cal (fun _ _ _ _ _ _=>us_3 fun _ _ _=>rfl) fun f fd F=>F.okC sc_swapped (fun vs H Q E h=>?_) (fun cdv A outer s H vs Q E hr h=>?_)
 ·obtain⟨_,_,_,_,rfl,_⟩:=h;rfl
 ·refine(?_:let G_:Prop:=_;G_)
  intro G_
  obtain⟨a,L,i,j,rfl,⟨xs,ha,al⟩,hi,hj,n64,kk⟩:=h
  dsimp only[G_]
  clear G_
  have nd:=sc_swapped.nd
  refine⟨_,(pss_cons (ps_set (i:=3) nd rfl (Or.inl rfl) (pe_callTy (call_list_ofK (K:=K)) (by rfl) T.z_list rfl (pa_cons (pv 0) pa_nil (se rfl)) (he:=se rfl) (hpl:=na rfl)))
  (pss_cons (ps_asg (pe_ix ix_listH (pv 0) (pv 2) (fun _ _=>rfl)) (pg_sub (pv 3) (pv 1) set_list))
  (pss_cons (ps_asg (pe_ix ix_listH (pv 0) (pv 1) (fun _ _=>rfl)) (pg_sub (pv 3) (pv 2) set_list))
  (pss_one (ps_ret (pv 3)))))),?_⟩
  refine(?_:let q0_:TS:=_;let q1_:TS:=_;let q2_:TS:=_;let q3_:TS:=_;tSeq q0_ (tSeq q1_ (tSeq q2_ q3_)) _ _ _)
  intro q0_ q1_ q2_ q3_
  have lx:=al.length
  have ei:L[i]?=some (L.getD i []):=by rw[List.getD_eq_getElem?_getD,List.getElem?_eq_getElem hi];rfl
  have ej:L[j]?=some (L.getD j []):=by rw[List.getD_eq_getElem?_getD,List.getElem?_eq_getElem hj];rfl
  refine(?_:let G_:Prop:=_;G_)
  intro G_
  obtain⟨qi,ai,hqi⟩:=at_row al ei
  obtain⟨qj,aj,hqj⟩:=at_row al ej
  dsimp only[G_]
  clear G_
  simp_all only[ha]
  refine⟨_,.inl (SqL.of ha),fun m nm=>?_⟩
  have sm:=same_upd (o:=.lst xs) nm
  have hm:upd H m (.lst xs) m=some (.lst xs):=upd_same
  generalize upd H m (.lst xs)=H1 at *
  simp_all only[sm _ _ ha,aj]
  have am:a≠m:=fun e=>by rw[e,nm] at ha;cases ha
  refine⟨_,hm,i,ixN_nat (by omega),_,by rw[upd_ne am];exact sm _ _ ha,_,ai,_,upd_same,j,ixN_nat (by rw[List.length_set];omega),?_⟩
  have s2:=same_upd_of (o:=.lst ((xs.set i (V.ref qj)).set j (V.ref qi))) (same_upd_of (o:=.lst (xs.set i (V.ref qj))) sm nm) nm
  exact kk _ _ s2 ⟨_,upd_same,((al.imp fun _ _ h=>h.mono s2).set ⟨qj,rfl,s2 _ _ hqj⟩).set ⟨qi,rfl,s2 _ _ hqi⟩⟩
theorem sc_without_first_column:FnScope ["rows","spot","last","head","tail","left","number","row","first"] ["rows","spot","last"] (defScope (top 17)):=⟨rfl,rfl,rfl,by decide +kernel,rfl,by decide +kernel,by decide +kernel⟩
theorem ok_wf (T:Txt K mg q_Book tc):Cal P w K mg base (CX1 P w) 1 "without_first_column" ["rows","spot","last"] spWf:=by
 refine T.d_without_first_column.cal (fun _ _ _ _ _ _=>us_3 fun _ _ _=>rfl) fun f fd F=>F.okC sc_without_first_column (fun vs H Q E h=>?_) (fun cdv A outer s H vs Q E hr h=>?_)
 ·obtain⟨_,_,_,_,_,rfl,_⟩:=h;rfl
 ·refine(?_:let G_:Prop:=_;G_)
  intro G_
  obtain⟨a,L,s',l,m,rfl,⟨xs,ha,al⟩,hs,n64,m64,rw1,l0,bl,bx,kk⟩:=h
  dsimp only[G_]
  clear G_
  have nd:=sc_without_first_column.nd
  refine⟨_,(pss_cons (ps_set (i:=3) nd rfl (Or.inr rfl) (pe_ix ix_listH (pe_ix ix_listH (pv 0) (pv 1) (fun _ _=>rfl)) pe_int (fun _ _=>rfl)))
  (pss_cons (ps_set (i:=4) nd rfl (Or.inl rfl) (pe_slice (sl_listK (K:=K)) (pe_ix ix_listH (pv 0) (pv 1) (fun _ _=>rfl)) (po_some pe_int) po_none))
  (pss_cons (ps_set (i:=5) nd rfl (Or.inl rfl) (pe_lst pa_nil))
  (pss_cons (ps_for PassesOwn.never rfl (pi_enumerateK (K:=K) rfl T.z_enumerate (pa_cons (pv 0) pa_nil (se rfl))) (pg_tupK (K:=K) (n:=2) rfl (pgs_cons (pg_name (i:=6) nd rfl (Or.inl rfl)) (pgs_cons (pg_name (i:=7) nd rfl (Or.inl rfl)) pgs_nil))) (pss_one (ps_if (pt_cmpR op_eq (pv 6) (pv 1) (nomark _)) (pss_one (ps_expr (pe_bm PySem.F.plainAttrs_list PySem.F.slot_list_append PySem.F.type_list_append mt_append.r (pv 5) (pa_cons (pv 4) pa_nil (se rfl)))))
   (pss_cons (ps_set (i:=8) nd rfl (Or.inr rfl) (pe_ix ix_listH (pv 7) pe_int (fun _ _=>rfl)))
  (pss_one (ps_expr (pe_bm PySem.F.plainAttrs_list PySem.F.slot_list_append PySem.F.type_list_append mt_append.r (pv 5) (pa_cons (pe_comp rfl (N:=["rows","spot","last","head","tail","left","number","row","first"]) (so:=defScope (top 17)) (N':=["one","other","last","head","first"]) (k:=2) (fr:=[2,3,8]) rfl rfl ⟨rfl,by decide +kernel,by decide +kernel,by decide +kernel,rfl,by decide +kernel,by decide +kernel⟩ (pi_zipK (K:=K) rfl T.z_zip (pa_cons (pe_slice (sl_listK (K:=K)) (pv 7) (po_some pe_int) po_none) (pa_cons (pv 4) pa_nil (se rfl)) (se rfl))) (fun _ _ _ _ _=>(pg_tupK (K:=K) (n:=2) rfl (pgs_cons (pg_name (i:=0) (show(["one","other","last","head","first"]:List Str).Nodup by decide +kernel) rfl (Or.inl rfl)) (pgs_cons (pg_name (i:=1) (show(["one","other","last","head","first"]:List Str).Nodup by decide +kernel) rfl (Or.inl rfl)) pgs_nil)))) (fun _ _ _ _ _=>pts_nil)
   (fun _ _ _ _ _=>(pe_op op_fdivS (pe_op op_sub (pe_op op_mulB (pv 3) (pv 0)) (pe_op op_mulB (pv 4) (pv 1))) (pv 2)))) pa_nil (se rfl)))))))))
  (pss_one (ps_ret (pv 5))))))),?_⟩
  refine(?_:let q0_:TS:=_;let q1_:TS:=_;let q2_:TS:=_;let q3_:TS:=_;let q4_:TS:=_;tSeq q0_ (tSeq q1_ (tSeq q2_ (tSeq q3_ q4_))) _ _ _)
  intro q0_ q1_ q2_ q3_ q4_
  have sl:=sizeLine_eq
  have lx:=al.length
  have es:L[s']?=some (L.getD s' []):=by rw[List.getD_eq_getElem?_getD,List.getElem?_eq_getElem hs];rfl
  refine(?_:let G_:Prop:=_;G_)
  intro G_
  obtain⟨qs,as',hqs⟩:=at_row al es
  dsimp only[G_]
  clear G_
  have ls:=rw1 _ (List.mem_of_getElem? es)
  have bs:=bx _ (List.mem_of_getElem? es)
  have hh:=at_head (r:=L.getD s' []) (by omega)
  have bh:Bt 4000 ((L.getD s' []).headD 0):=bs _ (by
   cases e:L.getD s' [] with
   | nil=>rw[e] at ls;cases ls
   | cons x r=>exact List.mem_cons_self ..)
  have hw:∀i:Nat,Bar.wrow L s' l i=if i=s' then (L.getD i []).tail else List.zipWith (fun one other=>((L.getD s' []).headD 0*one - (L.getD i []).headD 0*other).fdiv l) (L.getD i []).tail (L.getD s' []).tail:=fun i=>rfl
  generalize (L.getD s' []).headD 0=hd at *
  generalize L.getD s' []=R at *
  change tSeq _ _ _ [some (.ref a),some (.int (s':Int)),some (.int l),none,none,none,none,none,none] H
  refine seq_gen (fun σ' H1=>H=H1∧σ'=[some (.ref a),some (.int (s':Int)),some (.int l),some (.int hd),none,none,none,none,none]) ?_ (fun N hN=>?_)
  case refine_2=>
   simp_all only[ha,as',hqs,hh]
   exact hN _ _ ⟨rfl,rfl⟩
  rintro _ _ ⟨rfl,rfl⟩
  change tSeq _ _ _ [some (.ref a),some (.int (s':Int)),some (.int l),some (.int hd),none,none,none,none,none] H
  refine seq_gen (fun σ' H1=>Same H H1∧∃tl,H1 tl=some (.lst (List.map V.int R.tail))∧σ'=[some (.ref a),some (.int (s':Int)),some (.int l),some (.int hd),some (.ref tl),none,none,none,none]) ?_ (fun N hN=>?_)
  case refine_2=>
   simp_all only[ha,as']
   exact⟨_,SqL.of hqs,fun tl ntl=>hN _ _ ⟨same_upd ntl,tl,by rw[upd_same,cut_tail],rfl⟩⟩
  intro _ H1 p2_
  refine(?_:let G_:Prop:=_;G_)
  intro G_
  obtain⟨sm1,tl,htl,rfl⟩:=p2_
  dsimp only[G_]
  clear G_
  change tSeq _ _ _ [some (.ref a),some (.int (s':Int)),some (.int l),some (.int hd),some (.ref tl),none,none,none,none] H1
  refine seq_gen (fun σ' H2=>Same H1 H2∧∃lf,H1 lf=none∧H2 lf=some (.lst [])∧σ'=[some (.ref a),some (.int (s':Int)),some (.int l),some (.int hd),some (.ref tl),some (.ref lf),none,none,none]) ?_ (fun N hN=>?_)
  case refine_2=>
   simp_all only[]
   exact⟨Nat.zero_le _,fun lf nl=>hN _ _ ⟨same_upd nl,lf,nl,upd_same,rfl⟩⟩
  intro _ H2 p2_
  refine(?_:let G_:Prop:=_;G_)
  intro G_
  obtain⟨sm2,lf,nlf,hlf,rfl⟩:=p2_
  dsimp only[G_]
  clear G_
  have tlf:tl≠lf:=fun e=>by rw[e,nlf] at htl;cases htl
  change tSeq _ _ _ [some (.ref a),some (.int (s':Int)),some (.int l),some (.int hd),some (.ref tl),some (.ref lf),none,none,none] H2
  refine seq_gen (fun σ' H3=>Same H1 H3∧MtH H3 lf (Bar.wfc L s' l)∧∃z1 z2 z3,σ'=[some (.ref a),some (.int (s':Int)),some (.int l),some (.int hd),some (.ref tl),some (.ref lf),z1,z2,z3]) ?_ (fun N hN=>?_)
  case refine_2=>
   simp_all only[]
   refine⟨⟨_,SqL.of (sm2 _ _ (sm1 _ _ ha))⟩,for_src (src_enum (Ok:=Same H1) (fun H' s=>SqL.of (s _ _ (sm1 _ _ ha)))) (fun i σ H3=>Same H1 H3∧∃ys,H3 lf=some (.lst ys)∧Al (Rw (hid H3 lf)) ((List.range i).map (Bar.wrow L s' l)) ys∧∃z1 z2 z3,σ=[some (.ref a),some (.int (s':Int)),some (.int l),some (.int hd),some (.ref tl),some (.ref lf),z1,z2,z3]) ⟨sm2,[],hlf,trivial,_,_,_,rfl⟩ (fun _ _ _ _ h=>h.1) ?_ ?_⟩
   ·intro i x σ H3 H4 hi p6_ p7_
    refine(?_:let G_:Prop:=_;G_)
    intro G_
    obtain⟨sm3,ys,hl3,ay,z1,z2,z3,rfl⟩:=p6_
    obtain⟨p,y,np,rfl,ey,rfl⟩:=p7_
    obtain⟨r,er,q,rfl,hq⟩:=al.get ey
    dsimp only[G_]
    clear G_
    have ly:=ay.length
    rw[List.length_map,List.length_range] at ly
    have hlr:=rw1 _ (List.mem_of_getElem? er)
    have bxr:=bx _ (List.mem_of_getElem? er)
    have gr:L.getD i []=r:=by rw[List.getD_eq_getElem?_getD,er];rfl
    refine⟨p,_,rfl,SqT.of upd_same,rfl,?_⟩
    have s4:=same_upd (o:=.tup [.int i,.ref q]) np
    generalize upd H3 p (.tup [.int i,.ref q])=H4 at *
    have sm4:=sm3.trans s4
    have hl4:=s4 _ _ hl3
    have hq4:=sm4 _ _ (sm1 _ _ hq)
    have ht4:=sm4 _ _ htl
    have ay4:=ay.imp fun _ _ h=>h.mono (hid_mono (p:=lf) s4)
    have eR:(List.range (i+1)).map (Bar.wrow L s' l)=(List.range i).map (Bar.wrow L s' l)++ [Bar.wrow L s' l i]:=by rw[List.range_succ,List.map_append];rfl
    simp_all only[rAppend]
    by_cases c:i=s'
    ·rw[if_pos (by omega)]
     refine⟨.inl ⟨rfl,_,SqL.of hl4⟩,_,hl4,by omega,same_upd_of sm4 nlf,_,upd_same,?_,_,rfl⟩
     rw[hid_hid,eR]
     refine ay4.append (.one ⟨tl,rfl,?_⟩)
     have eR2:r=R:=by
      subst c
      rw[er] at es
      cases es
      rfl
     rw[hid_ne tlf,ht4,hw,if_pos c,gr,eR2]
    ·rw[if_neg (by omega)]
     have hhr:=at_head (r:=r) (by omega)
     simp_all only[hq4,hhr,rAppend]
     refine⟨.inl ⟨rfl,_,SqL.of hl4⟩,_,SqL.of hq4,fun p2 np2=>?_⟩
     have s5:=same_upd (o:=.lst (cutV (List.map V.int r) (some 1) none)) np2
     have hp2:upd H4 p2 (.lst (cutV (List.map V.int r) (some 1) none)) p2=some (.lst (List.map V.int r.tail)):=by rw[upd_same,cut_tail]
     generalize upd H4 p2 (.lst (cutV (List.map V.int r) (some 1) none))=H5 at *
     have sm5:=sm4.trans s5
     have ht5:=s5 _ _ ht4
     have bhr:Bt 4000 (r.headD 0):=bxr _ (by
      cases r with
      | nil=>cases hlr
      | cons x r=>exact List.mem_cons_self ..)
     refine⟨⟨_,SqL.of hp2⟩,⟨_,SqL.of ht5⟩,?_⟩
     refine comp_map2 (K:=K) (src_zip (fun H' s'=>SqL.of (s' _ _ hp2)) (fun H' s'=>SqL.of (s' _ _ ht5))) (fun j u v _=>∃o1 o2,r.tail[j]?=some o1∧R.tail[j]?=some o2∧u=.int o1∧v=.int o2) ?_ (by rw[List.length_map,List.length_map,List.length_tail,List.length_tail];omega) (fun j y _=>∀o1 o2,r.tail[j]?=some o1→R.tail[j]?=some o2→y=.int ((hd*o1 - r.headD 0*o2).fdiv l)) (fun _ _ _ _ _ h=>h) ?_ ?_
     ·intro j v H6 H7 hj s6 p6_
      refine(?_:let G_:Prop:=_;G_)
      intro G_
      obtain⟨t,x,y,nt,rfl,ex,ey',rfl⟩:=p6_
      rw[List.getElem?_map] at ex ey'
      obtain⟨o1,e1,rfl⟩:=Option.map_eq_some_iff.mp ex
      obtain⟨o2,e2,rfl⟩:=Option.map_eq_some_iff.mp ey'
      dsimp only[G_]
      exact⟨same_upd nt,t,_,_,rfl,SqT.of upd_same,o1,o2,e1,e2,rfl,rfl⟩
     ·intro j u v H6 Q2 hj s6 p7_ kq
      refine(?_:let G_:Prop:=_;G_)
      intro G_
      obtain⟨o1,o2,e1,e2,rfl,rfl⟩:=p7_
      dsimp only[G_]
      have b1:=bxr o1 (List.mem_of_mem_tail (List.mem_of_getElem? e1))
      have b2:=bs o2 (List.mem_of_mem_tail (List.mem_of_getElem? e2))
      simp_all only[]
      refine⟨bh.mulOk b1,bhr.mulOk b2,CDivS.of l0 bl,kq _ _ (Same.refl _) fun _ _ f1 f2=>?_⟩
      rw[e1] at f1
      rw[e2] at f2
      cases f1
      cases f2
      rfl
     ·intro zs H6 s6 lz hz D n1 n2
      have ez:=ints_zip (f:=fun o1 o2=>(hd*o1 - r.headD 0*o2).fdiv l) lz hz
      have hl6:=s6 _ _ (s5 _ _ hl4)
      refine⟨_,same_upd n2 _ _ hl6,by omega,same_upd_of ((sm5.trans s6).trans (same_upd n2)) nlf,_,upd_same,?_,_,rfl⟩
      rw[hid_hid,eR]
      refine(ay4.imp fun _ _ h=>h.mono (hid_mono ((s5.trans s6).trans (same_upd n2)))).append (.one ⟨D,rfl,?_⟩)
      rw[hid_ne (fun e=>by rw[e,hl6] at n2;cases n2),upd_same,hw,if_neg c,gr,ez]
   ·intro σ H3 p2_
    refine(?_:let G_:Prop:=_;G_)
    intro G_
    obtain⟨sm3,ys,hl3,ay,z1,z2,z3,rfl⟩:=p2_
    dsimp only[G_]
    rw[lx] at ay
    exact hN _ _ ⟨sm3,⟨ys,hl3,ay.imp fun _ _ h=>h.mono hid_sub⟩,_,_,_,rfl⟩
  intro _ H3 p2_
  refine(?_:let G_:Prop:=_;G_)
  intro G_
  obtain⟨sm3,hm,z1,z2,z3,rfl⟩:=p2_
  dsimp only[G_]
  simp_all only[]
  exact kk _ _ (sm1.trans sm3) hm
theorem sc_swept:FnScope ["rows","columns","last","column","spot","head"] ["rows","columns"] (defScope (top 18)):=⟨rfl,rfl,rfl,by decide +kernel,rfl,by decide +kernel,by decide +kernel⟩
theorem ok_sw (T:Txt K mg q_Book tc):Cal P w K mg base (CX1 P w) 2 "swept" ["rows","columns"] spSw:=by
 have c_row_with_head:Cal P w K mg base (CX1 P w) 1 "row_with_head" ["rows","start"] spRh:=ok_rh T
 have c_swapped:Cal P w K mg base (CX1 P w) 1 "swapped" ["rows","one","other"] spSwd:=ok_swd T
 have c_without_first_column:Cal P w K mg base (CX1 P w) 1 "without_first_column" ["rows","spot","last"] spWf:=ok_wf T
 refine T.d_swept.cal (fun _ _ _ _ _ _=>us_2 fun _ _=>rfl) fun f fd F=>F.okC sc_swept (fun vs H Q E h=>?_) (fun cdv A outer s H vs Q E hr h=>?_)
 ·obtain⟨_,_,_,_,rfl,_⟩:=h;rfl
 ·refine(?_:let G_:Prop:=_;G_)
  intro G_
  obtain⟨a,L,n,m,rfl,hM,B,kk⟩:=h
  dsimp only[G_]
  have nd:=sc_swept.nd
  refine⟨_,(pss_cons (ps_set (i:=2) nd rfl (Or.inl rfl) pe_int)
  (pss_cons (ps_for PassesOwn.never rfl (pi_range1 rfl T.z_range (pa_cons (pv 1) pa_nil (se rfl))) (pg_name (i:=3) nd rfl (Or.inl rfl)) (pss_cons (ps_set (i:=4) nd rfl (Or.inl rfl) (pe_cal c_row_with_head (hr.mono (by decide)) rfl strictP.pass (pa_cons (pv 0) (pa_cons (pv 3) pa_nil (se rfl)) (se rfl)) (he:=se rfl) (hpl:=na rfl)))
  (pss_cons (ps_if (pt_cmpR op_isN (pv 4) pe_non (nomark _)) (pss_one (ps_ret (pe_tupS (pa_cons (pv 0) (pa_cons (pv 3) (pa_cons (pv 2) pa_nil (se rfl)) (se rfl)) (se rfl)))))
   pss_nil)
  (pss_cons (ps_set (i:=0) nd rfl (Or.inl rfl) (pe_cal c_swapped (hr.mono (by decide)) rfl strictP.pass (pa_cons (pv 0) (pa_cons (pv 3) (pa_cons (pv 4) pa_nil (se rfl)) (se rfl)) (se rfl)) (he:=se rfl) (hpl:=na rfl)))
  (pss_cons (ps_set (i:=5) nd rfl (Or.inl rfl) (pe_ix ix_listH (pe_ix ix_listH (pv 0) (pv 3) (fun _ _=>rfl)) pe_int (fun _ _=>rfl)))
  (pss_cons (ps_set (i:=0) nd rfl (Or.inl rfl) (pe_cal c_without_first_column (hr.mono (by decide)) rfl strictP.pass (pa_cons (pv 0) (pa_cons (pv 3) (pa_cons (pv 2) pa_nil (se rfl)) (se rfl)) (se rfl)) (he:=se rfl) (hpl:=na rfl)))
  (pss_one (ps_set (i:=2) nd rfl (Or.inl rfl) (pv 5)))))))))
  (pss_one (ps_ret (pe_tupS (pa_cons (pv 0) (pa_cons (pv 1) (pa_cons (pv 2) pa_nil (se rfl)) (se rfl)) (se rfl))))))),?_⟩
  refine(?_:let q0_:TS:=_;let q1_:TS:=_;let q2_:TS:=_;tSeq q0_ (tSeq q1_ q2_) _ _ _)
  intro q0_ q1_ q2_
  have sl:=sizeLine_eq
  have Bn:=B.nm
  have Bm:=B.m64
  have hlen:(L.map Bar.fo).length=n:=by rw[List.length_map,B.len]
  change tSeq _ _ _ [some (.ref a),some (.int (n:Int)),none,none,none,none] H
  refine seq_gen (fun σ' H1=>H=H1∧σ'=[some (.ref a),some (.int (n:Int)),some (.int 1),none,none,none]) ?_ (fun N hN=>?_)
  case refine_2=>
   simp_all only[]
   exact hN _ _ ⟨rfl,rfl⟩
  rintro _ _ ⟨rfl,rfl⟩
  change tSeq _ _ _ [some (.ref a),some (.int (n:Int)),some (.int 1),none,none,none] H
  refine seq_gen (fun σ' H1=>Same H H1∧∃p rs W,Bar.Stp (L.map Bar.fo) n n rs W∧MtH H1 p (W.map fun v=>Bar.rowOf v rs n m)∧∃z1 z2 z3,σ'=[some (.ref p),some (.int (n:Int)),some (.int (Bar.D rs (Bar.dn n))),z1,z2,z3]) ?_ (fun N hN=>?_)
  case refine_2=>
   simp_all only[]
   refine⟨by omega,by omega,for_src (src_range (Ok:=fun _=>True)) (fun i σ H1=>Same H H1∧∃p rs W,Bar.Stp (L.map Bar.fo) n i rs W∧MtH H1 p (W.map fun v=>Bar.rowOf v rs i m)∧∃z1 z2 z3,σ=[some (.ref p),some (.int (n:Int)),some (.int (Bar.D rs (Bar.dn i))),z1,z2,z3]) ?_ (fun _ _ _ _ _=>trivial) ?_ ?_⟩
   ·refine⟨Same.refl _,a,[],L.map Bar.fo,?_,?_,_,_,_,rfl⟩
    ·have:=Bar.Stp.start (U:=L.map Bar.fo)
     rw[hlen] at this
     exact this
    ·rw[Bar.start_rows B.row]
     exact hM
   ·intro k x σ H1 H2 hi p6_ p7_
    refine(?_:let G_:Prop:=_;G_)
    intro G_
    obtain⟨sm1,p,rs,W,S,hW,z1,z2,z3,rfl⟩:=p6_
    obtain⟨rfl,rfl⟩:=p7_
    dsimp only[G_]
    have lW:=S.len
    have hk:k<n:=by omega
    have hkm:k<m:=by omega
    have rb:∀r∈W.map (fun v=>Bar.rowOf v rs k m),∀x∈r,Bt 4000 x:=fun r hr x hx=>by
     refine(?_:let G_:Prop:=_;G_)
     intro G_
     obtain⟨v,hv,rfl⟩:=List.mem_map.mp hr
     dsimp only[G_]
     unfold Bar.rowOf at hx
     refine(?_:let G_:Prop:=_;G_)
     intro G_
     obtain⟨t,_,rfl⟩:=List.mem_map.mp hx
     dsimp only[G_]
     exact(B.big _ _ _ S).2 v hv _
    have db:=(B.big _ _ _ S).1
    have hlW:(W.map fun v=>Bar.rowOf v rs k m).length=n:=by rw[List.length_map,lW]
    have hrow:∀r∈W.map (fun v=>Bar.rowOf v rs k m),r.length=(m - (k+1))+1:=fun r hr=>by
     refine(?_:let G_:Prop:=_;G_)
     intro G_
     obtain⟨v,_,rfl⟩:=List.mem_map.mp hr
     dsimp only[G_]
     rw[Bar.rowOf_length]
     omega
    have hhd:∀(i:Nat) (v:Bar.Fm),W[i]?=some v→((W.map fun v=>Bar.rowOf v rs k m).getD i []).headD 0=Bar.D (v::rs) (k::Bar.dn k):=fun i v e=>by
     rw[Bar.getD_map e,Bar.rowOf_cons hkm]
     rfl
    change tSeq _ _ _ [some (.ref p),some (.int (n:Int)),some (.int (Bar.D rs (Bar.dn k))),some (.int (0+ (k:Int))),z2,z3] H2
    rw[Int.zero_add]
    refine seq_gen (fun σ' H3=>H2=H3∧((Bar.Stuck k rs W∧σ'=[some (.ref p),some (.int (n:Int)),some (.int (Bar.D rs (Bar.dn k))),some (.int (k:Int)),some .non,z3])∨∃i u,k≤i∧i<n∧W[i]?=some u∧Bar.D (u::rs) (k::Bar.dn k)≠0∧σ'=[some (.ref p),some (.int (n:Int)),some (.int (Bar.D rs (Bar.dn k))),some (.int (k:Int)),some (.int (Nat.cast i)),z3])) ?_ (fun N hN'=>?_)
    case refine_2=>
     simp_all only[spRh]
     refine⟨_,k,rfl,hW,by omega,by omega,fun r hr=>by rw[hrow r hr];omega,fun i h1 h2 h3=>?_,fun h=>?_⟩
     ·rw[hlW] at h2
      have ei:W[i]?=some W[i]:=List.getElem?_eq_getElem (by omega)
      rw[hhd i _ ei] at h3
      exact hN' _ _ ⟨rfl,.inr ⟨i,_,h1,h2,ei,h3,rfl⟩⟩
     ·refine hN' _ _ ⟨rfl,.inl ⟨fun u hu=>?_,rfl⟩⟩
      refine(?_:let G_:Prop:=_;G_)
      intro G_
      obtain⟨i,hi',rfl⟩:=List.getElem_of_mem hu
      dsimp only[G_]
      rw[List.length_drop] at hi'
      have ei:W[k+i]?=some W[k+i]:=List.getElem?_eq_getElem (by omega)
      have:=h (k+i) (by omega) (by omega)
      rw[hhd _ _ ei] at this
      rw[List.getElem_drop]
      exact this
    rintro _ _ ⟨rfl,⟨stk,rfl⟩ | ⟨i,u,h1,h2,ei,hne,rfl⟩⟩
    ·simp_all only[]
     exact⟨by decide,fun t H3 s3 nt e3=>kk t p k rs W _ S (fun _=>stk) (sm1.trans s3) e3 (hW.mono s3)⟩
    ·have ek:W[k]?=some W[k]:=List.getElem?_eq_getElem (by omega)
     change tSeq _ _ _ [some (.ref p),some (.int (n:Int)),some (.int (Bar.D rs (Bar.dn k))),some (.int (k:Int)),some (.int (Nat.cast i)),z3] H2
     refine seq_gen (fun σ' H3=>H2=H3∧σ'=[some (.ref p),some (.int (n:Int)),some (.int (Bar.D rs (Bar.dn k))),some (.int (k:Int)),some (.int (Nat.cast i)),z3]) ?_ (fun N hN'=>?_)
     case refine_2=>
      simp_all only[]
      rw[if_neg (by simp)]
      exact hN' _ _ ⟨rfl,rfl⟩
     rintro _ _ ⟨rfl,rfl⟩
     change tSeq _ _ _ [some (.ref p),some (.int (n:Int)),some (.int (Bar.D rs (Bar.dn k))),some (.int (k:Int)),some (.int (Nat.cast i)),z3] H2
     refine seq_gen (fun σ' H3=>Same H2 H3∧∃p2,MtH H3 p2 ((Bar.swp W k i u W[k]).map fun v=>Bar.rowOf v rs k m)∧σ'=[some (.ref p2),some (.int (n:Int)),some (.int (Bar.D rs (Bar.dn k))),some (.int (k:Int)),some (.int (Nat.cast i)),z3]) ?_ (fun N hN'=>?_)
     case refine_2=>
      simp_all only[spSwd]
      refine⟨_,k,rfl,i,rfl,hW,by omega,by omega,by omega,fun p2 H3 s3 h3=>hN' _ _ ⟨s3,p2,?_,rfl⟩⟩
      rw[Bar.swp_map ei ek] at h3
      exact h3
     intro _ H3 p2_
     refine(?_:let G_:Prop:=_;G_)
     intro G_
     obtain⟨sm3,p2,hW2,rfl⟩:=p2_
     have hsw:=Bar.swp_at ei ek
     have lsw:(Bar.swp W k i u W[k]).length=n:=by unfold Bar.swp;rw[List.length_set,List.length_set,lW]
     have msw:∀v∈Bar.swp W k i u W[k],v∈W:=fun v hv=>by
      unfold Bar.swp at hv
      rcases List.mem_or_eq_of_mem_set hv with h | h
      ·rcases List.mem_or_eq_of_mem_set h with h | h
       ·exact h
       ·rw[h];exact List.mem_of_getElem? ei
      ·rw[h];exact List.getElem_mem _
     have hrow2:∀r∈(Bar.swp W k i u W[k]).map (fun v=>Bar.rowOf v rs k m),r.length=(m - (k+1))+1:=fun r hr=>by
      obtain⟨v,_,rfl⟩:=List.mem_map.mp hr
      rw[Bar.rowOf_length]
      omega
     have bd2:∀r∈(Bar.swp W k i u W[k]).map (fun v=>Bar.rowOf v rs k m),∀x∈r,Bt 4000 x:=fun r hr x hx=>by
      obtain⟨v,hv,rfl⟩:=List.mem_map.mp hr
      exact rb _ (List.mem_map.mpr ⟨v,msw v hv,rfl⟩) x hx
     have S2:=S.step hk h1 ei ek hne
     have ew:=Bar.wfc_step (n:=n) S.good hkm ei ek
     have e1:((Bar.swp W k i u W[k]).map fun v=>Bar.rowOf v rs k m)[k]?=some (Bar.rowOf u rs k m):=by rw[List.getElem?_map,hsw];rfl
     obtain⟨xs,hxs,al⟩:=id hW2
     obtain⟨q,aq,hq⟩:=at_row al e1
     dsimp only[G_]
     have ah:=at_head (r:=Bar.rowOf u rs k m) (by rw[Bar.rowOf_length];omega)
     have eh:(Bar.rowOf u rs k m).headD 0=Bar.D (u::rs) (k::Bar.dn k):=by rw[Bar.rowOf_cons hkm];rfl
     rw[eh] at ah
     change tSeq _ _ _ [some (.ref p2),some (.int (n:Int)),some (.int (Bar.D rs (Bar.dn k))),some (.int (k:Int)),some (.int (Nat.cast i)),z3] H3
     refine seq_gen (fun σ' H4=>H3=H4∧σ'=[some (.ref p2),some (.int (n:Int)),some (.int (Bar.D rs (Bar.dn k))),some (.int (k:Int)),some (.int (Nat.cast i)),some (.int (Bar.D (u::rs) (k::Bar.dn k)))]) ?_ (fun N hN'=>?_)
     case refine_2=>
      simp_all only[hxs,aq,hq,ah]
      exact hN' _ _ ⟨rfl,rfl⟩
     rintro _ _ ⟨rfl,rfl⟩
     simp_all only[spWf]
     refine⟨_,k,rfl,hW2,by rw[List.length_map];omega,by rw[List.length_map];omega,m - (k+1),by omega,hrow2,S.good.ne,db,bd2,fun p3 H4 s4 h4=>?_⟩
     rw[ew] at h4
     exact⟨sm1.trans (sm3.trans s4),_,_,_,S2,h4,rfl,rfl,_,rfl⟩
   ·intro σ H1 p2_
    refine(?_:let G_:Prop:=_;G_)
    intro G_
    obtain⟨sm1,p,rs,W,S,hW,z1,z2,z3,rfl⟩:=p2_
    dsimp only[G_]
    exact hN _ _ ⟨sm1,p,rs,W,S,hW,_,_,_,rfl⟩
  intro _ H1 p2_
  refine(?_:let G_:Prop:=_;G_)
  intro G_
  obtain⟨sm1,p,rs,W,S,hW,z1,z2,z3,rfl⟩:=p2_
  dsimp only[G_]
  simp_all only[]
  exact⟨by decide,fun t H2 s2 nt e2=>kk t p n rs W _ S (fun h=>absurd h (Nat.lt_irrefl _)) (sm1.trans s2) e2 (hW.mono s2)⟩
theorem sc_whole_answers:FnScope ["rows","right","done","sign"] ["rows","right"] (defScope (top 19)):=⟨rfl,rfl,rfl,by decide +kernel,rfl,by decide +kernel,by decide +kernel⟩
theorem ok_wa (T:Txt K mg q_Book tc):Cal P w K mg base (CX1 P w) 3 "whole_answers" ["rows","right"] spWA:=by
 have c_swept:Cal P w K mg base (CX1 P w) 2 "swept" ["rows","columns"] spSw:=ok_sw T
 refine T.d_whole_answers.cal (fun _ _ _ _ _ _=>us_2 fun _ _=>rfl) fun f fd F=>F.okC sc_whole_answers (fun vs H Q E h=>?_) (fun cdv A outer s H vs Q E hr h=>?_)
 ·obtain⟨_,_,_,_,_,rfl,_⟩:=h;rfl
 ·refine(?_:let G_:Prop:=_;G_)
  intro G_
  obtain⟨a,c,L,S,n,rfl,hM,hc,lS,sq,B,kN,kS⟩:=h
  dsimp only[G_]
  have nd:=sc_whole_answers.nd
  refine⟨_,(pss_cons (ps_set (i:=2) nd rfl (Or.inl rfl) (pe_cal c_swept (hr.mono (by decide)) rfl strictP.pass (pa_cons (pe_comp rfl (N:=["rows","right","done","sign"]) (so:=defScope (top 19)) (N':=["row","side"]) (k:=2) (fr:=[]) rfl rfl ⟨rfl,by decide +kernel,by decide +kernel,by decide +kernel,rfl,by decide +kernel,by decide +kernel⟩ (pi_zipK (K:=K) rfl T.z_zip (pa_cons (pv 0) (pa_cons (pv 1) pa_nil (se rfl)) (se rfl))) (fun _ _ _ _ _=>(pg_tupK (K:=K) (n:=2) rfl (pgs_cons (pg_name (i:=0) (show(["row","side"]:List Str).Nodup by decide +kernel) rfl (Or.inl rfl)) (pgs_cons (pg_name (i:=1) (show(["row","side"]:List Str).Nodup by decide +kernel) rfl (Or.inl rfl)) pgs_nil)))) (fun _ _ _ _ _=>pts_nil)
   (fun _ _ _ _ _=>(pe_op op_cat (pv 0) (pe_lst (pa_cons (pv 1) pa_nil (se rfl)))))) (pa_cons (pe_callB call_lenL (by rfl) T.z_len PySem.boot_len (pa_cons (pv 0) pa_nil (se rfl)) (he:=se rfl) (hpl:=na rfl)) pa_nil (se rfl)) (se rfl)) (he:=se rfl) (hpl:=na rfl)))
  (pss_cons (ps_if (pt_cmpR op_lt (pe_ix ix_tupH (pv 2) pe_int (fun _ _=>rfl)) (pe_callB call_lenL (by rfl) T.z_len PySem.boot_len (pa_cons (pv 0) pa_nil (se rfl)) (he:=se rfl) (hpl:=na rfl)) (nomark _)) (pss_one (ps_ret pe_non))
   pss_nil)
  (pss_cons (ps_set (i:=3) nd rfl (Or.inr rfl) (pe_ifExp (pt_cmpR op_gt (pe_ix ix_tupH (pv 2) pe_int (fun _ _=>rfl)) pe_int (nomark _)) pe_int (pe_un un_neg pe_int)))
  (pss_one (ps_ret (pe_tupS (pa_cons (pe_comp rfl (N:=["rows","right","done","sign"]) (so:=defScope (top 19)) (N':=["row","sign"]) (k:=1) (fr:=[3]) rfl rfl ⟨rfl,by decide +kernel,by decide +kernel,by decide +kernel,rfl,by decide +kernel,by decide +kernel⟩ (pi_listK (K:=K) (pe_ix ix_tupH (pv 2) pe_int (fun _ _=>rfl))) (fun _ _ _ _ _=>(pg_name (i:=0) (show(["row","sign"]:List Str).Nodup by decide +kernel) rfl (Or.inl rfl))) (fun _ _ _ _ _=>pts_nil)
   (fun _ _ _ _ _=>(pe_op op_mulB (pe_ix ix_listH (pv 0) pe_int (fun _ _=>rfl)) (pv 1)))) (pa_cons (pe_op op_mulB (pe_ix ix_tupH (pv 2) pe_int (fun _ _=>rfl)) (pv 3)) pa_nil (se rfl)) (se rfl)))))))),?_⟩
  refine(?_:let q0_:TS:=_;let q1_:TS:=_;let q2_:TS:=_;let q3_:TS:=_;tSeq q0_ (tSeq q1_ (tSeq q2_ q3_)) _ _ _)
  intro q0_ q1_ q2_ q3_
  have sl:=sizeLine_eq
  refine(?_:let G_:Prop:=_;G_)
  intro G_
  obtain⟨xs,ha,al⟩:=id hM
  dsimp only[G_]
  have lx:=al.length
  have hl:=sq.len
  have n64:n+1≤64:=B.m64
  change tSeq _ _ _ [some (.ref a),some (.ref c),none,none] H
  refine seq_gen (fun σ' H1=>Same H H1∧∃t p k rs W,Bar.Stp ((Bar.aug L S).map Bar.fo) n k rs W∧(k<n→Bar.Stuck k rs W)∧H1 t=some (.tup [.ref p,.int (Nat.cast k),.int (Bar.D rs (Bar.dn k))])∧MtH H1 p (W.map fun v=>Bar.rowOf v rs k (n+1))∧σ'=[some (.ref a),some (.ref c),some (.ref t),none]) ?_ (fun N hN=>?_)
  case refine_2=>
   simp_all only[spSw]
   refine⟨⟨_,SqL.of ha⟩,⟨_,SqL.of hc⟩,?_⟩
   refine comp_map2 (K:=K) (src_zip (fun H' s'=>SqL.of (s' _ _ ha)) (fun H' s'=>SqL.of (s' _ _ hc))) (fun i u v _=>∃r x,L[i]?=some r∧S[i]?=some x∧Rw H r u∧v=.int x) ?_ (by rw[List.length_map];omega) (fun i y H'=>∀r x,L[i]?=some r→S[i]?=some x→Rw H' (r++ [x]) y) (fun _ _ _ _ s h r x e1 e2=>(h r x e1 e2).mono s) ?_ ?_
   ·intro i v H2 H3 hi s2 p6_
    refine(?_:let G_:Prop:=_;G_)
    intro G_
    obtain⟨t,x,y,nt,rfl,ex,ey,rfl⟩:=p6_
    rw[List.getElem?_map] at ey
    obtain⟨z,ez,rfl⟩:=Option.map_eq_some_iff.mp ey
    obtain⟨r,er,hr⟩:=al.get ex
    dsimp only[G_]
    exact⟨same_upd nt,t,_,_,rfl,SqT.of upd_same,r,z,er,ez,hr,rfl⟩
   ·intro i u v H2 Q2 hi s2 p7_ kq
    refine(?_:let G_:Prop:=_;G_)
    intro G_
    obtain⟨r,x,er,ex,⟨q,rfl,hq⟩,rfl⟩:=p7_
    dsimp only[G_]
    have lr:=sq.row r (List.mem_of_getElem? er)
    simp_all only[rCat]
    refine⟨by decide,fun m nm=>⟨_,same_upd nm _ _ (s2 _ _ hq),_,upd_same,by simp only[List.length_map,List.length_cons,List.length_nil];omega,fun p np=>kq _ _ ((same_upd nm).trans (same_upd np)) fun r' x' e1 e2=>?_⟩⟩
    rw[er] at e1
    rw[ex] at e2
    cases e1
    cases e2
    exact⟨p,rfl,by rw[upd_same,List.map_append];rfl⟩
   ·intro ys H2 s2 ly hy D n1 n2
    have s3:=s2.trans (same_upd (o:=.lst ys) n2)
    have hm:MtH (upd H2 D (.lst ys)) D (Bar.aug L S):=by
     rw[List.length_map] at ly
     refine⟨ys,upd_same,Al.of (by rw[Bar.aug_len hl lS];omega) fun i y r e1 e2=>?_⟩
     have hi:=(List.getElem?_eq_some_iff.mp e1).1
     have er:L[i]?=some L[i]:=List.getElem?_eq_getElem (by omega)
     have ex:S[i]?=some (S.getD i 0):=by rw[List.getD_eq_getElem?_getD,List.getElem?_eq_getElem (by omega)];rfl
     rw[Bar.aug_get lS (by omega) er] at e2
     cases e2
     exact(hy i y e1 _ _ er ex).mono (same_upd n2)
    refine⟨_,s3 _ _ ha,Bar.aug L S,n,by omega,hm,n+1,B,fun t p k rs W H3 St stk s4 h4 h5=>hN _ _ ⟨s3.trans s4,t,p,k,rs,W,St,stk,h4,h5,rfl⟩⟩
  intro _ H1 p2_
  refine(?_:let G_:Prop:=_;G_)
  intro G_
  obtain⟨sm1,t,p,k,rs,W,St,stk,ht,hW,rfl⟩:=p2_
  dsimp only[G_]
  have ha1:=sm1 _ _ ha
  have kn:=St.le
  change tSeq _ _ _ [some (.ref a),some (.ref c),some (.ref t),none] H1
  refine seq_gen (fun σ' H2=>H1=H2∧k=n∧σ'=[some (.ref a),some (.ref c),some (.ref t),none]) ?_ (fun N hN=>?_)
  case refine_2=>
   simp_all only[ht,ha1]
   exact ite2 (fun h=>kN k rs W _ St (by omega) (stk (by omega)) sm1) (fun h=>hN _ _ ⟨rfl,by omega,rfl⟩)
  intro _ _ p2_
  refine(?_:let G_:Prop:=_;G_)
  intro G_
  obtain⟨rfl,rfl,rfl⟩:=p2_
  dsimp only[G_]
  have d0:=St.good.ne
  change tSeq _ _ _ [some (.ref a),some (.ref c),some (.ref t),none] H1
  refine seq_gen (fun σ' H2=>H1=H2∧σ'=[some (.ref a),some (.ref c),some (.ref t),some (.int (sgo (Bar.D rs (Bar.dn k))))]) ?_ (fun N hN=>?_)
  case refine_2=>
   simp_all only[ht]
   exact ite2 (fun h=>hN _ _ ⟨rfl,by rw[sgo,if_pos h]⟩) (fun h=>hN _ _ ⟨rfl,by rw[sgo,if_neg h]⟩)
  rintro _ _ ⟨rfl,rfl⟩
  refine(?_:let G_:Prop:=_;G_)
  intro G_
  obtain⟨ws,hp,aw⟩:=id hW
  dsimp only[G_]
  have lw:=aw.length
  have lW:=St.len
  rw[List.length_map] at lw
  simp_all only[ht,hp]
  refine⟨⟨_,SqL.of hp⟩,?_⟩
  have S':Src (Itl K p) (Same H1) W.length (fun i x H H3=>H3=H∧ws[i]?=some x):=by
   have:=src_list (K:=K) (a:=p) (xs:=ws) (Ok:=Same H1) (fun H2 s2=>SqL.of (s2 _ _ hp))
   rwa [lw] at this
  refine comp_ints W (fun v=>some (Bar.D (v::rs) (k::Bar.dn k)*sgo (Bar.D rs (Bar.dn k)))) S' (fun _ _ _ _ h=>h.1) (by omega) ?_ ?_
  ·rintro i v x ev ⟨_,ex⟩ Y N y1 _
   refine(?_:let G_:Prop:=_;G_)
   intro G_
   obtain⟨r',er',q,rfl,hq⟩:=aw.get ex
   dsimp only[G_]
   rw[List.getElem?_map,ev] at er'
   cases er'
   have hh:=at_head (r:=Bar.rowOf v rs k (k+1)) (by rw[Bar.rowOf_length];omega)
   rw[show(Bar.rowOf v rs k (k+1)).headD 0=Bar.D (v::rs) (k::Bar.dn k) from by rw[Bar.rowOf_cons (Nat.lt_succ_self k)];rfl] at hh
   simp_all only[tYes,hq,hh]
   exact⟨sgo_ok,y1 _ rfl⟩
  ·intro D n1 n2
   refine⟨_,same_upd n2 _ _ ht,_,at2,_,rfl,sgo_ok,by decide,fun q H2 s2 nq e2=>kS rs W q D _ St (sm1.trans ((same_upd n2).trans s2)) e2 ?_⟩
   rw[s2 _ _ upd_same,ans_eq St]
theorem repW_at {H:Hp} {ws:List (Int×Int)} {xs:List V} {i:Nat} {a:Int×Int} (r:RepL H (ws.map wrowD) xs) (e:ws[i]?=some a):∃p,xs[i]?=some (.ref p)∧H p=some (.tup [.int a.1,.int a.2]):=by
 obtain⟨x,ex,rx⟩:=r.at (d:=wrowD a) (i:=i) (by rw[List.getElem?_map,e];rfl)
 obtain⟨p,rfl,hp⟩:=rep_wrow.mp rx
 exact⟨p,ex,hp⟩
theorem sc_total_weight:FnScope ["ways"] ["ways"] (defScope (top 32)):=⟨rfl,rfl,rfl,by decide +kernel,rfl,by decide +kernel,by decide +kernel⟩
theorem ok_tw (T:Txt K mg q_Book tc):Cal P w K mg base (CX1 P w) 1 "total_weight" ["ways"] spTw5:=by
 refine T.d_total_weight.cal (fun _ _ _ _ _ _=>us_1 fun _=>rfl) fun f fd F=>F.okC sc_total_weight (fun vs H Q E h=>?_) (fun cdv A outer s H vs Q E hr h=>?_)
 ·obtain⟨_,_,rfl,_⟩:=h;rfl
 ·refine(?_:let G_:Prop:=_;G_)
  intro G_
  obtain⟨a,ws,rfl,rf,l5,kk⟩:=h
  dsimp only[G_]
  have nd:=sc_total_weight.nd
  refine⟨_,(pss_one (ps_ret (pe_ifExp (pt_cmpR op_gt (pe_callB call_lenL (by rfl) T.z_len PySem.boot_len (pa_cons (pv 0) pa_nil (se rfl)) (he:=se rfl) (hpl:=na rfl)) pe_int (nomark _)) (pe_callB (call_sum_lK (K:=K)) (by rfl) T.z_sum rfl (pa_cons (pe_comp rfl (N:=["ways"]) (so:=defScope (top 32)) (N':=["weight","to"]) (k:=2) (fr:=[]) rfl rfl ⟨rfl,by decide +kernel,by decide +kernel,by decide +kernel,rfl,by decide +kernel,by decide +kernel⟩ (pi_listK (K:=K) (pv 0)) (fun _ _ _ _ _=>(pg_tupK (K:=K) (n:=2) rfl (pgs_cons (pg_name (i:=0) (show(["weight","to"]:List Str).Nodup by decide +kernel) rfl (Or.inl rfl)) (pgs_cons (pg_name (i:=1) (show(["weight","to"]:List Str).Nodup by decide +kernel) rfl (Or.inl rfl)) pgs_nil)))) (fun _ _ _ _ _=>pts_nil)
   (fun _ _ _ _ _=>(pv 0))) pa_nil (se rfl)) (he:=se rfl) (hpl:=na rfl)) pe_int))),?_⟩
  refine(?_:let G_:Prop:=_;G_)
  intro G_
  obtain⟨_,xs,e,ha,rl⟩:=rep_lst.mp rf
  dsimp only[G_]
  cases e
  have lx:=rl.length
  rw[List.length_map] at lx
  simp_all only[]
  refine⟨xs,ha,?_⟩
  by_cases c:ws=[]
  ·subst c
   have l0:xs.length=0:=lx.symm
   rw[if_neg (by omega)]
   exact kk _ (Same.refl _)
  ·have l0:=List.length_pos_iff.mpr c
   rw[if_pos (by omega)]
   refine⟨⟨_,SqL.of ha⟩,?_⟩
   have S:Src (Itl K a) (Same H) ws.length (fun i x H H3=>H3=H∧xs[i]?=some x):=by rw[lx];exact src_list (fun H' s'=>SqL.of (s' _ _ ha))
   refine comp_ints2 ws (fun p=>some p.1) S (fun _ _ _ _ h=>h.1) (by rw[sizeLine_eq];omega) ?_ ?_
   ·rintro i p x ep ⟨_,ex⟩
    refine(?_:let G_:Prop:=_;G_)
    intro G_
    obtain⟨t,et,ht⟩:=repW_at rl ep
    dsimp only[G_]
    rw[ex] at et
    cases et
    refine⟨t,_,_,rfl,SqT.of ht,fun Y N y1 _=>?_⟩
    simp_all only[tYes]
    exact y1 _ rfl
   ·intro D n1 n2
    rw[fm_some]
    have:=kk _ (same_upd (o:=.lst (List.map V.int (ws.map fun p=>p.1))) n2)
    unfold Dg.tt at this
    rw[if_neg c] at this
    exact⟨_,SqL.of upd_same,this⟩
theorem isel_snoc (q:Int) (ws:Dg.Wy) (x:Int×Int):Dg.isel q (ws++ [x])=Dg.isel q ws+if x.2=q then x.1 else 0:=by
 unfold Dg.isel
 rw[List.map_append,List.sum_append]
 simp
theorem sc_part_rows:FnScope ["part","ways","spots","spot","place","rows","row","weight","to"] ["part","ways"] (defScope (top 33)):=⟨rfl,rfl,rfl,by decide +kernel,rfl,by decide +kernel,by decide +kernel⟩
theorem ok_pw2 (T:Txt K mg q_Book tc):Cal P w K mg base (CX1 P w) 2 "part_rows" ["part","ways"] spPw2:=by
 have c_total_weight:Cal P w K mg base (CX1 P w) 1 "total_weight" ["ways"] spTw5:=ok_tw T
 refine T.d_part_rows.cal (fun _ _ _ _ _ _=>us_2 fun _ _=>rfl) fun f fd F=>F.okC sc_part_rows (fun vs H Q E h=>?_) (fun cdv A outer s H vs Q E hr h=>?_)
 ·obtain⟨_,_,_,_,_,rfl,_⟩:=h;rfl
 ·refine(?_:let G_:Prop:=_;G_)
  intro G_
  obtain⟨x,wl,ps,xs,wss,rfl,hx,hw,rl,ndp,l40,rng,w5,kk⟩:=h
  dsimp only[G_]
  clear G_
  have nd:=sc_part_rows.nd
  refine⟨_,(pss_cons (ps_set (i:=2) nd rfl (Or.inl rfl) pe_dnewK)
  (pss_cons (ps_for PassesOwn.never rfl (pi_enumerateK (K:=K) rfl T.z_enumerate (pa_cons (pv 0) pa_nil (se rfl))) (pg_tupK (K:=K) (n:=2) rfl (pgs_cons (pg_name (i:=3) nd rfl (Or.inl rfl)) (pgs_cons (pg_name (i:=4) nd rfl (Or.inl rfl)) pgs_nil))) (pss_one (ps_dput (hu_of hr) (pv 2) (pv 4) (pv 3) rfl)))
  (pss_cons (ps_set (i:=5) nd rfl (Or.inl rfl) (pe_lst pa_nil))
  (pss_cons (ps_for PassesOwn.never rfl (pi_enumerateK (K:=K) rfl T.z_enumerate (pa_cons (pv 0) pa_nil (se rfl))) (pg_tupK (K:=K) (n:=2) rfl (pgs_cons (pg_name (i:=3) nd rfl (Or.inl rfl)) (pgs_cons (pg_name (i:=4) nd rfl (Or.inl rfl)) pgs_nil))) (pss_cons (ps_set (i:=6) nd rfl (Or.inl rfl) (pe_op op_rep (pe_lst (pa_cons pe_int pa_nil (se rfl))) (pe_callB call_lenL (by rfl) T.z_len PySem.boot_len (pa_cons (pv 0) pa_nil (se rfl)) (he:=se rfl) (hpl:=na rfl))))
  (pss_cons (ps_asg (pe_cal c_total_weight (hr.mono (by decide)) rfl strictP.pass (pa_cons (pe_ix ix_listH (pv 1) (pv 4) (fun _ _=>rfl)) pa_nil (se rfl)) (he:=se rfl) (hpl:=na rfl)) (pg_sub (pv 6) (pv 3) set_list))
  (pss_cons (ps_for PassesOwn.never rfl (pi_listK (K:=K) (pe_ix ix_listH (pv 1) (pv 4) (fun _ _=>rfl))) (pg_tupK (K:=K) (n:=2) rfl (pgs_cons (pg_name (i:=7) nd rfl (Or.inl rfl)) (pgs_cons (pg_name (i:=8) nd rfl (Or.inl rfl)) pgs_nil))) (pss_one (ps_if (pt_cmp (pc_din (hu_of hr) (pv 8) (pv 2))) (pss_one (ps_augS (pv 6) (pe_dget (hu_of hr) (pv 2) (pv 8) (fun _ _=>rfl)) get_list (pv 7) ip_sub set_list))
   pss_nil)))
  (pss_one (ps_expr (pe_bm PySem.F.plainAttrs_list PySem.F.slot_list_append PySem.F.type_list_append mt_append.r (pv 5) (pa_cons (pv 6) pa_nil (se rfl)))))))))
  (pss_one (ps_ret (pv 5))))))),?_⟩
  refine(?_:let q0_:TS:=_;let q1_:TS:=_;let q2_:TS:=_;let q3_:TS:=_;let q4_:TS:=_;tSeq q0_ (tSeq q1_ (tSeq q2_ (tSeq q3_ q4_))) _ _ _)
  intro q0_ q1_ q2_ q3_ q4_
  have sl:=sizeLine_eq
  have lx:=rl.length
  rw[List.length_map] at lx
  change tSeq _ _ _ [some (.ref x),some (.ref wl),none,none,none,none,none,none,none] H
  refine seq_gen (fun σ' H1=>∃d,Same H H1∧H d=none∧H1 d=some (.dK [])∧σ'=[some (.ref x),some (.ref wl),some (.ref d),none,none,none,none,none,none]) ?_ (fun N hN=>?_)
  case refine_2=>
   simp_all only[]
   exact fun d n1=>hN _ _ ⟨d,same_upd n1,n1,upd_same,rfl⟩
  intro _ H1 p2_
  refine(?_:let G_:Prop:=_;G_)
  intro G_
  obtain⟨d,s1,n1,hd,rfl⟩:=p2_
  dsimp only[G_]
  clear G_
  change tSeq _ _ _ [some (.ref x),some (.ref wl),some (.ref d),none,none,none,none,none,none] H1
  refine seq_gen (fun σ' H2=>Same H H2∧H2 d=some (.dK (spotD ps))∧∃z3 z4,σ'=[some (.ref x),some (.ref wl),some (.ref d),z3,z4,none,none,none,none]) ?_ (fun N hN=>?_)
  case refine_2=>
   simp_all only[]
   refine⟨⟨_,SqL.of (s1 _ _ hx)⟩,for_src (src_enum (K:=K) (a:=x) (xs:=ps.map V.int) (Ok:=Same H) (fun H' s=>SqL.of (s _ _ hx))) (fun i σ H3=>Same H H3∧H3 d=some (.dK (spotD (ps.take i)))∧∃z3 z4,σ=[some (.ref x),some (.ref wl),some (.ref d),z3,z4,none,none,none,none]) ⟨s1,hd,_,_,rfl⟩ (fun _ _ _ _ h=>h.1) ?_ ?_⟩
   ·intro i y σ H3 H4 hi p6_ p7_
    refine(?_:let G_:Prop:=_;G_)
    intro G_
    obtain⟨s3,hd3,z3,z4,rfl⟩:=p6_
    obtain⟨q,y,nq,rfl,ey,rfl⟩:=p7_
    dsimp only[G_]
    clear G_
    rw[List.length_map] at hi
    have ep:ps[i]?=some (ps.getD i 0):=by rw[List.getD_eq_getElem?_getD,List.getElem?_eq_getElem hi];rfl
    rw[List.getElem?_map,ep] at ey
    cases ey
    refine⟨q,_,rfl,SqT.of upd_same,rfl,?_⟩
    have s4:=same_upd (o:=.tup [.int (i:Int),.int (ps.getD i 0)]) nq
    generalize upd H3 q (.tup [.int (i:Int),.int (ps.getD i 0)])=H4 at *
    have nin:ps.getD i 0∉ps.take i:=by
     intro z
     refine(?_:let G_:Prop:=_;G_)
     intro G_
     obtain⟨j,hj,ej⟩:=List.getElem_of_mem z
     dsimp only[G_]
     rw[List.length_take] at hj
     rw[List.getElem_take] at ej
     have eg:ps.getD i 0=ps[i]:=by rw[List.getD_eq_getElem?_getD,List.getElem?_eq_getElem hi];rfl
     have:=(List.getElem_inj ndp).mp (ej.trans eg)
     omega
    have pt:=DPut.k (k:=Sum.inl (ps.getD i 0)) (v:=.int (i:Int)) (s4 _ _ hd3) (by unfold spotD;rw[List.length_map,List.length_range,List.length_take];omega)
    rw[putK_new _ (spot_out nin),←spot_snoc hi] at pt
    simp_all only[]
    exact⟨_,pt,same_upd_of (s3.trans s4) n1,upd_same,_,rfl⟩
   ·intro σ H3 p2_
    refine(?_:let G_:Prop:=_;G_)
    intro G_
    obtain⟨s3,hd3,z3,z4,rfl⟩:=p2_
    dsimp only[G_]
    rw[List.length_map,List.take_of_length_le (Nat.le_refl _)] at hd3
    exact hN _ _ ⟨s3,hd3,_,_,rfl⟩
  intro _ H2 p2_
  refine(?_:let G_:Prop:=_;G_)
  intro G_
  obtain⟨s2,hd2,z3,z4,rfl⟩:=p2_
  dsimp only[G_]
  clear G_
  change tSeq _ _ _ [some (.ref x),some (.ref wl),some (.ref d),z3,z4,none,none,none,none] H2
  refine seq_gen (fun σ' H3=>∃r,Same H2 H3∧H2 r=none∧H3 r=some (.lst [])∧σ'=[some (.ref x),some (.ref wl),some (.ref d),z3,z4,some (.ref r),none,none,none]) ?_ (fun N hN=>?_)
  case refine_2=>
   simp_all only[]
   exact⟨Nat.zero_le _,fun r n3=>hN _ _ ⟨r,same_upd n3,n3,upd_same,rfl⟩⟩
  intro _ H3 p2_
  refine(?_:let G_:Prop:=_;G_)
  intro G_
  obtain⟨r,s3,nr,hr3,rfl⟩:=p2_
  dsimp only[G_]
  clear G_
  change tSeq _ _ _ [some (.ref x),some (.ref wl),some (.ref d),z3,z4,some (.ref r),none,none,none] H3
  refine seq_gen (fun σ' H4=>Same H2 H4∧(∃L,MtH H4 r L∧Dg.RowP ps (wyAt wss) L)∧∃z3 z4 z6 z7 z8,σ'=[some (.ref x),some (.ref wl),some (.ref d),z3,z4,some (.ref r),z6,z7,z8]) ?_ (fun N hN=>?_)
  case refine_2=>
   simp_all only[]
   refine⟨⟨_,SqL.of (s3 _ _ (s2 _ _ hx))⟩,for_src (src_enum (K:=K) (a:=x) (xs:=ps.map V.int) (Ok:=Same H2) (fun H' s=>SqL.of (s _ _ (s2 _ _ hx)))) (fun i σ H4=>Same H2 H4∧(∃(Ls:List (List Int)) (ys:List V),H4 r=some (.lst ys)∧Al (Rw (hid H4 r)) Ls ys∧Ls.length=i∧(∀row∈Ls,row.length=ps.length)∧∀a j,a<i→j<ps.length→(Ls.getD a []).getD j 0=(if a=j then Dg.tt (wyAt wss (ps.getD a 0)) else 0) - Dg.isel (ps.getD j 0) (wyAt wss (ps.getD a 0)))∧∃z3 z4 z6 z7 z8,σ=[some (.ref x),some (.ref wl),some (.ref d),z3,z4,some (.ref r),z6,z7,z8]) ⟨s3,⟨[],[],hr3,trivial,rfl,by simp,fun a j h=>absurd h (Nat.not_lt_zero _)⟩,_,_,_,_,_,rfl⟩ (fun _ _ _ _ h=>h.1) ?_ ?_⟩
   ·intro i y σ H4 H5 hi p6_ p7_
    refine(?_:let G_:Prop:=_;G_)
    intro G_
    obtain⟨s4,⟨Ls,ys,hr4,al4,ll,lrow,lent⟩,z3,z4,z6,z7,z8,rfl⟩:=p6_
    obtain⟨q,y,nq,rfl,ey,rfl⟩:=p7_
    dsimp only[G_]
    clear G_
    rw[List.length_map] at hi
    have ep:ps[i]?=some (ps.getD i 0):=by rw[List.getD_eq_getElem?_getD,List.getElem?_eq_getElem hi];rfl
    rw[List.getElem?_map,ep] at ey
    cases ey
    have mp:ps.getD i 0∈ps:=List.mem_of_getElem? ep
    obtain⟨p0,p1⟩:=rng _ mp
    have ew:wss[(ps.getD i 0).toNat]?=some (wyAt wss (ps.getD i 0)):=by unfold wyAt;rw[List.getD_eq_getElem?_getD (l:=wss),List.getElem?_eq_getElem (show(ps.getD i 0).toNat<wss.length by omega)];rfl
    have lw5:=w5 _ (List.mem_of_getElem? ew)
    generalize hp:ps.getD i 0=p at *
    generalize hws:wyAt wss p=ws at *
    refine⟨q,_,rfl,SqT.of upd_same,rfl,?_⟩
    have s5:=same_upd (o:=.tup [.int (i:Int),.int p]) nq
    generalize upd H4 q (.tup [.int (i:Int),.int p])=H5 at *
    obtain⟨v,ev,rv⟩:=rl.at (d:=wyD ws) (i:=p.toNat) (by rw[List.getElem?_map,ew];rfl)
    refine(?_:let G_:Prop:=_;G_)
    intro G_
    obtain⟨wv,us,rfl,hwv,ru⟩:=rep_lst.mp rv
    dsimp only[G_]
    clear G_
    have atw:atI xs p=some (.ref wv):=by have:=atI_nat ev;rwa [Int.toNat_of_nonneg p0] at this
    have lu:=ru.length
    rw[List.length_map] at lu
    simp_all only[rRep,spTw5]
    have s25:=s4.trans s5
    refine⟨by decide,fun m1 k1=>?_⟩
    have s6:=same_upd (o:=.lst [.int 0]) k1
    have h6:upd H5 m1 (.lst [.int 0]) m1=some (.lst [.int 0]):=upd_same
    generalize upd H5 m1 (.lst [.int 0])=H6 at *
    have lps:(ps.map V.int).length=ps.length:=List.length_map ..
    refine⟨_,s6 _ _ (s25 _ _ (s2 _ _ hx)),_,h6,by omega,by omega,by rw[lps,Int.toNat_natCast];show 1*ps.length≤_;omega,fun ro k2=>?_⟩
    rw[lps,Int.toNat_natCast,List.flatten_replicate_singleton]
    have s7:=same_upd (o:=.lst (List.replicate ps.length (V.int 0))) k2
    have h7:upd H6 ro (.lst (List.replicate ps.length (V.int 0))) ro=some (.lst ((List.replicate ps.length 0).map V.int)):=by rw[upd_same,List.map_replicate]
    generalize upd H6 ro (.lst (List.replicate ps.length (V.int 0)))=H7 at *
    have s26:=s25.trans s6
    have s27:=s26.trans s7
    refine⟨_,s27 _ _ (s2 _ _ hw),_,atw,wv,rfl,ws,rv.mono (s2.trans s27),lw5,fun H8 s8=>⟨_,s8 _ _ h7,i,ixN_nat (by rw[List.length_map,List.length_replicate];exact hi),?_⟩⟩
    rw[←List.map_set]
    have s9:Same H6 (upd H8 ro (.lst (((List.replicate ps.length 0).set i (Dg.tt ws)).map V.int))):=same_upd_of (s7.trans s8) k2
    have h9:upd H8 ro (.lst (((List.replicate ps.length 0).set i (Dg.tt ws)).map V.int)) ro=some (.lst (((List.replicate ps.length 0).set i (Dg.tt ws)).map V.int)):=upd_same
    generalize upd H8 ro (.lst (((List.replicate ps.length 0).set i (Dg.tt ws)).map V.int))=H9 at *
    have s29:=s26.trans s9
    have s09:=s2.trans s29
    refine⟨_,s09 _ _ hw,_,atw,wv,rfl,⟨_,SqL.of (s09 _ _ hwv)⟩,for_src (src_list (K:=K) (a:=wv) (xs:=us) (Ok:=Same H6) (fun H' s'=>SqL.of ((s2.trans (s26.trans s')) _ _ hwv))) (fun t σ HA=>Same H6 HA∧(∃rowv:List Int,HA ro=some (.lst (rowv.map V.int))∧rowv.length=ps.length∧∀j,j<ps.length→rowv.getD j 0=(if i=j then Dg.tt ws else 0) - Dg.isel (ps.getD j 0) (ws.take t))∧∃z7 z8,σ=[some (.ref x),some (.ref wl),some (.ref d),some (.int (i:Int)),some (.int p),some (.ref r),some (.ref ro),z7,z8]) ⟨s9,⟨_,h9,by rw[List.length_set,List.length_replicate],fun j hj=>?_⟩,_,_,rfl⟩ (fun _ _ _ _ h=>h.1) ?_ ?_⟩
    ·show _=_ - 0
     by_cases c:i=j
     ·subst c
      rw[Dg.getD_set_eq (by rw[List.length_replicate];exact hj),if_pos rfl]
      omega
     ·rw[Dg.getD_set_ne c,if_neg c,List.getD_eq_getElem?_getD,List.getElem?_replicate,if_pos hj]
      rfl
    ·intro t y σ HA HB ht p6_ p7_
     refine(?_:let G_:Prop:=_;G_)
     intro G_
     obtain⟨sA,⟨rowv,hro,lro,ent⟩,z7,z8,rfl⟩:=p6_
     obtain⟨rfl,ey⟩:=p7_
     have et:ws[t]?=some ws[t]:=List.getElem?_eq_getElem (by omega)
     obtain⟨ta,eta,hta⟩:=repW_at (ru.mono (s2.trans (s26.trans sA))) et
     dsimp only[G_]
     clear G_
     rw[ey] at eta
     cases eta
     refine⟨ta,_,rfl,SqT.of hta,rfl,?_⟩
     have tk:ws.take (t+1)=ws.take t++ [ws[t]]:=by rw[List.take_add_one,et];rfl
     generalize ws[t]=xw at *
     have hdA:=(s26.trans sA) _ _ hd2
     simp_all only[tAugS,ipI]
     by_cases c:xw.2∈ps
     ·have lt:=List.idxOf_lt_length_of_mem c
      have eix:ps.getD (ps.idxOf xw.2) 0=xw.2:=by rw[List.getD_eq_getElem?_getD,List.getElem?_eq_getElem lt,List.getElem_idxOf lt];rfl
      have sv:=spot_val ndp lt
      rw[eix] at sv
      have gt:DGet HB d (.int xw.2) (some (.int (ps.idxOf xw.2:Nat))):=.inl ⟨_,Sum.inl xw.2,.inl hdA,rfl,sv.symm⟩
      refine⟨some (.int (ps.idxOf xw.2:Nat)),gt,?_⟩
      rw[if_pos (by rfl)]
      generalize hk:ps.idxOf xw.2=k at *
      have ata:atI (rowv.map V.int) (k:Int)=some (.int (rowv.getD k 0)):=by have:=atI_ints (ns:=rowv) (i:=(k:Int)) (by omega) (by omega);rwa [Int.toNat_natCast] at this
      refine⟨_,gt,_,_,rfl,hro,_,ata,_,rfl,_,_,rfl,hro,k,ixN_nat (by rw[List.length_map];omega),same_upd_of sA k2,⟨rowv.set k (rowv.getD k 0 - xw.1),by rw[upd_same,List.map_set],by rw[List.length_set];exact lro,fun j hj=>?_⟩,_,rfl⟩
      rw[tk,isel_snoc]
      by_cases cj:k=j
      ·subst cj
       rw[Dg.getD_set_eq (by omega),ent k hj,if_pos eix.symm]
       omega
      ·rw[Dg.getD_set_ne cj,ent j hj,if_neg (show ¬xw.2=ps.getD j 0 from fun z=>cj ?_)]
       ·omega
       ·have ej:ps.getD j 0=ps[j]:=by rw[List.getD_eq_getElem?_getD,List.getElem?_eq_getElem hj];rfl
        have ek:ps.getD k 0=ps[k]:=by rw[List.getD_eq_getElem?_getD,List.getElem?_eq_getElem lt];rfl
        exact(List.getElem_inj ndp).mp (by rw[←ek,←ej,eix,z])
     ·refine⟨none,.inl ⟨_,Sum.inl xw.2,.inl hdA,rfl,(spot_out c).symm⟩,?_⟩
      rw[if_neg (by simp)]
      refine⟨sA,⟨rowv,hro,lro,fun j hj=>?_⟩,_,rfl⟩
      have mj:ps.getD j 0∈ps:=by rw[List.getD_eq_getElem?_getD,List.getElem?_eq_getElem hj];exact List.getElem_mem hj
      rw[ent j hj,tk,isel_snoc,if_neg (show ¬xw.2=ps.getD j 0 from fun z=>c (by rw[z];exact mj))]
      omega
    ·intro σ HA p2_
     refine(?_:let G_:Prop:=_;G_)
     intro G_
     obtain⟨sA,⟨rowv,hro,lro,ent⟩,z7,z8,rfl⟩:=p2_
     dsimp only[G_]
     rw[List.take_of_length_le (by omega)] at ent
     simp_all only[rAppend]
     have s5A:=s5.trans (s6.trans sA)
     have hrA:=s5A _ _ hr4
     have ror:ro≠r:=fun z=>by rw[z,(s5.trans s6) _ _ hr4] at k2;cases k2
     have ly:=al4.length
     refine⟨.inl ⟨rfl,_,SqL.of hrA⟩,ys,hrA,by omega,same_upd_of (s26.trans sA) nr,⟨Ls++ [rowv],ys++ [.ref ro],upd_same,Rw.push (al4.imp fun _ _ k=>k.mono (hid_mono s5A)) hro ror,by rw[List.length_append,ll];rfl,fun row hrow=>?_,fun a j ha hj=>?_⟩,_,rfl⟩
     ·rcases List.mem_append.mp hrow with h | h
      ·exact lrow row h
      ·rw[List.mem_singleton.mp h];exact lro
     ·by_cases c:a=i
      ·subst c
       rw[show(Ls++ [rowv]).getD a []=rowv from by rw[List.getD_eq_getElem?_getD,List.getElem?_append_right (by omega),ll,Nat.sub_self];rfl,hp,hws]
       exact ent j hj
      ·rw[show(Ls++ [rowv]).getD a []=Ls.getD a [] from by rw[List.getD_eq_getElem?_getD,List.getElem?_append_left (by omega),←List.getD_eq_getElem?_getD]]
       exact lent a j (by omega) hj
   ·intro σ H4 p2_
    refine(?_:let G_:Prop:=_;G_)
    intro G_
    obtain⟨s4,⟨Ls,ys,hr4,al4,ll,lrow,lent⟩,z3,z4,z6,z7,z8,rfl⟩:=p2_
    dsimp only[G_]
    rw[List.length_map] at ll lent
    exact hN _ _ ⟨s4,⟨Ls,⟨ys,hr4,al4.imp fun _ _ k=>k.mono hid_sub⟩,ll,lrow,lent⟩,_,_,_,_,_,rfl⟩
  intro _ H4 p2_
  refine(?_:let G_:Prop:=_;G_)
  intro G_
  obtain⟨s4,⟨L,h1,h2⟩,z3,z4,z6,z7,z8,rfl⟩:=p2_
  dsimp only[G_]
  simp_all only[]
  exact kk _ _ _ (s2.trans s4) h1 h2
theorem sc_common_divisor:FnScope ["one","other","rest"] ["one","other"] (defScope (top 12)):=⟨rfl,rfl,rfl,by decide +kernel,rfl,by decide +kernel,by decide +kernel⟩
theorem ok_cd (T:Txt K mg q_Book tc):Cal P w K mg base (CX1 P w) 1 "common_divisor" ["one","other"] spCd:=by
 refine T.d_common_divisor.cal (fun _ _ _ _ _ _=>us_2 fun _ _=>rfl) fun f fd F=>F.okC sc_common_divisor (fun vs H Q E h=>?_) (fun cdv A outer s H vs Q E hr h=>?_)
 ·obtain⟨_,_,rfl,_⟩:=h;rfl
 ·refine(?_:let G_:Prop:=_;G_)
  intro G_
  obtain⟨a,b,rfl,k⟩:=h
  dsimp only[G_]
  have nd:=sc_common_divisor.nd
  refine⟨_,(pss_cons (ps_set (i:=0) nd rfl (Or.inl rfl) (pe_callB call_abs (by rfl) T.z_abs rfl (pa_cons (pv 0) pa_nil (se rfl)) (he:=se rfl) (hpl:=na rfl)))
  (pss_cons (ps_set (i:=1) nd rfl (Or.inl rfl) (pe_callB call_abs (by rfl) T.z_abs rfl (pa_cons (pv 1) pa_nil (se rfl)) (he:=se rfl) (hpl:=na rfl)))
  (pss_cons (ps_while PassesOwn.never (pt_cmpR op_ne (pv 1) pe_int (nomark _)) (pss_cons (ps_set (i:=2) nd rfl (Or.inl rfl) (pe_op op_modB (pv 0) (pv 1)))
  (pss_cons (ps_set (i:=0) nd rfl (Or.inl rfl) (pv 1))
  (pss_one (ps_set (i:=1) nd rfl (Or.inl rfl) (pv 2))))))
  (pss_one (ps_ret (pv 0)))))),?_⟩
  refine(?_:let q0_:TS:=_;let q1_:TS:=_;let q2_:TS:=_;let q3_:TS:=_;tSeq q0_ (tSeq q1_ (tSeq q2_ q3_)) _ _ _)
  intro q0_ q1_ q2_ q3_
  simp_all only[]
  refine while_by (fun σ H1=>H1=H∧∃(x y:Int) (z:Option V),σ=[some (.int x),some (.int y),z]∧0≤x∧0≤y∧Nm.g x y=Nm.g a b) (fun σ _=>match σ with | [_,some (.int y),_]=>y.toNat | _=>0) ?_ ?_ ?_
  ·refine⟨rfl,_,_,_,rfl,?_,?_,?_⟩
   ·split <;>omega
   ·split <;>omega
   ·rw[show(if a<0 then -a else a)=(a.natAbs:Int) by split <;>omega,show(if b<0 then -b else b)=(b.natAbs:Int) by split <;>omega,Nm.g_abs,Nm.g_abs_r]
  ·intro σ H1 p2_
   refine(?_:let G_:Prop:=_;G_)
   intro G_
   obtain⟨rfl,x,y,z,rfl,x0,y0,e⟩:=p2_
   dsimp only[G_]
   simp_all only[]
   refine ite2 (fun c=>?_) (fun c=>?_)
   ·refine⟨by omega,y0,Int.emod_nonneg _ (by omega),by rw[Nm.g_step x0 (by omega),e],?_⟩
    have:=Int.emod_lt_of_pos x (show 0<y by omega)
    have:=Int.emod_nonneg x (show y≠0 by omega)
    omega
   ·have z:y=0:=by omega
    subst z
    rw[Nm.g_zero x0] at e
    rw[e]
    exact k
  ·intro σ H1 Q1 Q2 hq hc
   simp only[L2.start,Pr,tRev,tD1,tDPop1,tSl,tNoPart,tPart,rSlL,tDIn,tDNotIn,gSub,rSetL,tLst,tDNewK,tComp,L2.stC,tFor_eq,iList,iTup,iRng1,iRng2,iZip,iEnum,iDict,iStr,tChain,tSumV,tBM,rJoin,tJoined,jNil,jLit,jInt,jStr,tRaise,tDGet,tDGet2,tDGet1,sDPut,Option.join_some,List.getElem?_nil,tSeq,tRet,tRetN,tIfS,tTest,tB,tOp,tUn,tVar,tC,tCB,tCons,tNil,tCall,tTupS,tAsg,gName,gNil,gCons,tPar,tNext,tDrop,tAnd,tOr,tNot,tAndV,tOrV,tNotV,tIf,rI,rI0,rU,rIxTH,rIxLH,rEqT,rNeT,rInT,rEq,rNe,scal_ss,scal_ii,scal_bb,scal_si,scal_is,CPow,at0,at1,at2,List.map_cons,List.map_nil,List.length_cons,List.length_nil,Nat.reduceSub,Nat.reduceAdd,Nat.zero_add,List.replicate_zero,List.reduceReplicate,List.append_nil,List.nil_append,List.cons_append,List.getElem?_cons_zero,List.getElem?_cons_succ,List.set_cons_zero,List.set_cons_succ,Option.some.injEq,exists_eq_left',exists_eq_left,V.ref.injEq,V.int.injEq,V.bl.injEq,V.str.injEq,V.ty.injEq,HO.tup.injEq,HO.lst.injEq,List.cons.injEq,and_true,true_and,and_assoc,exists_and_left,decide_eq_true_eq,Bool.not_eq_true',decide_eq_false_iff_not,ite_true,ite_false,if_true,if_false,Int.reduceToNat,eq_self_iff_true] at hc ⊢
   refine(?_:let G_:Prop:=_;G_)
   intro G_
   obtain⟨v,e1,e2,q⟩:=hc
   dsimp only[G_]
   exact⟨v,e1,e2,hq _ _ q⟩
theorem sc_share:FnScope ["top","bottom","divisor"] ["top","bottom"] (defScope (top 13)):=⟨rfl,rfl,rfl,by decide +kernel,rfl,by decide +kernel,by decide +kernel⟩
theorem ok_sh (T:Txt K mg q_Book tc):Cal P w K mg base (CX1 P w) 2 "share" ["top","bottom"] spSh:=by
 have c_common_divisor:Cal P w K mg base (CX1 P w) 1 "common_divisor" ["one","other"] spCd:=ok_cd T
 refine T.d_share.cal (fun _ _ _ _ _ _=>us_2 fun _ _=>rfl) fun f fd F=>F.okC sc_share (fun vs H Q E h=>?_) (fun cdv A outer s H vs Q E hr h=>?_)
 ·obtain⟨_,_,rfl,_⟩:=h;rfl
 ·refine(?_:let G_:Prop:=_;G_)
  intro G_
  obtain⟨a,b,rfl,bt,b0,kq⟩:=h
  dsimp only[G_]
  have nd:=sc_share.nd
  refine⟨_,(pss_cons (ps_if (pt_cmpR op_eq (pv 1) pe_int (nomark _)) (pss_one ps_never)
   pss_nil)
  (pss_cons (ps_set (i:=2) nd rfl (Or.inl rfl) (pe_cal c_common_divisor (hr.mono (by decide)) rfl strictP.pass (pa_cons (pv 0) (pa_cons (pv 1) pa_nil (se rfl)) (se rfl)) (he:=se rfl) (hpl:=na rfl)))
  (pss_cons (ps_if (pt_cmpR op_lt (pv 1) pe_int (nomark _)) (pss_one (ps_set (i:=2) nd rfl (Or.inl rfl) (pe_un un_neg (pv 2))))
   pss_nil)
  (pss_one (ps_ret (pe_tupS (pa_cons (pe_op op_fdivB (pv 0) (pv 2)) (pa_cons (pe_op op_fdivB (pv 1) (pv 2)) pa_nil (se rfl)) (se rfl)))))))),?_⟩
  refine(?_:let q0_:TS:=_;let q1_:TS:=_;let q2_:TS:=_;let q3_:TS:=_;tSeq q0_ (tSeq q1_ (tSeq q2_ q3_)) _ _ _)
  intro q0_ q1_ q2_ q3_
  have g0:0<Nm.g a b:=Nm.g_pos (by omega)
  have gb:Bt 5000 (Nm.g a b):=bt.le (by have:=Nm.g_abs_le (a:=a) (show b≠0 by omega);omega)
  unfold Nm.st Nm.sb at kq
  rw[if_neg (show ¬b<0 by omega),if_neg (show ¬b<0 by omega)] at kq
  simp_all only[spCd]
  rw[if_neg (by omega),if_neg (by omega)]
  exact⟨CDivB.of g0 gb,CDivB.of g0 gb,by decide,fun p H2 s1 n1 e=>kq p H2 s1 n1 e⟩
theorem sc_Book___init__:FnScope ["self","tops","bottom"] ["self","tops","bottom"] (defScope (inClass (top 34) 0)):=⟨rfl,rfl,rfl,by decide +kernel,rfl,by decide +kernel,by decide +kernel⟩
theorem ok_bk (T:Txt K mg q_Book tc):MkCal P w K mg base (CX1 P w) 1 "Book" q_Book ["self","tops","bottom"] (spIn q_Book):=by
 refine T.di_Book.cal (fun _ _ _ _ _ _=>us_3 fun _ _ _=>rfl) fun f fd F=>F.okC sc_Book___init__ (fun vs H Q E h=>?_) (fun cdv A outer s H vs Q E hr h=>?_)
 ·obtain⟨_,_,_,_,_,rfl,_⟩:=h;rfl
 ·refine(?_:let G_:Prop:=_;G_)
  intro G_
  obtain⟨x,dx,l,ts,b,rfl,hx,hl,kk⟩:=h
  dsimp only[G_]
  have nd:=sc_Book___init__.nd
  refine⟨_,(pss_cons (ps_fld (pv 0) (pe_callTy (call_list_ofK (K:=K)) (by rfl) T.z_list rfl (pa_cons (pv 1) pa_nil (se rfl)) (he:=se rfl) (hpl:=na rfl)) rfl)
  (pss_one (ps_fld (pv 0) (pv 2) rfl))),?_⟩
  simp_all only[sFld]
  refine⟨_,.inl (SqL.of hl),fun m nm=>?_⟩
  have mx:m≠x:=fun z=>by rw[z,hx] at nm;cases nm
  have hx1:upd H m (.lst (ts.map V.int)) x=some (.ins q_Book dx []):=by rw[upd_ne (Ne.symm mx)];exact hx
  refine⟨_,_,_,hx1,T.cl_Book,T.na_Book_tops,by decide,_,_,_,upd_same,T.cl_Book,T.na_Book_bottom,by show(1:Nat)<1000;decide,?_⟩
  refine kk m _ nm ?_ ?_ ?_
  ·rw[upd_ne mx,upd_ne mx,upd_same]
  ·rw[upd_same]
   show some (HO.ins q_Book dx (if Str.ofString "tops"=Str.ofString "bottom" then _ else _))=_
   rw[if_neg (by decide +kernel)]
   rfl
  ·intro y o ny hy
   have ym:y≠m:=fun z=>by rw[z,nm] at hy;cases hy
   rw[upd_ne ny,upd_ne ny,upd_ne ym]
   exact hy
theorem lk_sc {a b:V}:List.lookup (Str.ofString "scaled") [(("tops":Str),a),(("bottom":Str),b)]=none:=rfl
theorem lk_to {a b:V}:List.lookup (Str.ofString "tops") [(("tops":Str),a),(("bottom":Str),b)]=some a:=rfl
theorem lk_bo {a b:V}:List.lookup (Str.ofString "bottom") [(("tops":Str),a),(("bottom":Str),b)]=some b:=rfl
theorem sc_Book_scaled:FnScope ["self","factor"] ["self","factor"] (defScope (inClass (top 34) 1)):=⟨rfl,rfl,rfl,by decide +kernel,rfl,by decide +kernel,by decide +kernel⟩
theorem ok_sca (T:Txt K mg q_Book tc):MtCal P w K mg base (CX1 P w) 3 q_Book "scaled" ["self","factor"] (spSca q_Book):=by
 have m_Book:MkCal P w K mg base (CX1 P w) 1 "Book" q_Book ["self","tops","bottom"] (spIn q_Book):=ok_bk T
 refine T.dm_Book_scaled.cal (fun _ _ _ _ _ _=>us_2 fun _ _=>rfl) fun f fd F=>F.okC sc_Book_scaled (fun vs H Q E h=>?_) (fun cdv A outer s H vs Q E hr h=>?_)
 ·obtain⟨_,_,_,rfl,_⟩:=h;rfl
 ·refine(?_:let G_:Prop:=_;G_)
  intro G_
  obtain⟨x,S,d,rfl,⟨dx,m,hx,hm⟩,bd,bb,bt,ln,kk⟩:=h
  dsimp only[G_]
  clear G_
  have nd:=sc_Book_scaled.nd
  refine⟨_,(pss_one (ps_ret (pe_mk m_Book (hr.mono (by decide)) rfl strictP.pass (pa_cons (pe_comp rfl (N:=["self","factor"]) (so:=defScope (inClass (top 34) 1)) (N':=["top","factor"]) (k:=1) (fr:=[1]) rfl rfl ⟨rfl,by decide +kernel,by decide +kernel,by decide +kernel,rfl,by decide +kernel,by decide +kernel⟩ (pi_listK (K:=K) (pe_fld (pv 0) rfl)) (fun _ _ _ _ _=>(pg_name (i:=0) (show(["top","factor"]:List Str).Nodup by decide +kernel) rfl (Or.inl rfl))) (fun _ _ _ _ _=>pts_nil)
   (fun _ _ _ _ _=>(pe_op op_mulB (pv 0) (pv 1)))) (pa_cons (pe_op op_mulB (pe_fld (pv 0) rfl) (pv 1)) pa_nil (se rfl)) (se rfl)) (he:=se rfl) (hpl:=na rfl)))),?_⟩
  simp_all only[tFld,tMake]
  refine⟨_,_,_,hx,T.cl_Book,T.na_Book_tops,_,lk_to,m,rfl,⟨_,SqL.of hm⟩,?_⟩
  have S':Src (Itl K m) (Same H) S.1.length (fun i x H H3=>H3=H∧(S.1.map V.int)[i]?=some x):=by
   have:=src_list (K:=K) (a:=m) (xs:=S.1.map V.int) (Ok:=Same H) (fun H' s'=>SqL.of (s' _ _ hm))
   rwa [List.length_map] at this
  refine comp_ints S.1 (fun t=>some (t*d)) S' (fun _ _ _ _ h=>h.1) (by rw[sizeLine_eq];omega) ?_ ?_
  ·rintro i t v et ⟨_,ex⟩ Y N y1 _
   rw[List.getElem?_map,et] at ex
   cases ex
   simp_all only[tYes]
   exact⟨(bt t (List.mem_of_getElem? et)).mulOk bd,y1 _ rfl⟩
  ·intro D n1 n2
   rw[fm_some]
   have s1:=same_upd (H:=H) (o:=.lst (List.map V.int (S.1.map (·*d)))) n2
   have hD:upd H D (.lst (List.map V.int (S.1.map (·*d)))) D=some (.lst (List.map V.int (S.1.map (·*d)))):=upd_same
   generalize upd H D (.lst (List.map V.int (S.1.map (·*d))))=H1 at *
   refine⟨_,_,_,s1 _ _ hx,T.cl_Book,T.na_Book_bottom,_,lk_bo,_,rfl,bb.mulOk bd,fun y dy ny ndy ne=>?_⟩
   have s2:=s1.trans (same_upd (o:=.own y) ndy)
   have hD2:=same_upd (o:=.own y) ndy _ _ hD
   have xD:D≠y:=fun z=>by rw[z,ny] at hD;cases hD
   refine⟨y,dy,D,_,_,rfl,upd_same,by rw[upd_ne xD];exact hD2,fun m' H' nm hm' hx' ky=>⟨rfl,kk y dy m' H' (fun z o hz=>?_) (none_of s1 ny) ?_ hx' hm'⟩⟩
   ·have yx:z≠y:=fun e=>by have:=s1 _ _ hz;rw[e,ny] at this;cases this
    exact ky z o yx (by rw[upd_ne yx];exact s2 _ _ hz)
   ·have my:m'≠y:=fun e=>by rw[e,upd_same] at nm;cases nm
    rw[upd_ne my] at nm
    exact none_of s2 nm
theorem sc_Book_as_shares:FnScope ["self"] ["self"] (defScope (inClass (top 34) 2)):=⟨rfl,rfl,rfl,by decide +kernel,rfl,by decide +kernel,by decide +kernel⟩
theorem ok_as (T:Txt K mg q_Book tc):MtCal P w K mg base (CX1 P w) 3 q_Book "as_shares" ["self"] (spAs q_Book):=by
 have c_share:Cal P w K mg base (CX1 P w) 2 "share" ["top","bottom"] spSh:=ok_sh T
 refine T.dm_Book_as_shares.cal (fun _ _ _ _ _ _=>us_1 fun _=>rfl) fun f fd F=>F.okC sc_Book_as_shares (fun vs H Q E h=>?_) (fun cdv A outer s H vs Q E hr h=>?_)
 ·obtain⟨_,_,rfl,_⟩:=h;rfl
 ·refine(?_:let G_:Prop:=_;G_)
  intro G_
  obtain⟨x,S,rfl,⟨dx,m,hx,hm⟩,b0,bb,ln,kk⟩:=h
  dsimp only[G_]
  have nd:=sc_Book_as_shares.nd
  refine⟨_,(pss_one (ps_ret (pe_comp rfl (N:=["self"]) (so:=defScope (inClass (top 34) 2)) (N':=["top","self"]) (k:=1) (fr:=[0]) rfl rfl ⟨rfl,by decide +kernel,by decide +kernel,by decide +kernel,rfl,by decide +kernel,by decide +kernel⟩ (pi_listK (K:=K) (pe_fld (pv 0) rfl)) (fun _ _ _ _ _=>(pg_name (i:=0) (show(["top","self"]:List Str).Nodup by decide +kernel) rfl (Or.inl rfl))) (fun _ _ _ _ _=>pts_nil)
   (fun _ _ _ _ _=>(pe_cal c_share (hr.mono (by decide)) rfl strictP.pass (pa_cons (pv 0) (pa_cons (pe_fldK (K:=K) (pv 1) rfl) pa_nil (se rfl)) (se rfl)) (he:=se rfl) (hpl:=na rfl)))))),?_⟩
  simp_all only[tFld]
  refine⟨_,_,_,hx,T.cl_Book,T.na_Book_tops,_,lk_to,m,rfl,⟨_,SqL.of hm⟩,?_⟩
  refine comp_map (src_list (K:=K) (a:=m) (xs:=S.1.map V.int) (Ok:=Same H) (fun H' s'=>SqL.of (s' _ _ hm))) (fun _ _ _ _ h=>by rw[h.1];exact Same.refl _) (by rw[List.length_map,sizeLine_eq];omega) (fun i y H4=>∀t,S.1[i]?=some t→∃p,y=.ref p∧H4 p=some (.tup (Pr (Wq.low t S.2).1 (Wq.low t S.2).2))) (fun i y H4 H5 s5 h t e=>by obtain⟨p,e1,h1⟩:=h t e;exact⟨p,e1,s5 _ _ h1⟩) ?_ ?_
  ·rintro i v w0 H4 H5 Q2 hi s4 ⟨rfl,ex⟩ kq
   rw[List.getElem?_map] at ex
   refine(?_:let G_:Prop:=_;G_)
   intro G_
   obtain⟨t,et,rfl⟩:=Option.map_eq_some_iff.mp ex
   dsimp only[G_]
   simp_all only[spSh,tFld]
   refine⟨_,_,_,s4 _ _ hx,T.cl_Book,T.na_Book_bottom,_,lk_bo,_,rfl,bb,b0,fun p H6 s6 n6 h6=>kq _ _ s6 fun t' e'=>?_⟩
   rw[et] at e'
   cases e'
   exact⟨p,rfl,h6⟩
  ·intro ys H5 s5 ly hy D n1 n2
   rw[List.length_map] at ly
   refine kk D _ (s5.trans (same_upd n2)) (none_of s5 n2) (rep_lst.mpr ⟨D,ys,rfl,upd_same,repL_map (by rw[List.length_map];exact ly) fun i y ey q eq=>?_⟩)
   rw[List.getElem?_map] at eq
   refine(?_:let G_:Prop:=_;G_)
   intro G_
   obtain⟨t,et,rfl⟩:=Option.map_eq_some_iff.mp eq
   obtain⟨p,e1,h1⟩:=hy i y ey t et
   dsimp only[G_]
   exact rep_wrow.mpr ⟨p,e1,same_upd n2 _ _ h1⟩
theorem lk_as {a b:V}:List.lookup (Str.ofString "as_shares") [(("tops":Str),a),(("bottom":Str),b)]=none:=rfl
theorem sc_column_of:FnScope ["rows","column"] ["rows","column"] (defScope (top 20)):=⟨rfl,rfl,rfl,by decide +kernel,rfl,by decide +kernel,by decide +kernel⟩
theorem ok_col (T:Txt K mg q_Book tc):Cal P w K mg base (CX1 P w) 1 "column_of" ["rows","column"] spCol:=by
 refine T.d_column_of.cal (fun _ _ _ _ _ _=>us_2 fun _ _=>rfl) fun f fd F=>F.okC sc_column_of (fun vs H Q E h=>?_) (fun cdv A outer s H vs Q E hr h=>?_)
 ·obtain⟨_,_,_,rfl,_⟩:=h;rfl
 ·refine(?_:let G_:Prop:=_;G_)
  intro G_
  obtain⟨a,L,c,rfl,⟨xs,ha,al⟩,n64,hc,kk⟩:=h
  dsimp only[G_]
  have nd:=sc_column_of.nd
  refine⟨_,(pss_one (ps_ret (pe_comp rfl (N:=["rows","column"]) (so:=defScope (top 20)) (N':=["row","column"]) (k:=1) (fr:=[1]) rfl rfl ⟨rfl,by decide +kernel,by decide +kernel,by decide +kernel,rfl,by decide +kernel,by decide +kernel⟩ (pi_listK (K:=K) (pv 0)) (fun _ _ _ _ _=>(pg_name (i:=0) (show(["row","column"]:List Str).Nodup by decide +kernel) rfl (Or.inl rfl))) (fun _ _ _ _ _=>pts_nil)
   (fun _ _ _ _ _=>(pe_ix ix_listH (pv 0) (pv 1) (fun _ _=>rfl)))))),?_⟩
  have sl:=sizeLine_eq
  have lx:=al.length
  simp_all only[]
  refine⟨⟨_,SqL.of ha⟩,?_⟩
  have S:Src (Itl K a) (Same H) L.length (fun i x H H3=>H3=H∧xs[i]?=some x):=by
   have:=src_list (K:=K) (a:=a) (xs:=xs) (Ok:=Same H) (fun H2 s2=>SqL.of (s2 _ _ ha))
   rwa [lx] at this
  refine comp_ints L (fun r=>some (r.getD c 0)) S (fun _ _ _ _ h=>h.1) (by omega) ?_ ?_
  ·rintro i r x er ⟨_,ex⟩ Y N y1 _
   refine(?_:let G_:Prop:=_;G_)
   intro G_
   obtain⟨r',er',q,rfl,hq⟩:=al.get ex
   dsimp only[G_]
   rw[er] at er'
   cases er'
   have ai:=at_int (hc r (List.mem_of_getElem? er))
   simp_all only[tYes,hq,ai]
   exact y1 _ rfl
  ·intro D n1 n2
   refine kk _ _ (same_upd n2) ?_
   rw[upd_same,show List.filterMap (fun r:List Int=>some (r.getD c 0)) L=L.map fun r=>r.getD c 0 from by rw[List.filterMap_eq_map']]
theorem sc_turned_rows:FnScope ["rows"] ["rows"] (defScope (top 21)):=⟨rfl,rfl,rfl,by decide +kernel,rfl,by decide +kernel,by decide +kernel⟩
theorem ok_trw (T:Txt K mg q_Book tc):Cal P w K mg base (CX1 P w) 2 "turned_rows" ["rows"] spTrw:=by
 have c_column_of:Cal P w K mg base (CX1 P w) 1 "column_of" ["rows","column"] spCol:=ok_col T
 refine T.d_turned_rows.cal (fun _ _ _ _ _ _=>us_1 fun _=>rfl) fun f fd F=>F.okC sc_turned_rows (fun vs H Q E h=>?_) (fun cdv A outer s H vs Q E hr h=>?_)
 ·obtain⟨_,_,_,rfl,_⟩:=h;rfl
 ·refine(?_:let G_:Prop:=_;G_)
  intro G_
  obtain⟨a,L,n,rfl,hM,sq,n64,kk⟩:=h
  dsimp only[G_]
  have nd:=sc_turned_rows.nd
  refine⟨_,(pss_one (ps_ret (pe_comp rfl (N:=["rows"]) (so:=defScope (top 21)) (N':=["column","rows"]) (k:=1) (fr:=[0]) rfl rfl ⟨rfl,by decide +kernel,by decide +kernel,by decide +kernel,rfl,by decide +kernel,by decide +kernel⟩ (pi_range1 rfl T.z_range (pa_cons (pe_callB call_lenL (by rfl) T.z_len PySem.boot_len (pa_cons (pv 0) pa_nil (se rfl)) (he:=se rfl) (hpl:=na rfl)) pa_nil (se rfl))) (fun _ _ _ _ _=>(pg_name (i:=0) (show(["column","rows"]:List Str).Nodup by decide +kernel) rfl (Or.inl rfl))) (fun _ _ _ _ _=>pts_nil)
   (fun _ _ _ _ _=>(pe_cal c_column_of (hr.mono (by decide)) rfl strictP.pass (pa_cons (pv 1) (pa_cons (pv 0) pa_nil (se rfl)) (se rfl)) (he:=se rfl) (hpl:=na rfl)))))),?_⟩
  have sl:=sizeLine_eq
  refine(?_:let G_:Prop:=_;G_)
  intro G_
  obtain⟨xs,ha,al⟩:=id hM
  dsimp only[G_]
  have lx:=al.length
  have hl:=sq.len
  simp_all only[ha]
  refine⟨by omega,by omega,?_⟩
  rw[show((xs.length:Int)).toNat=n by omega]
  refine comp_map src_range (fun _ _ _ _ h=>by rw[h.1];exact Same.refl _) (by omega) (fun i y H2=>Rw H2 (L.map fun r:List Int=>r.getD i 0) y) (fun i y H2 H3 s3 h=>Rw.mono s3 h) ?_ ?_
  ·rintro i x w0 H2 H3 Q2 hi s2 ⟨rfl,rfl⟩ kq
   simp_all only[spCol]
   refine⟨L,i,Int.zero_add _,hM.mono s2,by omega,fun r hr=>by rw[sq.row r hr];exact hi,fun p H4 s4 h4=>kq _ _ s4 ⟨p,rfl,h4⟩⟩
  ·intro ys H2 s2 ly hy D n1 n2
   refine kk _ _ (s2.trans (same_upd n2)) ⟨ys,upd_same,?_⟩
   refine Al.of (by rw[(Bar.trn_sq sq).len];exact ly) fun i y r e1 e2=>?_
   have hi:i<n:=by rw[←ly];exact(List.getElem?_eq_some_iff.mp e1).1
   rw[Bar.trn_get sq hi] at e2
   cases e2
   exact(hy i y e1).mono (same_upd n2)
theorem sc_ways_of_picks:FnScope ["board","part","product","place"] ["board","part"] (defScope (top 28)):=⟨rfl,rfl,rfl,by decide +kernel,rfl,by decide +kernel,by decide +kernel⟩
theorem ok_wop (T:Txt K mg q_Book tc):Cal P w K mg base (CX1 P w) 1 "ways_of_picks" ["board","part"] spWop2:=by
 refine T.d_ways_of_picks.cal (fun _ _ _ _ _ _=>us_2 fun _ _=>rfl) fun f fd F=>F.okC sc_ways_of_picks (fun vs H Q E h=>?_) (fun cdv A outer s H vs Q E hr h=>?_)
 ·obtain⟨_,_,_,_,rfl,_⟩:=h;rfl
 ·refine(?_:let G_:Prop:=_;G_)
  intro G_
  obtain⟨a,x,b,ps,rfl,rb,hx,inb,ok,cap,kk⟩:=h
  dsimp only[G_]
  clear G_
  have nd:=sc_ways_of_picks.nd
  refine⟨_,(pss_cons (ps_set (i:=2) nd rfl (Or.inl rfl) pe_int)
  (pss_cons (ps_for PassesOwn.never rfl (pi_listK (K:=K) (pv 1)) (pg_name (i:=3) nd rfl (Or.inl rfl)) (pss_one (ps_if (pt_cmpR op_eq (pe_ix ix_tupH (pe_ix ix_listH (pv 0) (pv 3) (fun _ _=>rfl)) pe_int (fun _ _=>rfl)) pe_str (nomark _)) (pss_one (ps_set (i:=2) nd rfl (Or.inl rfl) (pe_op op_mulB (pv 2) (pe_callB call_lenL (by rfl) T.z_len PySem.boot_len (pa_cons (pe_ix ix_tupH (pe_ix ix_listH (pv 0) (pv 3) (fun _ _=>rfl)) pe_int (fun _ _=>rfl)) pa_nil (se rfl)) (he:=se rfl) (hpl:=na rfl)))))
   pss_nil)))
  (pss_one (ps_ret (pv 2))))),?_⟩
  refine(?_:let q0_:TS:=_;let q1_:TS:=_;let q2_:TS:=_;tSeq q0_ (tSeq q1_ q2_) _ _ _)
  intro q0_ q1_ q2_
  refine(?_:let G_:Prop:=_;G_)
  intro G_
  obtain⟨_,xs,e,ha,rl⟩:=rep_lst.mp rb
  dsimp only[G_]
  clear G_
  cases e
  simp_all only[]
  refine⟨⟨_,SqL.of hx⟩,for_src (src_list (Ok:=fun H'=>H'=H) (fun H2 s2=>by rw[s2];exact SqL.of hx)) (fun i σ H'=>H'=H∧∃(k:Nat) (z:Option V),pkPr b k (ps.drop i)=pkPr b 1 ps∧σ=[some (V.ref a),some (V.ref x),some (V.int (k:Int)),z]) ⟨rfl,1,_,rfl,rfl⟩ (fun _ _ _ _ h=>h.1) ?_ ?_⟩
  ·intro i y σ H1 H2 hi p6_ p7_
   refine(?_:let G_:Prop:=_;G_)
   intro G_
   obtain⟨rfl,k,z,ki,rfl⟩:=p6_
   obtain⟨rfl,ex⟩:=p7_
   dsimp only[G_]
   clear G_
   rw[List.length_map] at hi
   rw[List.getElem?_map,List.getElem?_eq_getElem hi] at ex
   cases ex
   rw[List.drop_eq_getElem_cons hi] at ki
   have ip:=inb _ (List.getElem_mem hi)
   generalize ps[i]=p at *
   obtain⟨p,rfl⟩:=Int.eq_ofNat_of_zero_le ip.1
   have hp:p<b.length:=by have:=ip.2;omega
   have eb:b[p]?=some b[p]:=List.getElem?_eq_getElem hp
   refine(?_:let G_:Prop:=_;G_)
   intro G_
   obtain⟨v,ev,rv⟩:=rep_br_at rl eb
   dsimp only[G_]
   clear G_
   have ki:pkPr b (k*pkN b (p:Int)) (ps.drop (i+1))=pkPr b 1 ps:=ki
   have ek:pkN b (p:Int)=match b[p] with | .pck _ to=>to.length | _=>1:=by
    unfold pkN
    rw[Int.toNat_natCast,eb]
    cases b[p] <;>rfl
   have k1:k≤4096:=by
    have:=pkPr_ge ok (ps.drop (i+1)) (k*pkN b (p:Int))
    have:=Nat.le_mul_of_pos_right k (pkN_le ok (p:Int)).1
    omega
   have pq:=ok _ (List.getElem_mem hp)
   rw[ek] at ki
   generalize b[p]=q at *
   cases q with
   | fin g=>
    refine(?_:let G_:Prop:=_;G_)
    intro G_
    obtain⟨t,r,rfl,ht,_⟩:=rep_fin.mp rv
    dsimp only[G_]
    simp_all only[ha,show atI xs (p:Int)=some (.ref t) from atI_nat ev,ht]
    rw[if_neg (by decide +kernel)]
    exact⟨k,by rw[←ki,Nat.mul_one],rfl,_,rfl⟩
   | thr g ws=>
    refine(?_:let G_:Prop:=_;G_)
    intro G_
    obtain⟨t,r,l,zs,rfl,ht,_⟩:=rep_thr.mp rv
    dsimp only[G_]
    simp_all only[ha,show atI xs (p:Int)=some (.ref t) from atI_nat ev,ht]
    rw[if_neg (by decide +kernel)]
    exact⟨k,by rw[←ki,Nat.mul_one],rfl,_,rfl⟩
   | pck who to=>
    refine(?_:let G_:Prop:=_;G_)
    intro G_
    obtain⟨t,l,rfl,ht,hl⟩:=rep_pck.mp rv
    dsimp only[G_]
    simp_all only[ha,show atI xs (p:Int)=some (.ref t) from atI_nat ev,ht,hl]
    have lt:(List.map V.int to).length=to.length:=List.length_map ..
    have l4:=pq.2.2.1
    rw[lt]
    exact⟨(Bt.of (n:=13) 4096 (by omega) (by omega)).mulOk (Bt.of (n:=3) 4 (by omega) (by omega)),k*to.length,ki,by rw[Int.natCast_mul],_,rfl⟩
  ·intro σ H1 p2_
   refine(?_:let G_:Prop:=_;G_)
   intro G_
   obtain⟨rfl,k,z,ki,rfl⟩:=p2_
   dsimp only[G_]
   rw[List.length_map,List.drop_length] at ki
   have ki:k=pkPr b 1 ps:=ki
   simp_all only[]
   rw[ki]
   exact kk
theorem sc_checked_parts:FnScope ["board","left","found","part"] ["board"] (defScope (top 29)):=⟨rfl,rfl,rfl,by decide +kernel,rfl,by decide +kernel,by decide +kernel⟩
theorem ok_chk (T:Txt K mg q_Book tc) (LB:LamB base mg tc tp):Cal P w K mg base (CX1 P w) 6 "checked_parts" ["board"] (spChk2 tp):=by
 have c_ring:Cal P w K mg base (CX1 P w) 5 "ring" ["board"] spRing:=ok_ring T
 have c_parts:Cal P w K mg base (CX1 P w) 3 "parts" ["board"] (spPrt tp):=ok_prt T LB
 have c_ways_of_picks:Cal P w K mg base (CX1 P w) 1 "ways_of_picks" ["board","part"] spWop2:=ok_wop T
 refine T.d_checked_parts.cal (fun _ _ _ _ _ _=>us_1 fun _=>rfl) fun f fd F=>F.okC sc_checked_parts (fun vs H Q E h=>?_) (fun cdv A outer s H vs Q E hr h=>?_)
 ·obtain⟨_,_,_,rfl,_⟩:=h;rfl
 ·refine(?_:let G_:Prop:=_;G_)
  intro G_
  obtain⟨a,b,rk,rfl,rb,B,htp,kk⟩:=h
  dsimp only[G_]
  have nd:=sc_checked_parts.nd
  refine⟨_,(pss_cons (ps_set (i:=1) nd rfl (Or.inl rfl) (pe_cal c_ring (hr.mono (by decide)) rfl strictP.pass (pa_cons (pv 0) pa_nil (se rfl)) (he:=se rfl) (hpl:=na rfl)))
  (pss_cons (ps_if (pt_cmpR op_gt (pe_callB call_lenL (by rfl) T.z_len PySem.boot_len (pa_cons (pv 1) pa_nil (se rfl)) (he:=se rfl) (hpl:=na rfl)) pe_int (nomark _)) (pss_one ps_never)
   pss_nil)
  (pss_cons (ps_set (i:=2) nd rfl (Or.inl rfl) (pe_cal c_parts (hr.mono (by decide)) rfl strictP.pass (pa_cons (pv 0) pa_nil (se rfl)) (he:=se rfl) (hpl:=na rfl)))
  (pss_cons (ps_for PassesOwn.never rfl (pi_listK (K:=K) (pv 2)) (pg_name (i:=3) nd rfl (Or.inl rfl)) (pss_one (ps_if (PW.pt (pw_or (pt_cmpR op_gt (pe_callB call_lenL (by rfl) T.z_len PySem.boot_len (pa_cons (pv 3) pa_nil (se rfl)) (he:=se rfl) (hpl:=na rfl)) (pe_globI rfl T.c_MOST_PLACES) (nomark _)) (pw_or1 (pt_cmpR op_gt (pe_cal c_ways_of_picks (hr.mono (by decide)) rfl strictP.pass (pa_cons (pv 0) (pa_cons (pv 3) pa_nil (se rfl)) (se rfl)) (he:=se rfl) (hpl:=na rfl)) (pe_globI rfl T.c_MOST_PICKS) (nomark _))))) (pss_one ps_never)
   pss_nil)))
  (pss_one (ps_ret (pv 2))))))),?_⟩
  refine(?_:let q0_:TS:=_;let q1_:TS:=_;let q2_:TS:=_;let q3_:TS:=_;let q4_:TS:=_;tSeq q0_ (tSeq q1_ (tSeq q2_ (tSeq q3_ q4_))) _ _ _)
  intro q0_ q1_ q2_ q3_ q4_
  have bl:=B.len
  simp_all only[spRing,spPrt]
  refine⟨b,rb,B.bd,fun l H1 s1 n1 hl=>⟨_,hl,?_⟩⟩
  rw[B.lad.ring]
  rw[if_neg (by simp)]
  refine⟨b,rb.mono s1,by omega,B.few,B.lad.good,s1 _ _ htp,fun l2 ps as H2 td s2 n2 hl2 al=>?_⟩
  have al2:Al (fun p v=>∃x,v=.ref x∧H2 x=some (.lst ((Pr.prt b p).map V.int))) ps (as.map V.ref):=by
   refine Al.of al.length fun i v p ev ep=>?_
   refine(?_:let G_:Prop:=_;G_)
   intro G_
   obtain⟨p',ep',x,rfl,hx,_⟩:=al.get ev
   dsimp only[G_]
   rw[ep] at ep'
   cases ep'
   exact⟨x,rfl,hx⟩
  have s12:=s1.trans s2
  refine⟨⟨_,SqL.of hl2⟩,for_src (src_list (Ok:=fun H'=>H'=H2) (fun H3 s3=>by rw[s3];exact SqL.of hl2)) (fun i σ H'=>H'=H2∧∃z,σ=[some (V.ref a),some (V.ref l),some (V.ref l2),z]) ⟨rfl,_,rfl⟩ (fun _ _ _ _ h=>h.1) ?_ ?_⟩
  ·intro i y σ H3 H4 hi p6_ p7_
   refine(?_:let G_:Prop:=_;G_)
   intro G_
   obtain⟨rfl,z,rfl⟩:=p6_
   obtain⟨rfl,ex⟩:=p7_
   obtain⟨p,ep,x,rfl,hx⟩:=al2.get ex
   dsimp only[G_]
   have ip:=td.inB (List.mem_of_getElem? ep)
   have lp:(Pr.prt b p).length≤b.length:=by
    have:=Pr.sub_len (l:=Pr.prt b p) (m:=Pr.kb b p) ((Pr.prt_lt B.lad.good ip).imp fun h z=>by omega) fun x hx=>(Pr.prt_mem.mp hx).1
    have:=Pr.kb_len B.lad.good ip
    omega
   simp_all only[spWop2,hx]
   rw[if_neg (by rw[List.length_map];omega)]
   have cp:=B.cap p ip
   refine⟨b,rb.mono s12,Pr.prt b p,rfl,fun q hq=>Pr.prt_in B.lad.good ip hq,B.ok,cp,?_⟩
   rw[if_neg (by omega)]
   exact⟨_,rfl⟩
  ·intro σ H3 p2_
   refine(?_:let G_:Prop:=_;G_)
   intro G_
   obtain⟨rfl,z,rfl⟩:=p2_
   dsimp only[G_]
   simp_all only[]
   exact kk l2 ps as _ td s12 (none_of s1 n2) hl2 al2
theorem sc_weighted_ways:FnScope ["place","way"] ["place","way"] (defScope (top 30)):=⟨rfl,rfl,rfl,by decide +kernel,rfl,by decide +kernel,by decide +kernel⟩
theorem ok_wwy (T:Txt K mg q_Book tc):Cal P w K mg base (CX1 P w) 1 "weighted_ways" ["place","way"] spWwy:=by
 refine T.d_weighted_ways.cal (fun _ _ _ _ _ _=>us_2 fun _ _=>rfl) fun f fd F=>F.okC sc_weighted_ways (fun vs H Q E h=>?_) (fun cdv A outer s H vs Q E hr h=>?_)
 ·obtain⟨_,_,_,rfl,_⟩:=h;rfl
 ·refine(?_:let G_:Prop:=_;G_)
  intro G_
  obtain⟨v,q,k,rfl,rv,pk,kk⟩:=h
  dsimp only[G_]
  have nd:=sc_weighted_ways.nd
  refine⟨_,(pss_cons (ps_if (pt_cmpR op_eq (pe_ix ix_tupH (pv 0) pe_int (fun _ _=>rfl)) pe_str (nomark _)) (pss_one (ps_ret (pe_ix ix_tupH (pv 0) pe_int (fun _ _=>rfl))))
   pss_nil)
  (pss_cons (ps_if (pt_cmpR op_eq (pe_ix ix_tupH (pv 0) pe_int (fun _ _=>rfl)) pe_str (nomark _)) (pss_one (ps_ret (pe_lst (pa_cons (pe_tupS (pa_cons pe_int (pa_cons (pe_ix ix_listH (pe_ix ix_tupH (pv 0) pe_int (fun _ _=>rfl)) (pv 1) (fun _ _=>rfl)) pa_nil (se rfl)) (se rfl))) pa_nil (se rfl)))))
   pss_nil)
  (pss_one (ps_ret (pe_lst pa_nil))))),?_⟩
  refine(?_:let q0_:TS:=_;let q1_:TS:=_;let q2_:TS:=_;tSeq q0_ (tSeq q1_ q2_) _ _ _)
  intro q0_ q1_ q2_
  cases q with
  | fin g=>
   refine(?_:let G_:Prop:=_;G_)
   intro G_
   obtain⟨t,r,rfl,ht,_⟩:=rep_fin.mp rv
   dsimp only[G_]
   simp_all only[ht]
   rw[if_neg (by decide +kernel),if_neg (by decide +kernel)]
   exact⟨Nat.zero_le _,fun l nl=>kk l _ (same_upd nl) (rep_lst.mpr ⟨l,[],rfl,upd_same,rfl⟩)⟩
  | thr g ws=>
   refine(?_:let G_:Prop:=_;G_)
   intro G_
   obtain⟨t,r,l,zs,rfl,ht,_,hl,rz⟩:=rep_thr.mp rv
   dsimp only[G_]
   simp_all only[ht]
   exact kk l _ (Same.refl _) (rep_lst.mpr ⟨l,zs,rfl,hl,rz⟩)
  | pck who to=>
   refine(?_:let G_:Prop:=_;G_)
   intro G_
   obtain⟨t,l,rfl,ht,hl⟩:=rep_pck.mp rv
   dsimp only[G_]
   cases k with
   | none=>exact pk.elim
   | some k=>
    obtain⟨k0,k1⟩:=pk
    have at1:atI (to.map V.int) k=some (.int (to.getD k.toNat 0)):=atI_ints k0 k1
    simp_all only[pkV,ht,hl,at1]
    rw[if_neg (by decide +kernel)]
    exact⟨by decide,fun p H2 s2 np hp=>⟨by decide,fun l2 nl=>kk l2 _ (s2.trans (same_upd nl)) (rep_lst.mpr ⟨l2,[.ref p],rfl,upd_same,⟨_,_,rfl,rep_wrow.mpr ⟨p,rfl,same_upd nl _ _ hp⟩,rfl⟩⟩)⟩⟩
theorem sc_all_weighted_ways:FnScope ["board","picks"] ["board","picks"] (defScope (top 31)):=⟨rfl,rfl,rfl,by decide +kernel,rfl,by decide +kernel,by decide +kernel⟩
theorem ok_aw (T:Txt K mg q_Book tc):Cal P w K mg base (CX1 P w) 2 "all_weighted_ways" ["board","picks"] spAw:=by
 have c_weighted_ways:Cal P w K mg base (CX1 P w) 1 "weighted_ways" ["place","way"] spWwy:=ok_wwy T
 refine T.d_all_weighted_ways.cal (fun _ _ _ _ _ _=>us_2 fun _ _=>rfl) fun f fd F=>F.okC sc_all_weighted_ways (fun vs H Q E h=>?_) (fun cdv A outer s H vs Q E hr h=>?_)
 ·obtain⟨_,_,_,_,rfl,_⟩:=h;rfl
 ·refine(?_:let G_:Prop:=_;G_)
  intro G_
  obtain⟨a,c,b,ks,rfl,rb,lb,hc,⟨lk,pk⟩,kk⟩:=h
  dsimp only[G_]
  have nd:=sc_all_weighted_ways.nd
  refine⟨_,(pss_one (ps_ret (pe_comp rfl (N:=["board","picks"]) (so:=defScope (top 31)) (N':=["place","way"]) (k:=2) (fr:=[]) rfl rfl ⟨rfl,by decide +kernel,by decide +kernel,by decide +kernel,rfl,by decide +kernel,by decide +kernel⟩ (pi_zipK (K:=K) rfl T.z_zip (pa_cons (pv 0) (pa_cons (pv 1) pa_nil (se rfl)) (se rfl))) (fun _ _ _ _ _=>(pg_tupK (K:=K) (n:=2) rfl (pgs_cons (pg_name (i:=0) (show(["place","way"]:List Str).Nodup by decide +kernel) rfl (Or.inl rfl)) (pgs_cons (pg_name (i:=1) (show(["place","way"]:List Str).Nodup by decide +kernel) rfl (Or.inl rfl)) pgs_nil)))) (fun _ _ _ _ _=>pts_nil)
   (fun _ _ _ _ _=>(pe_cal c_weighted_ways (hr.mono (by decide)) rfl strictP.pass (pa_cons (pv 0) (pa_cons (pv 1) pa_nil (se rfl)) (se rfl)) (he:=se rfl) (hpl:=na rfl)))))),?_⟩
  have sl:=sizeLine_eq
  refine(?_:let G_:Prop:=_;G_)
  intro G_
  obtain⟨_,xs,e,ha,rl⟩:=rep_lst.mp rb
  dsimp only[G_]
  cases e
  have lx:=rl.length
  rw[List.length_map] at lx
  simp_all only[spWwy]
  refine⟨⟨_,SqL.of ha⟩,⟨_,SqL.of hc⟩,?_⟩
  refine comp_map2 (K:=K) (src_zip (fun H' s'=>SqL.of (s' _ _ ha)) (fun H' s'=>SqL.of (s' _ _ hc))) (fun i u v H'=>∃q k,b[i]?=some q∧ks[i]?=some k∧Rep H (plD q) u∧v=pkV k) ?_ (by rw[List.length_map];omega) (fun i y H'=>∃l,y=.ref l∧∀q k,b[i]?=some q→ks[i]?=some k→Rep H' (wyD (wyP q k)) (.ref l)) (fun _ _ _ _ s ⟨l,e,h⟩=>⟨l,e,fun q k e1 e2=>(h q k e1 e2).mono s⟩) ?_ ?_
  ·intro i v H2 H3 hi s2 p6_
   refine(?_:let G_:Prop:=_;G_)
   intro G_
   obtain⟨t,x,y,nt,rfl,ex,ey,rfl⟩:=p6_
   rw[List.getElem?_map] at ey
   obtain⟨k,ek,rfl⟩:=Option.map_eq_some_iff.mp ey
   obtain⟨q,eq,rq⟩:=rep_br_get rl ex
   dsimp only[G_]
   exact⟨same_upd nt,t,_,_,rfl,SqT.of upd_same,q,k,eq,ek,rq,rfl⟩
  ·intro i u v H2 Q2 hi s2 p7_ kq
   refine(?_:let G_:Prop:=_;G_)
   intro G_
   obtain⟨q,k,eq,ek,rq,rfl⟩:=p7_
   dsimp only[G_]
   simp_all only[spWwy]
   refine⟨q,k,rfl,rq.mono s2,pk i q k eq ek,fun l H3 s3 r3=>kq _ _ s3 ⟨l,rfl,fun q' k' e1 e2=>?_⟩⟩
   rw[eq] at e1
   rw[ek] at e2
   cases e1
   cases e2
   exact r3
  ·intro ys H2 s2 ly hy D n1 n2
   rw[List.length_map] at ly
   have lz:(wysP b ks).length=b.length:=by unfold wysP;rw[List.length_zipWith];omega
   refine kk D ys _ (s2.trans (same_upd n2)) (none_of s2 n2) upd_same (repL_map (by rw[lz];omega) fun i y ey ws ew=>?_)
   have hi:i<b.length:=by have:=(List.getElem?_eq_some_iff.mp ew).1;omega
   refine(?_:let G_:Prop:=_;G_)
   intro G_
   obtain⟨l,rfl,hl⟩:=hy i y ey
   dsimp only[G_]
   have e1:b[i]?=some b[i]:=List.getElem?_eq_getElem hi
   have e2:ks[i]?=some ks[i]:=List.getElem?_eq_getElem (by omega)
   have e3:ws=wyP b[i] ks[i]:=by
    unfold wysP at ew
    rw[List.getElem?_zipWith,e1,e2] at ew
    exact(Option.some.inj ew).symm
   rw[e3]
   exact(hl _ _ e1 e2).mono (fun a o h=>by
    have:a≠D:=fun z=>by rw[z,n2] at h;cases h
    rw[hid_ne this,upd_ne this]
    exact h)
theorem in_int {rs:List Int} {x:Int}:inV (.int x) (List.map V.int rs)=decide (x∈rs):=by
 unfold inV
 rw[List.any_map,Bool.eq_iff_iff,List.any_eq_true]
 simp only[Function.comp,eqV,beq_iff_eq,decide_eq_true_eq]
 constructor
 ·rintro⟨i,hi,rfl⟩;exact hi
 ·intro h;exact⟨x,h,rfl⟩
theorem flat_int (ns:List Int):(List.map V.int ns).all flatV=true:=by
 rw[List.all_eq_true]
 intro v hv
 obtain⟨i,_,rfl⟩:=List.mem_map.mp hv
 rfl
theorem sc_with_visits:FnScope ["book","part","ways","coming","answers","told","place","top","weight","to"] ["book","part","ways"] (defScope (top 35)):=⟨rfl,rfl,rfl,by decide +kernel,rfl,by decide +kernel,by decide +kernel⟩
theorem ok_wv (T:Txt K mg q_Book tc):Cal P w K mg base (CX1 P w) 4 "with_visits" ["book","part","ways"] (spWv2 q_Book):=by
 have c_total_weight:Cal P w K mg base (CX1 P w) 1 "total_weight" ["ways"] spTw5:=ok_tw T
 have c_whole_answers:Cal P w K mg base (CX1 P w) 3 "whole_answers" ["rows","right"] spWA:=ok_wa T
 have c_turned_rows:Cal P w K mg base (CX1 P w) 2 "turned_rows" ["rows"] spTrw:=ok_trw T
 have c_part_rows:Cal P w K mg base (CX1 P w) 2 "part_rows" ["part","ways"] spPw2:=ok_pw2 T
 have m_Book_scaled:MtCal P w K mg base (CX1 P w) 3 q_Book "scaled" ["self","factor"] (spSca q_Book):=ok_sca T
 refine T.d_with_visits.cal (fun _ _ _ _ _ _=>us_3 fun _ _ _=>rfl) fun f fd F=>F.okC sc_with_visits (fun vs H Q E h=>?_) (fun cdv A outer s H vs Q E hr h=>?_)
 ·obtain⟨_,_,_,_,_,_,_,_,_,_,rfl,_⟩:=h;rfl
 ·refine(?_:let G_:Prop:=_;G_)
  intro G_
  obtain⟨bk,pt,wl,S,ps,n,M,xs,wss,lv,rfl,hb,hp,hw,rl,lw,n16,pnd,p0,p16,inn,wk,dn,Z,M20,M0,kk⟩:=h
  dsimp only[G_]
  clear G_
  have nd:=sc_with_visits.nd
  refine⟨_,(pss_cons (ps_setC (i:=3) rfl nd rfl rfl (N:=["book","part","ways","coming","answers","told","place","top","weight","to"]) (so:=defScope (top 35)) (N':=["place","book"]) (k:=1) (fr:=[0]) rfl rfl ⟨rfl,by decide +kernel,by decide +kernel,by decide +kernel,rfl,by decide +kernel,by decide +kernel⟩ (pi_listK (K:=K) (pv 1)) (fun _ _ _ _ _=>(pg_name (i:=0) (show(["place","book"]:List Str).Nodup by decide +kernel) rfl (Or.inl rfl))) (fun _ _ _ _ _=>pts_nil)
   (fun _ _ _ _ _=>(pe_ix ix_listH (pe_fldK (K:=K) (pv 1) rfl) (pv 0) (fun _ _=>rfl))))
  (pss_cons (ps_if (pt_not (pt_val (pe_callB (call_any_iK (K:=K)) (by rfl) T.z_any rfl (pa_cons (pv 3) pa_nil (se rfl)) (he:=se rfl) (hpl:=na rfl)))) (pss_one (ps_ret (pv 0)))
   pss_nil)
  (pss_cons (ps_set (i:=4) nd rfl (Or.inl rfl) (pe_cal c_whole_answers (hr.mono (by decide)) rfl strictP.pass (pa_cons (pe_cal c_turned_rows (hr.mono (by decide)) rfl strictP.pass (pa_cons (pe_cal c_part_rows (hr.mono (by decide)) rfl strictP.pass (pa_cons (pv 1) (pa_cons (pv 2) pa_nil (se rfl)) (se rfl)) (he:=se rfl) (hpl:=na rfl)) pa_nil (se rfl)) (he:=se rfl) (hpl:=na rfl)) (pa_cons (pv 3) pa_nil (se rfl)) (se rfl)) (he:=se rfl) (hpl:=na rfl)))
  (pss_cons (ps_set (i:=5) nd rfl (Or.inl rfl) (pe_mt m_Book_scaled T.cl_Book (pv 0) (hr.mono (by decide)) strictP.pass (pa_cons (pe_ix ix_tupH (pv 4) pe_int (fun _ _=>rfl)) pa_nil (se rfl)) (hst:=se rfl) (hpl:=na rfl)))
  (pss_cons (ps_for PassesOwn.never rfl (pi_zipK (K:=K) rfl T.z_zip (pa_cons (pv 1) (pa_cons (pe_ix ix_tupH (pv 4) pe_int (fun _ _=>rfl)) pa_nil (se rfl)) (se rfl))) (pg_tupK (K:=K) (n:=2) rfl (pgs_cons (pg_name (i:=6) nd rfl (Or.inl rfl)) (pgs_cons (pg_name (i:=7) nd rfl (Or.inl rfl)) pgs_nil))) (pss_cons (ps_asg (pe_op op_mulB (pv 7) (pe_cal c_total_weight (hr.mono (by decide)) rfl strictP.pass (pa_cons (pe_ix ix_listH (pv 2) (pv 6) (fun _ _=>rfl)) pa_nil (se rfl)) (he:=se rfl) (hpl:=na rfl))) (pg_sub (pe_fld (pv 5) rfl) (pv 6) set_list))
  (pss_one (ps_for PassesOwn.never rfl (pi_listK (K:=K) (pe_ix ix_listH (pv 2) (pv 6) (fun _ _=>rfl))) (pg_tupK (K:=K) (n:=2) rfl (pgs_cons (pg_name (i:=8) nd rfl (Or.inl rfl)) (pgs_cons (pg_name (i:=9) nd rfl (Or.inl rfl)) pgs_nil))) (pss_one (ps_if (pt_cmpR (op_notIn_seqK (K:=K)) (pv 9) (pv 1) rfl) (pss_one (ps_augS (pe_fld (pv 5) rfl) (pv 9) get_list (pe_op op_mulB (pv 7) (pv 8)) ip_add set_list))
   pss_nil))))))
  (pss_one (ps_ret (pv 5)))))))),?_⟩
  refine(?_:let q0_:TS:=_;let q1_:TS:=_;let q2_:TS:=_;let q3_:TS:=_;let q4_:TS:=_;let q5_:TS:=_;tSeq q0_ (tSeq q1_ (tSeq q2_ (tSeq q3_ (tSeq q4_ q5_)))) _ _ _)
  intro q0_ q1_ q2_ q3_ q4_ q5_
  have sl:=sizeLine_eq
  refine(?_:let G_:Prop:=_;G_)
  intro G_
  obtain⟨dx,m,hbx,hbm⟩:=id hb
  have B0:=Z.pos
  have lS:=Z.len
  have btt:∀t∈S.1,Bt 4000 t:=fun t ht=>by
   obtain⟨j,hj,rfl⟩:=List.getElem_of_mem ht
   have:=Z.bt j
   rw[List.getD_eq_getElem?_getD,List.getElem?_eq_getElem hj] at this
   exact Bt.mono this (by omega)
  have wat:∀p:Nat,(p:Int)∈ps→∃wv us,atI xs (p:Int)=some (.ref wv)∧Rep H (wyD (wyAt wss (p:Int))) (.ref wv)∧H wv=some (.lst us)∧RepL H ((wyAt wss (p:Int)).map wrowD) us∧us.length=(wyAt wss (p:Int)).length∧Dg.Wk5 n (wyAt wss (p:Int)):=fun p hp=>by
   have hl:p<wss.length:=by have:=(inn _ hp).2;omega
   have ew:wss[p]?=some (wyAt wss (p:Int)):=by
    unfold wyAt
    rw[Int.toNat_natCast,List.getD_eq_getElem?_getD,List.getElem?_eq_getElem hl]
    rfl
   obtain⟨v,ev,rv⟩:=rl.at (d:=wyD (wyAt wss (p:Int))) (i:=p) (by rw[List.getElem?_map,ew];rfl)
   obtain⟨wv,us,rfl,hwv,ru⟩:=rep_lst.mp rv
   have lu:=ru.length
   rw[List.length_map] at lu
   exact⟨wv,us,atI_nat ev,rv,hwv,ru,lu.symm,wk _ (List.mem_of_getElem? ew)⟩
  have wkp:∀p∈ps,Dg.Wk5 n (wyAt wss p):=fun p hp=>by
   obtain⟨p,rfl⟩:=Int.eq_ofNat_of_zero_le (inn p hp).1
   obtain⟨_,_,_,_,_,_,_,h⟩:=wat p hp
   exact h
  obtain⟨C,hC⟩:∃C:List Int,C=ps.map fun p=>S.1.getD p.toNat 0:=⟨_,rfl⟩
  dsimp only[G_]
  clear G_
  have lC:C.length=ps.length:=by rw[hC,List.length_map]
  change tSeq _ _ _ [some (.ref bk),some (.ref pt),some (.ref wl),none,none,none,none,none,none,none] H
  refine seq_gen (fun σ' H1=>∃co,Same H H1∧H1 co=some (.lst (C.map V.int))∧σ'=[some (.ref bk),some (.ref pt),some (.ref wl),some (.ref co),none,none,none,none,none,none]) ?_ (fun N hN=>?_)
  case refine_2=>
   simp_all only[]
   refine⟨⟨_,SqL.of hp⟩,?_⟩
   have S':Src (Itl K pt) (Same H) ps.length (fun i x H H3=>H3=H∧(ps.map V.int)[i]?=some x):=by
    have:=src_list (K:=K) (a:=pt) (xs:=ps.map V.int) (Ok:=Same H) (fun H2 s2=>SqL.of (s2 _ _ hp))
    rwa [List.length_map] at this
   refine comp_ints ps (fun p=>some (S.1.getD p.toNat 0)) S' (fun _ _ _ _ h=>h.1) (by omega) ?_ ?_
   ·rintro i p x ep ⟨_,ex⟩ Y N y1 _
    rw[List.getElem?_map,ep] at ex
    cases ex
    have ip:=inn p (List.mem_of_getElem? ep)
    have att:atI (S.1.map V.int) p=some (.int (S.1.getD p.toNat 0)):=atI_ints ip.1 (by omega)
    simp_all only[tYes,tFld]
    exact⟨_,_,_,hbx,T.cl_Book,T.na_Book_tops,_,lk_to,_,rfl,_,hbm,_,att,y1 _ rfl⟩
   ·intro D n1 n2
    rw[fm_some]
    exact hN _ _ ⟨D,same_upd n2,by rw[upd_same,hC],rfl⟩
  intro _ H1 p2_
  refine(?_:let G_:Prop:=_;G_)
  intro G_
  obtain⟨co,s1,hco,rfl⟩:=p2_
  dsimp only[G_]
  clear G_
  change tSeq _ _ _ [some (.ref bk),some (.ref pt),some (.ref wl),some (.ref co),none,none,none,none,none,none] H1
  refine seq_gen (fun σ' H2=>H1=H2∧σ'=[some (.ref bk),some (.ref pt),some (.ref wl),some (.ref co),none,none,none,none,none,none]) ?_ (fun N hN=>?_)
  case refine_2=>
   simp_all only[]
   refine⟨C,SqL.of hco,?_⟩
   by_cases c0:∀p∈ps,S.1.getD p.toNat 0=0
   ·rw[if_pos (by
     rw[List.any_eq_false]
     intro x hx
     rw[hC] at hx
     refine(?_:let G_:Prop:=_;G_)
     intro G_
     obtain⟨p,hp,rfl⟩:=List.mem_map.mp hx
     dsimp only[G_]
     rw[c0 p hp]
     decide)]
    exact kk bk S H1 s1 (hb.mono s1) (.inl ⟨rfl,c0⟩) (Z.up (by omega))
   ·rw[if_neg (fun z=>c0 fun p hp=>by
     rw[List.any_eq_false] at z
     have:=z (S.1.getD p.toNat 0) (by rw[hC];exact List.mem_map.mpr ⟨p,hp,rfl⟩)
     simpa using this)]
    exact hN _ _ ⟨rfl,rfl⟩
  rintro _ _ ⟨rfl,rfl⟩
  have bC:∀x∈C,x.natAbs≤2^M:=fun x hx=>by
   rw[hC] at hx
   refine(?_:let G_:Prop:=_;G_)
   intro G_
   obtain⟨p,hp,rfl⟩:=List.mem_map.mp hx
   dsimp only[G_]
   exact Nat.le_of_lt (Z.bt _)
  have b1:(1:Nat)≤2^20:=by decide
  have bc:(2:Nat)^20≤2^M:=Nat.pow_le_pow_right (by decide) M20
  have tpx:(ps.length+1)^ (ps.length+1)* (2^M* (2^20)^ps.length)≤2^ (M+ (25*ps.length+5)):=by
   refine Nat.le_trans (Nat.mul_le_mul_right _ (Dg.pow_small ps.length (by omega))) ?_
   rw[←Nat.pow_mul,←Nat.pow_add,←Nat.pow_add]
   exact Nat.pow_le_pow_right (by decide) (by omega)
  have tpd:(ps.length+1)^ (ps.length+1)* (2^20)^ps.length≤2^ (25*ps.length+5):=by
   refine Nat.le_trans (Nat.mul_le_mul_right _ (Dg.pow_small ps.length (by omega))) ?_
   rw[←Nat.pow_mul,←Nat.pow_add]
   exact Nat.pow_le_pow_right (by decide) (by omega)
  have tp4:(ps.length+1)^ (ps.length+1)* (2^M* (2^20)^ps.length)<2^4000:=Nat.lt_of_le_of_lt tpx (Nat.pow_lt_pow_right (by decide) (by omega))
  change tSeq _ _ _ [some (.ref bk),some (.ref pt),some (.ref wl),some (.ref co),none,none,none,none,none,none] H1
  refine seq_gen (fun σ' H3=>∃u q d x L,Same H1 H3∧H3 u=some (.tup [.ref q,.int d])∧H3 q=some (.lst (x.map V.int))∧Dg.RowP ps (wyAt wss) L∧Sol (Bar.trn L) C ps.length x d∧d.natAbs≤(ps.length+1)^ (ps.length+1)* (2^20)^ps.length∧(∀v∈x,v.natAbs≤(ps.length+1)^ (ps.length+1)* (2^M* (2^20)^ps.length))∧σ'=[some (.ref bk),some (.ref pt),some (.ref wl),some (.ref co),some (.ref u),none,none,none,none,none]) ?_ (fun N hN=>?_)
  case refine_2=>
   simp_all only[spPw2,spWA,spTrw]
   refine⟨ps,s1 _ _ hp,_,s1 _ _ hw,_,rl.mono s1,pnd,by omega,fun p hp=>by have:=inn p hp;omega,fun ws hws=>(wk ws hws).1,fun r2 L H3 s3 mt rp=>?_⟩
   have sq:Bar.Sq L ps.length:=⟨rp.1,rp.2.1⟩
   have sqt:=Bar.trn_sq sq
   have hL:∀r∈Bar.trn L,∀x∈r,x.natAbs≤2^20:=trn_bd2 (rp.ent wkp)
   have sw:=swb_big sqt lC (by omega) b1 bc hL bC tp4
   refine⟨L,mt,ps.length,sq,by omega,fun r5 H5 s5 mt5=>⟨_,mt5,C,(s3.trans s5) _ _ hco,?_⟩⟩
   rw[lC]
   refine⟨sqt,sw,fun k rs W H4 St hk st s4=>?_,fun rs W t p H4 St s4 ht hp4=>?_⟩
   ·exact absurd (Bar.stuck_col sqt lC St hk st) (rp.turned pnd (fun p hp x hx=>((wkp p hp).2 x hx).1) dn)
   ·obtain⟨z1,z2⟩:=ans_sz sqt lC b1 bc hL bC St
    exact hN _ _ ⟨t,p,_,_,L,s3.trans (s5.trans s4),ht,hp4,rp,sol_of sqt lC sw St,z1,z2,rfl⟩
  intro _ H3 p2_
  refine(?_:let G_:Prop:=_;G_)
  intro G_
  obtain⟨u,q,d,x,L,s3,hu,hq,rp,so,zd,zx,rfl⟩:=p2_
  dsimp only[G_]
  clear G_
  have s13:=s1.trans s3
  have d0:=so.pos
  have lx:=so.len
  have bd2:Bt (25*ps.length+6) d:=Nat.lt_of_le_of_lt (Nat.le_trans zd tpd) (Nat.pow_lt_pow_right (by decide) (by omega))
  have bX:∀v∈x,Bt (M+ (25*ps.length+6)) v:=fun v hv=>Nat.lt_of_le_of_lt (Nat.le_trans (zx v hv) tpx) (Nat.pow_lt_pow_right (by decide) (by omega))
  change tSeq _ _ _ [some (.ref bk),some (.ref pt),some (.ref wl),some (.ref co),some (.ref u),none,none,none,none,none] H3
  refine seq_gen (fun σ' H4=>∃y dy m',Same H3 H4∧H3 y=none∧H3 m'=none∧H4 y=some (.ins q_Book dy [("tops",.ref m'),("bottom",.int (S.2*d))])∧H4 m'=some (.lst ((S.1.map (·*d)).map V.int))∧σ'=[some (.ref bk),some (.ref pt),some (.ref wl),some (.ref co),some (.ref u),some (.ref y),none,none,none,none]) ?_ (fun N hN=>?_)
  case refine_2=>
   simp_all only[tMeth,hu]
   refine⟨_,_,s13 _ _ hbx,lk_sc,bk,S,_,rfl,⟨_,_,s13 _ _ hbx,s13 _ _ hbm⟩,so.bd,Z.bb.mono (by omega),btt,by omega,fun y dy m' H4 s4 ny nm hy hm=>hN _ _ ⟨y,dy,m',s4,ny,nm,hy,hm,rfl⟩⟩
  intro _ H4 p2_
  refine(?_:let G_:Prop:=_;G_)
  intro G_
  obtain⟨y,dy,m',s4,ny,nm',hy,hm',rfl⟩:=p2_
  dsimp only[G_]
  clear G_
  change tSeq _ _ _ [some (.ref bk),some (.ref pt),some (.ref wl),some (.ref co),some (.ref u),some (.ref y),none,none,none,none] H4
  refine seq_gen (fun σ' H5=>Same H3 H5∧H5 y=some (.ins q_Book dy [("tops",.ref m'),("bottom",.int (S.2*d))])∧H5 m'=some (.lst ((Dg.putV ps x (wyAt wss) (S.1.map (·*d)) ps.length).map V.int))∧∃z6 z7 z8 z9,σ'=[some (.ref bk),some (.ref pt),some (.ref wl),some (.ref co),some (.ref u),some (.ref y),z6,z7,z8,z9]) ?_ (fun N hN=>?_)
  case refine_2=>
   simp_all only[s4 _ _ hu]
   refine⟨⟨_,SqL.of (s4 _ _ (s13 _ _ hp))⟩,⟨_,SqL.of (s4 _ _ hq)⟩,for_src (src_zip (K:=K) (Ok:=Same H3) (fun H' s=>SqL.of (s _ _ (s13 _ _ hp))) (fun H' s=>SqL.of (s _ _ hq))) (fun j σ H5=>Same H3 H5∧H5 y=some (.ins q_Book dy [("tops",.ref m'),("bottom",.int (S.2*d))])∧H5 m'=some (.lst ((Dg.putV ps x (wyAt wss) (S.1.map (·*d)) j).map V.int))∧∃z6 z7 z8 z9,σ=[some (.ref bk),some (.ref pt),some (.ref wl),some (.ref co),some (.ref u),some (.ref y),z6,z7,z8,z9]) ⟨s4,hy,hm',_,_,_,_,rfl⟩ (fun _ _ _ _ h=>h.1) ?_ ?_⟩
   ·intro j v0 σ H5 H6 hj p6_ p7_
    refine(?_:let G_:Prop:=_;G_)
    intro G_
    obtain⟨s5,hy5,hm5,z6,z7,z8,z9,rfl⟩:=p6_
    obtain⟨t,x1,x2,nt,rfl,e1,e2,rfl⟩:=p7_
    dsimp only[G_]
    clear G_
    have hj:j<ps.length:=by rw[List.length_map,List.length_map] at hj;omega
    have g1:ps.getD j 0=ps[j]:=by rw[List.getD_eq_getElem?_getD,List.getElem?_eq_getElem hj];rfl
    have g2:x.getD j 0=x[j]:=by rw[List.getD_eq_getElem?_getD,List.getElem?_eq_getElem (by omega)];rfl
    rw[List.getElem?_map,List.getElem?_eq_getElem hj] at e1
    rw[List.getElem?_map,List.getElem?_eq_getElem (show j<x.length by omega)] at e2
    cases e1
    cases e2
    have mp:=List.getElem_mem hj
    have bxj:=bX _ (List.getElem_mem (show j<x.length by omega))
    have pk:Dg.putV ps x (wyAt wss) (S.1.map (·*d)) (j+1)=Dg.addW x[j] (Dg.outW ps (wyAt wss ps[j])) ((Dg.putV ps x (wyAt wss) (S.1.map (·*d)) j).set (ps[j]).toNat (x[j]*Dg.tt (wyAt wss ps[j]))):=by
     rw[←g1,←g2]
     rfl
    have lk:(Dg.putV ps x (wyAt wss) (S.1.map (·*d)) j).length=n:=by rw[Dg.putV_len,List.length_map,lS]
    rw[pk]
    generalize Dg.putV ps x (wyAt wss) (S.1.map (·*d)) j=ts at *
    generalize x[j]=xj at *
    generalize ps[j]=p at *
    have ip:=inn p mp
    obtain⟨p,rfl⟩:=Int.eq_ofNat_of_zero_le ip.1
    refine(?_:let G_:Prop:=_;G_)
    intro G_
    obtain⟨wv,us,atw,rv,hwv,ru,lu,wok⟩:=wat p mp
    dsimp only[G_]
    clear G_
    generalize wyAt wss (p:Int)=ws at *
    obtain⟨t1,t9⟩:=wok.tt
    have w5:=wok.1
    have bd:Bt 20 (Dg.tt ws):=Bt.of 1000000 (by omega) (by omega)
    refine⟨t,_,rfl,SqT.of upd_same,rfl,?_⟩
    have s6:=same_upd (o:=.tup [.int (p:Int),.int xj]) nt
    generalize upd H5 t (.tup [.int (p:Int),.int xj])=H6 at *
    have ym:y≠m':=fun z=>by rw[z,hm5] at hy5;cases hy5
    have s36:=s5.trans s6
    have s06:=s13.trans s36
    simp_all only[tFld,spTw5]
    refine⟨_,s06 _ _ hw,_,atw,wv,rfl,ws,rv.mono s06,w5,fun H7 s7=>⟨bxj.mulOk bd (by omega),?_⟩⟩
    have s37:=s36.trans s7
    have lm0:p< (ts.map V.int).length:=by rw[List.length_map];omega
    refine⟨_,_,_,(s6.trans s7) _ _ hy5,T.cl_Book,T.na_Book_tops,_,lk_to,_,rfl,_,(s6.trans s7) _ _ hm5,p,ixN_nat lm0,?_⟩
    rw[←List.map_set,Int.toNat_natCast]
    have lm:(ts.set p (xj*Dg.tt ws)).length=n:=by rw[List.length_set];exact lk
    generalize ts.set p (xj*Dg.tt ws)=tq at *
    have s8:Same H3 (upd H7 m' (.lst (tq.map V.int))):=same_upd_of s37 nm'
    have hm8:upd H7 m' (.lst (tq.map V.int)) m'=some (.lst (tq.map V.int)):=upd_same
    have hy8:upd H7 m' (.lst (tq.map V.int)) y=some (.ins q_Book dy [("tops",.ref m'),("bottom",.int (S.2*d))]):=by rw[upd_ne ym];exact(s6.trans s7) _ _ hy5
    generalize upd H7 m' (.lst (tq.map V.int))=H8 at *
    have hwv3:=s13 _ _ hwv
    refine⟨_,(s13.trans s8) _ _ hw,_,atw,wv,rfl,⟨_,SqL.of (s8 _ _ hwv3)⟩,for_src (src_list (K:=K) (a:=wv) (xs:=us) (Ok:=Same H3) (fun H2 s2'=>SqL.of (s2' _ _ hwv3))) (fun j σ H9=>Same H3 H9∧H9 y=some (.ins q_Book dy [("tops",.ref m'),("bottom",.int (S.2*d))])∧H9 m'=some (.lst ((Dg.addW xj (Dg.outW ps (ws.take j)) tq).map V.int))∧∃z8 z9,σ=[some (.ref bk),some (.ref pt),some (.ref wl),some (.ref co),some (.ref u),some (.ref y),some (.int (p:Int)),some (.int xj),z8,z9]) ⟨s8,hy8,hm8,_,_,rfl⟩ (fun _ _ _ _ h=>h.1) ?_ ?_⟩
    ·intro j y0 σ HA HB hj p6_ p7_
     refine(?_:let G_:Prop:=_;G_)
     intro G_
     obtain⟨sA,hyA,hmA,z8,z9,rfl⟩:=p6_
     obtain⟨rfl,ey⟩:=p7_
     have hj2:j<ws.length:=by omega
     have ej:ws[j]?=some ws[j]:=List.getElem?_eq_getElem hj2
     obtain⟨t,et,ht⟩:=repW_at (ru.mono (s13.trans sA)) ej
     dsimp only[G_]
     clear G_
     rw[ey] at et
     cases et
     refine⟨t,_,rfl,SqT.of ht,rfl,?_⟩
     have mj:ws[j]∈ws:=List.getElem_mem hj2
     refine(?_:let G_:Prop:=_;G_)
     intro G_
     obtain⟨x1,x2,x3,x4⟩:=wok.2 _ mj
     dsimp only[G_]
     clear G_
     have la:(Dg.addW xj (Dg.outW ps (ws.take j)) tq).length=n:=by rw[Dg.addW_len];exact lm
     have tk:ws.take (j+1)=ws.take j++ [ws[j]]:=by rw[List.take_add_one,ej];rfl
     have ot:Dg.outW ps (ws.take (j+1))=Dg.outW ps (ws.take j)++ (if (ws[j]).2∈ps then [] else [ws[j]]):=by
      rw[tk]
      unfold Dg.outW
      rw[List.filter_append]
      congr 1
      by_cases c:(ws[j]).2∈ps
      ·rw[if_pos c,List.filter_cons_of_neg (by simpa using c)];rfl
      ·rw[if_neg c,List.filter_cons_of_pos (by simpa using c)];rfl
     rw[ot]
     generalize hA0:Dg.addW xj (Dg.outW ps (ws.take j)) tq=A0 at *
     generalize ws[j]=wj at *
     have ata:atI (A0.map V.int) wj.2=some (.int (A0.getD wj.2.toNat 0)):=atI_ints x3 (by omega)
     simp_all only[tFld,tAugS,ipI,rIn]
     have ym:y≠m':=fun z=>by rw[z,hmA] at hyA;cases hyA
     have ix:ixN (A0.map V.int).length wj.2=some wj.2.toNat:=by
      have:=ixN_nat (n:=(A0.map V.int).length) (i:=wj.2.toNat) (by rw[List.length_map];omega)
      rwa [Int.toNat_of_nonneg x3] at this
     refine⟨_,.inl (SqL.of ((s13.trans sA) _ _ hp)),rfl,flat_int _,?_⟩
     by_cases c:wj.2∈ps
     ·have iv:inV (V.int wj.2) (ps.map V.int)=true:=by rw[in_int];exact decide_eq_true c
      rw[iv]
      rw[if_neg (by decide),if_pos c,List.append_nil,hA0]
      exact⟨sA,hyA,hmA,_,rfl⟩
     ·have iv:inV (V.int wj.2) (ps.map V.int)=false:=by rw[in_int];exact decide_eq_false c
      rw[iv,if_pos (by decide),if_neg c,Dg.addW_snoc,hA0]
      refine⟨_,_,_,hyA,T.cl_Book,T.na_Book_tops,_,lk_to,_,rfl,_,hmA,_,ata,bxj.mulOk (Bt.of (n:=18) 200000 (by omega) (by omega)) (by omega),_,rfl,_,rfl,_,hmA,_,ix,same_upd_of sA nm',by rw[upd_ne ym];exact hyA,?_,_,rfl⟩
      rw[upd_same,List.map_set]
    ·intro σ HA p2_
     refine(?_:let G_:Prop:=_;G_)
     intro G_
     obtain⟨sA,hyA,hmA,z8,z9,rfl⟩:=p2_
     dsimp only[G_]
     rw[List.take_of_length_le (by omega)] at hmA
     exact⟨sA,hyA,hmA,_,_,_,_,rfl⟩
   ·intro σ H5 p2_
    refine(?_:let G_:Prop:=_;G_)
    intro G_
    obtain⟨s5,hy5,hm5,z6,z7,z8,z9,rfl⟩:=p2_
    dsimp only[G_]
    have lm:min (List.map V.int ps).length (List.map V.int x).length=ps.length:=by rw[List.length_map,List.length_map];omega
    rw[lm] at hm5
    exact hN _ _ ⟨s5,hy5,hm5,_,_,_,_,rfl⟩
  intro _ H5 p2_
  refine(?_:let G_:Prop:=_;G_)
  intro G_
  obtain⟨s5,hy5,hm5,z6,z7,z8,z9,rfl⟩:=p2_
  dsimp only[G_]
  simp_all only[]
  have lt:(S.1.map (·*d)).length=n:=by rw[List.length_map,lS]
  have lT:(Dg.putV ps x (wyAt wss) (S.1.map (·*d)) ps.length).length=n:=by rw[Dg.putV_len,lt]
  have sq:Bar.Sq L ps.length:=⟨rp.1,rp.2.1⟩
  have ins:∀j,j<ps.length→(Dg.putV ps x (wyAt wss) (S.1.map (·*d)) ps.length).getD (ps.getD j 0).toNat 0=x.getD j 0*Dg.tt (wyAt wss (ps.getD j 0)):=fun j hj=>Dg.putV_in pnd inn lt wkp _ (Nat.le_refl _) hj
  have all:∀q:Int,0≤q→(Dg.putV ps x (wyAt wss) (S.1.map (·*d)) ps.length).getD q.toNat 0=S.1.getD q.toNat 0*d+Bar.sm ps.length (fun i=>x.getD i 0*Dg.isel q (wyAt wss (ps.getD i 0))):=fun q q0=>by
   by_cases c:q∈ps
   ·refine(?_:let G_:Prop:=_;G_)
    intro G_
    obtain⟨i,hi,rfl⟩:=List.getElem_of_mem c
    dsimp only[G_]
    have g1:ps.getD i 0=ps[i]:=by rw[List.getD_eq_getElem?_getD,List.getElem?_eq_getElem hi];rfl
    have e1:=ins i hi
    have e2:=rp.tsol so.eq hi
    rw[hC,List.getD_eq_getElem?_getD (l:=ps.map _),List.getElem?_map,List.getElem?_eq_getElem hi] at e2
    rw[g1] at e1 e2
    rw[e1,e2]
    rfl
   ·rw[Dg.putV_out inn lt wkp q0 c _ (Nat.le_refl _),Dg.getD_map_mul]
  refine kk y (Dg.putV ps x (wyAt wss) (S.1.map (·*d)) ps.length,S.2*d) H5 (s13.trans s5) ⟨dy,m',hy5,hm5⟩ (.inr ⟨d,x,d0,rfl,lT.trans lS.symm,ins,all⟩) ⟨lT,Int.mul_pos B0 d0,(Z.bb.mul bd2).mono (by omega),fun k=>?_⟩
  show Bt _ ((Dg.putV ps x (wyAt wss) (S.1.map (·*d)) ps.length).getD k 0)
  have e:=all (k:Int) (by omega)
  rw[Int.toNat_natCast] at e
  rw[e]
  exact Dg.vis_sz p0 p16 wkp (fun j hj=>zx _ (by rw[List.getD_eq_getElem?_getD,List.getElem?_eq_getElem (by omega)];exact List.getElem_mem _)) tpx bd2 (Z.bt k)
theorem sc_visits:FnScope ["board","picks","start","found","ways","book","part"] ["board","picks","start"] (defScope (top 36)):=⟨rfl,rfl,rfl,by decide +kernel,rfl,by decide +kernel,by decide +kernel⟩
theorem ok_vi (T:Txt K mg q_Book tc) (LB:LamB base mg tc tp):Cal P w K mg base (CX1 P w) 7 "visits" ["board","picks","start"] (spVi2 tp):=by
 have c_checked_parts:Cal P w K mg base (CX1 P w) 6 "checked_parts" ["board"] (spChk2 tp):=ok_chk T LB
 have c_all_weighted_ways:Cal P w K mg base (CX1 P w) 2 "all_weighted_ways" ["board","picks"] spAw:=ok_aw T
 have c_with_visits:Cal P w K mg base (CX1 P w) 4 "with_visits" ["book","part","ways"] (spWv2 q_Book):=ok_wv T
 have m_Book:MkCal P w K mg base (CX1 P w) 1 "Book" q_Book ["self","tops","bottom"] (spIn q_Book):=ok_bk T
 have m_Book_as_shares:MtCal P w K mg base (CX1 P w) 3 q_Book "as_shares" ["self"] (spAs q_Book):=ok_as T
 refine T.d_visits.cal (fun _ _ _ _ _ _=>us_3 fun _ _ _=>rfl) fun f fd F=>F.okC sc_visits (fun vs H Q E h=>?_) (fun cdv A outer s H vs Q E hr h=>?_)
 ·obtain⟨_,_,_,_,_,_,rfl,_⟩:=h;rfl
 ·refine(?_:let G_:Prop:=_;G_)
  intro G_
  obtain⟨a,c,st,b,rk,ks,rfl,rb,B,hc,ko,htp,hst,kk⟩:=h
  dsimp only[G_]
  clear G_
  have nd:=sc_visits.nd
  refine⟨_,(pss_cons (ps_set (i:=3) nd rfl (Or.inl rfl) (pe_cal c_checked_parts (hr.mono (by decide)) rfl strictP.pass (pa_cons (pv 0) pa_nil (se rfl)) (he:=se rfl) (hpl:=na rfl)))
  (pss_cons (ps_set (i:=4) nd rfl (Or.inl rfl) (pe_cal c_all_weighted_ways (hr.mono (by decide)) rfl strictP.pass (pa_cons (pv 0) (pa_cons (pv 1) pa_nil (se rfl)) (se rfl)) (he:=se rfl) (hpl:=na rfl)))
  (pss_cons (ps_set (i:=5) nd rfl (Or.inl rfl) (pe_mk m_Book (hr.mono (by decide)) rfl strictP.pass (pa_cons (pe_op op_rep (pe_lst (pa_cons pe_int pa_nil (se rfl))) (pe_callB call_lenL (by rfl) T.z_len PySem.boot_len (pa_cons (pv 0) pa_nil (se rfl)) (he:=se rfl) (hpl:=na rfl))) (pa_cons pe_int pa_nil (se rfl)) (se rfl)) (he:=se rfl) (hpl:=na rfl)))
  (pss_cons (ps_asg pe_int (pg_sub (pe_fld (pv 5) rfl) (pv 2) set_list))
  (pss_cons (ps_for PassesOwn.never rfl (pi_reversedK (K:=K) rfl T.z_reversed (pa_cons (pv 3) pa_nil (se rfl))) (pg_name (i:=6) nd rfl (Or.inl rfl)) (pss_one (ps_set (i:=5) nd rfl (Or.inl rfl) (pe_cal c_with_visits (hr.mono (by decide)) rfl strictP.pass (pa_cons (pv 5) (pa_cons (pv 6) (pa_cons (pv 4) pa_nil (se rfl)) (se rfl)) (se rfl)) (he:=se rfl) (hpl:=na rfl)))))
  (pss_one (ps_ret (pe_mt0 m_Book_as_shares T.cl_Book (pv 5) (hr.mono (by decide)) strictP.pass)))))))),?_⟩
  refine(?_:let q0_:TS:=_;let q1_:TS:=_;let q2_:TS:=_;let q3_:TS:=_;let q4_:TS:=_;let q5_:TS:=_;tSeq q0_ (tSeq q1_ (tSeq q2_ (tSeq q3_ (tSeq q4_ q5_)))) _ _ _)
  intro q0_ q1_ q2_ q3_ q4_ q5_
  have bl:=B.len
  have sl:=sizeLine_eq
  refine(?_:let G_:Prop:=_;G_)
  intro G_
  obtain⟨_,xb,e,ha,rlb⟩:=rep_lst.mp rb
  dsimp only[G_]
  clear G_
  cases e
  have lx:=rlb.length
  rw[List.length_map] at lx
  change tSeq _ _ _ [some (.ref a),some (.ref c),some (.int (st:Int)),none,none,none,none] H
  refine seq_gen (fun σ' H1=>∃l ps as,Pr.Told b ps∧Same H H1∧H1 l=some (.lst (List.map V.ref as))∧Al (fun p v=>∃x,v=.ref x∧H1 x=some (.lst ((Pr.prt b p).map V.int))) ps (as.map V.ref)∧σ'=[some (.ref a),some (.ref c),some (.int (st:Int)),some (.ref l),none,none,none]) ?_ (fun N hN=>?_)
  case refine_2=>
   simp_all only[spChk2]
   exact⟨b,rb,rk,B,htp,fun l ps as H1 td s1 nl hl al=>hN _ _ ⟨l,ps,as,td,s1,hl,al,rfl⟩⟩
  intro _ H1 p2_
  refine(?_:let G_:Prop:=_;G_)
  intro G_
  obtain⟨l,ps,as,td,s1,hl,al,rfl⟩:=p2_
  dsimp only[G_]
  clear G_
  change tSeq _ _ _ [some (.ref a),some (.ref c),some (.int (st:Int)),some (.ref l),none,none,none] H1
  refine seq_gen (fun σ' H2=>∃wl xs,Same H1 H2∧H2 wl=some (.lst xs)∧RepL H2 ((wysP b ks).map wyD) xs∧σ'=[some (.ref a),some (.ref c),some (.int (st:Int)),some (.ref l),some (.ref wl),none,none]) ?_ (fun N hN=>?_)
  case refine_2=>
   simp_all only[spAw]
   exact⟨b,rb.mono s1,by omega,ks,s1 _ _ hc,ko,fun wl xs H2 s2 nw hw rw'=>hN _ _ ⟨wl,xs,s2,hw,rw'.mono hid_sub,rfl⟩⟩
  intro _ H2 p2_
  refine(?_:let G_:Prop:=_;G_)
  intro G_
  obtain⟨wl,xs,s2,hw,rl,rfl⟩:=p2_
  dsimp only[G_]
  clear G_
  have s12:=s1.trans s2
  change tSeq _ _ _ [some (.ref a),some (.ref c),some (.int (st:Int)),some (.ref l),some (.ref wl),none,none] H2
  refine seq_gen (fun σ' H3=>∃y dy m,Same H2 H3∧H2 m=none∧H3 y=some (.ins q_Book dy [("tops",.ref m),("bottom",.int 1)])∧H3 m=some (.lst ((List.replicate b.length 0).map V.int))∧σ'=[some (.ref a),some (.ref c),some (.int (st:Int)),some (.ref l),some (.ref wl),some (.ref y),none]) ?_ (fun N hN=>?_)
  case refine_2=>
   simp_all only[tMake,rRep]
   refine⟨by decide,fun z nz=>?_⟩
   have s3:=same_upd (o:=.lst [V.int 0]) nz
   have hz:upd H2 z (.lst [V.int 0]) z=some (.lst [V.int 0]):=upd_same
   generalize upd H2 z (.lst [V.int 0])=H3 at *
   refine⟨_,(s12.trans s3) _ _ ha,_,hz,by omega,by omega,by rw[Int.toNat_natCast];show 1*xb.length≤_;omega,fun D nD=>?_⟩
   rw[Int.toNat_natCast,List.flatten_replicate_singleton,←lx] at *
   have s4:=s3.trans (same_upd (o:=.lst (List.replicate b.length (V.int 0))) nD)
   have hD:upd H3 D (.lst (List.replicate b.length (V.int 0))) D=some (.lst ((List.replicate b.length 0).map V.int)):=by rw[upd_same,List.map_replicate]
   generalize upd H3 D (.lst (List.replicate b.length (V.int 0)))=H4 at *
   intro y dy ny ndy ne
   have s5:=s4.trans (same_upd (o:=.own y) ndy)
   have hD2:=same_upd (o:=.own y) ndy _ _ hD
   have xD:D≠y:=fun z=>by rw[z,ny] at hD;cases hD
   refine⟨y,dy,D,_,_,rfl,upd_same,by rw[upd_ne xD];exact hD2,fun m' H' nm hm' hx' ky=>⟨rfl,hN _ _ ⟨y,dy,m',fun z o hz=>?_,?_,hx',hm',rfl⟩⟩⟩
   ·have yx:z≠y:=fun e=>by have:=s4 _ _ hz;rw[e,ny] at this;cases this
    exact ky z o yx (by rw[upd_ne yx];exact s5 _ _ hz)
   ·have my:m'≠y:=fun e=>by rw[e,upd_same] at nm;cases nm
    rw[upd_ne my] at nm
    exact none_of s5 nm
  intro _ H3 p2_
  refine(?_:let G_:Prop:=_;G_)
  intro G_
  obtain⟨y,dy,m,s3,nm,hy,hm,rfl⟩:=p2_
  dsimp only[G_]
  have ym:y≠m:=fun z=>by rw[z,hm] at hy;cases hy
  change tSeq _ _ _ [some (.ref a),some (.ref c),some (.int (st:Int)),some (.ref l),some (.ref wl),some (.ref y),none] H3
  refine seq_gen (fun σ' H4=>Same H2 H4∧BkH q_Book H4 y ((List.replicate b.length (0:Int)).set st 1,1)∧σ'=[some (.ref a),some (.ref c),some (.int (st:Int)),some (.ref l),some (.ref wl),some (.ref y),none]) ?_ (fun N hN=>?_)
  case refine_2=>
   simp_all only[tFld]
   refine⟨_,_,_,hy,T.cl_Book,T.na_Book_tops,_,lk_to,_,rfl,_,hm,st,ixN_nat (by rw[List.length_map,List.length_replicate];exact hst),hN _ _ ⟨same_upd_of s3 nm,⟨dy,m,by rw[upd_ne ym];exact hy,?_⟩,rfl⟩⟩
   rw[upd_same,List.map_set]
  intro _ H4 p2_
  refine(?_:let G_:Prop:=_;G_)
  intro G_
  obtain⟨s4,hb,rfl⟩:=p2_
  dsimp only[G_]
  have la:=al.length
  rw[List.length_map] at la
  have lws:(wysP b ks).length=b.length:=by unfold wysP;rw[List.length_zipWith,ko.len];omega
  have olen:∀{os:List Int},os.Nodup→(∀q∈os,Pr.In b q)→os.length≤b.length:=fun {os} h1 h2=>by
   have:=Pr.sub_len (m:=rgI b.length) h1 fun q hq=>rgI_mem.mpr (h2 q hq)
   unfold rgI at this
   rwa [List.length_map,List.length_range] at this
  change tSeq _ _ _ [some (.ref a),some (.ref c),some (.int (st:Int)),some (.ref l),some (.ref wl),some (.ref y),none] H4
  refine seq_gen (fun σ' H5=>Same H2 H5∧∃bk S z os,BkH q_Book H5 bk S∧os.Nodup∧(∀q,q∈os↔Pr.In b q)∧VInv b ks st os S∧σ'=[some (.ref a),some (.ref c),some (.int (st:Int)),some (.ref l),some (.ref wl),some (.ref bk),z]) ?_ (fun N hN=>?_)
  case refine_2=>
   simp_all only[iRevd]
   have s24:=s2.trans s4
   refine⟨_,SqL.of (s24 _ _ hl),for_src (src_rev (K:=K) (a:=l) (xs:=as.map V.ref) (Ok:=Same H2) (fun H' s=>SqL.of ((s2.trans s) _ _ hl))) (fun i σ H5=>Same H2 H5∧∃bk S z os,BkH q_Book H5 bk S∧os.Nodup∧(∀q,q∈os↔Pr.In b q∧ps.length≤ixP b ps q+i)∧VInv b ks st os S∧σ=[some (.ref a),some (.ref c),some (.int (st:Int)),some (.ref l),some (.ref wl),some (.ref bk),z]) ⟨s4,y,_,_,[],hb,List.nodup_nil,fun q=>⟨fun h=>by simp at h,fun h=>by have:=ix_lt B td h.1;have:=h.2;omega⟩,VInv.start hst,rfl⟩ (fun _ _ _ _ h=>h.1) ?_ ?_⟩
   ·intro i v σ H5 H6 hi p6_ p7_
    refine(?_:let G_:Prop:=_;G_)
    intro G_
    obtain⟨s5,bk,S,z,os,hbk,ndo,mo,I,rfl⟩:=p6_
    obtain⟨rfl,ex⟩:=p7_
    rw[List.length_map] at hi
    obtain⟨p,ep,x,rfl,hx⟩:=al.reverse.get ex
    dsimp only[G_]
    have hi2:i<ps.length:=by omega
    rw[List.getElem?_reverse hi2] at ep
    have ip:=td.inB (List.mem_of_getElem? ep)
    have inp:∀q∈Pr.prt b p,Pr.In b q:=fun q hq=>Pr.prt_in B.lad.good ip hq
    have lp:0< (Pr.prt b p).length:=List.length_pos_iff.mpr (Pr.prt_ne B.lad.good ip)
    have ndp:(Pr.prt b p).Nodup:=(Pr.prt_lt B.lad.good ip).imp fun h z=>by omega
    have nd2:(os++Pr.prt b p).Nodup:=List.nodup_append.mpr ⟨ndo,ndp,fun q hq r hr z=>by
     have:=((mo q).mp hq).2
     rw[z,ix_mem B td ep hr] at this
     omega⟩
    have o1:=olen nd2 fun q hq=>by
     rcases List.mem_append.mp hq with h | h
     ·exact((mo q).mp h).1
     ·exact inp q h
    rw[List.length_append] at o1
    simp_all only[spWv2]
    refine⟨S,hbk,Pr.prt b p,(s2.trans s5) _ _ hx,b.length,330+92*os.length,xs,s5 _ _ hw,wysP b ks,rl.mono s5,lws,bl,ndp,lp,by omega,inp,fun ws hws=>?_,rk,fun q hq=>B.dn ko (inp q hq),I.sz,by omega,by omega,fun x2 T2 H7 s7 h7 sv sz=>⟨s5.trans s7,x2,T2,h7,_,os++Pr.prt b p,nd2,fun q=>?_,I.step B td ko ep (fun q hq=>⟨((mo q).mp hq).1,by have:=((mo q).mp hq).2;omega⟩) sv sz,rfl,rfl⟩⟩
    ·refine(?_:let G_:Prop:=_;G_)
     intro G_
     obtain⟨j,hj,rfl⟩:=List.getElem_of_mem hws
     dsimp only[G_]
     have:=(B.wk ko (p:=(j:Int)) ⟨by omega,by omega⟩).1
     unfold wyAt at this
     rw[Int.toNat_natCast,List.getD_eq_getElem?_getD,List.getElem?_eq_getElem hj] at this
     exact this
    ·rw[List.mem_append]
     constructor
     ·rintro(h | h)
      ·exact⟨((mo q).mp h).1,by have:=((mo q).mp h).2;omega⟩
      ·exact⟨inp q h,by rw[ix_mem B td ep h];omega⟩
     ·rintro⟨h1,h2⟩
      by_cases c:ps.length≤ixP b ps q+i
      ·exact .inl ((mo q).mpr ⟨h1,c⟩)
      ·exact .inr (ix_in B td ep h1 (by omega))
   ·intro σ H5 p2_
    refine(?_:let G_:Prop:=_;G_)
    intro G_
    obtain⟨s5,bk,S,z,os,hbk,ndo,mo,I,rfl⟩:=p2_
    dsimp only[G_]
    rw[List.length_map,la] at mo
    exact hN _ _ ⟨s5,bk,S,z,os,hbk,ndo,fun q=>⟨fun h=>((mo q).mp h).1,fun h=>(mo q).mpr ⟨h,by omega⟩⟩,I,rfl⟩
  intro _ H5 p2_
  refine(?_:let G_:Prop:=_;G_)
  intro G_
  obtain⟨s5,bk,S,z,os,hbk,ndo,mo,I,rfl⟩:=p2_
  dsimp only[G_]
  simp_all only[tMeth]
  refine(?_:let G_:Prop:=_;G_)
  intro G_
  obtain⟨dx,m',hx,hm'⟩:=id hbk
  dsimp only[G_]
  have V0:=I.sz.pos
  have o1:=olen ndo fun q hq=>(mo q).mp hq
  have sz:=I.sz.up (M':=330+92*b.length) (by omega)
  have pm:os.Perm (rgI b.length):=(List.perm_ext_iff_of_nodup ndo (rgI_nd _)).mpr fun q=>(mo q).trans rgI_mem.symm
  refine⟨_,_,hx,lk_as,bk,S,rfl,hbk,V0,sz.bb.mono (by omega),by rw[sz.len];omega,fun l6 H6 s6 n6 r6=>kk l6 S H6 (s12.trans (s5.trans s6)) (none_of (s12.trans s5) n6) r6 sz fun q hq=>?_⟩
  rw[I.eq q hq,Dg.gsum_perm pm]
theorem sc__law_cell:FnScope ["_law_script","_law_k","_law_number"] ["_law_script","_law_k"] (defScope (top 38)):=⟨rfl,rfl,rfl,by decide +kernel,rfl,by decide +kernel,by decide +kernel⟩
theorem ok_cell (T:Txt K mg q_Book tc):Cal P w K mg base (CX1 P w) 1 "_law_cell" ["_law_script","_law_k"] (spC K):=by
 refine T.d__law_cell.cal (fun _ _ _ _ _ _=>us_2 fun _ _=>rfl) fun f fd F=>F.okC sc__law_cell (fun vs H Q E h=>?_) (fun cdv A outer s H vs Q E hr h=>?_)
 ·obtain⟨_,_,_,rfl,_⟩:=h;rfl
 ·refine(?_:let G_:Prop:=_;G_)
  intro G_
  obtain⟨a,ns,k,rfl,hS,k0,k1,kk⟩:=h
  dsimp only[G_]
  have nd:=sc__law_cell.nd
  refine⟨_,(pss_cons (ps_if (pt_cmpR op_lt (pv 1) (pe_callB (call_lenQK (K:=K)) (by rfl) T.z_len PySem.boot_len (pa_cons (pv 0) pa_nil (se rfl)) (he:=se rfl) (hpl:=na rfl)) (nomark _)) (pss_one (ps_ret (pe_ix (ix_listSK (K:=K)) (pv 0) (pv 1) (fun _ _=>rfl))))
   pss_nil)
  (pss_cons (ps_set (i:=2) nd rfl (Or.inl rfl) (pe_op op_add (pe_op op_mulB (pv 1) pe_int) pe_int))
  (pss_cons (ps_if (pt_cmpR op_gt (pe_callB (call_lenQK (K:=K)) (by rfl) T.z_len PySem.boot_len (pa_cons (pv 0) pa_nil (se rfl)) (he:=se rfl) (hpl:=na rfl)) pe_int (nomark _)) (pss_one (ps_set (i:=2) nd rfl (Or.inl rfl) (pe_op op_add (pe_op op_mulB (pe_op op_modB (pe_ix (ix_listSK (K:=K)) (pv 0) (pe_op op_modB (pe_op op_mulB (pv 1) pe_int) (pe_callB (call_lenQK (K:=K)) (by rfl) T.z_len PySem.boot_len (pa_cons (pv 0) pa_nil (se rfl)) (he:=se rfl) (hpl:=na rfl))) (fun _ _=>rfl)) pe_int) pe_int) (pe_op op_mulB (pe_op op_mulB (pv 1) (pv 1)) pe_int))))
   pss_nil)
  (pss_one (ps_ret (pe_op op_modB (pe_op op_mulB (pv 2) (pv 2)) pe_int)))))),?_⟩
  refine(?_:let q0_:TS:=_;let q1_:TS:=_;let q2_:TS:=_;let q3_:TS:=_;tSeq q0_ (tSeq q1_ (tSeq q2_ q3_)) _ _ _)
  intro q0_ q1_ q2_ q3_
  simp_all only[rIxQ]
  have j2:k*k≤1000000:=Int.le_trans (Int.mul_le_mul (show k≤1000 by omega) (show k≤1000 by omega) k0 (by decide)) (by decide)
  have j3:0≤k*k:=Int.mul_nonneg k0 k0
  refine⟨ns,hS,ite2 (fun c=>⟨ns,hS,k0,c,kk _⟩) (fun c=>⟨mulOkL (by omega) (by omega),ns,hS,ite2 (fun z=>?_) (fun z=>?_)⟩)⟩
  ·have m1:=Int.emod_nonneg (ns.getD (k*5 % (ns.length:Int)).toNat 0) (show(2147483647:Int)≠0 by decide)
   have m2:=Int.emod_lt_of_pos (ns.getD (k*5 % (ns.length:Int)).toNat 0) (show(0:Int)<2147483647 by decide)
   exact⟨mulOkL (by omega) (by omega),ns,hS,z,ns,hS,Int.emod_nonneg _ (by omega),Int.emod_lt_of_pos _ z,by decide,mulOkR,mulOkL (by omega) (by omega),mulOkL (by omega) (by omega),mulOkL (by omega) (by omega),by decide,kk _⟩
  ·exact⟨mulOkL (by omega) (by omega),by decide,kk _⟩
theorem sc__law_mixed:FnScope ["_law_cell_here","_law_many"] ["_law_cell_here","_law_many"] (defScope (top 39)):=⟨rfl,rfl,rfl,by decide +kernel,rfl,by decide +kernel,by decide +kernel⟩
theorem ok_mix (T:Txt K mg q_Book tc):Cal P w K mg base (CX1 P w) 1 "_law_mixed" ["_law_cell_here","_law_many"] spMix:=by
 refine T.d__law_mixed.cal (fun _ _ _ _ _ _=>us_2 fun _ _=>rfl) fun f fd F=>F.okC sc__law_mixed (fun vs H Q E h=>?_) (fun cdv A outer s H vs Q E hr h=>?_)
 ·obtain⟨_,_,rfl,_⟩:=h;rfl
 ·refine(?_:let G_:Prop:=_;G_)
  intro G_
  obtain⟨c,m,rfl,m0,kk⟩:=h
  dsimp only[G_]
  have nd:=sc__law_mixed.nd
  refine⟨_,(pss_one (ps_ret (pe_op op_modB (pe_op op_fdivB (pe_op op_modB (pe_op op_mulB (pe_op op_modB (pv 0) (pe_op op_pow pe_int pe_int)) pe_int) (pe_op op_pow pe_int pe_int)) (pe_op op_pow pe_int pe_int)) (pv 1)))),?_⟩
  simp_all only[]
  have h1:=Int.emod_nonneg c (show((2:Int)^64)≠0 by decide)
  have h2:=Int.emod_lt_of_pos c (show(0:Int)<2^64 by decide)
  exact⟨by decide,by decide,by decide,by decide,mulOkL (by omega) (by omega),by decide,by decide,by decide,by decide,by decide,by decide,by decide,CDivB.lit,m0,kk _ (Int.emod_nonneg _ (by omega)) (Int.emod_lt_of_pos _ m0)⟩
theorem sc__law_low:FnScope ["_law_top","_law_bottom","_law_one","_law_other"] ["_law_top","_law_bottom"] (defScope (top 40)):=⟨rfl,rfl,rfl,by decide +kernel,rfl,by decide +kernel,by decide +kernel⟩
theorem ok_low (T:Txt K mg q_Book tc):Cal P w K mg base (CX1 P w) 1 "_law_low" ["_law_top","_law_bottom"] spLow:=by
 refine T.d__law_low.cal (fun _ _ _ _ _ _=>us_2 fun _ _=>rfl) fun f fd F=>F.okC sc__law_low (fun vs H Q E h=>?_) (fun cdv A outer s H vs Q E hr h=>?_)
 ·obtain⟨_,_,rfl,_⟩:=h;rfl
 ·refine(?_:let G_:Prop:=_;G_)
  intro G_
  obtain⟨a,b,rfl,b0,bb,k⟩:=h
  dsimp only[G_]
  have nd:=sc__law_low.nd
  refine⟨_,(pss_cons (ps_set (i:=2) nd rfl (Or.inl rfl) (pe_callB call_abs (by rfl) T.z_abs rfl (pa_cons (pv 0) pa_nil (se rfl)) (he:=se rfl) (hpl:=na rfl)))
  (pss_cons (ps_set (i:=3) nd rfl (Or.inl rfl) (pv 1))
  (pss_cons (ps_while PassesOwn.never (pt_cmpR op_gt (pv 3) pe_int (nomark _)) (pss_one (ps_par (i:=2) (j:=3) rfl nd rfl rfl (by decide) rfl rfl (pa_cons (pv 3) (pa_cons (pe_op op_modB (pv 2) (pv 3)) pa_nil (se rfl)) (se rfl)) rfl)))
  (pss_one (ps_ret (pe_tupS (pa_cons (pe_op op_fdivB (pv 0) (pv 2)) (pa_cons (pe_op op_fdivB (pv 1) (pv 2)) pa_nil (se rfl)) (se rfl)))))))),?_⟩
  refine(?_:let q0_:TS:=_;let q1_:TS:=_;let q2_:TS:=_;let q3_:TS:=_;tSeq q0_ (tSeq q1_ (tSeq q2_ q3_)) _ _ _)
  intro q0_ q1_ q2_ q3_
  simp_all only[]
  refine while_by (fun σ H1=>H1=H∧∃x y:Int,σ=[some (.int a),some (.int b),some (.int x),some (.int y)]∧0≤x∧0≤y∧Nm.g x y=Nm.g a b) (fun σ _=>match σ with | [_,_,_,some (.int y)]=>y.toNat | _=>0) ?_ ?_ ?_
  ·refine⟨rfl,_,_,rfl,?_,by omega,?_⟩
   ·split <;>omega
   ·rw[show(if a<0 then -a else a)=(a.natAbs:Int) by split <;>omega,Nm.g_abs]
  ·intro σ H1 p2_
   refine(?_:let G_:Prop:=_;G_)
   intro G_
   obtain⟨rfl,x,y,rfl,x0,y0,e⟩:=p2_
   dsimp only[G_]
   simp_all only[]
   refine ite2 (fun c=>?_) (fun c=>?_)
   ·refine⟨c,y0,Int.emod_nonneg _ (by omega),by rw[Nm.g_step x0 c,e],?_⟩
    have:=Int.emod_lt_of_pos x c
    have:=Int.emod_nonneg x (show y≠0 by omega)
    omega
   ·have z:y=0:=by omega
    subst z
    rw[Nm.g_zero x0] at e
    rw[e]
    have g0:0<Nm.g a b:=Nm.g_pos (by omega)
    have gb:Bt 8900 (Nm.g a b):=bb.le (by have:=Nm.g_le (a:=a) b0;omega)
    obtain⟨e1,e2⟩:=Nm.st_pos (a:=a) b0
    rw[e1,e2] at k
    exact⟨CDivB.of g0 gb,CDivB.of g0 gb,by decide,fun p H2 s1 n1 e=>k p H2 s1 n1 e⟩
  ·intro σ H1 Q1 Q2 hq hc
   simp only[L2.start,Pr,tRev,tD1,tDPop1,tSl,tNoPart,tPart,rSlL,tDIn,tDNotIn,gSub,rSetL,tLst,tDNewK,tComp,L2.stC,tFor_eq,iList,iTup,iRng1,iRng2,iZip,iEnum,iDict,iStr,tChain,tSumV,tBM,rJoin,tJoined,jNil,jLit,jInt,jStr,tRaise,tDGet,tDGet2,tDGet1,sDPut,Option.join_some,List.getElem?_nil,tSeq,tRet,tRetN,tIfS,tTest,tB,tOp,tUn,tVar,tC,tCB,tCons,tNil,tCall,tTupS,tAsg,gName,gNil,gCons,tPar,tNext,tDrop,tAnd,tOr,tNot,tAndV,tOrV,tNotV,tIf,rI,rI0,rU,rIxTH,rIxLH,rEqT,rNeT,rInT,rEq,rNe,scal_ss,scal_ii,scal_bb,scal_si,scal_is,CPow,at0,at1,at2,List.map_cons,List.map_nil,List.length_cons,List.length_nil,Nat.reduceSub,Nat.reduceAdd,Nat.zero_add,List.replicate_zero,List.reduceReplicate,List.append_nil,List.nil_append,List.cons_append,List.getElem?_cons_zero,List.getElem?_cons_succ,List.set_cons_zero,List.set_cons_succ,Option.some.injEq,exists_eq_left',exists_eq_left,V.ref.injEq,V.int.injEq,V.bl.injEq,V.str.injEq,V.ty.injEq,HO.tup.injEq,HO.lst.injEq,List.cons.injEq,and_true,true_and,and_assoc,exists_and_left,decide_eq_true_eq,Bool.not_eq_true',decide_eq_false_iff_not,ite_true,ite_false,if_true,if_false,Int.reduceToNat,eq_self_iff_true] at hc ⊢
   refine(?_:let G_:Prop:=_;G_)
   intro G_
   obtain⟨v,e1,i,e2,q⟩:=hc
   dsimp only[G_]
   exact⟨v,e1,i,e2,hq _ _ q⟩
theorem sc__law_plus:FnScope ["_law_one","_law_other"] ["_law_one","_law_other"] (defScope (top 41)):=⟨rfl,rfl,rfl,by decide +kernel,rfl,by decide +kernel,by decide +kernel⟩
theorem ok_pls (T:Txt K mg q_Book tc):Cal P w K mg base (CX1 P w) 2 "_law_plus" ["_law_one","_law_other"] spPls:=by
 have c__law_low:Cal P w K mg base (CX1 P w) 1 "_law_low" ["_law_top","_law_bottom"] spLow:=ok_low T
 refine T.d__law_plus.cal (fun _ _ _ _ _ _=>us_2 fun _ _=>rfl) fun f fd F=>F.okC sc__law_plus (fun vs H Q E h=>?_) (fun cdv A outer s H vs Q E hr h=>?_)
 ·obtain⟨_,_,_,_,rfl,_⟩:=h;rfl
 ·refine(?_:let G_:Prop:=_;G_)
  intro G_
  obtain⟨p,q,a,b,rfl,hp,hq,ga,gb,k⟩:=h
  dsimp only[G_]
  have nd:=sc__law_plus.nd
  refine⟨_,(pss_one (ps_ret (pe_cal c__law_low (hr.mono (by decide)) rfl strictP.pass (pa_cons (pe_op op_add (pe_op op_mulB (pe_ix ix_tupH (pv 0) pe_int (fun _ _=>rfl)) (pe_ix ix_tupH (pv 1) pe_int (fun _ _=>rfl))) (pe_op op_mulB (pe_ix ix_tupH (pv 1) pe_int (fun _ _=>rfl)) (pe_ix ix_tupH (pv 0) pe_int (fun _ _=>rfl)))) (pa_cons (pe_op op_mulB (pe_ix ix_tupH (pv 0) pe_int (fun _ _=>rfl)) (pe_ix ix_tupH (pv 1) pe_int (fun _ _=>rfl))) pa_nil (se rfl)) (se rfl)) (he:=se rfl) (hpl:=na rfl)))),?_⟩
  simp only[Pr] at hp hq
  simp_all only[spLow,hp,hq]
  refine⟨ga.1.mulOk gb.2.1,gb.1.mulOk ga.2.1,ga.2.1.mulOk gb.2.1,?_⟩
  exact⟨Int.mul_pos ga.2.2 gb.2.2,(ga.2.1.mul gb.2.1).mono (by decide),fun r H' s' n' e=>k r H' s' n' e⟩
theorem sc__law_times:FnScope ["_law_one","_law_other"] ["_law_one","_law_other"] (defScope (top 42)):=⟨rfl,rfl,rfl,by decide +kernel,rfl,by decide +kernel,by decide +kernel⟩
theorem ok_tms (T:Txt K mg q_Book tc):Cal P w K mg base (CX1 P w) 2 "_law_times" ["_law_one","_law_other"] spTms:=by
 have c__law_low:Cal P w K mg base (CX1 P w) 1 "_law_low" ["_law_top","_law_bottom"] spLow:=ok_low T
 refine T.d__law_times.cal (fun _ _ _ _ _ _=>us_2 fun _ _=>rfl) fun f fd F=>F.okC sc__law_times (fun vs H Q E h=>?_) (fun cdv A outer s H vs Q E hr h=>?_)
 ·obtain⟨_,_,_,_,rfl,_⟩:=h;rfl
 ·refine(?_:let G_:Prop:=_;G_)
  intro G_
  obtain⟨p,q,a,b,rfl,hp,hq,ga,gb,k⟩:=h
  dsimp only[G_]
  have nd:=sc__law_times.nd
  refine⟨_,(pss_one (ps_ret (pe_cal c__law_low (hr.mono (by decide)) rfl strictP.pass (pa_cons (pe_op op_mulB (pe_ix ix_tupH (pv 0) pe_int (fun _ _=>rfl)) (pe_ix ix_tupH (pv 1) pe_int (fun _ _=>rfl))) (pa_cons (pe_op op_mulB (pe_ix ix_tupH (pv 0) pe_int (fun _ _=>rfl)) (pe_ix ix_tupH (pv 1) pe_int (fun _ _=>rfl))) pa_nil (se rfl)) (se rfl)) (he:=se rfl) (hpl:=na rfl)))),?_⟩
  simp only[Pr] at hp hq
  simp_all only[spLow,hp,hq]
  refine⟨ga.1.mulOk gb.1,ga.2.1.mulOk gb.2.1,?_⟩
  exact⟨Int.mul_pos ga.2.2 gb.2.2,(ga.2.1.mul gb.2.1).mono (by decide),fun r H' s' n' e=>k r H' s' n' e⟩
theorem sc__law_is_share:FnScope ["_law_found","_law_number"] ["_law_found"] (defScope (top 51)):=⟨rfl,rfl,rfl,by decide +kernel,rfl,by decide +kernel,by decide +kernel⟩
theorem ok_is (T:Txt K mg q_Book tc):Cal P w K mg base (CX1 P w) 2 "_law_is_share" ["_law_found"] spIs:=by
 have c__law_low:Cal P w K mg base (CX1 P w) 1 "_law_low" ["_law_top","_law_bottom"] spLow:=ok_low T
 refine T.d__law_is_share.cal (fun _ _ _ _ _ _=>us_1 fun _=>rfl) fun f fd F=>F.okC sc__law_is_share (fun vs H Q E h=>?_) (fun cdv A outer s H vs Q E hr h=>?_)
 ·obtain⟨_,_,_,rfl,_⟩:=h;rfl
 ·refine(?_:let G_:Prop:=_;G_)
  intro G_
  obtain⟨p,x,y,rfl,hp,y0,by',g1,k⟩:=h
  dsimp only[G_]
  have nd:=sc__law_is_share.nd
  refine⟨_,(pss_cons (ps_if (PW.pt (pw_or (pt_not (pt_val (pe_callB (call_isTK (K:=K)) (by rfl) T.z_isinstance rfl (pa_cons (pv 0) (pa_cons (pe_bltn (v:=V.ty "tuple") rfl T.z_tuple rfl rfl) pa_nil (se rfl)) (se rfl)) (he:=se rfl) (hpl:=na rfl)))) (pw_or1 (pt_cmpR op_ne (pe_callB call_lenT (by rfl) T.z_len PySem.boot_len (pa_cons (pv 0) pa_nil (se rfl)) (he:=se rfl) (hpl:=na rfl)) pe_int (nomark _))))) (pss_one (ps_ret pe_bl))
   pss_nil)
  (pss_cons (ps_for PassesOwn.never rfl (pi_tupK (K:=K) (pv 0)) (pg_name (i:=1) nd rfl (Or.inl rfl)) (pss_one (ps_if (PW.pt (pw_or (pt_not (pt_val (pe_callB (call_isTK (K:=K)) (by rfl) T.z_isinstance rfl (pa_cons (pv 1) (pa_cons (pe_bltn (v:=V.ty "int") rfl T.z_int rfl rfl) pa_nil (se rfl)) (se rfl)) (he:=se rfl) (hpl:=na rfl)))) (pw_or1 (pt_val (pe_callB (call_isTK (K:=K)) (by rfl) T.z_isinstance rfl (pa_cons (pv 1) (pa_cons (pe_bltn (v:=V.ty "bool") rfl T.z_bool rfl rfl) pa_nil (se rfl)) (se rfl)) (he:=se rfl) (hpl:=na rfl)))))) (pss_one (ps_ret pe_bl))
   pss_nil)))
  (pss_one (ps_ret (pe_and (pe_cmpR op_gt (pe_ix ix_tupH (pv 0) pe_int (fun _ _=>rfl)) pe_int (nomark _)) (pe_one (pe_cmpR (op_eq_tup hr.units0) (pe_cal c__law_low (hr.mono (by decide)) rfl strictP.pass (pa_cons (pe_ix ix_tupH (pv 0) pe_int (fun _ _=>rfl)) (pa_cons (pe_ix ix_tupH (pv 0) pe_int (fun _ _=>rfl)) pa_nil (se rfl)) (se rfl)) (he:=se rfl) (hpl:=na rfl)) (pv 0) (nomark _)))))))),?_⟩
  refine(?_:let q0_:TS:=_;let q1_:TS:=_;let q2_:TS:=_;tSeq q0_ (tSeq q1_ q2_) _ _ _)
  intro q0_ q1_ q2_
  simp only[Pr] at hp
  simp_all only[hp]
  refine⟨_,TyOf.tup hp,_,kit_tt,?_⟩
  rw[if_neg (by decide)]
  refine⟨⟨_,SqT.of hp⟩,for_tup (K:=K) (a:=p) (xs:=[V.int x,V.int y]) (fun i σ H2=>H2=H∧∃v,σ=[some (.ref p),v]) ⟨rfl,_,rfl⟩ (fun i σ H2 _ ⟨e,_⟩=>by rw[e];exact SqT.of hp) ?_ ?_⟩
  ·intro i z σ H2 hi p5_
   refine(?_:let G_:Prop:=_;G_)
   intro G_
   obtain⟨rfl,v,rfl⟩:=p5_
   obtain⟨j,rfl⟩:∃j,z=V.int j:=by
    match i,hi with
    | 0,hi=>exact⟨x,by simpa using hi.symm⟩
    | 1,hi=>exact⟨y,by simpa using hi.symm⟩
   dsimp only[G_]
   simp_all only[]
   refine⟨_,TyOf.int j,_,kit_ii,?_⟩
   rw[if_neg (by decide)]
   refine⟨_,TyOf.int j,_,kit_ib,?_⟩
   rw[if_neg (by decide)]
   exact⟨_,rfl⟩
  ·intro σ H2 p2_
   refine(?_:let G_:Prop:=_;G_)
   intro G_
   obtain⟨rfl,v,rfl⟩:=p2_
   dsimp only[G_]
   simp_all only[hp,spLow]
   have e1:Nm.st x y=x:=by rw[(Nm.st_pos y0).1,g1,Int.ediv_one]
   have e2:Nm.sb x y=y:=by rw[(Nm.st_pos y0).2,g1,Int.ediv_one]
   rw[e1,e2,if_pos y0]
   exact⟨y0,by'.mono (by decide),fun p1 H3 s3 n3 h3=>⟨_,h3,_,s3 _ _ hp,rfl,rfl,by rw[eqL_self];exact k _ s3⟩⟩
theorem sc__law_are_shares:FnScope ["_law_found","_law_many"] ["_law_found","_law_many"] (defScope (top 52)):=⟨rfl,rfl,rfl,by decide +kernel,rfl,by decide +kernel,by decide +kernel⟩
theorem ok_are (T:Txt K mg q_Book tc):Cal P w K mg base (CX1 P w) 3 "_law_are_shares" ["_law_found","_law_many"] spAre:=by
 have c__law_is_share:Cal P w K mg base (CX1 P w) 2 "_law_is_share" ["_law_found"] spIs:=ok_is T
 refine T.d__law_are_shares.cal (fun _ _ _ _ _ _=>us_2 fun _ _=>rfl) fun f fd F=>F.okC sc__law_are_shares (fun vs H Q E h=>?_) (fun cdv A outer s H vs Q E hr h=>?_)
 ·obtain⟨_,_,rfl,_⟩:=h;rfl
 ·refine(?_:let G_:Prop:=_;G_)
  intro G_
  obtain⟨a,ws,rfl,ra,lw,gw,kk⟩:=h
  dsimp only[G_]
  have nd:=sc__law_are_shares.nd
  refine⟨_,(pss_cons (ps_if (PW.pt (pw_or (pt_not (pt_val (pe_callB (call_isTK (K:=K)) (by rfl) T.z_isinstance rfl (pa_cons (pv 0) (pa_cons (pe_bltn (v:=V.ty "list") rfl T.z_list rfl rfl) pa_nil (se rfl)) (se rfl)) (he:=se rfl) (hpl:=na rfl)))) (pw_or1 (pt_cmpR op_ne (pe_callB call_lenL (by rfl) T.z_len PySem.boot_len (pa_cons (pv 0) pa_nil (se rfl)) (he:=se rfl) (hpl:=na rfl)) (pv 1) (nomark _))))) (pss_one (ps_ret pe_bl))
   pss_nil)
  (pss_one (ps_ret (pe_callB (call_all_lK (K:=K)) (by rfl) T.z_all rfl (pa_cons (pe_comp rfl (N:=["_law_found","_law_many"]) (so:=defScope (top 52)) (N':=["_law_one"]) (k:=1) (fr:=[]) rfl rfl ⟨rfl,by decide +kernel,by decide +kernel,by decide +kernel,rfl,by decide +kernel,by decide +kernel⟩ (pi_listK (K:=K) (pv 0)) (fun _ _ _ _ _=>(pg_name (i:=0) (show(["_law_one"]:List Str).Nodup by decide +kernel) rfl (Or.inl rfl))) (fun _ _ _ _ _=>pts_nil)
   (fun _ _ _ _ _=>(pe_cal c__law_is_share (hr.mono (by decide)) rfl strictP.pass (pa_cons (pv 0) pa_nil (se rfl)) (he:=se rfl) (hpl:=na rfl)))) pa_nil (se rfl)) (he:=se rfl) (hpl:=na rfl))))),?_⟩
  refine(?_:let G_:Prop:=_;G_)
  intro G_
  obtain⟨_,xs,e,ha,rl⟩:=rep_lst.mp ra
  dsimp only[G_]
  cases e
  have lx:=rl.length
  rw[List.length_map] at lx
  simp_all only[]
  refine⟨_,TyOf.lst ha,_,kit_ll,?_⟩
  rw[if_neg (by decide)]
  refine⟨_,ha,?_⟩
  rw[if_neg (by omega)]
  refine⟨⟨_,SqL.of ha⟩,?_⟩
  refine comp_map (src_list (Ok:=Same H) (fun H' s'=>SqL.of (s' _ _ ha))) (fun _ _ _ _ h=>by rw[h.1];exact Same.refl _) (by rw[sizeLine_eq];omega) (fun i y H4=>y=.bl true) (fun i y H4 H5 s5 h=>h) ?_ ?_
  ·rintro i x w0 H4 H5 Q2 hi s4 ⟨rfl,ex⟩ kq
   refine(?_:let G_:Prop:=_;G_)
   intro G_
   obtain⟨d,ed,rd⟩:=rl.get ex
   rw[List.getElem?_map] at ed
   obtain⟨w1,ew,rfl⟩:=Option.map_eq_some_iff.mp ed
   obtain⟨p,rfl,hp⟩:=rep_wrow.mp rd
   obtain⟨g1,g2,g3⟩:=gw w1 (List.mem_of_getElem? ew)
   dsimp only[G_]
   simp_all only[spIs]
   exact⟨_,_,s4 _ _ hp,g1,g2,g3,fun H6 s6=>kq _ _ s6 rfl⟩
  ·intro ys H4 s4 ly hy D n1 n2
   have ey:ys=List.map V.bl (List.replicate ys.length true):=by
    rw[List.map_replicate]
    exact List.eq_replicate_iff.mpr ⟨rfl,fun b hb=>by
     obtain⟨i,ei⟩:=List.getElem?_of_mem hb
     exact hy i b ei⟩
   refine⟨List.replicate ys.length true,SqL.of (by rw[←ey];exact upd_same),?_⟩
   rw[show(List.replicate ys.length true).all id=true by simp]
   exact kk _ (s4.trans (same_upd n2))
theorem sc__law_share:FnScope ["_law_cell_here","_law_k","_law_way","_law_top","_law_bottom"] ["_law_cell_here","_law_k"] (defScope (top 43)):=⟨rfl,rfl,rfl,by decide +kernel,rfl,by decide +kernel,by decide +kernel⟩
theorem ok_shr (T:Txt K mg q_Book tc):Cal P w K mg base (CX1 P w) 2 "_law_share" ["_law_cell_here","_law_k"] spShr:=by
 have c__law_low:Cal P w K mg base (CX1 P w) 1 "_law_low" ["_law_top","_law_bottom"] spLow:=ok_low T
 have c__law_mixed:Cal P w K mg base (CX1 P w) 1 "_law_mixed" ["_law_cell_here","_law_many"] spMix:=ok_mix T
 refine T.d__law_share.cal (fun _ _ _ _ _ _=>us_2 fun _ _=>rfl) fun f fd F=>F.okC sc__law_share (fun vs H Q E h=>?_) (fun cdv A outer s H vs Q E hr h=>?_)
 ·obtain⟨_,_,rfl,_⟩:=h;rfl
 ·refine(?_:let G_:Prop:=_;G_)
  intro G_
  obtain⟨c,k,rfl,k0,k1,kk⟩:=h
  dsimp only[G_]
  have nd:=sc__law_share.nd
  refine⟨_,(pss_cons (ps_set (i:=2) nd rfl (Or.inl rfl) (pe_cal c__law_mixed (hr.mono (by decide)) rfl strictP.pass (pa_cons (pe_op op_add (pv 0) (pe_op op_mulB pe_int (pv 1))) (pa_cons pe_int pa_nil (se rfl)) (se rfl)) (he:=se rfl) (hpl:=na rfl)))
  (pss_cons (ps_set (i:=3) nd rfl (Or.inl rfl) (pe_op op_sub (pe_cal c__law_mixed (hr.mono (by decide)) rfl strictP.pass (pa_cons (pe_op op_add (pe_op op_add (pv 0) (pe_op op_mulB pe_int (pv 1))) pe_int) (pa_cons pe_int pa_nil (se rfl)) (se rfl)) (he:=se rfl) (hpl:=na rfl)) pe_int))
  (pss_cons (ps_set (i:=4) nd rfl (Or.inl rfl) pe_int)
  (pss_cons (ps_if (pt_cmpR op_lt (pv 2) pe_int (nomark _)) (pss_one (ps_set (i:=4) nd rfl (Or.inl rfl) (pe_op op_add pe_int (pe_cal c__law_mixed (hr.mono (by decide)) rfl strictP.pass (pa_cons (pe_op op_add (pe_op op_add (pv 0) (pe_op op_mulB pe_int (pv 1))) pe_int) (pa_cons pe_int pa_nil (se rfl)) (se rfl)) (he:=se rfl) (hpl:=na rfl)))))
   pss_nil)
  (pss_cons (ps_if (pt_cmpR op_eq (pv 2) pe_int (nomark _)) (pss_cons (ps_set (i:=3) nd rfl (Or.inl rfl) (pe_op op_sub (pe_op op_modB (pe_op op_mulB (pe_op op_add (pv 0) pe_int) (pe_op op_add (pe_op op_mulB (pv 1) (pv 1)) pe_int)) (pe_op op_sub (pe_op op_mulB pe_int (pe_op op_pow pe_int pe_int)) pe_int)) (pe_op op_sub (pe_op op_pow pe_int pe_int) pe_int)))
  (pss_one (ps_set (i:=4) nd rfl (Or.inl rfl) (pe_op op_add pe_int (pe_op op_modB (pe_op op_mulB (pe_op op_add (pv 0) pe_int) (pe_op op_add (pe_op op_mulB (pv 1) (pv 1)) pe_int)) (pe_op op_pow pe_int pe_int))))))
   pss_nil)
  (pss_one (ps_ret (pe_cal c__law_low (hr.mono (by decide)) rfl strictP.pass (pa_cons (pv 3) (pa_cons (pv 4) pa_nil (se rfl)) (se rfl)) (he:=se rfl) (hpl:=na rfl))))))))),?_⟩
  refine(?_:let q0_:TS:=_;let q1_:TS:=_;let q2_:TS:=_;let q3_:TS:=_;let q4_:TS:=_;let q5_:TS:=_;tSeq q0_ (tSeq q1_ (tSeq q2_ (tSeq q3_ (tSeq q4_ q5_)))) _ _ _)
  intro q0_ q1_ q2_ q3_ q4_ q5_
  have j2:k*k≤1000000:=Int.le_trans (Int.mul_le_mul (show k≤1000 by omega) (show k≤1000 by omega) k0 (by decide)) (by decide)
  have j3:0≤k*k:=Int.mul_nonneg k0 k0
  have fin:∀x y:Int,Bt 40 x→Bt 20 y→0<y→0<y∧Bt 8900 y∧∀p H',Same H H'→H p=none→H' p=some (.tup [V.int (Nm.st x y),V.int (Nm.sb x y)])→Q (.ref p) H':=fun x y bx by' y0=>
   ⟨y0,by'.mono (by decide),fun p H' s' n' e=>kk p H' (Nm.st x y,Nm.sb x y) s' n' e ⟨bx.le (Nm.st_abs (by omega)),by'.le (Nm.sb_abs (by omega)),Nm.sb_pos (by omega),Nm.st_low (by omega)⟩⟩
  have big:∀c1 c2:Int,Bt 40 (c1 % (2*10^12 - 1) - (10^12 - 1))∧Bt 20 (1+c2 % 10^6)∧0<1+c2 % 10^6:=fun c1 c2=>by
   have h1:=Int.emod_nonneg c1 (show(2*10^12 - 1:Int)≠0 by decide)
   have h2:=Int.emod_lt_of_pos c1 (show(0:Int)<2*10^12 - 1 by decide)
   have h3:=Int.emod_nonneg c2 (show(10^6:Int)≠0 by decide)
   have h4:=Int.emod_lt_of_pos c2 (show(0:Int)<10^6 by decide)
   exact⟨Bt.of (10^12) (by omega) (by omega),Bt.of (10^6) (by omega) (by omega),by omega⟩
  simp_all only[spLow,spMix]
  have bs:∀{t r:Int},0≤t→t<19→0≤r→r<12→Bt 40 (t - 9)∧Bt 20 (1+r):=fun a b c d=>⟨Bt.of 60 (by omega) (by omega),Bt.of 60 (by omega) (by omega)⟩
  refine⟨mulOkL,by decide,fun wy w0 w1=>⟨mulOkL,by decide,fun t t0 t1=>ite2 (fun c1=>⟨mulOkL,by decide,fun r r0 r1=>ite2 (fun c2=>?_) (fun c2=>?_)⟩) (fun c1=>ite2 (fun c2=>?_) (fun c2=>?_))⟩⟩
  ·exfalso
   omega
  ·exact fin (t - 9) (1+r) (bs t0 t1 r0 r1).1 (bs t0 t1 r0 r1).2 (by omega)
  ·have bg:=big ((c+1)* (k*k+71)) ((c+3)* (k*k+5))
   exact⟨mulOkL (by omega) (by omega),mulOkR (by omega) (by omega),by decide,by decide,by decide,mulOkL,by decide,by decide,by decide,by decide,mulOkL (by omega) (by omega),mulOkR (by omega) (by omega),by decide,by decide,by decide,by decide,fin _ _ bg.1 bg.2.1 bg.2.2⟩
  ·exact fin (t - 9) 1 (bs t0 t1 (Int.le_refl 0) (by decide)).1 (Bt.of 60 (by omega) (by omega)) (by decide)
theorem sc__law_turned:FnScope ["_law_cell_here","_law_n","_law_first","_law_keyed"] ["_law_cell_here","_law_n"] (defScope (top 44)):=⟨rfl,rfl,rfl,by decide +kernel,rfl,by decide +kernel,by decide +kernel⟩
theorem ok_trn (T:Txt K mg q_Book tc):Cal P w K mg base (CX1 P w) 2 "_law_turned" ["_law_cell_here","_law_n"] spTrn:=by
 have c__law_mixed:Cal P w K mg base (CX1 P w) 1 "_law_mixed" ["_law_cell_here","_law_many"] spMix:=ok_mix T
 refine T.d__law_turned.cal (fun _ _ _ _ _ _=>us_2 fun _ _=>rfl) fun f fd F=>F.okC sc__law_turned (fun vs H Q E h=>?_) (fun cdv A outer s H vs Q E hr h=>?_)
 ·obtain⟨_,_,rfl,_⟩:=h;rfl
 ·refine(?_:let G_:Prop:=_;G_)
  intro G_
  obtain⟨c,n,rfl,n0,n1,kk⟩:=h
  dsimp only[G_]
  clear G_
  have nd:=sc__law_turned.nd
  refine⟨_,(pss_cons (ps_set (i:=2) nd rfl (Or.inr rfl) (pe_op op_modB (pv 0) pe_int))
  (pss_cons (ps_set (i:=3) nd rfl (Or.inl rfl) (pe_callB (call_sorted_pK (K:=K)) (by rfl) T.z_sorted rfl (pa_cons (pe_comp rfl (N:=["_law_cell_here","_law_n","_law_first","_law_keyed"]) (so:=defScope (top 44)) (N':=["_law_k","_law_first"]) (k:=1) (fr:=[2]) rfl rfl ⟨rfl,by decide +kernel,by decide +kernel,by decide +kernel,rfl,by decide +kernel,by decide +kernel⟩ (pi_range1 rfl T.z_range (pa_cons (pv 1) pa_nil (se rfl))) (fun _ _ _ _ _=>(pg_name (i:=0) (show(["_law_k","_law_first"]:List Str).Nodup by decide +kernel) rfl (Or.inl rfl))) (fun _ _ _ _ _=>pts_nil)
   (fun _ _ _ _ _=>(pe_tupS (pa_cons (pe_cal c__law_mixed (hr.mono (by decide)) rfl strictP.pass (pa_cons (pe_op op_add (pe_op op_mulB (pv 1) (pe_op op_add (pe_op op_mulB (pv 0) (pv 0)) pe_int)) (pv 0)) (pa_cons (pe_op op_pow pe_int pe_int) pa_nil (se rfl)) (se rfl)) (he:=se rfl) (hpl:=na rfl)) (pa_cons (pv 0) pa_nil (se rfl)) (se rfl))))) pa_nil (se rfl)) (he:=se rfl) (hpl:=na rfl)))
  (pss_one (ps_ret (pe_comp rfl (N:=["_law_cell_here","_law_n","_law_first","_law_keyed"]) (so:=defScope (top 44)) (N':=["_law_pair"]) (k:=1) (fr:=[]) rfl rfl ⟨rfl,by decide +kernel,by decide +kernel,by decide +kernel,rfl,by decide +kernel,by decide +kernel⟩ (pi_listK (K:=K) (pv 3)) (fun _ _ _ _ _=>(pg_name (i:=0) (show(["_law_pair"]:List Str).Nodup by decide +kernel) rfl (Or.inl rfl))) (fun _ _ _ _ _=>pts_nil)
   (fun _ _ _ _ _=>(pe_ix ix_tupH (pv 0) pe_int (fun _ _=>rfl)))))))),?_⟩
  refine(?_:let q0_:TS:=_;let q1_:TS:=_;let q2_:TS:=_;tSeq q0_ (tSeq q1_ q2_) _ _ _)
  intro q0_ q1_ q2_
  simp_all only[]
  obtain⟨N,rfl⟩:=Int.eq_ofNat_of_zero_le (Int.le_of_lt n0)
  rw[Int.toNat_natCast] at kk
  refine⟨by decide,by omega,by omega,?_⟩
  refine comp_map src_range (fun _ _ _ _ h=>by rw[h.1];exact Same.refl _) (by rw[sizeLine_eq];omega) (fun i y H4=>∃tt a,y=.ref tt∧H4 tt=some (.tup [.int a,.int ((i:Nat):Int)])) (fun i y H4 H5 s5 ⟨tt,a,e,h⟩=>⟨tt,a,e,s5 _ _ h⟩) ?_ ?_
  ·rintro i x w0 H9 H10 Q2 hi s9 ⟨rfl,rfl⟩ kq
   simp_all only[spMix]
   have ii:(0:Int)+ (i:Int)=(i:Int):=Int.zero_add _
   rw[ii]
   have j0:(0:Int)≤(i:Int):=by omega
   have jq:IntMulOk (i:Int) (i:Int):=mulOkL (by omega) (by omega)
   have j2:(i:Int)* (i:Int)≤40000:=Int.le_trans (Int.mul_le_mul (show(i:Int)≤200 by omega) (show(i:Int)≤200 by omega) j0 (by decide)) (by decide)
   have j3:0≤(i:Int)* (i:Int):=Int.mul_nonneg j0 j0
   exact⟨jq,mulOkR (by omega) (by omega),by decide,by decide,by decide,by decide,fun r r0 r1=>⟨by decide,fun q5 H11 s11 n11 e11=>kq _ _ s11 ⟨q5,r,rfl,e11⟩⟩⟩
  intro ys H9 s9 ly hy D9 n10 n11
  have s9':=s9.trans (same_upd (o:=.lst ys) n11)
  have hD9:(upd H9 D9 (.lst ys)) D9=some (.lst ys):=upd_same
  have hy':∀(i:Nat) y,ys[i]?=some y→∃tt a,y=.ref tt∧(upd H9 D9 (.lst ys)) tt=some (.tup [.int a,.int ((i:Nat):Int)]):=fun i y e=>by
   refine(?_:let G_:Prop:=_;G_)
   intro G_
   obtain⟨tt,a,e1,e2⟩:=hy i y e
   dsimp only[G_]
   exact⟨tt,a,e1,same_upd n11 _ _ e2⟩
  generalize upd H9 D9 (.lst ys)=H10 at *
  have each:∀y∈ys,∃tt a b',y=.ref tt∧H10 tt=some (.tup [.int a,.int b']):=fun y hy2=>by
   obtain⟨i,ei⟩:=List.getElem?_of_mem hy2
   refine(?_:let G_:Prop:=_;G_)
   intro G_
   obtain⟨tt,a,e1,e2⟩:=hy' i y ei
   dsimp only[G_]
   exact⟨tt,a,_,e1,e2⟩
  have ly:ys.length=N:=by simpa using ly
  refine⟨ys,SqL.of hD9,by omega,each,fun l11 zs n12 pz=>?_⟩
  have hg:∃g:V→Nat,g=fun v=>match v with | .ref tt=>(match H10 tt with | some (.tup [_,.int i])=>i.toNat | _=>0) | _=>0:=⟨_,rfl⟩
  obtain⟨g,hg⟩:=hg
  have gy:∀(i:Nat) y,ys[i]?=some y→g y=i:=fun i y e=>by
   refine(?_:let G_:Prop:=_;G_)
   intro G_
   obtain⟨tt,a,rfl,e2⟩:=hy' i y e
   dsimp only[G_]
   rw[hg]
   simp only[e2,Int.toNat_natCast]
  have mg:ys.map g=List.range N:=by
   apply List.ext_getElem?
   intro i
   rw[List.getElem?_map]
   by_cases hi:i<N
   ·rw[List.getElem?_range hi,List.getElem?_eq_getElem (show i<ys.length by omega)]
    show some (g _)=_
    rw[gy i _ (List.getElem?_eq_getElem (by omega))]
   ·rw[List.getElem?_eq_none (show(List.range N).length≤i by rw[List.length_range];omega),List.getElem?_eq_none (show ys.length≤i by omega)]
    rfl
  have pm:(zs.map g).Perm (List.range N):=by rw[←mg];exact pz.map g
  have zl:zs.length=N:=by rw[pz.length_eq];omega
  have ez:∀z∈zs,∃tt a,z=.ref tt∧H10 tt=some (.tup [.int a,.int ((g z:Nat):Int)]):=fun z hz=>by
   obtain⟨i,ei⟩:=List.getElem?_of_mem (pz.mem_iff.mp hz)
   refine(?_:let G_:Prop:=_;G_)
   intro G_
   obtain⟨tt,a,e1,e2⟩:=hy' i z ei
   dsimp only[G_]
   exact⟨tt,a,e1,by rw[gy i z ei];exact e2⟩
  have s11:=same_upd (o:=.lst zs) n12
  have h11:(upd H10 l11 (.lst zs)) l11=some (.lst zs):=upd_same
  generalize upd H10 l11 (.lst zs)=H11 at *
  refine⟨⟨_,SqL.of h11⟩,?_⟩
  refine comp_ints zs (fun z=>some ((g z:Nat):Int)) (src_list (K:=K) (fun H' s'=>SqL.of (s' _ _ h11))) (fun _ _ _ _ h=>h.1) (by rw[sizeLine_eq];omega) ?_ ?_
  ·rintro i1 z x eg ⟨_,ex⟩ Y N1 y1 n1
   rw[eg] at ex
   cases ex
   refine(?_:let G_:Prop:=_;G_)
   intro G_
   obtain⟨tt,a,rfl,e2⟩:=ez z (List.mem_of_getElem? eg)
   dsimp only[G_]
   simp_all only[tYes,s11 _ _ e2]
   exact y1 _ rfl
  intro D12 n13 n14
  rw[fm_some]
  have e12:List.map V.int (zs.map fun z=>((g z:Nat):Int))=List.map natV (zs.map g):=by rw[List.map_map,List.map_map];rfl
  rw[e12]
  have s19:=s9'.trans s11
  exact kk _ _ _ (s19.trans (same_upd n14)) (none_of s19 n14) upd_same pm
theorem sc__law_throw:FnScope ["_law_cell_here","_law_k","_law_n","_law_ways_here","_law_j","_law_weight","_law_sure"] ["_law_cell_here","_law_k","_law_n"] (defScope (top 45)):=⟨rfl,rfl,rfl,by decide +kernel,rfl,by decide +kernel,by decide +kernel⟩
theorem ok_thr (T:Txt K mg q_Book tc):Cal P w K mg base (CX1 P w) 2 "_law_throw" ["_law_cell_here","_law_k","_law_n"] spThr:=by
 have c__law_mixed:Cal P w K mg base (CX1 P w) 1 "_law_mixed" ["_law_cell_here","_law_many"] spMix:=ok_mix T
 refine T.d__law_throw.cal (fun _ _ _ _ _ _=>us_3 fun _ _ _=>rfl) fun f fd F=>F.okC sc__law_throw (fun vs H Q E h=>?_) (fun cdv A outer s H vs Q E hr h=>?_)
 ·obtain⟨_,_,_,rfl,_⟩:=h;rfl
 ·refine(?_:let G_:Prop:=_;G_)
  intro G_
  obtain⟨c,k,n,rfl,k0,kn,kk⟩:=h
  dsimp only[G_]
  have nd:=sc__law_throw.nd
  refine⟨_,(pss_cons (ps_set (i:=3) nd rfl (Or.inl rfl) (pe_lst pa_nil))
  (pss_cons (ps_for PassesOwn.never rfl (pi_range1 rfl T.z_range (pa_cons (pe_cal c__law_mixed (hr.mono (by decide)) rfl strictP.pass (pa_cons (pe_op op_add (pv 0) pe_int) (pa_cons pe_int pa_nil (se rfl)) (se rfl)) (he:=se rfl) (hpl:=na rfl)) pa_nil (se rfl))) (pg_name (i:=4) nd rfl (Or.inl rfl)) (pss_cons (ps_set (i:=5) nd rfl (Or.inl rfl) (pe_op op_add pe_int (pe_cal c__law_mixed (hr.mono (by decide)) rfl strictP.pass (pa_cons (pe_op op_add (pv 0) (pe_op op_mulB pe_int (pv 4))) (pa_cons pe_int pa_nil (se rfl)) (se rfl)) (he:=se rfl) (hpl:=na rfl))))
  (pss_cons (ps_if (pt_cmpR op_eq (pe_cal c__law_mixed (hr.mono (by decide)) rfl strictP.pass (pa_cons (pe_op op_add (pv 0) pe_int) (pa_cons pe_int pa_nil (se rfl)) (se rfl)) (he:=se rfl) (hpl:=na rfl)) pe_int (nomark _)) (pss_one (ps_set (i:=5) nd rfl (Or.inl rfl) (pe_op op_add pe_int (pe_cal c__law_mixed (hr.mono (by decide)) rfl strictP.pass (pa_cons (pe_op op_add (pv 0) (pe_op op_mulB pe_int (pv 4))) (pa_cons pe_int pa_nil (se rfl)) (se rfl)) (he:=se rfl) (hpl:=na rfl)))))
   pss_nil)
  (pss_one (ps_expr (pe_bm PySem.F.plainAttrs_list PySem.F.slot_list_append PySem.F.type_list_append mt_append.r (pv 3) (pa_cons (pe_tupS (pa_cons (pv 5) (pa_cons (pe_cal c__law_mixed (hr.mono (by decide)) rfl strictP.pass (pa_cons (pe_op op_add (pe_op op_add (pv 0) (pe_op op_mulB pe_int (pv 4))) pe_int) (pa_cons (pv 2) pa_nil (se rfl)) (se rfl)) (he:=se rfl) (hpl:=na rfl)) pa_nil (se rfl)) (se rfl))) pa_nil (se rfl))))))))
  (pss_cons (ps_set (i:=6) nd rfl (Or.inl rfl) (pe_tupS (pa_cons (pe_op op_add pe_int (pe_cal c__law_mixed (hr.mono (by decide)) rfl strictP.pass (pa_cons (pe_op op_add (pv 0) pe_int) (pa_cons pe_int pa_nil (se rfl)) (se rfl)) (he:=se rfl) (hpl:=na rfl))) (pa_cons (pe_cal c__law_mixed (hr.mono (by decide)) rfl strictP.pass (pa_cons (pe_op op_add (pv 0) pe_int) (pa_cons (pv 1) pa_nil (se rfl)) (se rfl)) (he:=se rfl) (hpl:=na rfl)) pa_nil (se rfl)) (se rfl))))
  (pss_cons (ps_expr (pe_bm PySem.F.plainAttrs_list PySem.F.slot_list_insert PySem.F.type_list_insert mt_insert.r (pv 3) (pa_cons (pe_cal c__law_mixed (hr.mono (by decide)) rfl strictP.pass (pa_cons (pe_op op_add (pv 0) pe_int) (pa_cons (pe_op op_add (pe_callB call_lenL (by rfl) T.z_len PySem.boot_len (pa_cons (pv 3) pa_nil (se rfl)) (he:=se rfl) (hpl:=na rfl)) pe_int) pa_nil (se rfl)) (se rfl)) (he:=se rfl) (hpl:=na rfl)) (pa_cons (pv 6) pa_nil (se rfl)) (se rfl))))
  (pss_one (ps_ret (pv 3))))))),?_⟩
  refine(?_:let q0_:TS:=_;let q1_:TS:=_;let q2_:TS:=_;let q3_:TS:=_;let q4_:TS:=_;tSeq q0_ (tSeq q1_ (tSeq q2_ (tSeq q3_ q4_))) _ _ _)
  intro q0_ q1_ q2_ q3_ q4_
  simp_all only[spMix]
  refine⟨Nat.zero_le _,fun p np=>⟨by decide,fun r r0 r1=>⟨by omega,by omega,?_⟩⟩⟩
  refine for_src (src_range (Ok:=fun _=>True)) (fun i σ H'=>Same H H'∧∃xs z4 z5,H' p=some (.lst xs)∧xs.length=i∧(∀x∈xs,WT H' n x)∧σ=[some (.int c),some (.int k),some (.int n),some (V.ref p),z4,z5,none])
   ⟨same_upd np,[],_,_,upd_same,rfl,by simp,rfl⟩ (fun _ _ _ _ _=>trivial) ?_ ?_
  ·intro i x σ H1 H2 hi p6_ p7_
   refine(?_:let G_:Prop:=_;G_)
   intro G_
   obtain⟨sm,xs,z4,z5,hp,lx,wx,rfl⟩:=p6_
   obtain⟨rfl,rfl⟩:=p7_
   dsimp only[G_]
   simp_all only[spMix]
   have sz:xs.length<sizeLine:=by rw[sizeLine_eq];omega
   have fin:∀w t p1 H3,Same H2 H3→H2 p1=none→H3 p1=some (.tup [.int w,.int t])→(1≤w∧w≤200000)→0≤t→t<n→Same H (upd H3 p (.lst (xs++ [V.ref p1])))∧∃xs',upd H3 p (.lst (xs++ [V.ref p1])) p=some (.lst xs')∧xs'.length=i+1∧(∀x∈xs',WT (upd H3 p (.lst (xs++ [V.ref p1]))) n x):=fun w t p1 H3 s3 n3 e3 w0 t0 t1=>by
    refine⟨same_upd_of (sm.trans s3) np,_,upd_same,by simp [lx],fun x hx=>?_⟩
    have hp3:=s3 _ _ hp
    rcases List.mem_append.mp hx with hx | hx
    ·exact((wx x hx).mono s3).put hp3
    ·rw[List.mem_singleton.mp hx]
     exact WT.put hp3 ⟨p1,w,t,rfl,e3,w0,t0,t1⟩
   have go:∀w:Int,(1≤w∧w≤200000)→tyV K "list" (V.ref p) H2∧IntMulOk 29 (0+ (i:Int))∧0<n∧∀t,0≤t→t<n→2≤sizeLine∧∀p1 H3,Same H2 H3→H2 p1=none→H3 p1=some (.tup [.int w,.int t])→rAppend (V.ref p) [V.ref p1] H3 fun _ H'=>Same H H'∧∃xs',H' p=some (.lst xs')∧xs'.length=i+1∧(∀x∈xs',WT H' n x)∧∃x,some (V.int w)=x:=fun w w0=>
    ⟨.inl ⟨rfl,_,SqL.of hp⟩,mulOkL,by omega,fun t t0 t1=>⟨by decide,fun p1 H3 s3 n3 e3=>⟨p,xs,_,rfl,rfl,s3 _ _ hp,sz,let ⟨a,xs',b,c,d⟩:=fin w t p1 H3 s3 n3 e3 w0 t0 t1;⟨a,xs',b,c,d,_,rfl⟩⟩⟩⟩
   refine⟨mulOkL,by decide,fun r r0 r1=>⟨by decide,fun r2 _ _=>ite2 (fun _=>⟨mulOkL,by decide,fun r3 r30 r31=>?_⟩) (fun _=>?_)⟩⟩
   ·exact go _ ⟨by omega,by omega⟩
   ·exact go _ ⟨by omega,by omega⟩
  ·intro σ H1 p2_
   refine(?_:let G_:Prop:=_;G_)
   intro G_
   obtain⟨sm,xs,z4,z5,hp,lx,wx,rfl⟩:=p2_
   dsimp only[G_]
   simp_all only[spMix,rIns,tBM]
   have sz:xs.length<sizeLine:=by rw[sizeLine_eq];omega
   refine⟨by decide,fun w w0 w1=>⟨k0,fun t t0 t1=>⟨by decide,fun p1 H2 s2 n2 e2=>?_⟩⟩⟩
   have hp2:=s2 _ _ hp
   refine⟨.inl ⟨rfl,_,SqL.of hp2⟩,xs,hp2,by omega,fun r r0 r1=>⟨xs,hp2,r0,by omega,sz,kk p _ _ (same_upd_of (sm.trans s2) np) upd_same (fun x hx=>?_) ⟨_,List.mem_append_right _ List.mem_cons_self,WT.put hp2 ⟨p1,_,t,rfl,e2,⟨by omega,by omega⟩,t0,t1⟩⟩ (by rw[List.length_append,List.length_cons];omega) (by simp;omega)⟩⟩
   rcases List.mem_append.mp hx with hx | hx
   ·exact((wx x (List.mem_of_mem_take hx)).mono s2).put hp2
   ·rcases List.mem_cons.mp hx with rfl | hx
    ·exact WT.put hp2 ⟨p1,_,t,rfl,e2,⟨by omega,by omega⟩,t0,by omega⟩
    ·exact((wx x (List.mem_of_mem_drop hx)).mono s2).put hp2
theorem sc__law_copy:FnScope ["_law_board_here","_law_found","_law_what"] ["_law_board_here"] (defScope (top 48)):=⟨rfl,rfl,rfl,by decide +kernel,rfl,by decide +kernel,by decide +kernel⟩
theorem ok_cpy (T:Txt K mg q_Book tc):Cal P w K mg base (CX1 P w) 1 "_law_copy" ["_law_board_here"] spCpy:=by
 refine T.d__law_copy.cal (fun _ _ _ _ _ _=>us_1 fun _=>rfl) fun f fd F=>F.okC sc__law_copy (fun vs H Q E h=>?_) (fun cdv A outer s H vs Q E hr h=>?_)
 ·obtain⟨_,_,rfl,_⟩:=h;rfl
 ·refine(?_:let G_:Prop:=_;G_)
  intro G_
  obtain⟨a,b,rfl,rb,bl,kk⟩:=h
  dsimp only[G_]
  have nd:=sc__law_copy.nd
  refine⟨_,(pss_cons (ps_set (i:=1) nd rfl (Or.inl rfl) (pe_lst pa_nil))
  (pss_cons (ps_for PassesOwn.never rfl (pi_listK (K:=K) (pv 0)) (pg_name (i:=2) nd rfl (Or.inl rfl)) (pss_one (ps_if (pt_cmpR op_eq (pe_ix ix_tupH (pv 2) pe_int (fun _ _=>rfl)) pe_str (nomark _)) (pss_one (ps_expr (pe_bm PySem.F.plainAttrs_list PySem.F.slot_list_append PySem.F.type_list_append mt_append.r (pv 1) (pa_cons (pv 2) pa_nil (se rfl)))))
   (pss_one (ps_expr (pe_bm PySem.F.plainAttrs_list PySem.F.slot_list_append PySem.F.type_list_append mt_append.r (pv 1) (pa_cons (pe_tupS (pa_cons (pe_ix ix_tupH (pv 2) pe_int (fun _ _=>rfl)) (pa_cons (pe_ix ix_tupH (pv 2) pe_int (fun _ _=>rfl)) (pa_cons (pe_callTy (call_list_ofK (K:=K)) (by rfl) T.z_list rfl (pa_cons (pe_ix ix_tupH (pv 2) pe_int (fun _ _=>rfl)) pa_nil (se rfl)) (he:=se rfl) (hpl:=na rfl)) pa_nil (se rfl)) (se rfl)) (se rfl))) pa_nil (se rfl))))))))
  (pss_one (ps_ret (pv 1))))),?_⟩
  refine(?_:let q0_:TS:=_;let q1_:TS:=_;let q2_:TS:=_;tSeq q0_ (tSeq q1_ q2_) _ _ _)
  intro q0_ q1_ q2_
  refine(?_:let G_:Prop:=_;G_)
  intro G_
  obtain⟨_,xs,e,ha,rl⟩:=rep_lst.mp rb
  dsimp only[G_]
  cases e
  have lx:=rl.length
  rw[List.length_map] at lx
  simp_all only[]
  refine⟨Nat.zero_le _,fun p np=>?_⟩
  have s0:=same_upd (o:=.lst []) np
  refine⟨⟨_,SqL.of (s0 _ _ ha)⟩,for_src (src_list (Ok:=Same H) (fun H2 s2=>SqL.of (s2 _ _ ha)))
   (fun i σ H'=>Same H H'∧∃ys z2,H' p=some (.lst ys)∧RepL (hid H' p) ((b.take i).map plD) ys∧σ=[some (V.ref a),some (V.ref p),z2])
   ⟨s0,[],_,upd_same,by simp [RepL],rfl⟩ (fun _ _ _ _ h=>h.1) ?_ ?_⟩
  ·intro i v σ H1 H2 hi p6_ p7_
   refine(?_:let G_:Prop:=_;G_)
   intro G_
   obtain⟨sm,ys,z2,hp,ry,rfl⟩:=p6_
   obtain⟨rfl,ex⟩:=p7_
   obtain⟨q,eq,rq⟩:=rep_br_get rl ex
   dsimp only[G_]
   have ly:=ry.length
   rw[List.length_map,List.length_take] at ly
   have tk:b.take (i+1)=b.take i++ [q]:=by rw[List.take_add_one,eq];rfl
   have sz:ys.length<sizeLine:=by rw[sizeLine_eq];omega
   have fin:∀H3 v',Same H2 H3→Rep (hid H3 p) (plD q) v'→Same H (upd H3 p (.lst (ys++ [v'])))∧∃ys',upd H3 p (.lst (ys++ [v'])) p=some (.lst ys')∧RepL (hid (upd H3 p (.lst (ys++ [v']))) p) ((b.take (i+1)).map plD) ys'∧∃x,some v=x:=fun H3 v' s3 r3=>by
    refine⟨same_upd_of (sm.trans s3) np,_,upd_same,?_,_,rfl⟩
    rw[tk,List.map_append,List.map_cons,List.map_nil]
    exact rep_push (ry.mono (hid_mono s3)) r3
   have rx:=rq.mono sm
   cases q with
   | fin w=>
    refine(?_:let G_:Prop:=_;G_)
    intro G_
    obtain⟨t',r,rfl,ht',_⟩:=rep_fin.mp rx
    dsimp only[G_]
    simp_all only[ht',rAppend,tBM]
    exact⟨.inl ⟨rfl,_,SqL.of hp⟩,_,hp,sz,fin H2 _ (Same.refl _) (rq.mono (same_hid sm np))⟩
   | thr w ws=>
    refine(?_:let G_:Prop:=_;G_)
    intro G_
    obtain⟨t',r,l,zs,rfl,ht0,hr',hl0,rz⟩:=rep_thr.mp rq
    dsimp only[G_]
    have ht':=sm _ _ ht0
    have hl':=sm _ _ hl0
    simp_all only[ht']
    rw[if_neg (by decide +kernel)]
    simp_all only[rAppend,tBM,ht']
    refine⟨.inl ⟨rfl,_,SqL.of hp⟩,_,.inl (SqL.of hl'),fun m nm=>⟨by decide,fun u H4 s4 nu eu=>?_⟩⟩
    have s3:=(same_upd (o:=.lst zs) nm).trans s4
    have np3:m≠p:=fun z=>by rw[z,hp] at nm;cases nm
    have np4:u≠p:=fun z=>by rw[z,same_upd (o:=.lst zs) nm _ _ hp] at nu;cases nu
    have sh:=same_hid (sm.trans s3) np
    exact⟨_,s3 _ _ hp,sz,fin H4 _ s3 (rep_thr.mpr ⟨u,r,m,zs,rfl,by rw[hid_ne np4];exact eu,sh _ _ hr',by rw[hid_ne np3];exact s4 _ _ upd_same,rz.mono sh⟩)⟩
   | pck w to=>
    refine(?_:let G_:Prop:=_;G_)
    intro G_
    obtain⟨t',l,rfl,ht',hl'⟩:=rep_pck.mp rx
    dsimp only[G_]
    simp_all only[ht']
    rw[if_neg (by decide +kernel)]
    simp_all only[rAppend,tBM,ht']
    refine⟨.inl ⟨rfl,_,SqL.of hp⟩,_,.inl (SqL.of hl'),fun m nm=>⟨by decide,fun u H4 s4 nu eu=>?_⟩⟩
    have s3:=(same_upd (o:=.lst (List.map V.int to)) nm).trans s4
    have np3:m≠p:=fun z=>by rw[z,hp] at nm;cases nm
    have np4:u≠p:=fun z=>by rw[z,same_upd (o:=.lst (List.map V.int to)) nm _ _ hp] at nu;cases nu
    exact⟨_,s3 _ _ hp,sz,fin H4 _ s3 (rep_pck.mpr ⟨u,m,rfl,by rw[hid_ne np4];exact eu,by rw[hid_ne np3];exact s4 _ _ upd_same⟩)⟩
  ·intro σ H1 p2_
   refine(?_:let G_:Prop:=_;G_)
   intro G_
   obtain⟨sm,ys,z2,hp,ry,rfl⟩:=p2_
   dsimp only[G_]
   simp_all only[]
   refine kk p H1 sm np (rep_lst.mpr ⟨p,ys,rfl,hp,?_⟩)
   have:=ry.mono hid_sub
   rw[List.take_of_length_le (by omega)] at this
   exact this
theorem sc__law_board:FnScope ["_law_script","_law_at","_law_n","_law_turned_here","_law_board_here","_law_k","_law_cell_here","_law_kind","_law_ways_here"] ["_law_script","_law_at","_law_n"] (defScope (top 46)):=⟨rfl,rfl,rfl,by decide +kernel,rfl,by decide +kernel,by decide +kernel⟩
theorem ok_brd (T:Txt K mg q_Book tc):Cal P w K mg base (CX1 P w) 3 "_law_board" ["_law_script","_law_at","_law_n"] (spBrd K):=by
 have c__law_cell:Cal P w K mg base (CX1 P w) 1 "_law_cell" ["_law_script","_law_k"] (spC K):=ok_cell T
 have c__law_mixed:Cal P w K mg base (CX1 P w) 1 "_law_mixed" ["_law_cell_here","_law_many"] spMix:=ok_mix T
 have c__law_share:Cal P w K mg base (CX1 P w) 2 "_law_share" ["_law_cell_here","_law_k"] spShr:=ok_shr T
 have c__law_turned:Cal P w K mg base (CX1 P w) 2 "_law_turned" ["_law_cell_here","_law_n"] spTrn:=ok_trn T
 have c__law_throw:Cal P w K mg base (CX1 P w) 2 "_law_throw" ["_law_cell_here","_law_k","_law_n"] spThr:=ok_thr T
 refine T.d__law_board.cal (fun _ _ _ _ _ _=>us_3 fun _ _ _=>rfl) fun f fd F=>F.okC sc__law_board (fun vs H Q E h=>?_) (fun cdv A outer s H vs Q E hr h=>?_)
 ·obtain⟨_,_,_,rfl,_⟩:=h;rfl
 ·refine(?_:let G_:Prop:=_;G_)
  intro G_
  obtain⟨a,ns,n,rfl,hS,n0,n8,kk⟩:=h
  dsimp only[G_]
  clear G_
  have nd:=sc__law_board.nd
  refine⟨_,(pss_cons (ps_set (i:=3) nd rfl (Or.inr rfl) (pe_cal c__law_turned (hr.mono (by decide)) rfl strictP.pass (pa_cons (pe_cal c__law_cell (hr.mono (by decide)) rfl strictP.pass (pa_cons (pv 0) (pa_cons (pv 1) pa_nil (se rfl)) (se rfl)) (he:=se rfl) (hpl:=na rfl)) (pa_cons (pv 2) pa_nil (se rfl)) (se rfl)) (he:=se rfl) (hpl:=na rfl)))
  (pss_cons (ps_setC (i:=4) rfl nd rfl rfl (N:=["_law_script","_law_at","_law_n","_law_turned_here","_law_board_here","_law_k","_law_cell_here","_law_kind","_law_ways_here"]) (so:=defScope (top 46)) (N':=["_law_place"]) (k:=1) (fr:=[]) rfl rfl ⟨rfl,by decide +kernel,by decide +kernel,by decide +kernel,rfl,by decide +kernel,by decide +kernel⟩ (pi_listK (K:=K) (pv 3)) (fun _ _ _ _ _=>(pg_name (i:=0) (show(["_law_place"]:List Str).Nodup by decide +kernel) rfl (Or.inl rfl))) (fun _ _ _ _ _=>pts_nil)
   (fun _ _ _ _ _=>pe_non))
  (pss_cons (ps_for PassesOwn.never rfl (pi_range1 rfl T.z_range (pa_cons (pv 2) pa_nil (se rfl))) (pg_name (i:=5) nd rfl (Or.inr rfl)) (pss_cons (ps_set (i:=6) nd rfl (Or.inr rfl) (pe_cal c__law_cell (hr.mono (by decide)) rfl strictP.pass (pa_cons (pv 0) (pa_cons (pe_op op_add (pe_op op_add (pv 1) pe_int) (pv 5)) pa_nil (se rfl)) (se rfl)) (he:=se rfl) (hpl:=na rfl)))
  (pss_cons (ps_set (i:=7) nd rfl (Or.inl rfl) (pe_cal c__law_mixed (hr.mono (by decide)) rfl strictP.pass (pa_cons (pe_op op_add (pv 6) pe_int) (pa_cons pe_int pa_nil (se rfl)) (se rfl)) (he:=se rfl) (hpl:=na rfl)))
  (pss_one (ps_if (PW.pt (pw_or (pt_cmpR op_eq (pv 5) pe_int (nomark _)) (pw_or1 (pt_cmpR op_eq (pv 7) pe_int (nomark _))))) (pss_one (ps_asg (pe_tupS (pa_cons pe_str (pa_cons (pe_cal c__law_share (hr.mono (by decide)) rfl strictP.pass (pa_cons (pv 6) (pa_cons (pv 5) pa_nil (se rfl)) (se rfl)) (he:=se rfl) (hpl:=na rfl)) pa_nil (se rfl)) (se rfl))) (pg_sub (pv 4) (pe_ix ix_listH (pv 3) (pv 5) (fun _ _=>rfl)) set_list)))
   (pss_one (ps_if (pt_cmpR op_lt (pv 7) pe_int (nomark _)) (pss_cons (ps_setC (i:=8) rfl nd rfl rfl (N:=["_law_script","_law_at","_law_n","_law_turned_here","_law_board_here","_law_k","_law_cell_here","_law_kind","_law_ways_here"]) (so:=defScope (top 46)) (N':=["_law_weight","_law_to","_law_turned_here"]) (k:=2) (fr:=[3]) rfl rfl ⟨rfl,by decide +kernel,by decide +kernel,by decide +kernel,rfl,by decide +kernel,by decide +kernel⟩ (pi_listK (K:=K) (pe_cal c__law_throw (hr.mono (by decide)) rfl strictP.pass (pa_cons (pv 6) (pa_cons (pv 5) (pa_cons (pv 2) pa_nil (se rfl)) (se rfl)) (se rfl)) (he:=se rfl) (hpl:=na rfl))) (fun _ _ _ _ _=>(pg_tupK (K:=K) (n:=2) rfl (pgs_cons (pg_name (i:=0) (show(["_law_weight","_law_to","_law_turned_here"]:List Str).Nodup by decide +kernel) rfl (Or.inl rfl)) (pgs_cons (pg_name (i:=1) (show(["_law_weight","_law_to","_law_turned_here"]:List Str).Nodup by decide +kernel) rfl (Or.inl rfl)) pgs_nil)))) (fun _ _ _ _ _=>pts_nil)
   (fun _ _ _ _ _=>(pe_tupS (pa_cons (pv 0) (pa_cons (pe_ix ix_listH (pv 2) (pv 1) (fun _ _=>rfl)) pa_nil (se rfl)) (se rfl)))))
  (pss_one (ps_asg (pe_tupS (pa_cons pe_str (pa_cons (pe_cal c__law_share (hr.mono (by decide)) rfl strictP.pass (pa_cons (pv 6) (pa_cons (pv 5) pa_nil (se rfl)) (se rfl)) (he:=se rfl) (hpl:=na rfl)) (pa_cons (pv 8) pa_nil (se rfl)) (se rfl)) (se rfl))) (pg_sub (pv 4) (pe_ix ix_listH (pv 3) (pv 5) (fun _ _=>rfl)) set_list))))
   (pss_cons (ps_setC (i:=8) rfl nd rfl rfl (N:=["_law_script","_law_at","_law_n","_law_turned_here","_law_board_here","_law_k","_law_cell_here","_law_kind","_law_ways_here"]) (so:=defScope (top 46)) (N':=["_law_j","_law_turned_here","_law_k","_law_cell_here"]) (k:=1) (fr:=[3,5,6]) rfl rfl ⟨rfl,by decide +kernel,by decide +kernel,by decide +kernel,rfl,by decide +kernel,by decide +kernel⟩ (pi_range1 rfl T.z_range (pa_cons (pe_op op_add pe_int (pe_cal c__law_mixed (hr.mono (by decide)) rfl strictP.pass (pa_cons (pe_op op_add (pv 6) pe_int) (pa_cons pe_int pa_nil (se rfl)) (se rfl)) (he:=se rfl) (hpl:=na rfl))) pa_nil (se rfl))) (fun _ _ _ _ _=>(pg_name (i:=0) (show(["_law_j","_law_turned_here","_law_k","_law_cell_here"]:List Str).Nodup by decide +kernel) rfl (Or.inl rfl))) (fun _ _ _ _ _=>pts_nil)
   (fun _ _ _ _ _=>(pe_ix ix_listH (pv 1) (pe_cal c__law_mixed (hr.mono (by decide)) rfl strictP.pass (pa_cons (pe_op op_add (pv 3) (pe_op op_mulB pe_int (pv 0))) (pa_cons (pv 2) pa_nil (se rfl)) (se rfl)) (he:=se rfl) (hpl:=na rfl)) (fun _ _=>rfl))))
  (pss_one (ps_asg (pe_tupS (pa_cons pe_str (pa_cons (pe_op op_add pe_int (pe_cal c__law_mixed (hr.mono (by decide)) rfl strictP.pass (pa_cons (pe_op op_add (pv 6) pe_int) (pa_cons pe_int pa_nil (se rfl)) (se rfl)) (he:=se rfl) (hpl:=na rfl))) (pa_cons (pv 8) pa_nil (se rfl)) (se rfl)) (se rfl))) (pg_sub (pv 4) (pe_ix ix_listH (pv 3) (pv 5) (fun _ _=>rfl)) set_list)))))))))))
  (pss_one (ps_ret (pv 4)))))),?_⟩
  refine(?_:let q0_:TS:=_;let q1_:TS:=_;let q2_:TS:=_;let q3_:TS:=_;tSeq q0_ (tSeq q1_ (tSeq q2_ q3_)) _ _ _)
  intro q0_ q1_ q2_ q3_
  simp_all only[spC,spTrn]
  refine⟨ns,hS,by decide,by decide,fun c=>⟨by omega,by omega,fun l H1 sg s1 nl hl pm=>⟨⟨_,SqL.of hl⟩,?_⟩⟩⟩
  rw[Int.toNat_natCast] at pm
  have sl:sg.length=n:=by rw[pm.length_eq,List.length_range]
  subst sl
  refine comp_map (src_list (Ok:=Same H1) (fun H' s'=>SqL.of (s' _ _ hl))) (fun _ _ _ _ h=>by rw[h.1];exact Same.refl _) (by rw[sizeLine_eq,List.length_map];omega) (fun i y H4=>y=.non) (fun i y H4 H5 s5 h=>h) ?_ ?_
  ·rintro i x w0 H4 H5 Q2 hi s4 ⟨rfl,ex⟩ kq
   simp_all only[]
   exact kq _ _ (Same.refl _) rfl
  intro ys H2 s2 ly hy m n1 n2
  rw[List.length_map] at ly
  have s3:Same H1 (upd H2 m (.lst ys)):=s2.trans (same_upd n2)
  have nm:H m=none:=none_of (s1.trans s2) n2
  have hm3:(upd H2 m (.lst ys)) m=some (.lst ys):=upd_same
  generalize upd H2 m (.lst ys)=H3 at *
  refine⟨by omega,by omega,for_src (src_range (Ok:=fun _=>True)) (fun i σ H'=>Same H1 H'∧∃xs z5 z6 z7 z8,H' m=some (.lst xs)∧xs.length=sg.length∧(∃qs:Nat→Pl,∀j k,j<i→sg[j]?=some k→LdOk sg j (qs k)∧∃v,xs[k]?=some v∧Rep (hid H' m) (plD (qs k)) v)∧σ=[some (V.ref a),some (V.int 2),some (V.int (sg.length:Int)),some (V.ref l),some (V.ref m),z5,z6,z7,z8])
   ⟨s3,ys,_,_,_,_,hm3,by omega,⟨fun _=>.fin (0,1),fun j k hj=>absurd hj (Nat.not_lt_zero _)⟩,rfl⟩ (fun _ _ _ _ _=>trivial) ?_ ?_⟩
  ·intro i x σ H4 H5 hi p6_ p7_
   refine(?_:let G_:Prop:=_;G_)
   intro G_
   obtain⟨s4,xs,z5,z6,z7,z8,hm,lx,⟨qs,gx⟩,rfl⟩:=p6_
   obtain⟨rfl,rfl⟩:=p7_
   dsimp only[G_]
   have hi:i<sg.length:=by have:i< ((sg.length:Nat):Int).toNat:=hi;omega
   obtain⟨k,hk⟩:∃k,sg[i]?=some k:=⟨_,List.getElem?_eq_getElem hi⟩
   have kn:k<sg.length:=List.mem_range.mp (pm.mem_iff.mp (List.mem_of_getElem? hk))
   have at_:∀t:Int,0≤t→t< (sg.length:Int)→∃k':Nat,k'<sg.length∧sg[t.toNat]?=some k'∧atI (List.map natV sg) t=some (V.int (k':Int)):=fun t t0 t1=>by
    obtain⟨j,rfl⟩:=Int.eq_ofNat_of_zero_le t0
    obtain⟨k',hk'⟩:∃k',sg[j]?=some k':=⟨_,List.getElem?_eq_getElem (by omega)⟩
    exact⟨k',List.mem_range.mp (pm.mem_iff.mp (List.mem_of_getElem? hk')),by rw[Int.toNat_natCast];exact hk',atI_pl (f:=natV) hk'⟩
   have ak:atI (List.map natV sg) ((0:Int)+ (i:Int))=some (V.int (k:Int)):=by rw[Int.zero_add];exact atI_pl (f:=natV) hk
   have kx:ixN xs.length (k:Int)=some k:=by
    unfold ixN
    rw[if_pos (by omega),if_pos (by omega)]
    simp
   have hl4:=s4 _ _ hl
   have fin:∀H6 v q,Same H5 H6→Rep (hid H6 m) (plD q) v→LdOk sg i q→Same H1 (upd H6 m (.lst (xs.set k v)))∧∃xs',upd H6 m (.lst (xs.set k v)) m=some (.lst xs')∧xs'.length=sg.length∧(∃qs:Nat→Pl,∀j k',j<i+1→sg[j]?=some k'→LdOk sg j (qs k')∧∃v',xs'[k']?=some v'∧Rep (hid (upd H6 m (.lst (xs.set k v))) m) (plD (qs k')) v'):=fun H6 v q s6 r6 g6=>by
    have sh:Same (hid H6 m) (hid (upd H6 m (.lst (xs.set k v))) m):=same_hid hid_upd (if_pos rfl)
    refine⟨same_upd_of (s4.trans s6) (none_of s2 n2),_,upd_same,by rw[List.length_set];exact lx,fun k'=>if k'=k then q else qs k',fun j k' hj hk'=>?_⟩
    by_cases ck:k'=k
    ·subst ck
     have ji:j=i:=Lv.nm_inj pm hk' hk
     subst ji
     dsimp only
     rw[if_pos rfl]
     exact⟨g6,v,by rw[List.getElem?_set_self (by omega)],r6.mono sh⟩
    ·have:j<i:=by
      by_cases cj:j=i
      ·subst cj
       rw[hk] at hk'
       cases hk'
       exact absurd rfl ck
      ·omega
     dsimp only
     rw[if_neg ck]
     refine(?_:let G_:Prop:=_;G_)
     intro G_
     obtain⟨g',v',e',r'⟩:=gx j k' this hk'
     dsimp only[G_]
     exact⟨g',v',by rw[List.getElem?_set_ne (Ne.symm ck)];exact e',(r'.mono (hid_mono s6)).mono sh⟩
   have nmp:∀{H6:Hp} {p:Addr},Same H5 H6→H6 p=none→p≠m:=fun s6 np z=>by rw[z,s6 _ _ hm] at np;cases np
   simp_all only[spC,spMix,spShr,spThr]
   refine⟨ns,(s1.trans s4).seq hS,by omega,by omega,fun cc=>⟨by decide,fun kd kd0 kd1=>?_⟩⟩
   have hi':(0:Int)+ (i:Int)< (sg.length:Int):=by omega
   have fe:∀(p:Addr) (H':Hp) (a:Int×Int),Same H5 H'→H5 p=none→H' p=some (HO.tup [V.int a.fst,V.int a.snd])→GS a→∀(p1:Addr) (H6:Hp),Same H' H6→H' p1=none→H6 p1=some (HO.tup [V.str (Str.ofString "end"),V.ref p])→Rep (hid H6 m) (plD (.fin a)) (.ref p1):=fun p H' a s' n' e' _ p1 H6 s6 n6 e6=>by
    refine rep_fin.mpr ⟨p1,p,rfl,?_,?_⟩
    ·rw[hid_ne (nmp s' n6)];exact e6
    ·rw[hid_ne (nmp (Same.refl _) n')];exact s6 _ _ e'
   refine ite2 (fun _=>?_) (fun c0=>ite2 (fun _=>?_) (fun _=>ite2 (fun _=>?_) (fun _=>?_)))
   ·refine⟨by omega,by omega,fun p H6 w s6 n6 e6 g6=>⟨by decide,fun p1 H7 s7 n7 e7=>?_⟩⟩
    refine(?_:let G_:Prop:=_;G_)
    intro G_
    obtain⟨x1,x2,x3,x4,x5⟩:=fin H7 (.ref p1) (.fin w) (s6.trans s7) (fe p H6 w s6 n6 e6 g6 p1 H7 s7 n7 e7) ⟨g6,trivial⟩
    dsimp only[G_]
    exact⟨_,(s6.trans s7) _ _ hl4,_,ak,_,_,rfl,(s6.trans s7) _ _ hm,k,kx,x1,x2,x3,x4,x5,_,rfl⟩
   ·refine⟨by omega,by omega,fun p H6 w s6 n6 e6 g6=>⟨by decide,fun p1 H7 s7 n7 e7=>?_⟩⟩
    refine(?_:let G_:Prop:=_;G_)
    intro G_
    obtain⟨x1,x2,x3,x4,x5⟩:=fin H7 (.ref p1) (.fin w) (s6.trans s7) (fe p H6 w s6 n6 e6 g6 p1 H7 s7 n7 e7) ⟨g6,trivial⟩
    dsimp only[G_]
    exact⟨_,(s6.trans s7) _ _ hl4,_,ak,_,_,rfl,(s6.trans s7) _ _ hm,k,kx,x1,x2,x3,x4,x5,_,rfl⟩
   ·refine⟨by omega,hi',fun t H6 ts s6 e6 w6 sure l0 l6=>⟨⟨_,SqL.of e6⟩,?_⟩⟩
    have hl6:=s6 _ _ hl4
    refine(?_:let G_:Prop:=_;G_)
    intro G_
    obtain⟨x0,hx0,wt0⟩:=sure
    dsimp only[G_]
    obtain⟨i0,ei0⟩:=List.getElem?_of_mem hx0
    refine comp_map2 (K:=K) (src_list (Ok:=Same H6) (fun H' s'=>SqL.of (s' _ _ e6))) (fun j a b H3=>∃w t,a=.int w∧b=.int t∧(1≤w∧w≤200000)∧0≤t∧t< (sg.length:Int)∧(j=i0→t< (i:Int))) (fun j x H7 H8 hj s7 ⟨e,ex⟩=>?_) (by rw[sizeLine_eq];omega) (fun j y H7=>∃q:Int×Int,Rep H7 (wrowD q) y∧(1≤q.1∧q.1≤200000∧0≤q.2∧q.2< (sg.length:Int))∧(j=i0→∃j',j'<i∧sg[j']?=some q.2.toNat)) (fun j y H7 H8 s8 ⟨q,r,z⟩=>⟨q,r.mono s8,z⟩) ?_ ?_
    ·subst e
     refine(?_:let G_:Prop:=_;G_)
     intro G_
     obtain⟨q,w,t',rfl,hq,w0,t0,t1⟩:=w6 x (List.mem_of_getElem? ex)
     dsimp only[G_]
     refine⟨Same.refl _,q,_,_,rfl,SqT.of (s7 _ _ hq),w,t',rfl,rfl,w0,t0,t1,fun z=>?_⟩
     subst z
     rw[ei0] at ex
     cases ex
     refine(?_:let G_:Prop:=_;G_)
     intro G_
     obtain⟨q2,w2,t2,e2,hq2,_,_,t12⟩:=wt0
     dsimp only[G_]
     cases e2
     rw[hq] at hq2
     cases hq2
     omega
    ·intro j a b H7 Q7 hj s7 p7_ kq
     refine(?_:let G_:Prop:=_;G_)
     intro G_
     obtain⟨w,t',rfl,rfl,w0,t0,t1,t2⟩:=p7_
     obtain⟨k',k1',e1',ek'⟩:=at_ t' t0 t1
     dsimp only[G_]
     simp_all only[s7 _ _ hl6,ek']
     exact⟨by decide,fun q H8 s8 n8 e8=>kq _ _ s8 ⟨(w,(k':Int)),rep_wrow.mpr ⟨q,rfl,e8⟩,⟨w0.1,w0.2,by show(0:Int)≤(k':Int);omega,by show(k':Int)< (sg.length:Int);omega⟩,fun z=>⟨t'.toNat,by have:=t2 z;omega,e1'⟩⟩⟩
    ·intro us H7 s7 lu hu D n8 n9
     refine(?_:let G_:Prop:=_;G_)
     intro G_
     obtain⟨ws,rw',lw,gws⟩:=ex_repL (f:=wrowD) (P:=fun j (q:Int×Int)=>(1≤q.1∧q.1≤200000∧0≤q.2∧q.2< (sg.length:Int))∧(j=i0→∃j',j'<i∧sg[j']?=some q.2.toNat)) (H:=H7) (xs:=us) fun j x ex=>hu j x ex
     dsimp only[G_]
     refine⟨by omega,by omega,fun p H9 w s9 n10 e9 g9=>⟨by decide,fun p1 H10 s10 n11 e10=>?_⟩⟩
     have s59:=s6.trans (s7.trans ((same_upd (o:=.lst us) n9).trans s9))
     have s510:=s59.trans s10
     have mD:D≠m:=nmp (s6.trans s7) n9
     have mp:p≠m:=nmp (s6.trans (s7.trans (same_upd (o:=.lst us) n9))) n10
     have mp1:p1≠m:=nmp s59 n11
     have rm:RepL (hid H10 m) (ws.map wrowD) us:=by
      refine repL_map lw.symm fun j y ey q eq=>?_
      refine(?_:let G_:Prop:=_;G_)
      intro G_
      obtain⟨d,ed,rd⟩:=rw'.get ey
      dsimp only[G_]
      rw[List.getElem?_map,eq] at ed
      cases ed
      refine(?_:let G_:Prop:=_;G_)
      intro G_
      obtain⟨tt,rfl,htt⟩:=rep_wrow.mp rd
      dsimp only[G_]
      refine rep_wrow.mpr ⟨tt,rfl,?_⟩
      have h1:=(s6.trans s7) _ _ hm
      rw[hid_ne (fun z=>by rw[z,h1] at htt;cases htt)]
      exact s10 _ _ (s9 _ _ (same_upd n9 _ _ htt))
     have li:i0<ws.length:=by have:=(List.getElem?_eq_some_iff.mp ei0).1;omega
     have ld:LdOk sg i (.thr w ws):=by
      refine⟨⟨g9,by omega,by omega,fun x hx=>?_⟩,ws[i0],List.getElem_mem li,(gws i0 _ (List.getElem?_eq_getElem li)).2 rfl⟩
      obtain⟨j,ej⟩:=List.getElem?_of_mem hx
      exact(gws j x ej).1
     obtain⟨x1,x2,x3,x4,x5⟩:=fin H10 (.ref p1) (.thr w ws) s510 (rep_thr.mpr ⟨p1,p,D,us,rfl,by rw[hid_ne mp1];exact e10,by rw[hid_ne mp];exact s10 _ _ e9,by rw[hid_ne mD];exact s10 _ _ (s9 _ _ upd_same),rm⟩) ld
     exact⟨_,s510 _ _ hl4,_,ak,_,_,rfl,s510 _ _ hm,k,kx,x1,x2,x3,x4,x5,_,rfl⟩
   ·refine⟨by decide,fun r r0 r1=>⟨by omega,by omega,?_⟩⟩
    refine comp_map src_range (fun _ _ _ _ h=>by rw[h.1];exact Same.refl _) (by rw[sizeLine_eq];omega) (fun j y H4=>∃t,y=.int t∧0≤t∧t< (sg.length:Int)∧∃j',j'<i∧sg[j']?=some t.toNat) (fun i y H4 H5 s5 h=>h) ?_ ?_
    ·rintro j x w0 H6 H7 Q7 hj s6 ⟨rfl,rfl⟩ kq
     simp_all only[spMix,s6 _ _ hl4]
     refine⟨mulOkL,by omega,fun t t0 t1=>?_⟩
     refine(?_:let G_:Prop:=_;G_)
     intro G_
     obtain⟨k',k1,e1',ek'⟩:=at_ t t0 (by omega)
     dsimp only[G_]
     exact⟨_,ek',kq _ _ (Same.refl _) ⟨_,rfl,by omega,by omega,t.toNat,by omega,by rw[Int.toNat_natCast];exact e1'⟩⟩
    ·intro us H6 s6 lu hu D n8 n9
     obtain⟨to,rfl⟩:∃to:List Int,us=to.map V.int:=by
      refine⟨us.map fun v=>match v with | .int t=>t | _=>0,?_⟩
      rw[List.map_map]
      apply List.ext_getElem?
      intro j
      rw[List.getElem?_map]
      cases ej:us[j]? with
      | none=>rfl
      | some y=>
       refine(?_:let G_:Prop:=_;G_)
       intro G_
       obtain⟨t,rfl,_⟩:=hu j y ej
       dsimp only[G_]
       rfl
     refine⟨by decide,fun r' r0' r1'=>⟨by decide,fun p1 H7 s7 n10 e7=>?_⟩⟩
     have s57:=s6.trans ((same_upd (o:=.lst (List.map V.int to)) n9).trans s7)
     have mD:D≠m:=nmp s6 n9
     have mp1:p1≠m:=nmp (s6.trans (same_upd (o:=.lst (List.map V.int to)) n9)) n10
     rw[List.length_map] at lu
     have gt:∀g∈to,0≤g∧g< (sg.length:Int)∧∃j',j'<i∧sg[j']?=some g.toNat:=fun g hg=>by
      obtain⟨j,ej⟩:=List.getElem?_of_mem hg
      obtain⟨t,e,t0,t1,t2⟩:=hu j (.int g) (by rw[List.getElem?_map,ej];rfl)
      cases e
      exact⟨t0,t1,t2⟩
     obtain⟨x1,x2,x3,x4,x5⟩:=fin H7 (.ref p1) (.pck (1+r') to) s57 (rep_pck.mpr ⟨p1,D,rfl,by rw[hid_ne mp1];exact e7,by rw[hid_ne mD];exact s7 _ _ upd_same⟩) ⟨⟨by omega,by omega,by omega,fun g hg=>⟨(gt g hg).1,(gt g hg).2.1⟩⟩,fun g hg=>(gt g hg).2.2⟩
     exact⟨_,s57 _ _ hl4,_,ak,_,_,rfl,s57 _ _ hm,k,kx,x1,x2,x3,x4,x5,_,rfl⟩
  ·intro σ H4 p2_
   refine(?_:let G_:Prop:=_;G_)
   intro G_
   obtain⟨s4,xs,z5,z6,z7,z8,hm,lx,⟨qs,gx⟩,rfl⟩:=p2_
   dsimp only[G_]
   simp_all only[]
   have rng:∀x∈sg,x<sg.length:=fun x hx=>List.mem_range.mp (pm.mem_iff.mp hx)
   have lq:((List.range sg.length).map qs).length=sg.length:=by rw[List.length_map,List.length_range]
   refine kk m H4 ((List.range sg.length).map qs) _ (s1.trans s4) nm (rep_lst.mpr ⟨m,xs,rfl,hm,repL_map (by rw[lq];exact lx) fun p y ey q eq=>?_⟩) lq (bd_of pm n0 n8 lq fun k p q ek eq=>?_)
   ·have hp:p<sg.length:=by have:=(List.getElem?_eq_some_iff.mp ey).1;omega
    rw[List.getElem?_map,List.getElem?_range hp] at eq
    cases eq
    obtain⟨j,ej⟩:=List.getElem?_of_mem (pm.mem_iff.mpr (List.mem_range.mpr hp))
    obtain⟨_,v,ev,rv⟩:=gx j p (by have:=(List.getElem?_eq_some_iff.mp ej).1;simpa using this) ej
    rw[ey] at ev
    cases ev
    exact rv.mono hid_sub
   ·have hp:=rng p (List.mem_of_getElem? ek)
    rw[List.getElem?_map,List.getElem?_range hp] at eq
    cases eq
    exact(gx k p (by have:=(List.getElem?_eq_some_iff.mp ek).1;simpa using this) ek).1
theorem sc__law_picks:FnScope ["_law_board_here","_law_cell_here","_law_picks_here","_law_place"] ["_law_board_here","_law_cell_here"] (defScope (top 47)):=⟨rfl,rfl,rfl,by decide +kernel,rfl,by decide +kernel,by decide +kernel⟩
theorem ok_pck (T:Txt K mg q_Book tc):Cal P w K mg base (CX1 P w) 2 "_law_picks" ["_law_board_here","_law_cell_here"] spPck:=by
 have c__law_mixed:Cal P w K mg base (CX1 P w) 1 "_law_mixed" ["_law_cell_here","_law_many"] spMix:=ok_mix T
 refine T.d__law_picks.cal (fun _ _ _ _ _ _=>us_2 fun _ _=>rfl) fun f fd F=>F.okC sc__law_picks (fun vs H Q E h=>?_) (fun cdv A outer s H vs Q E hr h=>?_)
 ·obtain⟨_,_,_,rfl,_⟩:=h;rfl
 ·refine(?_:let G_:Prop:=_;G_)
  intro G_
  obtain⟨a,b,c,rfl,rb,l16,okb,kk⟩:=h
  dsimp only[G_]
  clear G_
  have nd:=sc__law_picks.nd
  refine⟨_,(pss_cons (ps_set (i:=2) nd rfl (Or.inl rfl) (pe_lst pa_nil))
  (pss_cons (ps_for PassesOwn.never rfl (pi_range1 rfl T.z_range (pa_cons (pe_callB call_lenL (by rfl) T.z_len PySem.boot_len (pa_cons (pv 0) pa_nil (se rfl)) (he:=se rfl) (hpl:=na rfl)) pa_nil (se rfl))) (pg_name (i:=3) nd rfl (Or.inl rfl)) (pss_one (ps_if (pt_cmpR op_eq (pe_ix ix_tupH (pe_ix ix_listH (pv 0) (pv 3) (fun _ _=>rfl)) pe_int (fun _ _=>rfl)) pe_str (nomark _)) (pss_one (ps_expr (pe_bm PySem.F.plainAttrs_list PySem.F.slot_list_append PySem.F.type_list_append mt_append.r (pv 2) (pa_cons (pe_cal c__law_mixed (hr.mono (by decide)) rfl strictP.pass (pa_cons (pe_op op_add (pv 1) (pe_op op_mulB pe_int (pv 3))) (pa_cons (pe_callB call_lenL (by rfl) T.z_len PySem.boot_len (pa_cons (pe_ix ix_tupH (pe_ix ix_listH (pv 0) (pv 3) (fun _ _=>rfl)) pe_int (fun _ _=>rfl)) pa_nil (se rfl)) (he:=se rfl) (hpl:=na rfl)) pa_nil (se rfl)) (se rfl)) (he:=se rfl) (hpl:=na rfl)) pa_nil (se rfl)))))
   (pss_one (ps_expr (pe_bm PySem.F.plainAttrs_list PySem.F.slot_list_append PySem.F.type_list_append mt_append.r (pv 2) (pa_cons pe_non pa_nil (se rfl))))))))
  (pss_one (ps_ret (pv 2))))),?_⟩
  refine(?_:let q0_:TS:=_;let q1_:TS:=_;let q2_:TS:=_;tSeq q0_ (tSeq q1_ q2_) _ _ _)
  intro q0_ q1_ q2_
  have sl:=sizeLine_eq
  refine(?_:let G_:Prop:=_;G_)
  intro G_
  obtain⟨_,xb,e,ha,rl⟩:=rep_lst.mp rb
  dsimp only[G_]
  clear G_
  cases e
  have lx:=rl.length
  rw[List.length_map] at lx
  simp_all only[]
  refine⟨Nat.zero_le _,fun p np=>?_⟩
  have s0:=same_upd (o:=.lst []) np
  refine⟨_,s0 _ _ ha,by omega,by omega,for_src (src_range (Ok:=fun _=>True)) (fun i σ H'=>Same H H'∧∃(ks:List (Option Int)) (z:Option V),H' p=some (.lst (ks.map pkV))∧ks.length=i∧(∀(j:Nat) q k,b[j]?=some q→ks[j]?=some k→PkO q k)∧σ=[some (.ref a),some (.int c),some (.ref p),z]) ⟨s0,[],_,upd_same,rfl,fun j q k _ e=>by simp at e,rfl⟩ (fun _ _ _ _ _=>trivial) ?_ ?_⟩
  ·intro i x σ H4 H5 hi p6_ p7_
   refine(?_:let G_:Prop:=_;G_)
   intro G_
   obtain⟨s4,ks,z,hp4,lk,okp,rfl⟩:=p6_
   obtain⟨rfl,rfl⟩:=p7_
   have hi':i<b.length:=by have:i< ((xb.length:Nat):Int).toNat:=hi;omega
   have eb:b[i]?=some b[i]:=List.getElem?_eq_getElem hi'
   obtain⟨v,ev,rv⟩:=rep_br_at rl eb
   dsimp only[G_]
   clear G_
   have pq:=okb _ (List.getElem_mem hi')
   have fin:∀r:Option Int,PkO b[i] r→Same H (upd H5 p (.lst (ks.map pkV++ [pkV r])))∧∃ks':List (Option Int),upd H5 p (.lst (ks.map pkV++ [pkV r])) p=some (.lst (ks'.map pkV))∧ks'.length=i+1∧(∀(j:Nat) q k,b[j]?=some q→ks'[j]?=some k→PkO q k):=fun r po=>by
    refine⟨same_upd_of s4 np,ks++ [r],by rw[upd_same,List.map_append];rfl,by rw[List.length_append,lk];rfl,fun j q k e1 e2=>?_⟩
    by_cases c:j<ks.length
    ·rw[List.getElem?_append_left c] at e2
     exact okp j q k e1 e2
    ·rw[List.getElem?_append_right (by omega)] at e2
     have:j - ks.length<1:=(List.getElem?_eq_some_iff.mp e2).1
     rw[show j - ks.length=0 by omega] at e2
     cases e2
     rw[show j=i by omega,eb] at e1
     cases e1
     exact po
   have lp:(ks.map pkV).length<sizeLine:=by rw[List.length_map];omega
   generalize hq:b[i]=q at *
   cases q with
   | fin g=>
    refine(?_:let G_:Prop:=_;G_)
    intro G_
    obtain⟨t,r,rfl,ht,_⟩:=rep_fin.mp rv
    dsimp only[G_]
    simp_all only[Int.zero_add,s4 _ _ ha,show atI xb (i:Int)=some (.ref t) from atI_nat ev,s4 _ _ ht,rAppend,tBM]
    rw[if_neg (by decide +kernel)]
    refine(?_:let G_:Prop:=_;G_)
    intro G_
    obtain⟨q1,q2,q3,q4,q5⟩:=fin none trivial
    dsimp only[G_]
    exact⟨.inl ⟨rfl,_,SqL.of hp4⟩,_,hp4,lp,q1,q2,q3,q4,q5,_,rfl⟩
   | thr g ws=>
    refine(?_:let G_:Prop:=_;G_)
    intro G_
    obtain⟨t,r,l',zs,rfl,ht,_⟩:=rep_thr.mp rv
    dsimp only[G_]
    simp_all only[Int.zero_add,s4 _ _ ha,show atI xb (i:Int)=some (.ref t) from atI_nat ev,s4 _ _ ht,rAppend,tBM]
    rw[if_neg (by decide +kernel)]
    refine(?_:let G_:Prop:=_;G_)
    intro G_
    obtain⟨q1,q2,q3,q4,q5⟩:=fin none trivial
    dsimp only[G_]
    exact⟨.inl ⟨rfl,_,SqL.of hp4⟩,_,hp4,lp,q1,q2,q3,q4,q5,_,rfl⟩
   | pck who to=>
    refine(?_:let G_:Prop:=_;G_)
    intro G_
    obtain⟨t,l',rfl,ht,hl'⟩:=rep_pck.mp rv
    dsimp only[G_]
    simp_all only[Int.zero_add,s4 _ _ ha,show atI xb (i:Int)=some (.ref t) from atI_nat ev,s4 _ _ ht,spMix,rAppend,tBM]
    have lt:=pq.2.1
    refine⟨.inl ⟨rfl,_,SqL.of hp4⟩,mulOkL,_,s4 _ _ hl',by rw[List.length_map];omega,fun r r0 r1=>?_⟩
    rw[List.length_map] at r1
    refine(?_:let G_:Prop:=_;G_)
    intro G_
    obtain⟨q1,q2,q3,q4,q5⟩:=fin (some r) ⟨r0,r1⟩
    dsimp only[G_]
    exact⟨_,hp4,lp,q1,q2,q3,q4,q5,_,rfl⟩
  ·intro σ H4 p2_
   refine(?_:let G_:Prop:=_;G_)
   intro G_
   obtain⟨s4,ks,z,hp4,lk,okp,rfl⟩:=p2_
   dsimp only[G_]
   simp_all only[]
   refine kk p H4 ks s4 np hp4 ⟨?_,okp⟩
   rw[Int.toNat_natCast] at lk
   omega
theorem sc__law_ways:FnScope ["_law_board_here","_law_picks_here","_law_place","_law_what","_law_total"] ["_law_board_here","_law_picks_here","_law_place"] (defScope (top 49)):=⟨rfl,rfl,rfl,by decide +kernel,rfl,by decide +kernel,by decide +kernel⟩
theorem ok_wy (T:Txt K mg q_Book tc):Cal P w K mg base (CX1 P w) 2 "_law_ways" ["_law_board_here","_law_picks_here","_law_place"] spWy:=by
 have c__law_low:Cal P w K mg base (CX1 P w) 1 "_law_low" ["_law_top","_law_bottom"] spLow:=ok_low T
 refine T.d__law_ways.cal (fun _ _ _ _ _ _=>us_3 fun _ _ _=>rfl) fun f fd F=>F.okC sc__law_ways (fun vs H Q E h=>?_) (fun cdv A outer s H vs Q E hr h=>?_)
 ·obtain⟨_,_,_,_,_,_,_,_,rfl,_⟩:=h;rfl
 ·refine(?_:let G_:Prop:=_;G_)
  intro G_
  obtain⟨a,c,i,b,n,q,ks,k,rfl,rb,eb,pq,hc,ek,po,kk⟩:=h
  dsimp only[G_]
  clear G_
  have nd:=sc__law_ways.nd
  refine⟨_,(pss_cons (ps_set (i:=3) nd rfl (Or.inl rfl) (pe_ix ix_listH (pv 0) (pv 2) (fun _ _=>rfl)))
  (pss_cons (ps_if (pt_cmpR op_eq (pe_ix ix_tupH (pv 3) pe_int (fun _ _=>rfl)) pe_str (nomark _)) (pss_cons (ps_set (i:=4) nd rfl (Or.inr rfl) (pe_callB (call_sum_lK (K:=K)) (by rfl) T.z_sum rfl (pa_cons (pe_comp rfl (N:=["_law_board_here","_law_picks_here","_law_place","_law_what","_law_total"]) (so:=defScope (top 49)) (N':=["_law_weight","_law_to"]) (k:=2) (fr:=[]) rfl rfl ⟨rfl,by decide +kernel,by decide +kernel,by decide +kernel,rfl,by decide +kernel,by decide +kernel⟩ (pi_listK (K:=K) (pe_ix ix_tupH (pv 3) pe_int (fun _ _=>rfl))) (fun _ _ _ _ _=>(pg_tupK (K:=K) (n:=2) rfl (pgs_cons (pg_name (i:=0) (show(["_law_weight","_law_to"]:List Str).Nodup by decide +kernel) rfl (Or.inl rfl)) (pgs_cons (pg_name (i:=1) (show(["_law_weight","_law_to"]:List Str).Nodup by decide +kernel) rfl (Or.inl rfl)) pgs_nil)))) (fun _ _ _ _ _=>pts_nil)
   (fun _ _ _ _ _=>(pv 0))) pa_nil (se rfl)) (he:=se rfl) (hpl:=na rfl)))
  (pss_one (ps_ret (pe_comp rfl (N:=["_law_board_here","_law_picks_here","_law_place","_law_what","_law_total"]) (so:=defScope (top 49)) (N':=["_law_weight","_law_to","_law_total"]) (k:=2) (fr:=[4]) rfl rfl ⟨rfl,by decide +kernel,by decide +kernel,by decide +kernel,rfl,by decide +kernel,by decide +kernel⟩ (pi_listK (K:=K) (pe_ix ix_tupH (pv 3) pe_int (fun _ _=>rfl))) (fun _ _ _ _ _=>(pg_tupK (K:=K) (n:=2) rfl (pgs_cons (pg_name (i:=0) (show(["_law_weight","_law_to","_law_total"]:List Str).Nodup by decide +kernel) rfl (Or.inl rfl)) (pgs_cons (pg_name (i:=1) (show(["_law_weight","_law_to","_law_total"]:List Str).Nodup by decide +kernel) rfl (Or.inl rfl)) pgs_nil)))) (fun _ _ _ _ _=>pts_nil)
   (fun _ _ _ _ _=>(pe_tupS (pa_cons (pe_cal c__law_low (hr.mono (by decide)) rfl strictP.pass (pa_cons (pv 0) (pa_cons (pv 2) pa_nil (se rfl)) (se rfl)) (he:=se rfl) (hpl:=na rfl)) (pa_cons (pv 1) pa_nil (se rfl)) (se rfl))))))))
   pss_nil)
  (pss_cons (ps_if (pt_cmpR op_eq (pe_ix ix_tupH (pv 3) pe_int (fun _ _=>rfl)) pe_str (nomark _)) (pss_one (ps_ret (pe_lst (pa_cons (pe_tupS (pa_cons (pe_tupS (pa_cons pe_int (pa_cons pe_int pa_nil (se rfl)) (se rfl))) (pa_cons (pe_ix ix_listH (pe_ix ix_tupH (pv 3) pe_int (fun _ _=>rfl)) (pe_ix ix_listH (pv 1) (pv 2) (fun _ _=>rfl)) (fun _ _=>rfl)) pa_nil (se rfl)) (se rfl))) pa_nil (se rfl)))))
   pss_nil)
  (pss_one (ps_ret (pe_lst pa_nil)))))),?_⟩
  refine(?_:let q0_:TS:=_;let q1_:TS:=_;let q2_:TS:=_;let q3_:TS:=_;tSeq q0_ (tSeq q1_ (tSeq q2_ q3_)) _ _ _)
  intro q0_ q1_ q2_ q3_
  refine(?_:let G_:Prop:=_;G_)
  intro G_
  obtain⟨_,xs,e,ha,rl⟩:=rep_lst.mp rb
  dsimp only[G_]
  clear G_
  cases e
  refine(?_:let G_:Prop:=_;G_)
  intro G_
  obtain⟨v,ev,rq⟩:=rep_br_at rl eb
  dsimp only[G_]
  clear G_
  have av:atI xs (i:Int)=some v:=atI_nat ev
  have ac:atI (List.map pkV ks) (i:Int)=some (pkV k):=atI_pl (f:=pkV) ek
  cases q with
  | fin g=>
   refine(?_:let G_:Prop:=_;G_)
   intro G_
   obtain⟨t,r,rfl,ht,_⟩:=rep_fin.mp rq
   dsimp only[G_]
   simp_all only[ha,av,ht]
   rw[if_neg (by decide +kernel),if_neg (by decide +kernel)]
   exact⟨Nat.zero_le _,fun l nl=>kk l [] _ (same_upd nl) nl upd_same rfl fun j p x e=>by simp [wyP] at e⟩
  | thr g ws=>
   refine(?_:let G_:Prop:=_;G_)
   intro G_
   obtain⟨t,r,l,zs,rfl,ht,_,hl,rz⟩:=rep_thr.mp rq
   dsimp only[G_]
   clear G_
   simp_all only[ha,av,ht]
   refine(?_:let G_:Prop:=_;G_)
   intro G_
   obtain⟨gw,l0,wok⟩:=pq
   have w3:=wok.1
   obtain⟨t1,t9⟩:=wok.tt
   dsimp only[G_]
   clear G_
   have ett:Dg.tt ws=Wq.totW ws:=by unfold Dg.tt;rw[if_neg (fun z=>by rw[z] at l0;cases l0)]
   have lx:=rz.length
   rw[List.length_map] at lx
   refine⟨⟨_,SqL.of hl⟩,?_⟩
   have S:Src (Itl K l) (Same H) ws.length (fun i x H H3=>H3=H∧zs[i]?=some x):=by rw[lx];exact src_list (fun H' s'=>SqL.of (s' _ _ hl))
   refine comp_ints2 ws (fun p=>some p.1) S (fun _ _ _ _ h=>h.1) (by rw[sizeLine_eq];omega) ?_ ?_
   ·rintro i p x ep ⟨_,ex⟩
    refine(?_:let G_:Prop:=_;G_)
    intro G_
    obtain⟨tt,et,htt⟩:=repW_at rz ep
    dsimp only[G_]
    rw[ex] at et
    cases et
    refine⟨tt,_,_,rfl,SqT.of htt,fun Y N y1 _=>?_⟩
    simp_all only[tYes]
    exact y1 _ rfl
   intro D n1 n2
   rw[fm_some]
   refine⟨_,SqL.of upd_same,_,same_upd n2 _ _ ht,_,rfl,_,rfl,⟨_,SqL.of (same_upd n2 _ _ hl)⟩,?_⟩
   have s1:=same_upd (o:=.lst (List.map V.int (ws.map (·.1)))) n2
   have hm1:=s1 _ _ hl
   generalize upd H D (.lst (List.map V.int (ws.map (·.1))))=H1 at *
   refine comp_map2 (K:=K) (src_list (Ok:=Same H1) (fun H' s'=>SqL.of (s' _ _ hm1))) (fun i u v H3=>∃p:Int×Int,ws[i]?=some p∧u=.int p.1∧v=.int p.2) (fun i x H7 H8 hi s7 ⟨e,ex⟩=>?_) (by rw[sizeLine_eq];omega) (fun i y H7=>∃p,ws[i]?=some p∧PtR H7 (Wq.totW ws) p y) (fun i y H7 H8 s8 ⟨p,e,r⟩=>⟨p,e,r.mono s8⟩) ?_ ?_
   ·subst e
    have hi':i<ws.length:=by have:=(List.getElem?_eq_some_iff.mp ex).1;omega
    refine(?_:let G_:Prop:=_;G_)
    intro G_
    obtain⟨tt,et,htt⟩:=repW_at rz (List.getElem?_eq_getElem hi')
    dsimp only[G_]
    rw[ex] at et
    cases et
    exact⟨Same.refl _,tt,_,_,rfl,SqT.of (s7 _ _ (s1 _ _ htt)),_,List.getElem?_eq_getElem hi',rfl,rfl⟩
   ·intro j u v H7 Q7 hj s7 p7_ kq
    refine(?_:let G_:Prop:=_;G_)
    intro G_
    obtain⟨p,ep,rfl,rfl⟩:=p7_
    dsimp only[G_]
    simp_all only[tTupS,spLow]
    have W0:0< (List.map Prod.fst ws).sum:=by show 0<Wq.totW ws;omega
    have W1:(List.map Prod.fst ws).sum≤1000000:=by show Wq.totW ws≤1000000;omega
    exact⟨W0,Bt.mono (m:=20) (Bt.of 1000000 (by omega) (by omega)) (by decide),fun p1 H8 s8 n8 e8=>⟨by decide,fun p2 H9 s9 n9 e9=>kq _ _ (s8.trans s9) ⟨p,ep,p2,p1,rfl,e9,s9 _ _ e8⟩⟩⟩
   ·intro us H7 s7 lu hu D2 n3 n4
    refine kk D2 us _ (s1.trans (s7.trans (same_upd n4))) (none_of (s1.trans s7) n4) upd_same (by show us.length=ws.length;omega) fun j p x ep ex=>?_
    refine(?_:let G_:Prop:=_;G_)
    intro G_
    obtain⟨p',e',r'⟩:=hu j x ex
    dsimp only[G_]
    have ep:ws[j]?=some p:=ep
    rw[ep] at e'
    cases e'
    show PtR _ (Dg.tt ws) p x
    rw[ett]
    exact r'.mono (same_upd n4)
  | pck who to=>
   refine(?_:let G_:Prop:=_;G_)
   intro G_
   obtain⟨t,l,rfl,ht,hl⟩:=rep_pck.mp rq
   dsimp only[G_]
   cases k with
   | none=>exact po.elim
   | some k=>
    obtain⟨k0,k1⟩:=po
    have at1:atI (to.map V.int) k=some (.int (to.getD k.toNat 0)):=atI_ints k0 k1
    simp_all only[ha,av,ht]
    rw[if_neg (by decide +kernel)]
    refine⟨by decide,fun p H2 s2 np hp=>⟨_,s2 _ _ ht,_,rfl,_,s2 _ _ hc,_,ac,l,rfl,_,k,rfl,s2 _ _ hl,_,at1,by decide,fun p2 H3 s3 np2 hp2=>⟨by decide,fun l2 nl=>kk l2 _ _ (s2.trans (s3.trans (same_upd nl))) (none_of (s2.trans s3) nl) upd_same rfl fun j x y ex ey=>?_⟩⟩⟩
    have j0:j=0:=by have:=(List.getElem?_eq_some_iff.mp ey).1;have:j<1:=this;omega
    subst j0
    cases ex
    cases ey
    exact⟨p2,p,rfl,same_upd nl _ _ hp2,by rw[show Wq.low 1 (Dg.tt (wyP (.pck who to) (some k)))=(1,1) from low11];exact same_upd nl _ _ (s3 _ _ hp)⟩
theorem setW_rep {H:Hp} {ws:List Wq.Sh} {xs:List V} {k:Nat} {q':Wq.Sh} {l r:Addr} (hl:H l=some (.lst xs)) (rl:RepL H (ws.map wrowD) xs) (rv:H r=some (.tup (Pr q'.1 q'.2))):Rep (upd H l (.lst (xs.set k (.ref r)))) (.lst ((ws.set k q').map wrowD)) (.ref l):=by
 have lx:=rl.length
 rw[List.length_map] at lx
 refine rep_lst.mpr ⟨l,_,rfl,upd_same,repL_map (by rw[List.length_set,List.length_set,lx]) fun i y ey q eq=>?_⟩
 by_cases c:i=k
 ·subst c
  have hi:i<xs.length:=by
   have:=(List.getElem?_eq_some_iff.mp ey).1
   rwa [List.length_set] at this
  rw[List.getElem?_set_self hi] at ey
  rw[List.getElem?_set_self (by omega)] at eq
  cases ey
  cases eq
  exact rep_wrow.mpr ⟨r,rfl,by rw[upd_ne (fun z=>by rw[z,hl] at rv;cases rv)];exact rv⟩
 ·rw[List.getElem?_set_ne (Ne.symm c)] at ey eq
  obtain⟨p,ep,hp⟩:=repW_at rl eq
  rw[ey] at ep
  cases ep
  exact rep_wrow.mpr ⟨p,rfl,by rw[upd_ne (fun z=>by rw[z,hl] at hp;cases hp)];exact hp⟩
theorem sc__law_holds:FnScope ["_law_board_here","_law_picks_here","_law_start","_law_found","_law_come","_law_ended","_law_place","_law_part","_law_to"] ["_law_board_here","_law_picks_here","_law_start","_law_found"] (defScope (top 53)):=⟨rfl,rfl,rfl,by decide +kernel,rfl,by decide +kernel,by decide +kernel⟩
theorem ok_hld (T:Txt K mg q_Book tc):Cal P w K mg base (CX1 P w) 3 "_law_holds" ["_law_board_here","_law_picks_here","_law_start","_law_found"] spHld3:=by
 have c__law_ways:Cal P w K mg base (CX1 P w) 2 "_law_ways" ["_law_board_here","_law_picks_here","_law_place"] spWy:=ok_wy T
 have c__law_plus:Cal P w K mg base (CX1 P w) 2 "_law_plus" ["_law_one","_law_other"] spPls:=ok_pls T
 have c__law_times:Cal P w K mg base (CX1 P w) 2 "_law_times" ["_law_one","_law_other"] spTms:=ok_tms T
 refine T.d__law_holds.cal (fun _ _ _ _ _ _=>us_4 fun _ _ _ _=>rfl) fun f fd F=>F.okC sc__law_holds (fun vs H Q E h=>?_) (fun cdv A outer s H vs Q E hr h=>?_)
 ·obtain⟨_,_,_,_,_,_,_,_,rfl,_⟩:=h;rfl
 ·refine(?_:let G_:Prop:=_;G_)
  intro G_
  obtain⟨a,c,l,st,b,rk,ks,S,rfl,rb,B,hc,ko,rw',b8,hst,Z,vq,kk⟩:=h
  dsimp only[G_]
  clear G_
  have nd:=sc__law_holds.nd
  refine⟨_,(pss_cons (ps_setC (i:=4) rfl nd rfl rfl (N:=["_law_board_here","_law_picks_here","_law_start","_law_found","_law_come","_law_ended","_law_place","_law_part","_law_to"]) (so:=defScope (top 53)) (N':=["_law_place","_law_start"]) (k:=1) (fr:=[2]) rfl rfl ⟨rfl,by decide +kernel,by decide +kernel,by decide +kernel,rfl,by decide +kernel,by decide +kernel⟩ (pi_range1 rfl T.z_range (pa_cons (pe_callB call_lenL (by rfl) T.z_len PySem.boot_len (pa_cons (pv 0) pa_nil (se rfl)) (he:=se rfl) (hpl:=na rfl)) pa_nil (se rfl))) (fun _ _ _ _ _=>(pg_name (i:=0) (show(["_law_place","_law_start"]:List Str).Nodup by decide +kernel) rfl (Or.inl rfl))) (fun _ _ _ _ _=>pts_nil)
   (fun _ _ _ _ _=>(pe_tupS (pa_cons (pe_callTy call_int_b (by rfl) T.z_int rfl (pa_cons (pe_cmpR op_eq (pv 0) (pv 1) (nomark _)) pa_nil (se rfl)) (he:=se rfl) (hpl:=na rfl)) (pa_cons pe_int pa_nil (se rfl)) (se rfl)))))
  (pss_cons (ps_set (i:=5) nd rfl (Or.inl rfl) (pe_tupS (pa_cons pe_int (pa_cons pe_int pa_nil (se rfl)) (se rfl))))
  (pss_cons (ps_for PassesOwn.never rfl (pi_range1 rfl T.z_range (pa_cons (pe_callB call_lenL (by rfl) T.z_len PySem.boot_len (pa_cons (pv 0) pa_nil (se rfl)) (he:=se rfl) (hpl:=na rfl)) pa_nil (se rfl))) (pg_name (i:=6) nd rfl (Or.inl rfl)) (pss_cons (ps_for PassesOwn.never rfl (pi_listK (K:=K) (pe_cal c__law_ways (hr.mono (by decide)) rfl strictP.pass (pa_cons (pv 0) (pa_cons (pv 1) (pa_cons (pv 6) pa_nil (se rfl)) (se rfl)) (se rfl)) (he:=se rfl) (hpl:=na rfl))) (pg_tupK (K:=K) (n:=2) rfl (pgs_cons (pg_name (i:=7) nd rfl (Or.inl rfl)) (pgs_cons (pg_name (i:=8) nd rfl (Or.inl rfl)) pgs_nil))) (pss_one (ps_asg (pe_cal c__law_plus (hr.mono (by decide)) rfl strictP.pass (pa_cons (pe_ix ix_listH (pv 4) (pv 8) (fun _ _=>rfl)) (pa_cons (pe_cal c__law_times (hr.mono (by decide)) rfl strictP.pass (pa_cons (pv 7) (pa_cons (pe_ix ix_listH (pv 3) (pv 6) (fun _ _=>rfl)) pa_nil (se rfl)) (se rfl)) (he:=se rfl) (hpl:=na rfl)) pa_nil (se rfl)) (se rfl)) (he:=se rfl) (hpl:=na rfl)) (pg_sub (pv 4) (pv 8) set_list))))
  (pss_one (ps_if (pt_cmpR op_eq (pe_ix ix_tupH (pe_ix ix_listH (pv 0) (pv 6) (fun _ _=>rfl)) pe_int (fun _ _=>rfl)) pe_str (nomark _)) (pss_one (ps_set (i:=5) nd rfl (Or.inl rfl) (pe_cal c__law_plus (hr.mono (by decide)) rfl strictP.pass (pa_cons (pv 5) (pa_cons (pe_ix ix_listH (pv 3) (pv 6) (fun _ _=>rfl)) pa_nil (se rfl)) (se rfl)) (he:=se rfl) (hpl:=na rfl))))
   pss_nil))))
  (pss_one (ps_ret (pe_and (pe_cmpR (op_eqD hr.units) (pv 4) (pv 3) (nomark _)) (pe_one (pe_cmpR (op_eq_tup hr.units0) (pv 5) (pe_tupS (pa_cons pe_int (pa_cons pe_int pa_nil (se rfl)) (se rfl))) (nomark _))))))))),?_⟩
  refine(?_:let q0_:TS:=_;let q1_:TS:=_;let q2_:TS:=_;let q3_:TS:=_;tSeq q0_ (tSeq q1_ (tSeq q2_ q3_)) _ _ _)
  intro q0_ q1_ q2_ q3_
  have sl:=sizeLine_eq
  refine(?_:let G_:Prop:=_;G_)
  intro G_
  obtain⟨_,xb,e,ha,rl⟩:=rep_lst.mp rb
  dsimp only[G_]
  clear G_
  cases e
  have lx:=rl.length
  rw[List.length_map] at lx
  refine(?_:let G_:Prop:=_;G_)
  intro G_
  obtain⟨_,xw,e,hl,rlw⟩:=rep_lst.mp rw'
  dsimp only[G_]
  clear G_
  cases e
  have lw:(shS S).length=b.length:=by unfold shS;rw[List.length_map,Z.len]
  have sz:=shz_up Z
  have S0:=Z.pos
  have lv:∀i:Int,0≤i→i< (b.length:Int)→Dg.vl (Wq.atW (shS S) i)=Dg.val S i:=fun i h0 h1=>low_val S0 i (by rw[Z.len];omega)
  obtain⟨W,hW⟩:∃W:Int,W=2^1070:=⟨_,rfl⟩
  have W1:1≤W:=by rw[hW];exact Int.pow_pos (by decide)
  have bW:Bt 1071 W:=by
   unfold Bt
   rw[hW,Int.natAbs_pow]
   exact Nat.pow_lt_pow_right (by decide) (by decide)
  rw[←hW] at sz
  have bM:∀j:Nat,j≤60→Bt 1950 ((j:Int)*W)∧0≤(j:Int)*W:=fun j hj=>⟨Bt.mono (m:=6+1071) ((Bt.of (n:=6) 60 (by omega) (by omega)).mul bW) (by decide),Int.mul_nonneg (by omega) (by omega)⟩
  change tSeq _ _ _ [some (.ref a),some (.ref c),some (.int (st:Int)),some (.ref l),none,none,none,none,none] H
  refine seq_gen (fun σ' H1=>∃cl,Same H H1∧H cl=none∧Rep H1 (.lst (((List.range b.length).map fun(i:Nat)=>((if i=st then 1 else 0,1):Wq.Sh)).map wrowD)) (.ref cl)∧σ'=[some (.ref a),some (.ref c),some (.int (st:Int)),some (.ref l),some (.ref cl),none,none,none,none]) ?_ (fun N hN=>?_)
  case refine_2=>
   simp_all only[]
   refine⟨_,ha,by omega,by omega,?_⟩
   refine comp_map src_range (fun _ _ _ _ h=>by rw[h.1];exact Same.refl _) (by omega) (fun i y H7=>Rep H7 (wrowD (if i=st then 1 else 0,1)) y) (fun _ _ _ _ s5 h=>h.mono s5) ?_ ?_
   ·rintro i x w0 H7 H8 Q2 hi s7 ⟨rfl,rfl⟩ kq
    simp_all only[tTupS,Int.zero_add]
    refine⟨by decide,fun p H9 s9 n9 h9=>kq _ _ s9 (rep_wrow.mpr ⟨p,rfl,?_⟩)⟩
    rw[h9]
    by_cases c:i=st
    ·rw[if_pos c,if_pos (by rw[c])]
    ·rw[if_neg c,if_neg (by omega)]
   ·intro ys H7 s7 ly hy D n1 n2
    refine hN _ _ ⟨D,s7.trans (same_upd n2),none_of s7 n2,rep_lst.mpr ⟨D,ys,rfl,upd_same,repL_map (by rw[List.length_map,List.length_range];omega) fun i y ey x ex=>?_⟩,rfl⟩
    have hi:i<b.length:=by have:=(List.getElem?_eq_some_iff.mp ey).1;omega
    rw[List.getElem?_map,List.getElem?_range hi] at ex
    cases ex
    exact(hy i y ey).mono (same_upd n2)
  intro _ H1 p2_
  refine(?_:let G_:Prop:=_;G_)
  intro G_
  obtain⟨cl,s1,ncl,rcl,rfl⟩:=p2_
  dsimp only[G_]
  clear G_
  change tSeq _ _ _ [some (.ref a),some (.ref c),some (.int (st:Int)),some (.ref l),some (.ref cl),none,none,none,none] H1
  refine seq_gen (fun σ' H2=>∃e,Same H1 H2∧H2 e=some (.tup (Pr 0 1))∧σ'=[some (.ref a),some (.ref c),some (.int (st:Int)),some (.ref l),some (.ref cl),some (.ref e),none,none,none]) ?_ (fun N hN=>?_)
  case refine_2=>
   simp_all only[]
   exact⟨by decide,fun p H2 s2 n2 h2=>hN _ _ ⟨p,s2,h2,rfl⟩⟩
  intro _ H2 p2_
  refine(?_:let G_:Prop:=_;G_)
  intro G_
  obtain⟨e,s2,he,rfl⟩:=p2_
  dsimp only[G_]
  clear G_
  have C0:Cm b.length S.2 W (fun q=>ind st q+Dg.gsum (wyAt (wysP b ks)) (Dg.val S) q ((rgI b.length).take 0)) ((List.range b.length).map fun(i:Nat)=>((if i=st then 1 else 0,1):Wq.Sh)):=by
   refine⟨by rw[List.length_map,List.length_range],fun x hx=>?_,fun q q0 q1=>?_⟩
   ·refine(?_:let G_:Prop:=_;G_)
    intro G_
    obtain⟨i,_,rfl⟩:=List.mem_map.mp hx
    dsimp only[G_]
    refine⟨⟨by show(0:Int)<1;decide,by show Nm.g (if i=st then 1 else 0) 1=1;split <;>decide⟩,⟨S.2,by show S.2=1*S.2;omega⟩,?_⟩
    unfold Wq.Vb
    show -(W*1)≤(if i=st then 1 else 0)∧(if i=st then (1:Int) else 0)≤W*1
    split <;>omega
   ·obtain⟨i,rfl⟩:=Int.eq_ofNat_of_zero_le q0
    have hi:i<b.length:=by omega
    unfold Wq.atW
    rw[Int.toNat_natCast,List.getD_eq_getElem?_getD,List.getElem?_map,List.getElem?_range hi]
    show Dg.vl ((if i=st then 1 else 0),1)=ind st (i:Int)+0
    unfold Dg.vl ind
    by_cases c:i=st
    ·rw[if_pos c,if_pos (by rw[c]),Dg.r11];grind
    ·rw[if_neg c,if_neg (by omega),Dg.r01];grind
  have e0:Shz S.2 (((0:Nat):Int)*W) (0,1):=⟨⟨by show(0:Int)<1;decide,by show Nm.g 0 1=1;decide⟩,⟨S.2,by show S.2=1*S.2;omega⟩,by unfold Wq.Vb;show -(_*W*1)≤(0:Int)∧(0:Int)≤_*W*1;omega⟩
  change tSeq _ _ _ [some (.ref a),some (.ref c),some (.int (st:Int)),some (.ref l),some (.ref cl),some (.ref e),none,none,none] H2
  refine seq_gen (fun σ' H3=>∃e cs es Z' N z6 z7 z8,Same H H3∧H3 e=some (.tup (Pr es.1 es.2))∧Rep H3 (.lst (cs.map wrowD)) (.ref cl)∧Cm b.length Z' N (fun q=>ind st q+Dg.gsum (wyAt (wysP b ks)) (Dg.val S) q (rgI b.length)) cs∧Wq.Lw es∧Dg.vl es=Dg.lsum (fun p=>if wyAt (wysP b ks) p=[] then Dg.val S p else 0) (rgI b.length)∧σ'=[some (.ref a),some (.ref c),some (.int (st:Int)),some (.ref l),some (.ref cl),some (.ref e),z6,z7,z8]) ?_ (fun N hN=>?_)
  case refine_2=>
   simp_all only[]
   refine⟨_,(s1.trans s2) _ _ ha,by omega,by omega,for_src (src_range (Ok:=fun _=>True)) (fun i σ H'=>Same H H'∧∃e cs es Z' z6 z7 z8,H' e=some (.tup (Pr es.1 es.2))∧Rep H' (.lst (cs.map wrowD)) (.ref cl)∧0<Z'∧S.2∣Z'∧Bt (1070+20*i) Z'∧Cm b.length Z' (((1+5*i:Nat):Int)*W) (fun q=>ind st q+Dg.gsum (wyAt (wysP b ks)) (Dg.val S) q ((rgI b.length).take i)) cs∧Shz S.2 ((i:Int)*W) es∧Dg.vl es=Dg.lsum (fun p=>if wyAt (wysP b ks) p=[] then Dg.val S p else 0) ((rgI b.length).take i)∧σ=[some (.ref a),some (.ref c),some (.int (st:Int)),some (.ref l),some (.ref cl),some (.ref e),z6,z7,z8]) ⟨s1.trans s2,e,_,(0,1),S.2,_,_,_,he,rcl.mono s2,S0,Int.dvd_refl _,Z.bb,by rw[show((1+5*0:Nat):Int)*W=W by omega];exact C0,e0,Dg.r01,rfl⟩ (fun _ _ _ _ _=>trivial) ?_ ?_⟩
   ·intro p x σ H4 H5 hi p6_ p7_
    refine(?_:let G_:Prop:=_;G_)
    intro G_
    obtain⟨s4,e,cs,es,Z',z6,z7,z8,he4,rcs,Z0',dZ,bZ,C,sh,ve,rfl⟩:=p6_
    obtain⟨rfl,rfl⟩:=p7_
    have hp:p<b.length:=by have:p< ((xb.length:Nat):Int).toNat:=hi;omega
    obtain⟨q,k,eb,ek,po,ew⟩:=ko.at hp
    have pq:=B.ok _ (List.mem_of_getElem? eb)
    obtain⟨wok,_⟩:=wy_ok pq po
    obtain⟨t1,t9⟩:=wok.tt
    have awp:=atW_at (ss:=shS S) (q:=(p:Int)) (by omega) (by omega)
    rw[Int.toNat_natCast] at awp
    obtain⟨pw,epw,hpw⟩:=repW_at rlw awp
    dsimp only[G_]
    clear G_
    have apw:atI xw (p:Int)=some (.ref pw):=atI_nat epw
    have syS:=sz _ (List.mem_of_getElem? awp)
    have sy:=syS.up dZ (Int.le_refl _)
    have vy:=lv (p:Int) (by omega) (by omega)
    simp only[Int.zero_add]
    change tSeq _ _ _ [some (.ref a),some (.ref c),some (.int (st:Int)),some (.ref l),some (.ref cl),some (.ref e),some (.int (p:Int)),z7,z8] H5
    refine seq_gen (fun σ' H6=>∃cs z7 z8,Same H H6∧H6 e=some (.tup (Pr es.1 es.2))∧Rep H6 (.lst (cs.map wrowD)) (.ref cl)∧Cm b.length (Z'*Dg.tt (wyP q k)) (((1+5* (p+1):Nat):Int)*W) (fun r=>ind st r+Dg.gsum (wyAt (wysP b ks)) (Dg.val S) r ((rgI b.length).take (p+1))) cs∧σ'=[some (.ref a),some (.ref c),some (.int (st:Int)),some (.ref l),some (.ref cl),some (.ref e),some (.int (p:Int)),z7,z8]) ?_ (fun N hN=>?_)
    case refine_2=>
     simp_all only[]
     refine⟨a,c,p,b,b.length,q,ks,k,rfl,rb.mono s4,eb,pq,s4 _ _ hc,ek,po,fun wl us H7 s7 nl hw lu hu=>⟨wl,rfl,⟨_,SqL.of hw⟩,?_⟩⟩
     have s47:=s4.trans s7
     generalize hd:Dg.tt (wyP q k)=d at *
     have d0:0<d:=by omega
     have bZd:Bt 1950 (Z'*d):=Bt.mono (bZ.mul (Bt.of (n:=20) 1000000 (by omega) (by omega))) (by omega)
     have Zd0:0<Z'*d:=Int.mul_pos Z0' d0
     have wge:∀x∈wyP q k,x.1≤d:=fun x hx=>by rw[←hd];exact tt_ge (fun y hy=>(wok.2 y hy).1) hx
     have w5:=wok.1
     refine(?_:let G_:Prop:=_;G_)
     intro G_
     obtain⟨_,xc0,ec,hcl5,_⟩:=rep_lst.mp rcs
     dsimp only[G_]
     clear G_
     cases ec
     have wcl:wl≠cl:=fun z=>by rw[z,hcl5] at nl;cases nl
     have rcs7:=rcs.mono s7
     generalize hf:(fun r=>ind st r+Dg.gsum (wyAt (wysP b ks)) (Dg.val S) r ((rgI b.length).take p))=f0 at *
     have fend:∀r,ind st r+Dg.gsum (wyAt (wysP b ks)) (Dg.val S) r ((rgI b.length).take (p+1))=f0 r+Dg.pr d r (wyP q k)*Dg.vl (Wq.atW (shS S) (p:Int)):=fun r=>by
      rw[rgI_take hp,Dg.gsum_snoc,ew,hd,vy,←hf]
      grind
     generalize wyP q k=ws at *
     refine for_src (src_list (K:=K) (a:=wl) (xs:=us) (Ok:=fun H'=>H' wl=some (.lst us)) (fun H' s=>SqL.of s)) (fun j σ H8=>Same H H8∧H8 wl=some (.lst us)∧(∀x vs,H7 x=some (.tup vs)→H8 x=some (.tup vs))∧∃cs z7 z8,Rep H8 (.lst (cs.map wrowD)) (.ref cl)∧Cm b.length (Z'*d) (((1+5*p+j:Nat):Int)*W) (fun r=>f0 r+Dg.pr d r (ws.take j)*Dg.vl (Wq.atW (shS S) (p:Int))) cs∧σ=[some (.ref a),some (.ref c),some (.int (st:Int)),some (.ref l),some (.ref cl),some (.ref e),some (.int (p:Int)),z7,z8]) ⟨s47,hw,fun _ _ h=>h,cs,_,_,rcs7,C.up (Int.dvd_mul_right _ _) (Int.le_refl _) (fun r _ _=>by show f0 r=f0 r+0*_;grind),rfl⟩ (fun _ _ _ _ h=>h.2.1) ?_ ?_
     ·intro j y σ H8 H9 hj p6_ p7_
      refine(?_:let G_:Prop:=_;G_)
      intro G_
      obtain⟨s8,hw8,kt,cs,z7,z8,rc,Cj,rfl⟩:=p6_
      obtain⟨rfl,ey⟩:=p7_
      have hj':j<ws.length:=by omega
      have ej:ws[j]?=some ws[j]:=List.getElem?_eq_getElem hj'
      obtain⟨t,r',rfl,ht,hr'⟩:=hu j _ _ ej ey
      dsimp only[G_]
      clear G_
      have mj:=List.getElem_mem hj'
      have wj:=wok.2 _ mj
      have gej:=wge _ mj
      have tk:ws.take (j+1)=ws.take j++ [ws[j]]:=by rw[List.take_add_one,ej];rfl
      rw[tk]
      generalize ws[j]=wy at *
      refine(?_:let G_:Prop:=_;G_)
      intro G_
      obtain⟨Cn,sx,st1⟩:=Cj.put (q:=wy.2) (w:=wy.1) sy Z0' d0 (by omega) gej (by omega) wj.2.2.1 (by omega)
      obtain⟨_,xc,ec,hcl,rlc⟩:=rep_lst.mp rc
      dsimp only[G_]
      cases ec
      have lc:=Cj.len
      refine(?_:let G_:Prop:=_;G_)
      intro G_
      obtain⟨pc,epc,hpc⟩:=repW_at rlc (atW_at (ss:=cs) (q:=wy.2) wj.2.2.1 (by omega))
      have lxc:=rlc.length
      rw[List.length_map] at lxc
      have apc:atI xc wy.2=some (.ref pc):=by
       have:=atI_nat epc
       rwa [Int.toNat_of_nonneg wj.2.2.1] at this
      have ixc:ixN xc.length wy.2=some wy.2.toNat:=by
       have h:=ixN_nat (n:=xc.length) (i:=wy.2.toNat) (by omega)
       rwa [Int.toNat_of_nonneg wj.2.2.1] at h
      obtain⟨m1,m2⟩:=bM (1+5*p+j) (by omega)
      dsimp only[G_]
      have bW':Bt 1950 W:=bW.mono (by decide)
      refine⟨t,_,rfl,SqT.of (kt _ _ ht),rfl,?_⟩
      simp_all only[spPls,spTms]
      refine⟨_,hcl,_,apc,_,s8 _ _ hl,_,apw,pw,rfl,_,kt _ _ hr',_,s8 _ _ hpw,low_rm (by omega) (by omega) (by omega) (by omega),sy.rm Z0' (bZ.mono (by omega)) (by omega) bW',fun r1 HA sA nA hA=>⟨pc,rfl,_,sA _ _ hpc,_,hA,sx.rm Zd0 bZd m2 m1,st1.rm Zd0 bZd (by omega) bW',fun r2 HB sB nB hB=>?_⟩⟩
      have sAB:=sA.trans sB
      have hclB:=sAB _ _ hcl
      have rlB:=rlc.mono sAB
      refine⟨_,hclB,_,ixc,same_upd_of (s8.trans sAB) ncl,by rw[upd_ne wcl];exact sAB _ _ hw8,fun x vs h=>?_,_,setW_rep hclB rlB hB,?_,_,rfl⟩
      ·have h8:=sAB _ _ (kt _ _ h)
       rw[upd_ne (fun z=>by rw[z,hclB] at h8;cases h8)]
       exact h8
      ·refine Cn.up (Int.dvd_refl _) ?_ fun r _ _=>?_
       ·rw[show((1+5*p+ (j+1):Nat):Int)*W=((1+5*p+j:Nat):Int)*W+W by rw[show((1+5*p+ (j+1):Nat):Int)=((1+5*p+j:Nat):Int)+1 by omega,Int.add_mul,Int.one_mul]]
        exact Int.le_refl _
       ·rw[Dg.pr_snoc]
        grind
     ·intro σ H8 p2_
      refine(?_:let G_:Prop:=_;G_)
      intro G_
      obtain⟨s8,hw8,kt,cs,z7,z8,rc,Cj,rfl⟩:=p2_
      dsimp only[G_]
      rw[lu,List.take_length] at Cj
      refine hN _ _ ⟨cs,_,_,s8,kt _ _ (s7 _ _ he4),rc,Cj.up (Int.dvd_refl _) ?_ fun r _ _=>(fend r).symm,rfl⟩
      exact Int.mul_le_mul_of_nonneg_right (by omega) (by omega)
    intro _ H6 p2_
    refine(?_:let G_:Prop:=_;G_)
    intro G_
    obtain⟨cs,z7,z8,s6,he6,rcs6,C6,rfl⟩:=p2_
    have bZ2:Bt (1070+20* (p+1)) (Z'*Dg.tt (wyP q k)):=(bZ.mul (Bt.of (n:=20) 1000000 (by omega) (by omega))).mono (by omega)
    have Z2:0<Z'*Dg.tt (wyP q k):=Int.mul_pos Z0' (by omega)
    have dZ2:S.2∣Z'*Dg.tt (wyP q k):=Int.dvd_trans dZ (Int.dvd_mul_right _ _)
    have lsn:Dg.lsum (fun p=>if wyAt (wysP b ks) p=[] then Dg.val S p else 0) ((rgI b.length).take (p+1))=Dg.vl es+if wyP q k=[] then Dg.val S (p:Int) else 0:=by rw[rgI_take hp,lsum_snoc,←ve,ew]
    obtain⟨v,ev,rv⟩:=rep_br_at rl eb
    dsimp only[G_]
    have av:atI xb (p:Int)=some v:=atI_nat ev
    have sh2:Shz S.2 (((p+1:Nat):Int)*W) es:=sh.up (Int.dvd_refl _) (Int.mul_le_mul_of_nonneg_right (by omega) (by omega))
    cases q with
    | fin g=>
     refine(?_:let G_:Prop:=_;G_)
     intro G_
     obtain⟨t,r,rfl,ht,_⟩:=rep_fin.mp rv
     dsimp only[G_]
     simp_all only[s6 _ _ ha,av,s6 _ _ ht,spPls]
     rw[if_pos (show wyP (.fin g) k=[] from rfl)] at lsn
     obtain⟨m1,m2⟩:=bM p (by omega)
     have sa:=sh.add syS S0
     refine⟨_,s6 _ _ hl,_,apw,pw,rfl,_,he6,_,s6 _ _ hpw,sh.rm S0 (Z.bb.mono (by decide)) m2 m1,syS.rm S0 (Z.bb.mono (by decide)) (by omega) (bW.mono (by decide)),fun r2 H7 s7 n7 h7=>⟨s6.trans s7,r2,cs,_,h7,rcs6.mono s7,_,Z2,dZ2,bZ2,C6,?_,?_,rfl,_,rfl⟩⟩
     ·rw[show((p+1:Nat):Int)*W=(p:Int)*W+W by rw[Int.natCast_add,Int.add_mul];omega]
      exact sa
     ·rw[lsn,Dg.vl_pl sh.1.1 syS.1.1,vy]
    | thr g ws=>
     refine(?_:let G_:Prop:=_;G_)
     intro G_
     obtain⟨t,r,l',zs,rfl,ht,_⟩:=rep_thr.mp rv
     dsimp only[G_]
     simp_all only[s6 _ _ ha,av,s6 _ _ ht]
     rw[if_neg (by decide +kernel)]
     rw[if_neg (fun z=>by have:=pq.2.1;rw[show ws=[] from z] at this;cases this)] at lsn
     exact⟨s6,e,cs,es,he6,rcs6,_,Z2,dZ2,bZ2,C6,sh2,by rw[lsn];grind,rfl,_,rfl⟩
    | pck who to=>
     refine(?_:let G_:Prop:=_;G_)
     intro G_
     obtain⟨t,l',rfl,ht,hl'⟩:=rep_pck.mp rv
     dsimp only[G_]
     simp_all only[s6 _ _ ha,av,s6 _ _ ht]
     rw[if_neg (by decide +kernel)]
     rw[if_neg (fun z=>by cases z)] at lsn
     exact⟨s6,e,cs,es,he6,rcs6,_,Z2,dZ2,bZ2,C6,sh2,by rw[lsn];grind,rfl,_,rfl⟩
   ·intro σ H3 p2_
    refine(?_:let G_:Prop:=_;G_)
    intro G_
    obtain⟨s3,e,cs,es,Z',z6,z7,z8,he3,rcs,Z0',dZ,bZ,C,sh,ve,rfl⟩:=p2_
    dsimp only[G_]
    have tk:(rgI b.length).take ((xb.length:Nat):Int).toNat=rgI b.length:=by rw[Int.toNat_natCast,←lx,List.take_of_length_le];unfold rgI;rw[List.length_map,List.length_range];exact Nat.le_refl _
    rw[tk] at C ve
    exact hN _ _ ⟨e,cs,es,Z',_,z6,z7,z8,s3,he3,rcs,C,sh.1,ve,rfl⟩
  intro _ H3 p2_
  refine(?_:let G_:Prop:=_;G_)
  intro G_
  obtain⟨e,cs,es,Z',N',z6,z7,z8,s3,he3,rcs,C,le,ve,rfl⟩:=p2_
  have ecs:cs=shS S:=by
   apply List.ext_getElem?
   intro i
   have lc:=C.len
   by_cases hi:i<b.length
   ·have a:=atW_at (ss:=cs) (q:=(i:Int)) (by omega) (by omega)
    have a':=atW_at (ss:=shS S) (q:=(i:Int)) (by omega) (by omega)
    rw[Int.toNat_natCast] at a a'
    rw[a,a']
    congr 1
    refine Dg.vl_inj (C.sz _ (List.mem_of_getElem? a)).1 (sz _ (List.mem_of_getElem? a')).1 ?_
    rw[C.val _ (by omega) (by omega),lv _ (by omega) (by omega),vq (i:Int) ⟨by omega,by omega⟩]
   ·rw[List.getElem?_eq_none (by omega),List.getElem?_eq_none (by omega)]
  have ees:es=(1,1):=by
   refine Dg.vl_inj le ⟨by decide,by decide⟩ ?_
   rw[ve,Dg.ends_one (s:=ind st) (rgI_nd _) (fun p hp x hx=>by
    have:=(B.wk ko (rgI_mem.mp hp)).1.2 x hx
    exact⟨this.1,rgI_mem.mpr ⟨this.2.2.1,this.2.2.2⟩⟩) (fun q hq=>vq q (rgI_mem.mp hq)),ind_sum hst]
   exact Dg.r11.symm
  subst ecs
  subst ees
  dsimp only[G_]
  simp_all only[]
  refine⟨_,rcs,rw'.mono s3,⟨_,rfl⟩,depth_ws _,_,rfl,?_⟩
  rw[if_pos rfl]
  refine⟨by decide,fun p H4 s4 n4 h4=>⟨_,s4 _ _ he3,_,h4,rfl,rfl,?_⟩⟩
  rw[show eqL (Pr (1:Int) 1) [V.int 1,V.int 1]=true from eqL_self _ _]
  exact kk _ (s3.trans s4)
theorem sc_law:FnScope ["_law_script","_law_n","_law_board_here","_law_picks_here","_law_handed","_law_asked","_law_one","_law_other","_law_found","_law_kept","_law_more"] ["_law_script"] (defScope (top 54)):=⟨rfl,rfl,rfl,by decide +kernel,rfl,by decide +kernel,by decide +kernel⟩
theorem ok_law (T:Txt K mg q_Book tc) (LB:LamB base mg tc tp) {f:Addr} {fd:FuncData} (F:Fun K "law" "law" (top 54) f fd):FnOk P w K mg base (CX1 P w) 8 f fd ["_law_script"] (spLaw K tp):=by
 have c__law_cell:Cal P w K mg base (CX1 P w) 1 "_law_cell" ["_law_script","_law_k"] (spC K):=ok_cell T
 have c__law_board:Cal P w K mg base (CX1 P w) 3 "_law_board" ["_law_script","_law_at","_law_n"] (spBrd K):=ok_brd T
 have c__law_picks:Cal P w K mg base (CX1 P w) 2 "_law_picks" ["_law_board_here","_law_cell_here"] spPck:=ok_pck T
 have c__law_copy:Cal P w K mg base (CX1 P w) 1 "_law_copy" ["_law_board_here"] spCpy:=ok_cpy T
 have c__law_are_shares:Cal P w K mg base (CX1 P w) 3 "_law_are_shares" ["_law_found","_law_many"] spAre:=ok_are T
 have c__law_holds:Cal P w K mg base (CX1 P w) 3 "_law_holds" ["_law_board_here","_law_picks_here","_law_start","_law_found"] spHld3:=ok_hld T
 have c_visits:Cal P w K mg base (CX1 P w) 7 "visits" ["board","picks","start"] (spVi2 tp):=ok_vi T LB
 refine F.okC sc_law (fun vs H Q E h=>?_) (fun cdv A outer s H vs Q E hr h=>?_)
 ·obtain⟨_,_,rfl,_⟩:=h;rfl
 ·refine(?_:let G_:Prop:=_;G_)
  intro G_
  obtain⟨sa,ns,rfl,htp,hS,hlen,kk⟩:=h
  dsimp only[G_]
  have nd:=sc_law.nd
  refine⟨_,(pss_cons (ps_set (i:=1) nd rfl (Or.inl rfl) (pe_op op_add pe_int (pe_op op_modB (pe_cal c__law_cell (hr.mono (by decide)) rfl strictP.pass (pa_cons (pv 0) (pa_cons pe_int pa_nil (se rfl)) (se rfl)) (he:=se rfl) (hpl:=na rfl)) pe_int)))
  (pss_cons (ps_set (i:=2) nd rfl (Or.inl rfl) (pe_cal c__law_board (hr.mono (by decide)) rfl strictP.pass (pa_cons (pv 0) (pa_cons pe_int (pa_cons (pv 1) pa_nil (se rfl)) (se rfl)) (se rfl)) (he:=se rfl) (hpl:=na rfl)))
  (pss_cons (ps_set (i:=3) nd rfl (Or.inl rfl) (pe_cal c__law_picks (hr.mono (by decide)) rfl strictP.pass (pa_cons (pv 2) (pa_cons (pe_cal c__law_cell (hr.mono (by decide)) rfl strictP.pass (pa_cons (pv 0) (pa_cons pe_int pa_nil (se rfl)) (se rfl)) (he:=se rfl) (hpl:=na rfl)) pa_nil (se rfl)) (se rfl)) (he:=se rfl) (hpl:=na rfl)))
  (pss_cons (ps_set (i:=4) nd rfl (Or.inl rfl) (pe_cal c__law_copy (hr.mono (by decide)) rfl strictP.pass (pa_cons (pv 2) pa_nil (se rfl)) (he:=se rfl) (hpl:=na rfl)))
  (pss_cons (ps_set (i:=5) nd rfl (Or.inl rfl) (pe_callTy (call_list_ofK (K:=K)) (by rfl) T.z_list rfl (pa_cons (pv 3) pa_nil (se rfl)) (he:=se rfl) (hpl:=na rfl)))
  (pss_cons (ps_set (i:=6) nd rfl (Or.inl rfl) (pe_op op_modB (pe_cal c__law_cell (hr.mono (by decide)) rfl strictP.pass (pa_cons (pv 0) (pa_cons pe_int pa_nil (se rfl)) (se rfl)) (he:=se rfl) (hpl:=na rfl)) (pv 1)))
  (pss_cons (ps_set (i:=7) nd rfl (Or.inl rfl) (pe_op op_modB (pe_cal c__law_cell (hr.mono (by decide)) rfl strictP.pass (pa_cons (pv 0) (pa_cons pe_int pa_nil (se rfl)) (se rfl)) (he:=se rfl) (hpl:=na rfl)) (pv 1)))
  (pss_cons (ps_set (i:=8) nd rfl (Or.inl rfl) (pe_cal c_visits (hr.mono (by decide)) rfl strictP.pass (pa_cons (pv 4) (pa_cons (pv 5) (pa_cons (pv 6) pa_nil (se rfl)) (se rfl)) (se rfl)) (he:=se rfl) (hpl:=na rfl)))
  (pss_cons (ps_if (PW.pt (pw_or (pt_not (pt_val (pe_cal c__law_are_shares (hr.mono (by decide)) rfl strictP.pass (pa_cons (pv 8) (pa_cons (pv 1) pa_nil (se rfl)) (se rfl)) (he:=se rfl) (hpl:=na rfl)))) (pw_or1 (pt_not (pt_val (pe_cal c__law_holds (hr.mono (by decide)) rfl strictP.pass (pa_cons (pv 2) (pa_cons (pv 3) (pa_cons (pv 6) (pa_cons (pv 8) pa_nil (se rfl)) (se rfl)) (se rfl)) (se rfl)) (he:=se rfl) (hpl:=na rfl))))))) (pss_one (ps_ret pe_bl))
   pss_nil)
  (pss_cons (ps_set (i:=9) nd rfl (Or.inl rfl) (pe_callTy (call_list_ofK (K:=K)) (by rfl) T.z_list rfl (pa_cons (pv 8) pa_nil (se rfl)) (he:=se rfl) (hpl:=na rfl)))
  (pss_cons (ps_set (i:=10) nd rfl (Or.inl rfl) (pe_cal c_visits (hr.mono (by decide)) rfl strictP.pass (pa_cons (pv 4) (pa_cons (pv 5) (pa_cons (pv 7) pa_nil (se rfl)) (se rfl)) (se rfl)) (he:=se rfl) (hpl:=na rfl)))
  (pss_cons (ps_if (PW.pt (pw_or (pt_not (pt_val (pe_cal c__law_are_shares (hr.mono (by decide)) rfl strictP.pass (pa_cons (pv 10) (pa_cons (pv 1) pa_nil (se rfl)) (se rfl)) (he:=se rfl) (hpl:=na rfl)))) (pw_or1 (pt_not (pt_val (pe_cal c__law_holds (hr.mono (by decide)) rfl strictP.pass (pa_cons (pv 2) (pa_cons (pv 3) (pa_cons (pv 7) (pa_cons (pv 10) pa_nil (se rfl)) (se rfl)) (se rfl)) (se rfl)) (he:=se rfl) (hpl:=na rfl))))))) (pss_one (ps_ret pe_bl))
   pss_nil)
  (pss_cons (ps_expr (pe_bm PySem.F.plainAttrs_list PySem.F.slot_list_append PySem.F.type_list_append mt_append.r (pv 10) (pa_cons (pe_tupS (pa_cons pe_int (pa_cons pe_int pa_nil (se rfl)) (se rfl))) pa_nil (se rfl))))
  (pss_cons (ps_if (PW.pt (pw_or (pt_cmpR (op_neD hr.units) (pv 4) (pv 2) (nomark _)) (pw_or1 (pt_cmpR (op_neD hr.units) (pv 5) (pv 3) (nomark _))))) (pss_one (ps_ret pe_bl))
   pss_nil)
  (pss_cons (ps_expr (pe_bm PySem.F.plainAttrs_list PySem.F.slot_list_append PySem.F.type_list_append mt_append.r (pv 5) (pa_cons pe_non pa_nil (se rfl))))
  (pss_cons (ps_asg (pe_tupS (pa_cons pe_str (pa_cons (pe_tupS (pa_cons pe_int (pa_cons pe_int pa_nil (se rfl)) (se rfl))) pa_nil (se rfl)) (se rfl))) (pg_sub (pv 4) (pe_op op_sub (pv 1) pe_int) set_list))
  (pss_one (ps_ret (pe_and (pe_cmpR (op_eqD hr.units) (pv 8) (pv 9) (nomark _)) (pe_one (pe_cmpR (op_eqD hr.units) (pe_cal c_visits (hr.mono (by decide)) rfl strictP.pass (pa_cons (pv 2) (pa_cons (pv 3) (pa_cons (pv 6) pa_nil (se rfl)) (se rfl)) (se rfl)) (he:=se rfl) (hpl:=na rfl)) (pv 9) (nomark _)))))))))))))))))))))),?_⟩
  refine(?_:let q0_:TS:=_;let q1_:TS:=_;let q2_:TS:=_;let q3_:TS:=_;let q4_:TS:=_;let q5_:TS:=_;let q6_:TS:=_;let q7_:TS:=_;let q8_:TS:=_;let q9_:TS:=_;let q10_:TS:=_;let q11_:TS:=_;let q12_:TS:=_;let q13_:TS:=_;let q14_:TS:=_;let q15_:TS:=_;let q16_:TS:=_;tSeq q0_ (tSeq q1_ (tSeq q2_ (tSeq q3_ (tSeq q4_ (tSeq q5_ (tSeq q6_ (tSeq q7_ (tSeq q8_ (tSeq q9_ (tSeq q10_ (tSeq q11_ (tSeq q12_ (tSeq q13_ (tSeq q14_ (tSeq q15_ q16_))))))))))))))) _ _ _)
  intro q0_ q1_ q2_ q3_ q4_ q5_ q6_ q7_ q8_ q9_ q10_ q11_ q12_ q13_ q14_ q15_ q16_
  have sl:=sizeLine_eq
  change tSeq _ _ _ [some (.ref sa),none,none,none,none,none,none,none,none,none,none] H
  refine seq_gen (fun σ' H1=>H=H1∧∃n:Nat,0<n∧n≤8∧σ'=[some (.ref sa),some (.int (n:Int)),none,none,none,none,none,none,none,none,none]) ?_ (fun N hN=>?_)
  case refine_2=>
   simp_all only[spC]
   exact⟨ns,hS,by decide,by decide,fun c=>⟨by decide,hN _ _ ⟨rfl,(1+c % 8).toNat,by omega,by omega,by rw[Int.toNat_of_nonneg (by omega)]⟩⟩⟩
  intro _ _ p2_
  refine(?_:let G_:Prop:=_;G_)
  intro G_
  obtain⟨rfl,n,n0,n8,rfl⟩:=p2_
  dsimp only[G_]
  change tSeq _ _ _ [some (.ref sa),some (.int (n:Int)),none,none,none,none,none,none,none,none,none] H
  refine seq_gen (fun σ' H1=>∃bl b rk,Same H H1∧H bl=none∧Rep H1 (brD b) (.ref bl)∧b.length=n∧BdW b rk∧σ'=[some (.ref sa),some (.int (n:Int)),some (.ref bl),none,none,none,none,none,none,none,none]) ?_ (fun N hN=>?_)
  case refine_2=>
   simp_all only[]
   exact⟨sa,ns,n,rfl,hS,n0,n8,fun l H1 b rk s1 nl rb lb B=>hN _ _ ⟨l,b,rk,s1,nl,rb,lb,B,rfl⟩⟩
  intro _ H1 p2_
  refine(?_:let G_:Prop:=_;G_)
  intro G_
  obtain⟨bl,b,rk,s1,nbl,rb,lb,B,rfl⟩:=p2_
  dsimp only[G_]
  change tSeq _ _ _ [some (.ref sa),some (.int (n:Int)),some (.ref bl),none,none,none,none,none,none,none,none] H1
  refine seq_gen (fun σ' H2=>∃pl ks,Same H1 H2∧H1 pl=none∧H2 pl=some (.lst (List.map pkV ks))∧PksO b ks∧σ'=[some (.ref sa),some (.int (n:Int)),some (.ref bl),some (.ref pl),none,none,none,none,none,none,none]) ?_ (fun N hN=>?_)
  case refine_2=>
   simp_all only[spC,spPck]
   exact⟨ns,s1.seq hS,by decide,by decide,fun c=>⟨b,rb,by omega,B.ok,fun l H2 ks s2 n2 h2 ko=>hN _ _ ⟨l,ks,s2,n2,h2,ko,rfl⟩⟩⟩
  intro _ H2 p2_
  refine(?_:let G_:Prop:=_;G_)
  intro G_
  obtain⟨pl,ks,s2,npl,hpl,ko,rfl⟩:=p2_
  dsimp only[G_]
  change tSeq _ _ _ [some (.ref sa),some (.int (n:Int)),some (.ref bl),some (.ref pl),none,none,none,none,none,none,none] H2
  refine seq_gen (fun σ' H3=>∃hd,Same H2 H3∧H2 hd=none∧Rep H3 (brD b) (.ref hd)∧σ'=[some (.ref sa),some (.int (n:Int)),some (.ref bl),some (.ref pl),some (.ref hd),none,none,none,none,none,none]) ?_ (fun N hN=>?_)
  case refine_2=>
   simp_all only[spCpy]
   exact⟨b,rb.mono s2,by omega,fun l H3 s3 n3 r3=>hN _ _ ⟨l,s3,n3,r3,rfl⟩⟩
  intro _ H3 p2_
  refine(?_:let G_:Prop:=_;G_)
  intro G_
  obtain⟨hd,s3,nhd,rhd,rfl⟩:=p2_
  dsimp only[G_]
  change tSeq _ _ _ [some (.ref sa),some (.int (n:Int)),some (.ref bl),some (.ref pl),some (.ref hd),none,none,none,none,none,none] H3
  refine seq_gen (fun σ' H4=>∃ak,Same H3 H4∧H3 ak=none∧H4 ak=some (.lst (List.map pkV ks))∧σ'=[some (.ref sa),some (.int (n:Int)),some (.ref bl),some (.ref pl),some (.ref hd),some (.ref ak),none,none,none,none,none]) ?_ (fun N hN=>?_)
  case refine_2=>
   simp_all only[]
   exact⟨_,.inl (SqL.of (s3 _ _ hpl)),fun m nm=>hN _ _ ⟨m,same_upd nm,nm,upd_same,rfl⟩⟩
  intro _ H4 p2_
  refine(?_:let G_:Prop:=_;G_)
  intro G_
  obtain⟨ak,s4,nak,hak,rfl⟩:=p2_
  dsimp only[G_]
  have s14:=s2.trans (s3.trans s4)
  have s04:=s1.trans s14
  change tSeq _ _ _ [some (.ref sa),some (.int (n:Int)),some (.ref bl),some (.ref pl),some (.ref hd),some (.ref ak),none,none,none,none,none] H4
  refine seq_gen (fun σ' H5=>H4=H5∧∃o1:Nat,o1<n∧σ'=[some (.ref sa),some (.int (n:Int)),some (.ref bl),some (.ref pl),some (.ref hd),some (.ref ak),some (.int (o1:Int)),none,none,none,none]) ?_ (fun N hN=>?_)
  case refine_2=>
   simp_all only[spC]
   exact⟨ns,s04.seq hS,by decide,by decide,fun c=>⟨by omega,hN _ _ ⟨rfl,(c % (n:Int)).toNat,by have:=Int.emod_lt_of_pos c (show(0:Int)<n by omega);have:=Int.emod_nonneg c (show(n:Int)≠0 by omega);omega,by rw[Int.toNat_of_nonneg (Int.emod_nonneg c (by omega))]⟩⟩⟩
  intro _ _ p2_
  refine(?_:let G_:Prop:=_;G_)
  intro G_
  obtain⟨rfl,o1,ho1,rfl⟩:=p2_
  dsimp only[G_]
  change tSeq _ _ _ [some (.ref sa),some (.int (n:Int)),some (.ref bl),some (.ref pl),some (.ref hd),some (.ref ak),some (.int (o1:Int)),none,none,none,none] H4
  refine seq_gen (fun σ' H5=>H4=H5∧∃o2:Nat,o2<n∧σ'=[some (.ref sa),some (.int (n:Int)),some (.ref bl),some (.ref pl),some (.ref hd),some (.ref ak),some (.int (o1:Int)),some (.int (o2:Int)),none,none,none]) ?_ (fun N hN=>?_)
  case refine_2=>
   simp_all only[spC]
   exact⟨ns,s04.seq hS,by decide,by decide,fun c=>⟨by omega,hN _ _ ⟨rfl,(c % (n:Int)).toNat,by have:=Int.emod_lt_of_pos c (show(0:Int)<n by omega);have:=Int.emod_nonneg c (show(n:Int)≠0 by omega);omega,by rw[Int.toNat_of_nonneg (Int.emod_nonneg c (by omega))]⟩⟩⟩
  intro _ _ p2_
  refine(?_:let G_:Prop:=_;G_)
  intro G_
  obtain⟨rfl,o2,ho2,rfl⟩:=p2_
  dsimp only[G_]
  change tSeq _ _ _ [some (.ref sa),some (.int (n:Int)),some (.ref bl),some (.ref pl),some (.ref hd),some (.ref ak),some (.int (o1:Int)),some (.int (o2:Int)),none,none,none] H4
  refine seq_gen (fun σ' H5=>∃fo S,Same H4 H5∧H4 fo=none∧Rep H5 (.lst ((shS S).map wrowD)) (.ref fo)∧Dg.Sz b.length 1070 S∧VqAt b ks o1 (Dg.val S)∧σ'=[some (.ref sa),some (.int (n:Int)),some (.ref bl),some (.ref pl),some (.ref hd),some (.ref ak),some (.int (o1:Int)),some (.int (o2:Int)),some (.ref fo),none,none]) ?_ (fun N hN=>?_)
  case refine_2=>
   simp_all only[spVi2]
   exact⟨o1,rfl,b,rhd.mono s4,rk,B,ks,hak,ko,s04 _ _ htp,by omega,fun l S H5 s5 n5 r5 z5 e5=>hN _ _ ⟨l,S,s5,n5,r5,z5.up (by omega),e5,rfl⟩⟩
  intro _ H5 p2_
  refine(?_:let G_:Prop:=_;G_)
  intro G_
  obtain⟨fo,S,s5,nfo,rfo,zS,eS,rfl⟩:=p2_
  dsimp only[G_]
  have are:∀{S:Dg.Bk},Dg.Sz b.length 1070 S→(shS S).length=n∧∀p∈shS S,0<p.2∧Bt 5000 p.2∧Nm.g p.1 p.2=1:=fun {S} z=>by
   refine⟨by unfold shS;rw[List.length_map,z.len,lb],fun p hp=>?_⟩
   have h:=shz_up z p hp
   exact⟨h.1.1,Bt.mono (z.bb.le (by have:=Int.le_of_dvd z.pos h.2.1;have:=h.1.1;omega)) (by decide),h.1.2⟩
  have s25:=s3.trans (s4.trans s5)
  change tSeq _ _ _ [some (.ref sa),some (.int (n:Int)),some (.ref bl),some (.ref pl),some (.ref hd),some (.ref ak),some (.int (o1:Int)),some (.int (o2:Int)),some (.ref fo),none,none] H5
  refine seq_gen (fun σ' H6=>Same H5 H6∧σ'=[some (.ref sa),some (.int (n:Int)),some (.ref bl),some (.ref pl),some (.ref hd),some (.ref ak),some (.int (o1:Int)),some (.int (o2:Int)),some (.ref fo),none,none]) ?_ (fun N hN=>?_)
  case refine_2=>
   simp_all only[spAre,spHld3]
   obtain⟨l1,l2⟩:=are zS
   refine⟨shS S,by rw[l1],rfo,by omega,l2,fun H6 s6=>?_⟩
   rw[if_neg (by decide)]
   refine⟨fo,o1,rfl,rfl,b,rb.mono (s2.trans (s25.trans s6)),rk,B,ks,(s25.trans s6) _ _ hpl,ko,S,rfo.mono s6,by omega,by omega,zS,eS,fun H7 s7=>?_⟩
   rw[if_neg (by decide)]
   exact hN _ _ ⟨s6.trans s7,rfl⟩
  rintro _ H6 ⟨s6,rfl⟩
  change tSeq _ _ _ [some (.ref sa),some (.int (n:Int)),some (.ref bl),some (.ref pl),some (.ref hd),some (.ref ak),some (.int (o1:Int)),some (.int (o2:Int)),some (.ref fo),none,none] H6
  refine seq_gen (fun σ' H7=>∃kp,Same H6 H7∧H6 kp=none∧Rep H7 (.lst ((shS S).map wrowD)) (.ref kp)∧σ'=[some (.ref sa),some (.int (n:Int)),some (.ref bl),some (.ref pl),some (.ref hd),some (.ref ak),some (.int (o1:Int)),some (.int (o2:Int)),some (.ref fo),some (.ref kp),none]) ?_ (fun N hN=>?_)
  case refine_2=>
   simp_all only[]
   refine(?_:let G_:Prop:=_;G_)
   intro G_
   obtain⟨_,xf,e,hfo,rlf⟩:=rep_lst.mp (rfo.mono s6)
   dsimp only[G_]
   cases e
   exact⟨_,.inl (SqL.of hfo),fun m nm=>hN _ _ ⟨m,same_upd nm,nm,rep_lst.mpr ⟨m,xf,rfl,upd_same,rlf.mono (same_upd nm)⟩,rfl⟩⟩
  intro _ H7 p2_
  refine(?_:let G_:Prop:=_;G_)
  intro G_
  obtain⟨kp,s7,nkp,rkp,rfl⟩:=p2_
  dsimp only[G_]
  have s57:=s6.trans s7
  have s47:=s5.trans s57
  change tSeq _ _ _ [some (.ref sa),some (.int (n:Int)),some (.ref bl),some (.ref pl),some (.ref hd),some (.ref ak),some (.int (o1:Int)),some (.int (o2:Int)),some (.ref fo),some (.ref kp),none] H7
  refine seq_gen (fun σ' H8=>∃mo S',Same H7 H8∧H7 mo=none∧Rep H8 (.lst ((shS S').map wrowD)) (.ref mo)∧Dg.Sz b.length 1070 S'∧VqAt b ks o2 (Dg.val S')∧σ'=[some (.ref sa),some (.int (n:Int)),some (.ref bl),some (.ref pl),some (.ref hd),some (.ref ak),some (.int (o1:Int)),some (.int (o2:Int)),some (.ref fo),some (.ref kp),some (.ref mo)]) ?_ (fun N hN=>?_)
  case refine_2=>
   simp_all only[spVi2]
   exact⟨o2,rfl,b,rhd.mono (s4.trans s47),rk,B,ks,s47 _ _ hak,ko,(s04.trans s47) _ _ htp,by omega,fun l S' H8 s8 n8 r8 z8 e8=>hN _ _ ⟨l,S',s8,n8,r8,z8.up (by omega),e8,rfl⟩⟩
  intro _ H8 p2_
  refine(?_:let G_:Prop:=_;G_)
  intro G_
  obtain⟨mo,S',s8,nmo,rmo,zS',eS',rfl⟩:=p2_
  dsimp only[G_]
  have s48:=s47.trans s8
  have s28:=s3.trans (s4.trans s48)
  change tSeq _ _ _ [some (.ref sa),some (.int (n:Int)),some (.ref bl),some (.ref pl),some (.ref hd),some (.ref ak),some (.int (o1:Int)),some (.int (o2:Int)),some (.ref fo),some (.ref kp),some (.ref mo)] H8
  refine seq_gen (fun σ' H9=>Same H8 H9∧σ'=[some (.ref sa),some (.int (n:Int)),some (.ref bl),some (.ref pl),some (.ref hd),some (.ref ak),some (.int (o1:Int)),some (.int (o2:Int)),some (.ref fo),some (.ref kp),some (.ref mo)]) ?_ (fun N hN=>?_)
  case refine_2=>
   simp_all only[spAre,spHld3]
   obtain⟨l1,l2⟩:=are zS'
   refine⟨shS S',by rw[l1],rmo,by omega,l2,fun H9 s9=>?_⟩
   rw[if_neg (by decide)]
   refine⟨mo,o2,rfl,rfl,b,rb.mono (s2.trans (s28.trans s9)),rk,B,ks,(s28.trans s9) _ _ hpl,ko,S',rmo.mono s9,by omega,by omega,zS',eS',fun HA sA=>?_⟩
   rw[if_neg (by decide)]
   exact hN _ _ ⟨s9.trans sA,rfl⟩
  rintro _ H9 ⟨s9,rfl⟩
  refine(?_:let G_:Prop:=_;G_)
  intro G_
  obtain⟨_,xm,em,hmo,rlm⟩:=rep_lst.mp (rmo.mono s9)
  dsimp only[G_]
  cases em
  have lm:=rlm.length
  rw[List.length_map,(are zS').1] at lm
  change tSeq _ _ _ [some (.ref sa),some (.int (n:Int)),some (.ref bl),some (.ref pl),some (.ref hd),some (.ref ak),some (.int (o1:Int)),some (.int (o2:Int)),some (.ref fo),some (.ref kp),some (.ref mo)] H9
  refine seq_gen (fun σ' HA=>Same H7 HA∧σ'=[some (.ref sa),some (.int (n:Int)),some (.ref bl),some (.ref pl),some (.ref hd),some (.ref ak),some (.int (o1:Int)),some (.int (o2:Int)),some (.ref fo),some (.ref kp),some (.ref mo)]) ?_ (fun N hN=>?_)
  case refine_2=>
   simp_all only[rAppend]
   refine⟨.inl ⟨rfl,_,SqL.of hmo⟩,by decide,fun p HA sA nA hA=>⟨_,sA _ _ hmo,by omega,hN _ _ ⟨same_upd_of (s8.trans (s9.trans sA)) nmo,rfl⟩⟩⟩
  rintro _ HA ⟨sA,rfl⟩
  have s4A:=s47.trans sA
  have s2A:Same H2 HA:=s3.trans (s4.trans s4A)
  change tSeq _ _ _ [some (.ref sa),some (.int (n:Int)),some (.ref bl),some (.ref pl),some (.ref hd),some (.ref ak),some (.int (o1:Int)),some (.int (o2:Int)),some (.ref fo),some (.ref kp),some (.ref mo)] HA
  refine seq_gen (fun σ' HB=>HA=HB∧σ'=[some (.ref sa),some (.int (n:Int)),some (.ref bl),some (.ref pl),some (.ref hd),some (.ref ak),some (.int (o1:Int)),some (.int (o2:Int)),some (.ref fo),some (.ref kp),some (.ref mo)]) ?_ (fun N hN=>?_)
  case refine_2=>
   simp_all only[]
   refine⟨_,rhd.mono (s4.trans s4A),rb.mono (s2.trans s2A),⟨_,rfl⟩,depth_br _,_,rfl,?_⟩
   rw[if_neg (by decide)]
   refine⟨_,rep_pks (s4A _ _ hak),rep_pks (s2A _ _ hpl),⟨_,rfl⟩,depth_pks _,_,rfl,?_⟩
   rw[if_neg (by decide)]
   exact hN _ _ ⟨rfl,rfl⟩
  rintro _ _ ⟨rfl,rfl⟩
  have nak2:H2 ak=none:=none_of s3 nak
  have hakA:=s4A _ _ hak
  have lks:=ko.len
  change tSeq _ _ _ [some (.ref sa),some (.int (n:Int)),some (.ref bl),some (.ref pl),some (.ref hd),some (.ref ak),some (.int (o1:Int)),some (.int (o2:Int)),some (.ref fo),some (.ref kp),some (.ref mo)] HA
  refine seq_gen (fun σ' HB=>Same H2 HB∧(∀x o,x≠ak→HA x=some o→HB x=some o)∧σ'=[some (.ref sa),some (.int (n:Int)),some (.ref bl),some (.ref pl),some (.ref hd),some (.ref ak),some (.int (o1:Int)),some (.int (o2:Int)),some (.ref fo),some (.ref kp),some (.ref mo)]) ?_ (fun N hN=>?_)
  case refine_2=>
   simp_all only[rAppend]
   refine⟨.inl ⟨rfl,_,SqL.of hakA⟩,_,hakA,by rw[List.length_map];omega,hN _ _ ⟨same_upd_of s2A nak2,fun x o h1 h2=>by rw[upd_ne h1];exact h2,rfl⟩⟩
  intro _ HB p2_
  refine(?_:let G_:Prop:=_;G_)
  intro G_
  obtain⟨sB,kB,rfl⟩:=p2_
  obtain⟨_,xh,eh,hhd,rlh⟩:=rep_lst.mp rhd
  dsimp only[G_]
  cases eh
  have lh:=rlh.length
  rw[List.length_map] at lh
  have hakd:hd≠ak:=fun z=>by rw[←z,hhd] at nak;cases nak
  have hhdA:=(s4.trans s4A) _ _ hhd
  have hhdB:=kB _ _ hakd hhdA
  change tSeq _ _ _ [some (.ref sa),some (.int (n:Int)),some (.ref bl),some (.ref pl),some (.ref hd),some (.ref ak),some (.int (o1:Int)),some (.int (o2:Int)),some (.ref fo),some (.ref kp),some (.ref mo)] HB
  refine seq_gen (fun σ' HC=>Same H2 HC∧(∀x o,x≠hd→x≠ak→HA x=some o→HC x=some o)∧σ'=[some (.ref sa),some (.int (n:Int)),some (.ref bl),some (.ref pl),some (.ref hd),some (.ref ak),some (.int (o1:Int)),some (.int (o2:Int)),some (.ref fo),some (.ref kp),some (.ref mo)]) ?_ (fun N hN=>?_)
  case refine_2=>
   simp_all only[]
   have ixn:ixN xh.length ((n:Int) - 1)=some (n - 1):=by
    have h:=ixN_nat (n:=xh.length) (i:=n - 1) (by omega)
    rwa [show((n - 1:Nat):Int)=(n:Int) - 1 by omega] at h
   refine⟨by decide,fun p HC sC nC hC=>⟨by decide,fun p1 HD sD nD hD=>⟨_,(sC.trans sD) _ _ hhdB,_,ixn,hN _ _ ⟨same_upd_of (sB.trans (sC.trans sD)) nhd,fun x o h1 h2 h3=>by rw[upd_ne h1];exact(sC.trans sD) _ _ (kB _ _ h2 h3),rfl⟩⟩⟩⟩
  intro _ HC p2_
  refine(?_:let G_:Prop:=_;G_)
  intro G_
  obtain⟨sC,kC,rfl⟩:=p2_
  dsimp only[G_]
  have s1C:=s2.trans sC
  have ktC:∀x vs,HA x=some (.tup vs)→HC x=some (.tup vs):=fun x vs hx=>kC _ _ (fun z=>by rw[z,hhdA] at hx;cases hx) (fun z=>by rw[z,hakA] at hx;cases hx) hx
  have rfoF:Rep HC (.lst ((shS S).map wrowD)) (.ref fo):=repW_keep (rfo.mono (s57.trans sA)) (fun xs hx=>kC _ _ (fun z=>by rw[z,s4 _ _ hhd] at nfo;cases nfo) (fun z=>by rw[z,hak] at nfo;cases nfo) hx) ktC
  have rkpF:Rep HC (.lst ((shS S).map wrowD)) (.ref kp):=repW_keep (rkp.mono sA) (fun xs hx=>kC _ _ (fun z=>by rw[z,(s4.trans (s5.trans s6)) _ _ hhd] at nkp;cases nkp) (fun z=>by rw[z,(s5.trans s6) _ _ hak] at nkp;cases nkp) hx) ktC
  simp_all only[spVi2]
  refine⟨_,rfoF,rkpF,⟨_,rfl⟩,depth_ws _,_,rfl,?_⟩
  rw[if_pos rfl]
  refine⟨o1,rfl,b,rb.mono s1C,rk,B,ks,sC _ _ hpl,ko,(s1.trans s1C) _ _ htp,by omega,fun l S2 HG sG nG rG zG eG=>?_⟩
  have rG:Rep HG (.lst ((shS S2).map wrowD)) (.ref l):=rG
  rw[←vs_sole B ko (zS.up (M':=1070) (by omega)) (zG.up (M':=1070) (by omega)) eS eG] at rG
  exact⟨_,rG,rkpF.mono sG,⟨_,rfl⟩,depth_ws _,kk _⟩
end
theorem all_mk {l:PySem.W.OpenLaw} {w:World} {K:PySem.W.Frag} {h:Heap} {mg:Str→Option Value} {fa:Addr} (X:K.In h) (G:h.Ns mainGlobals mg) (hfa:mg "law"=some (.ref fa))
  {f0:Addr} {od0 an0:Option Addr} {sl0:Array (Option Value)} {oc0 kV0 dc0 pm0 cd0 ct0:Value} {f1:Addr} {od1 an1:Option Addr} {sl1:Array (Option Value)} {oc1 kV1 dc1 pm1 cd1 ct1:Value} {f2:Addr} {od2 an2:Option Addr} {sl2:Array (Option Value)} {oc2 kV2 dc2 pm2 cd2 ct2:Value} {f3:Addr} {od3 an3:Option Addr} {sl3:Array (Option Value)} {oc3 kV3 dc3 pm3 cd3 ct3:Value} {f4:Addr} {od4 an4:Option Addr} {sl4:Array (Option Value)} {oc4 kV4 dc4 pm4 cd4 ct4:Value} {f5:Addr} {od5 an5:Option Addr} {sl5:Array (Option Value)} {oc5 kV5 dc5 pm5 cd5 ct5:Value} {f6:Addr} {od6 an6:Option Addr} {sl6:Array (Option Value)} {oc6 kV6 dc6 pm6 cd6 ct6:Value} {f7:Addr} {od7 an7:Option Addr} {sl7:Array (Option Value)} {oc7 kV7 dc7 pm7 cd7 ct7:Value} {f8:Addr} {od8 an8:Option Addr} {sl8:Array (Option Value)} {oc8 kV8 dc8 pm8 cd8 ct8:Value} {f9:Addr} {od9 an9:Option Addr} {sl9:Array (Option Value)} {oc9 kV9 dc9 pm9 cd9 ct9:Value} {f10:Addr} {od10 an10:Option Addr} {sl10:Array (Option Value)} {oc10 kV10 dc10 pm10 cd10 ct10:Value} {f11:Addr} {od11 an11:Option Addr} {sl11:Array (Option Value)} {oc11 kV11 dc11 pm11 cd11 ct11:Value} {f12:Addr} {od12 an12:Option Addr} {sl12:Array (Option Value)} {oc12 kV12 dc12 pm12 cd12 ct12:Value} {f13:Addr} {od13 an13:Option Addr} {sl13:Array (Option Value)} {oc13 kV13 dc13 pm13 cd13 ct13:Value} {f14:Addr} {od14 an14:Option Addr} {sl14:Array (Option Value)} {oc14 kV14 dc14 pm14 cd14 ct14:Value} {f15:Addr} {od15 an15:Option Addr} {sl15:Array (Option Value)} {oc15 kV15 dc15 pm15 ct15:Value} {f16:Addr} {od16 an16:Option Addr} {sl16:Array (Option Value)} {oc16 kV16 dc16 pm16 cd16 ct16:Value} {f17:Addr} {od17 an17:Option Addr} {sl17:Array (Option Value)} {oc17 kV17 dc17 pm17 cd17 ct17:Value} {f18:Addr} {od18 an18:Option Addr} {sl18:Array (Option Value)} {oc18 kV18 dc18 pm18 cd18 ct18:Value} {f19:Addr} {od19 an19:Option Addr} {sl19:Array (Option Value)} {oc19 kV19 dc19 pm19 cd19 ct19:Value} {f20:Addr} {od20 an20:Option Addr} {sl20:Array (Option Value)} {oc20 kV20 dc20 pm20 cd20 ct20:Value} {f21:Addr} {od21 an21:Option Addr} {sl21:Array (Option Value)} {oc21 kV21 dc21 pm21 cd21 ct21:Value} {f22:Addr} {od22 an22:Option Addr} {sl22:Array (Option Value)} {oc22 kV22 dc22 pm22 cd22 ct22:Value} {f23:Addr} {od23 an23:Option Addr} {sl23:Array (Option Value)} {oc23 kV23 dc23 pm23 cd23 ct23:Value} {f24:Addr} {od24 an24:Option Addr} {sl24:Array (Option Value)} {oc24 kV24 dc24 pm24 cd24 ct24:Value} {f25:Addr} {od25 an25:Option Addr} {sl25:Array (Option Value)} {oc25 kV25 dc25 pm25 cd25 ct25:Value} {f26:Addr} {od26 an26:Option Addr} {sl26:Array (Option Value)} {oc26 kV26 dc26 pm26 cd26 ct26:Value} {f27:Addr} {od27 an27:Option Addr} {sl27:Array (Option Value)} {oc27 kV27 dc27 pm27 cd27 ct27:Value} {f28:Addr} {od28 an28:Option Addr} {sl28:Array (Option Value)} {oc28 kV28 dc28 pm28 cd28 ct28:Value} {f29:Addr} {od29 an29:Option Addr} {sl29:Array (Option Value)} {oc29 kV29 dc29 pm29 cd29 ct29:Value} {f30:Addr} {od30 an30:Option Addr} {sl30:Array (Option Value)} {oc30 kV30 dc30 pm30 cd30 ct30:Value} {f31:Addr} {od31 an31:Option Addr} {sl31:Array (Option Value)} {oc31 kV31 dc31 pm31 cd31 ct31:Value} {f32:Addr} {od32 an32:Option Addr} {sl32:Array (Option Value)} {oc32 kV32 dc32 pm32 cd32 ct32:Value} {f33:Addr} {od33 an33:Option Addr} {sl33:Array (Option Value)} {oc33 kV33 dc33 pm33 cd33 ct33:Value} {f34:Addr} {od34 an34:Option Addr} {sl34:Array (Option Value)} {oc34 kV34 dc34 pm34 cd34 ct34:Value} {f35:Addr} {od35 an35:Option Addr} {sl35:Array (Option Value)} {oc35 kV35 dc35 pm35 cd35 ct35:Value} {f36:Addr} {od36 an36:Option Addr} {sl36:Array (Option Value)} {oc36 kV36 dc36 pm36 cd36 ct36:Value} {f37:Addr} {od37 an37:Option Addr} {sl37:Array (Option Value)} {oc37 kV37 dc37 pm37 cd37 ct37:Value} {f38:Addr} {od38 an38:Option Addr} {sl38:Array (Option Value)} {oc38 kV38 dc38 pm38 cd38 ct38:Value} {f39:Addr} {od39 an39:Option Addr} {sl39:Array (Option Value)} {oc39 kV39 dc39 pm39 cd39 ct39:Value} {vt_MOST_PLACES:Tok} {vt_MOST_PICKS:Tok} {q_Book tc tp:Addr} {fI_Book:Addr} {odI_Book anI_Book:Option Addr} {slI_Book:Array (Option Value)} {ocI_Book kVI_Book dcI_Book pmI_Book cdI_Book ctI_Book:Value} {fM_Book_as_shares:Addr} {odM_Book_as_shares anM_Book_as_shares:Option Addr} {slM_Book_as_shares:Array (Option Value)} {ocM_Book_as_shares kVM_Book_as_shares dcM_Book_as_shares pmM_Book_as_shares cdM_Book_as_shares ctM_Book_as_shares:Value} {fM_Book_scaled:Addr} {odM_Book_scaled anM_Book_scaled:Option Addr} {slM_Book_scaled:Array (Option Value)} {ocM_Book_scaled kVM_Book_scaled dcM_Book_scaled pmM_Book_scaled cdM_Book_scaled ctM_Book_scaled:Value}
  (a0:PySem.W.nsIn K mainGlobals "goals"=some (some (.ref f0))) (l0:K.lookup f0=some ⟨oc0,od0,.func (PySem.W.fnOf "goals" "goals" (defArgs (top 1)) (defBody (top 1)) (defScope (top 1)) .none kV0 dc0 pm0 an0 cd0 ct0),sl0⟩) (e0:PySem.W.codeIn K cd0 "goals"=true) (k0:PySem.W.keepIn K (.ref f0)=true)
  (a1:PySem.W.nsIn K mainGlobals "is_ready"=some (some (.ref f1))) (l1:K.lookup f1=some ⟨oc1,od1,.func (PySem.W.fnOf "is_ready" "is_ready" (defArgs (top 2)) (defBody (top 2)) (defScope (top 2)) .none kV1 dc1 pm1 an1 cd1 ct1),sl1⟩) (e1:PySem.W.codeIn K cd1 "is_ready"=true) (k1:PySem.W.keepIn K (.ref f1)=true)
  (a2:PySem.W.nsIn K mainGlobals "ready_places"=some (some (.ref f2))) (l2:K.lookup f2=some ⟨oc2,od2,.func (PySem.W.fnOf "ready_places" "ready_places" (defArgs (top 3)) (defBody (top 3)) (defScope (top 3)) .none kV2 dc2 pm2 an2 cd2 ct2),sl2⟩) (e2:PySem.W.codeIn K cd2 "ready_places"=true) (k2:PySem.W.keepIn K (.ref f2)=true)
  (a3:PySem.W.nsIn K mainGlobals "levels"=some (some (.ref f3))) (l3:K.lookup f3=some ⟨oc3,od3,.func (PySem.W.fnOf "levels" "levels" (defArgs (top 4)) (defBody (top 4)) (defScope (top 4)) .none kV3 dc3 pm3 an3 cd3 ct3),sl3⟩) (e3:PySem.W.codeIn K cd3 "levels"=true) (k3:PySem.W.keepIn K (.ref f3)=true)
  (a4:PySem.W.nsIn K mainGlobals "ring"=some (some (.ref f4))) (l4:K.lookup f4=some ⟨oc4,od4,.func (PySem.W.fnOf "ring" "ring" (defArgs (top 5)) (defBody (top 5)) (defScope (top 5)) .none kV4 dc4 pm4 an4 cd4 ct4),sl4⟩) (e4:PySem.W.codeIn K cd4 "ring"=true) (k4:PySem.W.keepIn K (.ref f4)=true)
  (a5:PySem.W.nsIn K mainGlobals "common_divisor"=some (some (.ref f5))) (l5:K.lookup f5=some ⟨oc5,od5,.func (PySem.W.fnOf "common_divisor" "common_divisor" (defArgs (top 12)) (defBody (top 12)) (defScope (top 12)) .none kV5 dc5 pm5 an5 cd5 ct5),sl5⟩) (e5:PySem.W.codeIn K cd5 "common_divisor"=true) (k5:PySem.W.keepIn K (.ref f5)=true)
  (a6:PySem.W.nsIn K mainGlobals "share"=some (some (.ref f6))) (l6:K.lookup f6=some ⟨oc6,od6,.func (PySem.W.fnOf "share" "share" (defArgs (top 13)) (defBody (top 13)) (defScope (top 13)) .none kV6 dc6 pm6 an6 cd6 ct6),sl6⟩) (e6:PySem.W.codeIn K cd6 "share"=true) (k6:PySem.W.keepIn K (.ref f6)=true)
  (a7:PySem.W.nsIn K mainGlobals "row_with_head"=some (some (.ref f7))) (l7:K.lookup f7=some ⟨oc7,od7,.func (PySem.W.fnOf "row_with_head" "row_with_head" (defArgs (top 15)) (defBody (top 15)) (defScope (top 15)) .none kV7 dc7 pm7 an7 cd7 ct7),sl7⟩) (e7:PySem.W.codeIn K cd7 "row_with_head"=true) (k7:PySem.W.keepIn K (.ref f7)=true)
  (a8:PySem.W.nsIn K mainGlobals "swapped"=some (some (.ref f8))) (l8:K.lookup f8=some ⟨oc8,od8,.func (PySem.W.fnOf "swapped" "swapped" (defArgs (top 16)) (defBody (top 16)) (defScope (top 16)) .none kV8 dc8 pm8 an8 cd8 ct8),sl8⟩) (e8:PySem.W.codeIn K cd8 "swapped"=true) (k8:PySem.W.keepIn K (.ref f8)=true)
  (a9:PySem.W.nsIn K mainGlobals "without_first_column"=some (some (.ref f9))) (l9:K.lookup f9=some ⟨oc9,od9,.func (PySem.W.fnOf "without_first_column" "without_first_column" (defArgs (top 17)) (defBody (top 17)) (defScope (top 17)) .none kV9 dc9 pm9 an9 cd9 ct9),sl9⟩) (e9:PySem.W.codeIn K cd9 "without_first_column"=true) (k9:PySem.W.keepIn K (.ref f9)=true)
  (a10:PySem.W.nsIn K mainGlobals "swept"=some (some (.ref f10))) (l10:K.lookup f10=some ⟨oc10,od10,.func (PySem.W.fnOf "swept" "swept" (defArgs (top 18)) (defBody (top 18)) (defScope (top 18)) .none kV10 dc10 pm10 an10 cd10 ct10),sl10⟩) (e10:PySem.W.codeIn K cd10 "swept"=true) (k10:PySem.W.keepIn K (.ref f10)=true)
  (a11:PySem.W.nsIn K mainGlobals "whole_answers"=some (some (.ref f11))) (l11:K.lookup f11=some ⟨oc11,od11,.func (PySem.W.fnOf "whole_answers" "whole_answers" (defArgs (top 19)) (defBody (top 19)) (defScope (top 19)) .none kV11 dc11 pm11 an11 cd11 ct11),sl11⟩) (e11:PySem.W.codeIn K cd11 "whole_answers"=true) (k11:PySem.W.keepIn K (.ref f11)=true)
  (a12:PySem.W.nsIn K mainGlobals "column_of"=some (some (.ref f12))) (l12:K.lookup f12=some ⟨oc12,od12,.func (PySem.W.fnOf "column_of" "column_of" (defArgs (top 20)) (defBody (top 20)) (defScope (top 20)) .none kV12 dc12 pm12 an12 cd12 ct12),sl12⟩) (e12:PySem.W.codeIn K cd12 "column_of"=true) (k12:PySem.W.keepIn K (.ref f12)=true)
  (a13:PySem.W.nsIn K mainGlobals "turned_rows"=some (some (.ref f13))) (l13:K.lookup f13=some ⟨oc13,od13,.func (PySem.W.fnOf "turned_rows" "turned_rows" (defArgs (top 21)) (defBody (top 21)) (defScope (top 21)) .none kV13 dc13 pm13 an13 cd13 ct13),sl13⟩) (e13:PySem.W.codeIn K cd13 "turned_rows"=true) (k13:PySem.W.keepIn K (.ref f13)=true)
  (a14:PySem.W.nsIn K mainGlobals "steps_from"=some (some (.ref f14))) (l14:K.lookup f14=some ⟨oc14,od14,.func (PySem.W.fnOf "steps_from" "steps_from" (defArgs (top 23)) (defBody (top 23)) (defScope (top 23)) .none kV14 dc14 pm14 an14 cd14 ct14),sl14⟩) (e14:PySem.W.codeIn K cd14 "steps_from"=true) (k14:PySem.W.keepIn K (.ref f14)=true)
  (a15:PySem.W.nsIn K mainGlobals "parts"=some (some (.ref f15))) (l15:K.lookup f15=some ⟨oc15,od15,.func (PySem.W.fnOf "parts" "parts" (defArgs (top 24)) (defBody (top 24)) (defScope (top 24)) .none kV15 dc15 pm15 an15 (Value.ref tc) ct15),sl15⟩) (e15:PySem.W.codeIn K (Value.ref tc) "parts"=true) (k15:PySem.W.keepIn K (.ref f15)=true)
  (a16:PySem.W.nsIn K mainGlobals "ways_of_picks"=some (some (.ref f16))) (l16:K.lookup f16=some ⟨oc16,od16,.func (PySem.W.fnOf "ways_of_picks" "ways_of_picks" (defArgs (top 28)) (defBody (top 28)) (defScope (top 28)) .none kV16 dc16 pm16 an16 cd16 ct16),sl16⟩) (e16:PySem.W.codeIn K cd16 "ways_of_picks"=true) (k16:PySem.W.keepIn K (.ref f16)=true)
  (a17:PySem.W.nsIn K mainGlobals "checked_parts"=some (some (.ref f17))) (l17:K.lookup f17=some ⟨oc17,od17,.func (PySem.W.fnOf "checked_parts" "checked_parts" (defArgs (top 29)) (defBody (top 29)) (defScope (top 29)) .none kV17 dc17 pm17 an17 cd17 ct17),sl17⟩) (e17:PySem.W.codeIn K cd17 "checked_parts"=true) (k17:PySem.W.keepIn K (.ref f17)=true)
  (a18:PySem.W.nsIn K mainGlobals "weighted_ways"=some (some (.ref f18))) (l18:K.lookup f18=some ⟨oc18,od18,.func (PySem.W.fnOf "weighted_ways" "weighted_ways" (defArgs (top 30)) (defBody (top 30)) (defScope (top 30)) .none kV18 dc18 pm18 an18 cd18 ct18),sl18⟩) (e18:PySem.W.codeIn K cd18 "weighted_ways"=true) (k18:PySem.W.keepIn K (.ref f18)=true)
  (a19:PySem.W.nsIn K mainGlobals "all_weighted_ways"=some (some (.ref f19))) (l19:K.lookup f19=some ⟨oc19,od19,.func (PySem.W.fnOf "all_weighted_ways" "all_weighted_ways" (defArgs (top 31)) (defBody (top 31)) (defScope (top 31)) .none kV19 dc19 pm19 an19 cd19 ct19),sl19⟩) (e19:PySem.W.codeIn K cd19 "all_weighted_ways"=true) (k19:PySem.W.keepIn K (.ref f19)=true)
  (a20:PySem.W.nsIn K mainGlobals "total_weight"=some (some (.ref f20))) (l20:K.lookup f20=some ⟨oc20,od20,.func (PySem.W.fnOf "total_weight" "total_weight" (defArgs (top 32)) (defBody (top 32)) (defScope (top 32)) .none kV20 dc20 pm20 an20 cd20 ct20),sl20⟩) (e20:PySem.W.codeIn K cd20 "total_weight"=true) (k20:PySem.W.keepIn K (.ref f20)=true)
  (a21:PySem.W.nsIn K mainGlobals "part_rows"=some (some (.ref f21))) (l21:K.lookup f21=some ⟨oc21,od21,.func (PySem.W.fnOf "part_rows" "part_rows" (defArgs (top 33)) (defBody (top 33)) (defScope (top 33)) .none kV21 dc21 pm21 an21 cd21 ct21),sl21⟩) (e21:PySem.W.codeIn K cd21 "part_rows"=true) (k21:PySem.W.keepIn K (.ref f21)=true)
  (a22:PySem.W.nsIn K mainGlobals "with_visits"=some (some (.ref f22))) (l22:K.lookup f22=some ⟨oc22,od22,.func (PySem.W.fnOf "with_visits" "with_visits" (defArgs (top 35)) (defBody (top 35)) (defScope (top 35)) .none kV22 dc22 pm22 an22 cd22 ct22),sl22⟩) (e22:PySem.W.codeIn K cd22 "with_visits"=true) (k22:PySem.W.keepIn K (.ref f22)=true)
  (a23:PySem.W.nsIn K mainGlobals "visits"=some (some (.ref f23))) (l23:K.lookup f23=some ⟨oc23,od23,.func (PySem.W.fnOf "visits" "visits" (defArgs (top 36)) (defBody (top 36)) (defScope (top 36)) .none kV23 dc23 pm23 an23 cd23 ct23),sl23⟩) (e23:PySem.W.codeIn K cd23 "visits"=true) (k23:PySem.W.keepIn K (.ref f23)=true)
  (a24:PySem.W.nsIn K mainGlobals "_law_cell"=some (some (.ref f24))) (l24:K.lookup f24=some ⟨oc24,od24,.func (PySem.W.fnOf "_law_cell" "_law_cell" (defArgs (top 38)) (defBody (top 38)) (defScope (top 38)) .none kV24 dc24 pm24 an24 cd24 ct24),sl24⟩) (e24:PySem.W.codeIn K cd24 "_law_cell"=true) (k24:PySem.W.keepIn K (.ref f24)=true)
  (a25:PySem.W.nsIn K mainGlobals "_law_mixed"=some (some (.ref f25))) (l25:K.lookup f25=some ⟨oc25,od25,.func (PySem.W.fnOf "_law_mixed" "_law_mixed" (defArgs (top 39)) (defBody (top 39)) (defScope (top 39)) .none kV25 dc25 pm25 an25 cd25 ct25),sl25⟩) (e25:PySem.W.codeIn K cd25 "_law_mixed"=true) (k25:PySem.W.keepIn K (.ref f25)=true)
  (a26:PySem.W.nsIn K mainGlobals "_law_low"=some (some (.ref f26))) (l26:K.lookup f26=some ⟨oc26,od26,.func (PySem.W.fnOf "_law_low" "_law_low" (defArgs (top 40)) (defBody (top 40)) (defScope (top 40)) .none kV26 dc26 pm26 an26 cd26 ct26),sl26⟩) (e26:PySem.W.codeIn K cd26 "_law_low"=true) (k26:PySem.W.keepIn K (.ref f26)=true)
  (a27:PySem.W.nsIn K mainGlobals "_law_plus"=some (some (.ref f27))) (l27:K.lookup f27=some ⟨oc27,od27,.func (PySem.W.fnOf "_law_plus" "_law_plus" (defArgs (top 41)) (defBody (top 41)) (defScope (top 41)) .none kV27 dc27 pm27 an27 cd27 ct27),sl27⟩) (e27:PySem.W.codeIn K cd27 "_law_plus"=true) (k27:PySem.W.keepIn K (.ref f27)=true)
  (a28:PySem.W.nsIn K mainGlobals "_law_times"=some (some (.ref f28))) (l28:K.lookup f28=some ⟨oc28,od28,.func (PySem.W.fnOf "_law_times" "_law_times" (defArgs (top 42)) (defBody (top 42)) (defScope (top 42)) .none kV28 dc28 pm28 an28 cd28 ct28),sl28⟩) (e28:PySem.W.codeIn K cd28 "_law_times"=true) (k28:PySem.W.keepIn K (.ref f28)=true)
  (a29:PySem.W.nsIn K mainGlobals "_law_share"=some (some (.ref f29))) (l29:K.lookup f29=some ⟨oc29,od29,.func (PySem.W.fnOf "_law_share" "_law_share" (defArgs (top 43)) (defBody (top 43)) (defScope (top 43)) .none kV29 dc29 pm29 an29 cd29 ct29),sl29⟩) (e29:PySem.W.codeIn K cd29 "_law_share"=true) (k29:PySem.W.keepIn K (.ref f29)=true)
  (a30:PySem.W.nsIn K mainGlobals "_law_turned"=some (some (.ref f30))) (l30:K.lookup f30=some ⟨oc30,od30,.func (PySem.W.fnOf "_law_turned" "_law_turned" (defArgs (top 44)) (defBody (top 44)) (defScope (top 44)) .none kV30 dc30 pm30 an30 cd30 ct30),sl30⟩) (e30:PySem.W.codeIn K cd30 "_law_turned"=true) (k30:PySem.W.keepIn K (.ref f30)=true)
  (a31:PySem.W.nsIn K mainGlobals "_law_throw"=some (some (.ref f31))) (l31:K.lookup f31=some ⟨oc31,od31,.func (PySem.W.fnOf "_law_throw" "_law_throw" (defArgs (top 45)) (defBody (top 45)) (defScope (top 45)) .none kV31 dc31 pm31 an31 cd31 ct31),sl31⟩) (e31:PySem.W.codeIn K cd31 "_law_throw"=true) (k31:PySem.W.keepIn K (.ref f31)=true)
  (a32:PySem.W.nsIn K mainGlobals "_law_board"=some (some (.ref f32))) (l32:K.lookup f32=some ⟨oc32,od32,.func (PySem.W.fnOf "_law_board" "_law_board" (defArgs (top 46)) (defBody (top 46)) (defScope (top 46)) .none kV32 dc32 pm32 an32 cd32 ct32),sl32⟩) (e32:PySem.W.codeIn K cd32 "_law_board"=true) (k32:PySem.W.keepIn K (.ref f32)=true)
  (a33:PySem.W.nsIn K mainGlobals "_law_picks"=some (some (.ref f33))) (l33:K.lookup f33=some ⟨oc33,od33,.func (PySem.W.fnOf "_law_picks" "_law_picks" (defArgs (top 47)) (defBody (top 47)) (defScope (top 47)) .none kV33 dc33 pm33 an33 cd33 ct33),sl33⟩) (e33:PySem.W.codeIn K cd33 "_law_picks"=true) (k33:PySem.W.keepIn K (.ref f33)=true)
  (a34:PySem.W.nsIn K mainGlobals "_law_copy"=some (some (.ref f34))) (l34:K.lookup f34=some ⟨oc34,od34,.func (PySem.W.fnOf "_law_copy" "_law_copy" (defArgs (top 48)) (defBody (top 48)) (defScope (top 48)) .none kV34 dc34 pm34 an34 cd34 ct34),sl34⟩) (e34:PySem.W.codeIn K cd34 "_law_copy"=true) (k34:PySem.W.keepIn K (.ref f34)=true)
  (a35:PySem.W.nsIn K mainGlobals "_law_ways"=some (some (.ref f35))) (l35:K.lookup f35=some ⟨oc35,od35,.func (PySem.W.fnOf "_law_ways" "_law_ways" (defArgs (top 49)) (defBody (top 49)) (defScope (top 49)) .none kV35 dc35 pm35 an35 cd35 ct35),sl35⟩) (e35:PySem.W.codeIn K cd35 "_law_ways"=true) (k35:PySem.W.keepIn K (.ref f35)=true)
  (a36:PySem.W.nsIn K mainGlobals "_law_is_share"=some (some (.ref f36))) (l36:K.lookup f36=some ⟨oc36,od36,.func (PySem.W.fnOf "_law_is_share" "_law_is_share" (defArgs (top 51)) (defBody (top 51)) (defScope (top 51)) .none kV36 dc36 pm36 an36 cd36 ct36),sl36⟩) (e36:PySem.W.codeIn K cd36 "_law_is_share"=true) (k36:PySem.W.keepIn K (.ref f36)=true)
  (a37:PySem.W.nsIn K mainGlobals "_law_are_shares"=some (some (.ref f37))) (l37:K.lookup f37=some ⟨oc37,od37,.func (PySem.W.fnOf "_law_are_shares" "_law_are_shares" (defArgs (top 52)) (defBody (top 52)) (defScope (top 52)) .none kV37 dc37 pm37 an37 cd37 ct37),sl37⟩) (e37:PySem.W.codeIn K cd37 "_law_are_shares"=true) (k37:PySem.W.keepIn K (.ref f37)=true)
  (a38:PySem.W.nsIn K mainGlobals "_law_holds"=some (some (.ref f38))) (l38:K.lookup f38=some ⟨oc38,od38,.func (PySem.W.fnOf "_law_holds" "_law_holds" (defArgs (top 53)) (defBody (top 53)) (defScope (top 53)) .none kV38 dc38 pm38 an38 cd38 ct38),sl38⟩) (e38:PySem.W.codeIn K cd38 "_law_holds"=true) (k38:PySem.W.keepIn K (.ref f38)=true)
  (a39:PySem.W.nsIn K mainGlobals "law"=some (some (.ref f39))) (l39:K.lookup f39=some ⟨oc39,od39,.func (PySem.W.fnOf "law" "law" (defArgs (top 54)) (defBody (top 54)) (defScope (top 54)) .none kV39 dc39 pm39 an39 cd39 ct39),sl39⟩) (e39:PySem.W.codeIn K cd39 "law"=true) (k39:PySem.W.keepIn K (.ref f39)=true)
  (z_abs:PySem.W.nsIn K mainGlobals "abs"=some none)
  (z_all:PySem.W.nsIn K mainGlobals "all"=some none)
  (z_any:PySem.W.nsIn K mainGlobals "any"=some none)
  (z_bool:PySem.W.nsIn K mainGlobals "bool"=some none)
  (z_enumerate:PySem.W.nsIn K mainGlobals "enumerate"=some none)
  (z_int:PySem.W.nsIn K mainGlobals "int"=some none)
  (z_isinstance:PySem.W.nsIn K mainGlobals "isinstance"=some none)
  (z_len:PySem.W.nsIn K mainGlobals "len"=some none)
  (z_list:PySem.W.nsIn K mainGlobals "list"=some none)
  (z_range:PySem.W.nsIn K mainGlobals "range"=some none)
  (z_reversed:PySem.W.nsIn K mainGlobals "reversed"=some none)
  (z_sorted:PySem.W.nsIn K mainGlobals "sorted"=some none)
  (z_sum:PySem.W.nsIn K mainGlobals "sum"=some none)
  (z_tuple:PySem.W.nsIn K mainGlobals "tuple"=some none)
  (z_zip:PySem.W.nsIn K mainGlobals "zip"=some none)
  (c_MOST_PLACES:PySem.W.nsIn K mainGlobals "MOST_PLACES"=some (some (.int 40 vt_MOST_PLACES)))
  (c_MOST_PICKS:PySem.W.nsIn K mainGlobals "MOST_PICKS"=some (some (.int 4096 vt_MOST_PICKS)))
  (k_Book:PySem.W.nsIn K mainGlobals "Book"=some (some (.ref q_Book)))
  (cl_Bookpg:PySem.W.plainGet K q_Book Str.empty=true)
  (cl_Bookhd:PySem.W.hasDictIn K q_Book=true)
  (cl_Bookpo:PySem.W.plainOver K q_Book=true)
  (cl_Booksa:PySem.W.findIn K (.ref q_Book) "__setattr__"=some (some (.builtin "object.__setattr__")))
  (na_Book_bottom:PySem.W.findIn K (.ref q_Book) "bottom"=some none)
  (na_Book_tops:PySem.W.findIn K (.ref q_Book) "tops"=some none)
  (dia_Book:PySem.W.findIn K (.ref q_Book) "__init__"=some (some (.ref fI_Book)))
  (dii_Book:PySem.W.isFn K (.ref fI_Book)=true)
  (dil_Book:K.lookup fI_Book=some ⟨ocI_Book,odI_Book,.func (PySem.W.fnOf "__init__" "Book.__init__" (defArgs (inClass (top 34) 0)) (defBody (inClass (top 34) 0)) (defScope (inClass (top 34) 0)) .none kVI_Book dcI_Book pmI_Book anI_Book cdI_Book ctI_Book),slI_Book⟩)
  (dic_Book:PySem.W.codeIn K cdI_Book "Book.__init__"=true)
  (dik_Book:PySem.W.keepIn K (.ref fI_Book)=true)
  (dim_Book:PySem.W.makesIn K q_Book=true)
  (diq_Book:PySem.W.keepIn K (.ref q_Book)=true)
  (dma_Book_as_shares:PySem.W.findIn K (.ref q_Book) "as_shares"=some (some (.ref fM_Book_as_shares)))
  (dmi_Book_as_shares:PySem.W.isFn K (.ref fM_Book_as_shares)=true)
  (dml_Book_as_shares:K.lookup fM_Book_as_shares=some ⟨ocM_Book_as_shares,odM_Book_as_shares,.func (PySem.W.fnOf "as_shares" "Book.as_shares" (defArgs (inClass (top 34) 2)) (defBody (inClass (top 34) 2)) (defScope (inClass (top 34) 2)) .none kVM_Book_as_shares dcM_Book_as_shares pmM_Book_as_shares anM_Book_as_shares cdM_Book_as_shares ctM_Book_as_shares),slM_Book_as_shares⟩)
  (dmc_Book_as_shares:PySem.W.codeIn K cdM_Book_as_shares "Book.as_shares"=true)
  (dmk_Book_as_shares:PySem.W.keepIn K (.ref fM_Book_as_shares)=true)
  (dma_Book_scaled:PySem.W.findIn K (.ref q_Book) "scaled"=some (some (.ref fM_Book_scaled)))
  (dmi_Book_scaled:PySem.W.isFn K (.ref fM_Book_scaled)=true)
  (dml_Book_scaled:K.lookup fM_Book_scaled=some ⟨ocM_Book_scaled,odM_Book_scaled,.func (PySem.W.fnOf "scaled" "Book.scaled" (defArgs (inClass (top 34) 1)) (defBody (inClass (top 34) 1)) (defScope (inClass (top 34) 1)) .none kVM_Book_scaled dcM_Book_scaled pmM_Book_scaled anM_Book_scaled cdM_Book_scaled ctM_Book_scaled),slM_Book_scaled⟩)
  (dmc_Book_scaled:PySem.W.codeIn K cdM_Book_scaled "Book.scaled"=true)
  (dmk_Book_scaled:PySem.W.keepIn K (.ref fM_Book_scaled)=true)
  :∃fd:FuncData,(∀(s:Shared) (v:Value),BindsTo s fd ⟨[v],[]⟩ [("_law_script",v)])∧∀base:Heap,K.In base→base.Ns mainGlobals mg→LamB base mg tc tp→FnOk l.prog w K mg base (CX1 l.prog w) 30 fa fd ["_law_script"] (spLaw K tp):=by
 have e:=hfa.symm.trans (PySem.W.mg_of X G a39)
 cases e
 have T:Txt K mg q_Book tc:=⟨PySem.W.mg_none_of X G z_abs,PySem.W.mg_none_of X G z_all,PySem.W.mg_none_of X G z_any,PySem.W.mg_none_of X G z_bool,PySem.W.mg_none_of X G z_enumerate,PySem.W.mg_none_of X G z_int,PySem.W.mg_none_of X G z_isinstance,PySem.W.mg_none_of X G z_len,PySem.W.mg_none_of X G z_list,PySem.W.mg_none_of X G z_range,PySem.W.mg_none_of X G z_reversed,PySem.W.mg_none_of X G z_sorted,PySem.W.mg_none_of X G z_sum,PySem.W.mg_none_of X G z_tuple,PySem.W.mg_none_of X G z_zip,⟨_,_,fun_mk l0 e0 k0,PySem.W.mg_of X G a0⟩,⟨_,_,fun_mk l1 e1 k1,PySem.W.mg_of X G a1⟩,⟨_,_,fun_mk l2 e2 k2,PySem.W.mg_of X G a2⟩,⟨_,_,fun_mk l3 e3 k3,PySem.W.mg_of X G a3⟩,⟨_,_,fun_mk l4 e4 k4,PySem.W.mg_of X G a4⟩,⟨_,_,fun_mk l5 e5 k5,PySem.W.mg_of X G a5⟩,⟨_,_,fun_mk l6 e6 k6,PySem.W.mg_of X G a6⟩,⟨_,_,fun_mk l7 e7 k7,PySem.W.mg_of X G a7⟩,⟨_,_,fun_mk l8 e8 k8,PySem.W.mg_of X G a8⟩,⟨_,_,fun_mk l9 e9 k9,PySem.W.mg_of X G a9⟩,⟨_,_,fun_mk l10 e10 k10,PySem.W.mg_of X G a10⟩,⟨_,_,fun_mk l11 e11 k11,PySem.W.mg_of X G a11⟩,⟨_,_,fun_mk l12 e12 k12,PySem.W.mg_of X G a12⟩,⟨_,_,fun_mk l13 e13 k13,PySem.W.mg_of X G a13⟩,⟨_,_,fun_mk l14 e14 k14,PySem.W.mg_of X G a14⟩,⟨_,_,fun_mk l15 e15 k15,PySem.W.mg_of X G a15⟩,⟨_,_,fun_mk l16 e16 k16,PySem.W.mg_of X G a16⟩,⟨_,_,fun_mk l17 e17 k17,PySem.W.mg_of X G a17⟩,⟨_,_,fun_mk l18 e18 k18,PySem.W.mg_of X G a18⟩,⟨_,_,fun_mk l19 e19 k19,PySem.W.mg_of X G a19⟩,⟨_,_,fun_mk l20 e20 k20,PySem.W.mg_of X G a20⟩,⟨_,_,fun_mk l21 e21 k21,PySem.W.mg_of X G a21⟩,⟨_,_,fun_mk l22 e22 k22,PySem.W.mg_of X G a22⟩,⟨_,_,fun_mk l23 e23 k23,PySem.W.mg_of X G a23⟩,⟨_,_,fun_mk l24 e24 k24,PySem.W.mg_of X G a24⟩,⟨_,_,fun_mk l25 e25 k25,PySem.W.mg_of X G a25⟩,⟨_,_,fun_mk l26 e26 k26,PySem.W.mg_of X G a26⟩,⟨_,_,fun_mk l27 e27 k27,PySem.W.mg_of X G a27⟩,⟨_,_,fun_mk l28 e28 k28,PySem.W.mg_of X G a28⟩,⟨_,_,fun_mk l29 e29 k29,PySem.W.mg_of X G a29⟩,⟨_,_,fun_mk l30 e30 k30,PySem.W.mg_of X G a30⟩,⟨_,_,fun_mk l31 e31 k31,PySem.W.mg_of X G a31⟩,⟨_,_,fun_mk l32 e32 k32,PySem.W.mg_of X G a32⟩,⟨_,_,fun_mk l33 e33 k33,PySem.W.mg_of X G a33⟩,⟨_,_,fun_mk l34 e34 k34,PySem.W.mg_of X G a34⟩,⟨_,_,fun_mk l35 e35 k35,PySem.W.mg_of X G a35⟩,⟨_,_,fun_mk l36 e36 k36,PySem.W.mg_of X G a36⟩,⟨_,_,fun_mk l37 e37 k37,PySem.W.mg_of X G a37⟩,⟨_,_,fun_mk l38 e38 k38,PySem.W.mg_of X G a38⟩,⟨_,PySem.W.mg_of X G c_MOST_PLACES⟩,⟨_,PySem.W.mg_of X G c_MOST_PICKS⟩,PySem.W.mg_of X G k_Book,⟨cl_Bookpg,cl_Bookhd,cl_Bookpo,cl_Booksa⟩,na_Book_bottom,na_Book_tops,⟨_,_,fun_mk dil_Book dic_Book dik_Book,⟨dim_Book,dia_Book,dii_Book,diq_Book⟩,PySem.W.mg_of X G k_Book⟩,⟨_,_,fun_mk dml_Book_as_shares dmc_Book_as_shares dmk_Book_as_shares,⟨dma_Book_as_shares,dmi_Book_as_shares,dmk_Book_as_shares⟩⟩,⟨_,_,fun_mk dml_Book_scaled dmc_Book_scaled dmk_Book_scaled,⟨dma_Book_scaled,dmi_Book_scaled,dmk_Book_scaled⟩⟩,⟨_,_,_,_,_,PySem.W.mg_of X G a15,l15,rfl⟩⟩
 exact⟨_,fun s v=>.of_eq rfl,fun base _ _ LB=>(ok_law T LB (fun_mk l39 e39 k39)).mono (by decide)⟩
theorem walk {tc tp:Addr} {l:PySem.W.OpenLaw} {q:Program} {loose:List Str} {XP:(Str→Option Value)→Heap→Prop} {YP:World→Heap→Prop} {d:DefRec} {K:Params→PySem.W.Frag} (hn:l.most=some 63) (hdf:d.params.defaults=[])
  (hY:∀(w:World) (h:Heap),YP w h→(K w.params).In h) (hTp:∀(w:World) (h:Heap),YP w h→h.get? tp=some (PySem.W.tabObj #[])∧PySem.W.CodeHd h tc tp∧(K w.params).lookup tp=none)
  (F:∀(w:World) (mg:Str→Option Value) (fa:Addr) (h:Heap),(K w.params).In h→h.Ns mainGlobals mg→mg d.name=some (.ref fa)→
   ∃fd:FuncData,(∀(s:Shared) (u:Value),BindsTo s fd ⟨[u],[]⟩ [("_law_script",u)])∧∀base:Heap,(K w.params).In base→base.Ns mainGlobals mg→LamB base mg tc tp→FnOk l.prog w (K w.params) mg base (CX1 l.prog w) 30 fa fd ["_law_script"] (spLaw (K w.params) tp)):
  PySem.W.WalkO q loose XP YP l.row.toRowW d [] (fun f vs=>PySem.call f vs):=
 L2.walk_ofT (tc:=tc) (tp:=tp) (dsc:=dsc) (n:=63) (k:=30) (x:="_law_script") (CX:=fun w=>CX1 l.prog w) (sp:=fun w=>spLaw (K w.params) tp) hn (by decide) hdf ⟨rfl,by decide,by decide⟩ hY hTp F (fun _ _ a ns hl hT hS=>⟨a,ns,rfl,hT,hS,hl,fun _=>rfl⟩) fun _ _ _ _ _ z=>(strict1 _ _) _ _ _ _ _ z
end K33
open PySem PySem.W PyProof.Rows
set_option maxRecDepth 100000 in
set_option maxHeartbeats 0 in
theorem PySem.Challenge.cw_pressluck_k33_visits_by_rows_holds : PySem.Challenge.rw_pressluck_k33_visits_by_rows.Holds := by
  w_on; refine holds_law (by decide +kernel) fun said => ?_
  refine holds_open (q := K33.vw) (loose := []) (Xt := (fun s => xlAt K33.vw [] s && recOk (RowW.records (OpenRow.toRowW (PySem.W.OpenLaw.row PySem.Challenge.rw_pressluck_k33_visits_by_rows))) s)) (XP := XL K33.vw []) (Yf := Hook.obs (PySem.W.kmHook K33.pre.heap_1 K33.hka K33.hkp [159])) (Ya := Hook.val (PySem.W.kmHook K33.pre.heap_1 K33.hka K33.hkp [159])) (YP := Hook.says (PySem.W.kmHook K33.pre.heap_1 K33.hka K33.hkp [159])) (N := 4986) (Hd.left_runQ (by kernel_rfl) (by decide) (fun s => by kernel_rfl) K33.run) (Hook.of (PySem.W.kmHook K33.pre.heap_1 K33.hka K33.hkp [159])) (Hook.keeps (PySem.W.kmHook K33.pre.heap_1 K33.hka K33.hkp [159])) (fun s e => xl_of s (Bool.and_eq_true_iff.mp e).1) XL.keeps (by rfl) (by rfl) (by rfl) (fun s e => recFacts_of (Bool.and_eq_true_iff.mp e).2) (by rfl) (by first | assumption | decide +kernel) (by decide +kernel) ⟨rfl, rfl, rfl, rfl, rfl, by decide +kernel⟩ ?hw ?hc
  (case hw => w_witness2)
  k_fill
  refine K33.walk (tc := 161) (tp := 159) (l := PySem.Challenge.rw_pressluck_k33_visits_by_rows) rfl rfl (fun w h Y => PySem.W.km_in_of Y) (fun w h Y => ⟨PySem.W.km_tabs_of Y _ (.head _), PySem.W.codeHd_of_K (PySem.W.km_in_of Y) (by kernel_rfl), by kernel_rfl⟩) ?F
  case F =>
    intro w mg fa h KX G hmg
    refine' K33.all_mk (tc := 161) (tp := 159) KX G hmg ?a0 ?l0 ?e0 ?k0 ?a1 ?l1 ?e1 ?k1 ?a2 ?l2 ?e2 ?k2 ?a3 ?l3 ?e3 ?k3 ?a4 ?l4 ?e4 ?k4 ?a5 ?l5 ?e5 ?k5 ?a6 ?l6 ?e6 ?k6 ?a7 ?l7 ?e7 ?k7 ?a8 ?l8 ?e8 ?k8 ?a9 ?l9 ?e9 ?k9 ?a10 ?l10 ?e10 ?k10 ?a11 ?l11 ?e11 ?k11 ?a12 ?l12 ?e12 ?k12 ?a13 ?l13 ?e13 ?k13 ?a14 ?l14 ?e14 ?k14 ?a15 ?l15 ?e15 ?k15 ?a16 ?l16 ?e16 ?k16 ?a17 ?l17 ?e17 ?k17 ?a18 ?l18 ?e18 ?k18 ?a19 ?l19 ?e19 ?k19 ?a20 ?l20 ?e20 ?k20 ?a21 ?l21 ?e21 ?k21 ?a22 ?l22 ?e22 ?k22 ?a23 ?l23 ?e23 ?k23 ?a24 ?l24 ?e24 ?k24 ?a25 ?l25 ?e25 ?k25 ?a26 ?l26 ?e26 ?k26 ?a27 ?l27 ?e27 ?k27 ?a28 ?l28 ?e28 ?k28 ?a29 ?l29 ?e29 ?k29 ?a30 ?l30 ?e30 ?k30 ?a31 ?l31 ?e31 ?k31 ?a32 ?l32 ?e32 ?k32 ?a33 ?l33 ?e33 ?k33 ?a34 ?l34 ?e34 ?k34 ?a35 ?l35 ?e35 ?k35 ?a36 ?l36 ?e36 ?k36 ?a37 ?l37 ?e37 ?k37 ?a38 ?l38 ?e38 ?k38 ?a39 ?l39 ?e39 ?k39 ?z_abs ?z_all ?z_any ?z_bool ?z_enumerate ?z_int ?z_isinstance ?z_len ?z_list ?z_range ?z_reversed ?z_sorted ?z_sum ?z_tuple ?z_zip ?c_MOST_PLACES ?c_MOST_PICKS ?k_Book ?cl_Bookpg ?cl_Bookhd ?cl_Bookpo ?cl_Booksa ?na_Book_bottom ?na_Book_tops ?dia_Book ?dii_Book ?dil_Book ?dic_Book ?dik_Book ?dim_Book ?diq_Book ?dma_Book_as_shares ?dmi_Book_as_shares ?dml_Book_as_shares ?dmc_Book_as_shares ?dmk_Book_as_shares ?dma_Book_scaled ?dmi_Book_scaled ?dml_Book_scaled ?dmc_Book_scaled ?dmk_Book_scaled
    (case a0 => k_is)
    (case l0 => k_is)
    (case e0 => k_is)
    (case k0 => k_is)
    (case a1 => k_is)
    (case l1 => k_is)
    (case e1 => k_is)
    (case k1 => k_is)
    (case a2 => k_is)
    (case l2 => k_is)
    (case e2 => k_is)
    (case k2 => k_is)
    (case a3 => k_is)
    (case l3 => k_is)
    (case e3 => k_is)
    (case k3 => k_is)
    (case a4 => k_is)
    (case l4 => k_is)
    (case e4 => k_is)
    (case k4 => k_is)
    (case a5 => k_is)
    (case l5 => k_is)
    (case e5 => k_is)
    (case k5 => k_is)
    (case a6 => k_is)
    (case l6 => k_is)
    (case e6 => k_is)
    (case k6 => k_is)
    (case a7 => k_is)
    (case l7 => k_is)
    (case e7 => k_is)
    (case k7 => k_is)
    (case a8 => k_is)
    (case l8 => k_is)
    (case e8 => k_is)
    (case k8 => k_is)
    (case a9 => k_is)
    (case l9 => k_is)
    (case e9 => k_is)
    (case k9 => k_is)
    (case a10 => k_is)
    (case l10 => k_is)
    (case e10 => k_is)
    (case k10 => k_is)
    (case a11 => k_is)
    (case l11 => k_is)
    (case e11 => k_is)
    (case k11 => k_is)
    (case a12 => k_is)
    (case l12 => k_is)
    (case e12 => k_is)
    (case k12 => k_is)
    (case a13 => k_is)
    (case l13 => k_is)
    (case e13 => k_is)
    (case k13 => k_is)
    (case a14 => k_is)
    (case l14 => k_is)
    (case e14 => k_is)
    (case k14 => k_is)
    (case a15 => k_is)
    (case l15 => k_is)
    (case e15 => k_is)
    (case k15 => k_is)
    (case a16 => k_is)
    (case l16 => k_is)
    (case e16 => k_is)
    (case k16 => k_is)
    (case a17 => k_is)
    (case l17 => k_is)
    (case e17 => k_is)
    (case k17 => k_is)
    (case a18 => k_is)
    (case l18 => k_is)
    (case e18 => k_is)
    (case k18 => k_is)
    (case a19 => k_is)
    (case l19 => k_is)
    (case e19 => k_is)
    (case k19 => k_is)
    (case a20 => k_is)
    (case l20 => k_is)
    (case e20 => k_is)
    (case k20 => k_is)
    (case a21 => k_is)
    (case l21 => k_is)
    (case e21 => k_is)
    (case k21 => k_is)
    (case a22 => k_is)
    (case l22 => k_is)
    (case e22 => k_is)
    (case k22 => k_is)
    (case a23 => k_is)
    (case l23 => k_is)
    (case e23 => k_is)
    (case k23 => k_is)
    (case a24 => k_is)
    (case l24 => k_is)
    (case e24 => k_is)
    (case k24 => k_is)
    (case a25 => k_is)
    (case l25 => k_is)
    (case e25 => k_is)
    (case k25 => k_is)
    (case a26 => k_is)
    (case l26 => k_is)
    (case e26 => k_is)
    (case k26 => k_is)
    (case a27 => k_is)
    (case l27 => k_is)
    (case e27 => k_is)
    (case k27 => k_is)
    (case a28 => k_is)
    (case l28 => k_is)
    (case e28 => k_is)
    (case k28 => k_is)
    (case a29 => k_is)
    (case l29 => k_is)
    (case e29 => k_is)
    (case k29 => k_is)
    (case a30 => k_is)
    (case l30 => k_is)
    (case e30 => k_is)
    (case k30 => k_is)
    (case a31 => k_is)
    (case l31 => k_is)
    (case e31 => k_is)
    (case k31 => k_is)
    (case a32 => k_is)
    (case l32 => k_is)
    (case e32 => k_is)
    (case k32 => k_is)
    (case a33 => k_is)
    (case l33 => k_is)
    (case e33 => k_is)
    (case k33 => k_is)
    (case a34 => k_is)
    (case l34 => k_is)
    (case e34 => k_is)
    (case k34 => k_is)
    (case a35 => k_is)
    (case l35 => k_is)
    (case e35 => k_is)
    (case k35 => k_is)
    (case a36 => k_is)
    (case l36 => k_is)
    (case e36 => k_is)
    (case k36 => k_is)
    (case a37 => k_is)
    (case l37 => k_is)
    (case e37 => k_is)
    (case k37 => k_is)
    (case a38 => k_is)
    (case l38 => k_is)
    (case e38 => k_is)
    (case k38 => k_is)
    (case a39 => k_is)
    (case l39 => k_is)
    (case e39 => k_is)
    (case k39 => k_is)
    (case z_abs => k_is)
    (case z_all => k_is)
    (case z_any => k_is)
    (case z_bool => k_is)
    (case z_enumerate => k_is)
    (case z_int => k_is)
    (case z_isinstance => k_is)
    (case z_len => k_is)
    (case z_list => k_is)
    (case z_range => k_is)
    (case z_reversed => k_is)
    (case z_sorted => k_is)
    (case z_sum => k_is)
    (case z_tuple => k_is)
    (case z_zip => k_is)
    (case c_MOST_PLACES => k_is)
    (case c_MOST_PICKS => k_is)
    (case k_Book => k_is)
    (case cl_Bookpg => k_is)
    (case cl_Bookhd => k_is)
    (case cl_Bookpo => k_is)
    (case cl_Booksa => k_is)
    (case na_Book_bottom => k_is)
    (case na_Book_tops => k_is)
    (case dia_Book => k_is)
    (case dii_Book => k_is)
    (case dil_Book => k_is)
    (case dic_Book => k_is)
    (case dik_Book => k_is)
    (case dim_Book => k_is)
    (case diq_Book => k_is)
    (case dma_Book_as_shares => k_is)
    (case dmi_Book_as_shares => k_is)
    (case dml_Book_as_shares => k_is)
    (case dmc_Book_as_shares => k_is)
    (case dmk_Book_as_shares => k_is)
    (case dma_Book_scaled => k_is)
    (case dmi_Book_scaled => k_is)
    (case dml_Book_scaled => k_is)
    (case dmc_Book_scaled => k_is)
    (case dmk_Book_scaled => k_is)
