import PyProof.Rows.All
import Wide.All
import OpenK.AllK
import Wide.FinOn
import Lean
import PyProof.EqAt
import PyProof.EqKinds
import PyProof.TupleCall
import PyProof.Rows.FStrParts
import KE.KRevIter
import PyProof.CollectIter
import PyProof.SumWalkG
import KE.KDictOf
import PyProof.IsiH_list
import PyProof.RaisesAny
import PyProof.P3In
import PyProof.Rows.SortRuns
import PyProof.Rows.SortShell
import PySem.Challenge.RW_sorthall_k14_no_rule
local macro_rules | `(tactic| omega)=>`(tactic| first | with_reducible assumption | lia | omega (splitDisjunctions:=true))
set_option Elab.async false
set_option linter.all false
set_option maxRecDepth 100000
open Nat renaming le_refl→yAA,ne_of_lt→yAB,lt_of_lt_of_le→yAC,le_trans→yAD,zero_le→yAO,le_succ→yAR,lt_irrefl→yAV,le_of_ble_eq_true→yBE,lt_succ_self→yBF
open Bool renaming false_ne_true→yAE,false_eq_true→yBJ
open List renaming length_map→yAF,length_replicate→yAG,mem_cons→yAH,length_append→yAI,size_toArray→yAJ,mem_cons_of_mem→yAK,mem_cons_self→yAL,length_singleton→yAM,mem_append_right→yAN,getElem?_eq_some_iff→yAP,mem_of_getElem?→yAQ,getElem?_map→yAS,length_cons→yAT,map_cons→yAU,mem_append→yAW,getElem?_append_right→yAX,getElem?_append_left→yAY,replicate_succ→yAZ,lookup_cons→yBA,getElem?_eq_getElem→yBB,map_append→yBD,mem_map→yBG,mem_singleton→yBH,getElem?_replicate→yBI
open Array renaming getElem?_eq_some_iff→yBC
namespace L2
open PySem PySem.W
theorem left_boot {p q:Program} {loose:List Str} {Xt:Shared->Bool} {α:Type} {Yf:Shared->α} {Ya:World->α} {N:Nat} {g0:Bool}
  (z:∀ w:World,(fencedOpening treeTable p w N).map (fun s=>(s.heap,s.gens,s.drawn,s.toks))=some (boot_heap w.params,Array.mk [],boot_drawn,boot_toks))
  (h:∀ (w:World) (os:OsState),(topFrom treeTable p w N ⟨boot_heap w.params,Array.mk [],boot_drawn,boot_toks,os⟩).map (fun s=>(openSeen q loose (importedModules p.main.body) Xt g0 s,Yf s))=some (openGood q loose,Ya w)):LeftO p q loose Xt Yf Ya N g0:=fun w=>by
 obtain ⟨⟨hh,gs,d,k,os⟩,e,J⟩:=Option.map_eq_some_iff.mp (z w)
 obtain ⟨rfl,rfl,rfl,rfl⟩:hh=boot_heap w.params /\ gs=Array.mk [] /\ d=boot_drawn /\ k=boot_toks:=by simpa using J
 unfold openEnds
 rw [e]
 exact h w os
theorem left_two {p q:Program} {loose:List Str} {Xt:Shared->Bool} {α:Type} {Yf:Shared->α} {Ya:World->α} {N:Nat} {g0:Bool}
  (z:∀ w:World,(fencedOpening treeTable p w N).map (fun s=>(s.heap,s.gens,s.drawn,s.toks))=some (boot_heap w.params,Array.mk [],boot_drawn,boot_toks))
  (h1:∀ (w:World) (os:OsState),(topFrom treeTable p w N ⟨boot_heap w.params,Array.mk [],boot_drawn,boot_toks,os⟩).map (fun s=>openSeen q loose (importedModules p.main.body) Xt g0 s)=some (openGood q loose))
  (h2:∀ (w:World) (os:OsState),(topFrom treeTable p w N ⟨boot_heap w.params,Array.mk [],boot_drawn,boot_toks,os⟩).map (fun s=>Yf s)=some (Ya w)):LeftO p q loose Xt Yf Ya N g0 :=
 left_boot z fun w os=>by
  have a:=h1 w os
  have b:=h2 w os
  generalize topFrom treeTable p w N ⟨boot_heap w.params,Array.mk [],boot_drawn,boot_toks,os⟩=r at a b
  cases r with
  | none=>cases a
  | some s=>exact congrArg some (Prod.ext (Option.some.inj a) (Option.some.inj b))
noncomputable def s0B (w:World) (os:OsState):Shared:=⟨boot_heap w.params,Array.mk [],boot_drawn,boot_toks,os⟩
noncomputable def ofLB:List Obj->Nat->BT->BT
 | [],_,t=>t
 | o::r,n,t=>ofLB r (n+1) (t.ins n o)
noncomputable def sTB (w:World) (os:OsState):SharedT:=⟨ofLB (boot_heap w.params).objs.toList 0 .nil,(boot_heap w.params).objs.size,(boot_heap w.params).life,Array.mk [],boot_drawn,boot_toks,os⟩
noncomputable def topRunQ (p:Program) (w:World) (n₀:Nat) (ann:Option Value):Nat->SharedT->Thread->Option SharedT
 | 0,_,_=>none
 | n+1,s,t=>match through t with
  | true=>some s
  | false=>match PySem.W.Fast.tw6613529449190102663 n₀ ann t with
   | false=>none
   | true=>match PySem.W.Fast.tw10156331382660048174 (PySem.W.Fast.tw11892475500146522536 PySem.W.Fast.tw14364793385576792824) p w s t with
    | some (s',t')=>topRunQ p w n₀ ann n s' t'
    | none=>none
theorem topRunQ_spec {p:Program} {w:World} {z:Nat} {J:Option Value}:∀ {n:Nat} {s s':SharedT} {t:Thread},topRunQ p w z J n s t=some s'->topRun treeTable p w z J n s.abs t=some s'.abs
 | 0,_,_,_,h=>by cases h
 | n+1,s,s',t,h=>by
  unfold topRunQ at h
  rw [<- PySem.W.Fast.te6613529449190102663,<- PySem.W.Fast.te10156331382660048174,<- PySem.W.Fast.te11892475500146522536,<- PySem.W.Fast.te14364793385576792824] at h
  unfold topRun
  cases he:through t with
  | true=>rw [he] at h;cases h;rfl
  | false=>
   rw [he] at h
   cases hk:stepOk z J t with
   | false=>rw [hk] at h;cases h
   | true=>
    rw [hk] at h
    cases hs:stepT (denote treeTable) p w s t with
    | none=>rw [hs] at h;cases h
    | some r=>obtain ⟨L,O⟩:=r;rw [hs] at h;rw [stepT_spec hs];exact topRunQ_spec h
set_option maxHeartbeats 0 in
theorem sTB_abs:∀ (w:World) (os:OsState),(sTB w os).abs=s0B w os:=by
 intro w os
 kernel_rfl
set_option maxHeartbeats 0 in
theorem s0B_ns:∀ (w:World) (os:OsState),((s0B w os).heap.isNs mainGlobals && (s0B w os).gens.size == 0)=true:=by
 intro w os
 kernel_rfl
noncomputable def topOkB (p:Program) (s₀ s₁:Shared):Bool:=staticsOk (importedModules p.main.body) s₀.heap s₁.heap && namesBound p s₁.heap && gensDone s₁ && laidKept s₀.heap s₁.heap
theorem via_tree {α:Type} {p:Program} {N:Nat} {F:Shared->α} {G:α} (w:World) (os:OsState)
  (h:(topRunQ p w (s0B w os).heap.objs.size ((s0B w os).heap.nsMap mainGlobals "__annotations__") N (sTB w os) (topStub p)).map (fun s=>(topOkB p (s0B w os) s.abs,F s.abs))=some (true,G)):(topFrom treeTable p w N ⟨boot_heap w.params,Array.mk [],boot_drawn,boot_toks,os⟩).map F=some G:=by
 obtain ⟨s',L,O⟩:=Option.map_eq_some_iff.mp h
 have r:=topRunQ_spec L
 rw [sTB_abs] at r
 obtain ⟨z,J⟩:=Prod.mk.inj O
 show (topFrom treeTable p w N (s0B w os)).map F=some G
 unfold topFrom
 rw [s0B_ns w os]
 dsimp only
 rw [r,Option.bind_some]
 unfold topOkB at z
 rw [z]
 exact congrArg some J
noncomputable def vw (p:Program) (ix:List Nat):Program:={ p with main:={ p.main with body:=ix.filterMap fun i=>p.main.body[i]? } }
noncomputable def Vw:Program:=vw PySem.Challenge.pw_sorthall_k14_no_rule [1,2,3,4,5,6,7,8,9,11,12,13,14,15,16,17,18,19,20,21,22,23,24,26,27,28,29,30,31,32,33]
set_option maxHeartbeats 0 in
theorem seen1:∀ (w:World) (os:OsState),(topFrom treeTable PySem.Challenge.pw_sorthall_k14_no_rule w 9702 ⟨boot_heap w.params,Array.mk [],boot_drawn,boot_toks,os⟩).map (fun s=>openSeen L2.Vw [] (importedModules PySem.Challenge.pw_sorthall_k14_no_rule.main.body) (fun s=>xlAt L2.Vw [] s && recOk (RowW.records (OpenRow.toRowW (OpenLaw.row PySem.Challenge.rw_sorthall_k14_no_rule))) s) true s)=some (openGood L2.Vw []):=by
 intro w os
 refine via_tree w os ?_
 rw [PySem.W.Fast.te4187177175401517315]
 kernel_rfl
local macro_rules | `(tactic| o_law)=>`(tactic| refine holds_law (by decide +kernel) fun said=>?_)
set_option hygiene false in
local macro_rules | `(tactic| o_head $H)=>`(tactic| (refine holds_open (q:=L2.Vw) (loose:=[]) (Xt:=fun s=>xlAt L2.Vw [] s && recOk (RowW.records _) s) (XP:=XL L2.Vw []) (Yf:=Hook.obs $H) (Ya:=Hook.val $H) (YP:=Hook.says $H) (N:=9702) ?hl (Hook.of $H) (Hook.keeps $H) (fun s e=>xl_of s (Bool.and_eq_true_iff.mp e).1) XL.keeps (by rfl) (by rfl) (by rfl) (fun s e=>recFacts_of (Bool.and_eq_true_iff.mp e).2) (by rfl) (by first | assumption | decide +kernel) (by decide +kernel) ⟨rfl,rfl,rfl,rfl,rfl,by decide +kernel⟩ ?hw ?hc;(case hl=>(refine L2.left_two (PySem.W.boot_open (by rfl) (by decide) (fun s=>rfl)) (fun w os=>?h1) (fun w os=>?h2);(case h1=>exact L2.seen1 w os);(case h2=>(refine L2.via_tree w os ?_;kernel_rfl))))))
set_option maxHeartbeats 0 in
open_top hd0 for PySem.Challenge.rw_sorthall_k14_no_rule
end L2
namespace L2
open PySem PySem.Spec PyProof.Rows
noncomputable abbrev Key:=Sum Int Str
noncomputable def keyIs:Key->Value->Bool
 | .inl k,v=>Value.isInt k v
 | .inr x,v=>Value.isStrOf x v
noncomputable def keyH (w:World):Key->Int
 | .inl k=>hashInt k
 | .inr x=>hashStr w x
theorem ZAw:∀ {k:Key} {v:Value},keyIs k v=true->(∃ i t,k=Sum.inl i /\ v=Value.int i t)∨(∃ x t,k=Sum.inr x /\ v=Value.str x t)
 | .inl i,v,h=>by
  obtain ⟨t,e⟩:=Value.isInt_shape (k:=i) (v:=v) h
  exact .inl ⟨i,t,rfl,e⟩
 | .inr x,v,h=>by
  obtain ⟨t,e⟩:=Value.isStrOf_shape (x:=x) (v:=v) h
  exact .inr ⟨x,t,rfl,e⟩
theorem key_ll (a b:Int):decide ((Sum.inl a:Key)=Sum.inl b)=(a == b):=by
 by_cases e:a=b
 .subst e;simp
 .have h:¬ (Sum.inl a:Key)=Sum.inl b:=fun q=>e (Sum.inl.inj q)
  rw [decide_eq_false h]
  exact (beq_eq_false_iff_ne.mpr e).symm
theorem key_rr (a b:Str):decide ((Sum.inr a:Key)=Sum.inr b)=decide (a=b):=by
 by_cases e:a=b
 .subst e;simp
 .have h:¬ (Sum.inr a:Key)=Sum.inr b:=fun q=>e (Sum.inr.inj q)
  rw [decide_eq_false h,decide_eq_false e]
theorem key_lr (a:Int) (b:Str):decide ((Sum.inl a:Key)=Sum.inr b)=false:=decide_eq_false (fun q=>nomatch q)
theorem key_rl (a:Str) (b:Int):decide ((Sum.inr a:Key)=Sum.inl b)=false:=decide_eq_false (fun q=>nomatch q)
noncomputable def mixKind (prog:Program) (w:World):PySem.KeyKind prog w Key where
 is:=keyIs
 hash:=keyH w
 inj:=fun v a b ha hb=>by
  rcases ZAw ha with ⟨i,t,rfl,rfl⟩ | ⟨x,t,rfl,rfl⟩
  .rcases ZAw hb with ⟨j,u,rfl,e⟩ | ⟨y,u,rfl,e⟩
   .injection e with e1 _;rw [e1]
   .exact nomatch e
  .rcases ZAw hb with ⟨j,u,rfl,e⟩ | ⟨y,u,rfl,e⟩
   .exact nomatch e
   .injection e with e1 _;rw [e1]
 byValue:=fun k v h=>by
  rcases ZAw h with ⟨i,t,rfl,rfl⟩ | ⟨x,t,rfl,rfl⟩ <;> rfl
 pyHash:=fun hv h=>by
  rcases ZAw hv with ⟨i,t,rfl,rfl⟩ | ⟨x,t,rfl,rfl⟩
  .exact wpAny_pyHash_int h
  .exact wpAny_pyHash_str h
 eqBool:=fun hu hv h=>by
  rcases ZAw hu with ⟨i,t,rfl,rfl⟩ | ⟨x,t,rfl,rfl⟩
  .rcases ZAw hv with ⟨j,u,rfl,rfl⟩ | ⟨y,u,rfl,rfl⟩
   .rw [key_ll] at h;exact wpAny_eqBool_int h
   .rw [key_lr] at h;exact SeqAt.EqAt.int_str i t y u _ _ _ _ h
  .rcases ZAw hv with ⟨j,u,rfl,rfl⟩ | ⟨y,u,rfl,rfl⟩
   .rw [key_rl] at h;exact SeqAt.EqAt.str_int x t j u _ _ _ _ h
   .rw [key_rr] at h;exact wpAny_eqBool_str h
 «strs»:=fun k x t v h=>by
  rcases ZAw h with ⟨i,u,rfl,e⟩ | ⟨y,u,rfl,e⟩
  .exact nomatch e
  .injection e with e1 _
   subst e1
   cases v <;> rfl
inductive V where
 | non | bl (b:Bool) | int (i:Int) | str (x:Str) | byt (b:Array UInt8) | flt (b:UInt64) | ref (a:Addr) | ty (n:String)
 deriving DecidableEq
noncomputable def RelV:V->Value->Prop
 | .non,u=>u=Value.none
 | .bl b,u=>u=Value.bool b
 | .int i,u=>∃ t,u=Value.int i t
 | .str x,u=>∃ t,u=Value.str x t
 | .byt b,u=>∃ t,u=Value.bytes b t
 | .flt b,u=>∃ t,u=Value.float b t
 | .ref a,u=>u=Value.ref a
 | .ty n,u=>u=Value.type n
noncomputable abbrev Vals:List V->List Value->Prop:=Paired RelV
theorem Vals.length {xs:List V} {us:List Value} (r:Vals xs us):xs.length=us.length:=Paired.length r
theorem Vals.get:∀ {xs:List V} {us:List Value} {i:Nat} {x:V},Vals xs us->xs[i]?=some x->∃ u,us[i]?=some u /\ RelV x u
 | _,_,_,_,.nil,e=>by simp at e
 | _,_,0,_,.cons r _,e=>by simp at e;subst e;exact ⟨_,rfl,r⟩
 | _,_,i+1,x,.cons _ t,e=>by
  obtain ⟨u,h1,h2⟩:=Vals.get (i:=i) (x:=x) t (by simpa using e)
  exact ⟨u,by simpa using h1,h2⟩
theorem Vals.append:∀ {xs ys:List V} {us ws:List Value},Vals xs us->Vals ys ws->Vals (xs++ys) (us++ws)
 | _,_,_,_,.nil,s=>s
 | _,_,_,_,.cons r t,s=>.cons r (Vals.append t s)
theorem Vals.take:∀ {xs:List V} {us:List Value} (n:Nat),Vals xs us->Vals (xs.take n) (us.take n)
 | _,_,0,_=>.nil
 | _,_,_+1,.nil=>.nil
 | _,_,n+1,.cons r t=>.cons r (Vals.take n t)
theorem Vals.drop:∀ {xs:List V} {us:List Value} (n:Nat),Vals xs us->Vals (xs.drop n) (us.drop n)
 | _,_,0,r=>r
 | _,_,_+1,.nil=>.nil
 | _,_,n+1,.cons _ t=>Vals.drop n t
noncomputable def RelO:Option V->Option Value->Prop
 | some v,some u=>RelV v u
 | none,none=>True
 | _,_=>False
noncomputable def KV {κ:Type}:List (κ×V)->List (κ×Value)->Prop:=Paired fun (p:κ×V) (q:κ×Value)=>p.1=q.1 /\ RelV p.2 q.2
noncomputable def kV:Key->V
 | .inl i=>.int i
 | .inr x=>.str x
inductive HO where
 | lst (xs:List V)
 | tup (xs:List V)
 | dK (kvs:List (Key×V)) | dT (kvs:List (List Key×V))
 | set (S:Int->Bool) (n:Nat)
 | ins (C dx:Addr) (fs:List (Str×V))
 | own (x:Addr)
 | xd (fs:List (Str×V))
 | met (f x:Addr)
 | rng (lo hi:Int)
 | frz (o:Obj) (u:HO)
 | tbl (ps:Array Value)
 | ext (φ:Heap->Prop)
noncomputable abbrev Hp:=Addr->Option HO
noncomputable def upd (H:Hp) (a:Addr) (o:HO):Hp:=fun b=>if b=a then some o else H b
theorem ZAE {H:Hp} {a:Addr} {o:HO}:upd H a o a=some o:=by unfold upd;rw [if_pos rfl]
theorem ZAH {H:Hp} {a b:Addr} {o:HO} (h:b≠a):upd H a o b=H b:=by unfold upd;rw [if_neg h]
theorem ne_of {H:Hp} {a b:Addr} {o u:HO} (h:H a=some o) (h':H b=some u) (d:o≠u):a≠b:=by
 intro e;subst e;rw [h] at h';exact d (Option.some.inj h')
theorem ZAI {H:Hp} {a b:Addr} {o:HO} (h:H a=some o) (h':H b=none):a≠b:=by
 intro e;subst e;rw [h] at h';cases h'
section
variable (P:Program) (w:World)
noncomputable def ObjOk (H:Hp) (h:Heap) (a:Addr):HO->Prop
 | .lst xs=>xs.length <= sizeLine /\ ∃ (its:List Value) (n:Nat),Vals xs its /\ h.get? a=some { cls:=.type "list",data:=.seq its.toArray n }
 | .tup xs=>xs.length <= sizeLine /\ ∃ its:List Value,Vals xs its /\ IsTup h a its.toArray
 | .dK kvs=>kvs.length <= sizeLine /\ (a == sysModules)=false /\ ∃ vs,KV kvs vs /\ h.DictOf (mixKind P w) a vs
 | .dT kvs=>kvs.length <= sizeLine /\ (a == sysModules)=false /\ ∃ xs:List (List Key×Addr×Value),
   Paired (fun (p:List Key×V) (q:List Key×Addr×Value)=>p.1=q.1 /\ H q.2.1=some (.tup (p.1.map kV)) /\ RelV p.2 q.2.2) kvs xs /\
   ∃ o es ep,h.get? a=some o /\ o.ExactDict /\ o.data=.dict es ep /\ es.toList=xs.map (entryOfKey (tupleKind (mixKind P w))) /\ (xs.map (·.1)).Nodup
 | .set S n=>h.SetOf (intKind P w) a S n
 | .ins C dx fs=>H dx=some (.own a) /\ fs.length <= 1000 /\ dx≠a /\ h.get? a=some (PySem.W.instObj C dx) /\
   ∃ mA,h.Ns1 dx mA /\ (∀ f,RelO (fs.lookup f) (mA f)) /\ PySem.Within mA (fs.map (·.1))
 | .own _=>∃ o,h.get? a=some o
 | .xd fs=>∃ mA,h.Ns1 a mA /\ ∀ f,RelO (fs.lookup f) (mA f)
 | .rng lo hi=>∃ t u v,h.get? a=some { cls:=.type "range",data:=.fields #[.int lo t,.int hi u,.int 1 v] }
 | .frz o u=>h.get? a=some o /\ ObjOk H h a u
 | .tbl ps=>h.get? a=some { cls:=.none,data:=.fields ps }
 | .met f x=>h.get? a=some (PySem.W.methodObj (.ref f) (.ref x))
 | .ext φ=>φ h /\ (∃ o,h.get? a=some o) /\ ∀ h1 h2:Heap,φ h1->(∀ o,h1.get? a=some o->h2.get? a=some o)->φ h2
noncomputable def HOk (H:Hp) (h:Heap):Prop:=∀ a o,H a=some o->ObjOk P w H h a o
end
section
variable {P:Program} {w:World} {H H':Hp} {h h':Heap} {a:Addr} {o:HO}
theorem ObjOk.lt (x:ObjOk P w H h a o):a < h.objs.size:=by
 cases o with
 | lst xs=>obtain ⟨_,_,_,_,e⟩:=x;exact Heap.lt_size e
 | tup xs=>obtain ⟨_,_,_,p⟩:=x;exact p.lt
 | dK kvs=>obtain ⟨_,_,_,_,o,_,_,e,_⟩:=x;exact Heap.lt_size e
 | dT kvs=>obtain ⟨_,_,_,_,o,_,_,e,_⟩:=x;exact Heap.lt_size e
 | set S n=>obtain ⟨o,_,_,_,e,_⟩:=x;exact Heap.lt_size e
 | ins C dx fs=>obtain ⟨_,_,_,e,_⟩:=x;exact Heap.lt_size e
 | own y=>obtain ⟨_,e⟩:=x;exact Heap.lt_size e
 | xd fs=>obtain ⟨_,⟨_,_,_,e,_⟩,_⟩:=x;exact Heap.lt_size e
 | rng lo hi=>obtain ⟨_,_,_,e⟩:=x;exact Heap.lt_size e
 | frz ob u=>obtain ⟨e,_⟩:=x;exact Heap.lt_size e
 | tbl ps=>exact Heap.lt_size (show h.get? a=some _ from x)
 | met f y=>exact Heap.lt_size (show h.get? a=some _ from x)
 | ext φ=>obtain ⟨_,⟨_,e⟩,_⟩:=x;exact Heap.lt_size e
theorem Paired.mapP {α z:Type} {F G:α->z->Prop}:∀ {l₁:List α} {l₂:List z},Paired F l₁ l₂->(∀ a b,F a b->G a b)->Paired G l₁ l₂
 | _,_,.nil,_=>.nil
 | _,_,.cons r t,f=>.cons (f _ _ r) (Paired.mapP t f)
theorem ObjOk.stay (x:ObjOk P w H h a o) (k:∀ b u,(b=a∨H b=some (.own a))->h.get? b=some u->h'.get? b=some u)
  (O:∀ b,H b=some (.own a)->H' b=some (.own a)) (U:∀ b xs,H b=some (.tup xs)->H' b=some (.tup xs)):ObjOk P w H' h' a o:=by
 induction o with
 | lst xs=>obtain ⟨z,its,n,r,e⟩:=x;exact ⟨z,its,n,r,k _ _ (.inl rfl) e⟩
 | tup xs=>obtain ⟨z,its,r,ob,e,c⟩:=x;exact ⟨z,its,r,ob,k _ _ (.inl rfl) e,c⟩
 | dK kvs=>obtain ⟨z,y,vs,r,ob,es,J,e,c⟩:=x;exact ⟨z,y,vs,r,ob,es,J,k _ _ (.inl rfl) e,c⟩
 | dT kvs=>
  obtain ⟨z,y,xs,r,ob,es,J,e,c⟩:=x
  exact ⟨z,y,xs,Paired.mapP r fun p q z=>⟨z.1,U _ _ z.2.1,z.2.2⟩,ob,es,J,k _ _ (.inl rfl) e,c⟩
 | set S n=>obtain ⟨ob,es,J,t,e,c⟩:=x;exact ⟨ob,es,J,t,k _ _ (.inl rfl) e,c⟩
 | ins C dx fs=>
  obtain ⟨d,z,ne,e,mA,⟨L,es,J,Y,c⟩,r⟩:=x
  exact ⟨O _ d,z,ne,k _ _ (.inl rfl) e,mA,⟨L,es,J,k _ _ (.inr d) Y,c⟩,r⟩
 | own y=>obtain ⟨ob,e⟩:=x;exact ⟨ob,k _ _ (.inl rfl) e⟩
 | xd fs=>obtain ⟨mA,⟨L,es,J,e,c⟩,r⟩:=x;exact ⟨mA,⟨L,es,J,k _ _ (.inl rfl) e,c⟩,r⟩
 | rng lo hi=>obtain ⟨t,u,v,e⟩:=x;exact ⟨t,u,v,k _ _ (.inl rfl) e⟩
 | frz ob u ih=>obtain ⟨e,q⟩:=x;exact ⟨k _ _ (.inl rfl) e,ih q⟩
 | tbl ps=>
  have e:h.get? a=some { cls:=.none,data:=.fields ps }:=x
  show h'.get? a=some { cls:=.none,data:=.fields ps }
  exact k a _ (.inl rfl) e
 | met f y=>
  have e:h.get? a=some (PySem.W.methodObj (.ref f) (.ref y)):=x
  show h'.get? a=some (PySem.W.methodObj (.ref f) (.ref y))
  exact k a _ (.inl rfl) e
 | ext φ=>obtain ⟨p,⟨o,e⟩,st⟩:=x;exact ⟨st _ _ p fun o q=>k _ _ (.inl rfl) q,⟨o,k _ _ (.inl rfl) e⟩,st⟩
theorem HOk.lt (x:HOk P w H h) (e:H a=some o):a < h.objs.size:=(x a o e).lt
theorem HOk.fresh (x:HOk P w H h) (e:h.objs.size <= a):H a=none:=by
 cases q:H a with
 | none=>rfl
 | some u=>exact absurd (yAC (x.lt q) e) (yAV _)
theorem HOk.kept (x:HOk P w H h) (k:∀ b u,h.get? b=some u->h'.get? b=some u):HOk P w H h':=fun a o e=>
 (x a o e).stay (fun b u _ q=>k b u q) (fun _ q=>q) fun _ _ q=>q
theorem HOk.laid (x:HOk P w H h) (k:∀ b u,h.get? b=some u->h'.get? b=some u) (J:h.objs.size <= a) (z:ObjOk P w (upd H a o) h' a o):HOk P w (upd H a o) h':=fun b u e=>by
 have hn:=x.fresh J
 by_cases hb:b=a
 .subst hb;rw [ZAE] at e;cases e;exact z
 .rw [ZAH hb] at e
  exact (x b u e).stay (fun c v _ q=>k c v q) (fun c q=>by rw [ZAH (ZAI q hn)];exact q) fun c xs q=>by rw [ZAH (ZAI q hn)];exact q
end
noncomputable def Rd (H:Hp) (a:Addr) (u:HO):Prop:=H a=some u∨∃ o,H a=some (.frz o u)
theorem Rd.ok {P:Program} {w:World} {H:Hp} {h:Heap} {a:Addr} {u:HO} (r:Rd H a u) (x:HOk P w H h):ObjOk P w H h a u:=by
 rcases r with r | ⟨o,r⟩
 .exact x a u r
 .obtain ⟨_,q⟩:=x a _ r
  exact q
noncomputable def Mut:Option HO->Prop
 | some (.lst _)=>True
 | some (.dK _)=>True
 | some (.dT _)=>True
 | some (.set _ _)=>True
 | some (.ins _ _ _)=>True
 | some (.ext _)=>True
 | _=>False
section
variable {P:Program} {w:World} {H:Hp} {h h':Heap} {x e:Addr} {o':HO}
theorem HOk.write (ok:HOk P w H h) (mu:Mut (H x)) (Z:e=x∨H e=some (.own x)) (k:∀ b u,b≠e->h.get? b=some u->h'.get? b=some u) (U:∃ u,h'.get? e=some u)
  (O:ObjOk P w (upd H x o') h' x o'):HOk P w (upd H x o') h':=fun b u q=>by
 have J:∀ c y,H c=some (.own y)->c≠x:=fun c y r z=>by subst z;rw [r] at mu;exact mu
 have L:∀ c xs,H c=some (.tup xs)->c≠x:=fun c xs r z=>by subst z;rw [r] at mu;exact mu
 by_cases hb:b=x
 .subst hb;rw [ZAE] at q;cases q;exact O
 .rw [ZAH hb] at q
  by_cases hbe:b=e
  .have Y:H b=some (.own x):=by
    rcases Z with z | z
    .exact absurd (hbe.trans z) hb
    .rw [hbe];exact z
   rw [q] at Y;cases Y
   obtain ⟨v,hv⟩:=U
   exact ⟨v,by rw [hbe];exact hv⟩
  .refine (ok b u q).stay (fun c v hc r=>k c v ?_ r) (fun c r=>by rw [ZAH (J c b r)];exact r) fun c xs r=>by rw [ZAH (L c xs r)];exact r
   rcases hc with rfl | hc
   .exact hbe
   .rintro rfl
    rcases Z with z | z
    .exact J c b hc z
    .rw [hc] at z;cases z;exact hb rfl
end
structure Un (fs ex:List Addr) (H H':Hp) (h h':Heap):Prop where
 keep:∀ b o,h.get? b=some o->H b=none->b∉fs->b∉ex->h'.get? b=some o
 slot:∀ b o,h.get? b=some o->H b=none->b∈fs->b∉ex->∃ sl,h'.get? b=some { o with slots:=sl }
 free:∀ b o,h.get? b=some o->H b=none->b∉ex->H' b=none
 there:∀ b o,h.get? b=some o->b∉ex->∃ o',h'.get? b=some o'
 tups:∀ b xs,H b=some (.tup xs)->H' b=some (.tup xs)
 frzs:∀ b o u,H b=some (.frz o u)->H' b=some (.frz o u)
 tbls:∀ b ps,H b=some (.tbl ps)->∃ more,H' b=some (.tbl (ps++more))
section
variable {fs fs' ex ex':List Addr} {H H1 H2:Hp} {h h1 h2 h':Heap} {a x e:Addr} {o:HO}
theorem Un.any (u:Un fs ex H H1 h h1) {b:Addr} {ob:Obj} (q:h.get? b=some ob) (n:H b=none) (hx:b∉ex):∃ z,h1.get? b=some { ob with slots:=z }:=by
 by_cases hb:b∈fs
 .exact u.slot b ob q n hb hx
 .exact ⟨ob.slots,u.keep b ob q n hb hx⟩
theorem Un.kept (k:∀ b u,h.get? b=some u->h'.get? b=some u):Un fs ex H H h h' :=
 ⟨fun b ob q _ _ _=>k b ob q,fun b ob q _ _ _=>⟨ob.slots,k b ob q⟩,fun _ _ _ n _=>n,fun b ob q _=>⟨ob,k b ob q⟩,fun _ _ q=>q,fun _ _ _ q=>q,fun _ ps q=>⟨#[],by rw [q];simp⟩⟩
theorem Un.refl:Un fs ex H H h h:=Un.kept fun _ _ q=>q
theorem Un.laid (k:∀ b u,h.get? b=some u->h'.get? b=some u) (z:h.objs.size <= a) (hn:H a=none):Un fs ex H (upd H a o) h h' where
 keep:=fun b u q _ _ _=>k b u q
 slot:=fun b u q _ _ _=>⟨u.slots,k b u q⟩
 free:=fun b u q n _=>by rw [ZAH (yAB (yAC (Heap.lt_size q) z))];exact n
 there:=fun b u q _=>⟨u,k b u q⟩
 tups:=fun b xs q=>by rw [ZAH (ZAI q hn)];exact q
 frzs:=fun b u xs q=>by rw [ZAH (ZAI q hn)];exact q
 tbls:=fun b ps q=>⟨#[],by rw [ZAH (ZAI q hn),q];simp⟩
theorem Un.write (mu:Mut (H x)) (O:e=x∨H e=some (.own x)) (k:∀ b u,b≠e->h.get? b=some u->h'.get? b=some u) (J:∃ u,h'.get? e=some u):Un fs ex H (upd H x o) h h':=by
 have hx:∀ b,H b=none->b≠x:=fun b n z=>by subst z;rw [n] at mu;exact mu
 have L:∀ b,H b=none->b≠e:=fun b n z=>by
  subst z
  rcases O with r | r
  .exact hx b n r
  .rw [n] at r;cases r
 have hm:∀ b u,H b=some u->¬ Mut (some u)->b≠x:=fun b u q nm z=>by subst z;rw [q] at mu;exact nm mu
 refine ⟨fun b u q n _ _=>k b u (L b n) q,fun b u q n _ _=>⟨u.slots,k b u (L b n) q⟩,fun b u q n _=>by rw [ZAH (hx b n)];exact n,fun b u q _=>?_,
  fun b xs q=>by rw [ZAH (hm b _ q fun z=>z)];exact q,fun b u xs q=>by rw [ZAH (hm b _ q fun z=>z)];exact q,fun b ps q=>⟨#[],by rw [ZAH (hm b _ q fun z=>z),q];simp⟩⟩
 by_cases hbe:b=e
 .subst hbe;exact J
 .exact ⟨u,k b u hbe q⟩
end
noncomputable def trk (h:Heap) (H:Hp):List Addr:=(List.range h.objs.size).filter fun a=>(H a).isSome
noncomputable def hidT (h:Heap) (H:Hp):Heap:=PySem.W.hideAll h (trk h H)
theorem hidT_size (h:Heap) (H:Hp):(hidT h H).objs.size=h.objs.size:=PySem.W.hideAll_size _ _
theorem hidT_get {h:Heap} {H:Hp} {b:Addr} {o:Obj} (e:h.get? b=some o) (n:H b=none):(hidT h H).get? b=some o :=
 PySem.W.hideAll_get _ e fun hm=>by
  have q:(H b).isSome=true:=(List.mem_filter.mp hm).2
  rw [n] at q;simp at q
theorem of_hidT {h:Heap} {H:Hp} {b:Addr} {o:Obj} (e:(hidT h H).get? b=some o):h.get? b=some o /\ H b=none:=by
 have J:h.get? b=some o:=PySem.W.of_hideAll (trk h H) e
 refine ⟨J,?_⟩
 cases q:H b with
 | none=>rfl
 | some x=>
  have hm:b∈trk h H:=List.mem_filter.mpr ⟨List.mem_range.mpr (Heap.lt_size J),by simp [q]⟩
  have z:(hidT h H).get? b=none:=PySem.W.hideAll_none (trk h H) hm
  rw [z] at e;cases e
structure Mod (K:W.Frag) (mg:Str->Option Value) (base:Heap):Prop where
 kin:K.In base
 glob:base.Ns mainGlobals mg
 blt:∃ mb,base.Ns builtinsNs mb /\ ∀ x:Str,x≠"__name__"->mb x=bootBuiltins x
 nolimit:base.NoLimit
structure Cx where
 prog:Program
 w:World
 K:W.Frag
 mg:Str->Option Value
 base:Heap
 A:Around
 N:List Str
 s₀:Shared
 H₀:Hp
 env:Env
 outer:List Env
 stack:List Env
 ex:List Addr
 fn:Str->Bool
 calm:Bool
 pn:List (Addr×Obj)
 xe:Value->Shared->Prop
noncomputable def frs (l:List Env):List Addr:=l.filterMap (·.frame)
noncomputable abbrev Cx.fs (X:Cx):List Addr:=frs X.outer
noncomputable def Vis (sc:Scope) (x:Str):Prop:=sc.names.lookup x=some .local∨sc.names.lookup x=some .cell∨sc.names.lookup x=some .free
noncomputable def Loc (sc:Scope) (x:Str):Prop:=sc.names.lookup x=some .local∨sc.names.lookup x=some .cell
noncomputable def Look (env:Env) (h:Heap) (m:Str->Option Value) (x:Str) (u:Value):Prop :=
 (env.kindOf x=some .local /\ m x=some u)∨((env.kindOf x=some .cell∨env.kindOf x=some .free) /\ ∃ c,env.cells.lookup x=some c /\ h.IsCell c (some u))
structure Cx.Ok (X:Cx):Prop where
 mod:Mod X.K X.mg X.base
 kind:X.env.scope.kind=.function
 glob:X.env.globals=mainGlobals
 blt:X.env.builtins=builtinsNs
 above:X.s₀.heap.objs.size <= X.env.locals
 inj:∀ x y c,X.env.cells.lookup x=some c->X.env.cells.lookup y=some c->x=y
 has:∀ x,(X.env.kindOf x=some .cell∨X.env.kindOf x=some .free)->∃ c,X.env.cells.lookup x=some c
 cab:∀ x c,X.fn x=true->X.env.cells.lookup x=some c->X.s₀.heap.objs.size <= c
 hd:X.calm=true->X.A.handled=none
 frames:X.A.frames=some X.stack
 stk:X.stack=X.outer∨(X.stack=X.env::X.outer /\ X.env.frame=some X.env.locals)
 exf:∀ b∈X.ex,b≠X.env.locals /\ ∀ x c,X.env.cells.lookup x=some c->c≠b
 bs:∀ b o,X.base.get? b=some o->X.s₀.heap.get? b=some o /\ X.H₀ b=none
 bsz:X.base.objs.size <= X.s₀.heap.objs.size
 noex:∀ b o,X.base.get? b=some o->b∉X.ex
 exfs:∀ b∈X.ex,b∉X.fs
 funs:X.s₀.heap.FunFrames X.base X.outer
 frf:∀ b∈X.fs,X.H₀ b=none
structure Inv (X:Cx) (pins:List (Addr×Obj)) (σ:List (Option V)) (H:Hp) (s:Shared):Prop where
 ok:X.Ok
 os:s.os=X.s₀.os
 bare:AllBare s.gens
 base:Un X.fs X.ex X.H₀ H X.s₀.heap s.heap
 loc:∃ m,s.heap.Ns X.env.locals m /\ ∀ (i:Nat) (x:Str) (v:V),X.N[i]?=some x->σ[i]?=some (some v)->Vis X.env.scope x->∃ u,RelV v u /\ Look X.env s.heap m x u
 cell:∀ x c,X.env.cells.lookup x=some c->∃ v,s.heap.IsCell c v
 free:H X.env.locals=none
 freeC:∀ x c,X.env.cells.lookup x=some c->H c=none
 pin:∀ p∈X.pn++pins,s.heap.get? p.1=some p.2 /\ H p.1=none /\ p.1≠X.env.locals /\ p.1∉X.fs /\ ∀ v,p.2.data≠.cell v
 hok:HOk X.prog X.w H s.heap
 len:σ.length=X.N.length
section
variable {X:Cx} {pins:List (Addr×Obj)} {σ:List (Option V)} {H H':Hp} {s:Shared} {h':Heap}
theorem Cx.Ok.nofr (ok:X.Ok) {b:Addr} {o:Obj} (e:X.base.get? b=some o):b∉X.fs:=fun z=>by
 have:=(ok.funs.mem z).1
 rw [e] at this;cases this
theorem Inv.bs (I:Inv X pins σ H s):∀ b o,X.base.get? b=some o->s.heap.get? b=some o /\ H b=none:=fun b o e=>
 ⟨I.base.keep b o (I.ok.bs b o e).1 (I.ok.bs b o e).2 (I.ok.nofr e) (I.ok.noex b o e),I.base.free b o (I.ok.bs b o e).1 (I.ok.bs b o e).2 (I.ok.noex b o e)⟩
theorem Inv.bk (I:Inv X pins σ H s):∀ b o,X.base.get? b=some o->s.heap.get? b=some o:=fun b o e=>(I.bs b o e).1
theorem Inv.mod (I:Inv X pins σ H s):Mod X.K X.mg X.base:=I.ok.mod
theorem Inv.kIn (I:Inv X pins σ H s):X.K.In s.heap:=I.ok.mod.kin.keeps I.bk
theorem Inv.lt (I:Inv X pins σ H s):X.env.locals < s.heap.objs.size:=let ⟨_,hn,_⟩:=I.loc;hn.lt
theorem Inv.sz (I:Inv X pins σ H s):X.s₀.heap.objs.size <= s.heap.objs.size:=yAD I.ok.above (Nat.le_of_lt I.lt)
theorem Inv.nofs (I:Inv X pins σ H s) {a:Addr} (h:s.heap.objs.size <= a):a∉X.fs:=fun J=>by
 obtain ⟨_,o,z,_⟩:=I.ok.funs.mem J
 exact absurd (yAC (Heap.lt_size z) (yAD I.sz h)) (yAV _)
theorem Inv.cne (I:Inv X pins σ H s):∀ x c,X.env.cells.lookup x=some c->c≠X.env.locals:=fun x c e z=>by
 obtain ⟨v,o,O,hd⟩:=I.cell x c e
 obtain ⟨m,⟨o',es,U,J,L,_⟩,_⟩:=I.loc
 rw [z,J] at O;cases O;rw [L] at hd;cases hd
theorem Inv.funs (I:Inv X pins σ H s):s.heap.FunFrames X.base X.outer:=by
 have all:∀ (l:List Env),(∀ b∈frs l,b∈X.fs)->X.s₀.heap.FunFrames X.base l->s.heap.FunFrames X.base l:=by
  intro l
  induction l with
  | nil=>intro _ _;trivial
  | cons env r ih=>
   intro Y hl
   obtain ⟨hk,⟨L,o,J,hn,Z,hd⟩,hr⟩:=hl
   have U:L∈X.fs:=Y L (by unfold frs;rw [List.filterMap_cons,J];exact yAL)
   obtain ⟨sl,e⟩:=I.base.slot L o Z (I.ok.frf L U) U fun z=>I.ok.exfs L z U
   exact ⟨hk,⟨L,_,J,hn,e,hd⟩,ih (fun b O=>Y b (by unfold frs;rw [List.filterMap_cons,J];exact yAK _ O)) hr⟩
 exact all X.outer (fun _ O=>O) I.ok.funs
theorem Inv.stack (I:Inv X pins σ H s):s.heap.FunFrames X.base X.stack:=by
 rcases I.ok.stk with e | ⟨e,z⟩
 .rw [e];exact I.funs
 .rw [e]
  obtain ⟨m,hn,_⟩:=I.loc
  refine .cons (by rw [I.ok.kind];decide) z hn ?_ I.funs
  exact Heap.get?_none_of_le (yAD I.ok.bsz I.ok.above)
theorem Inv.stkSub (I:Inv X pins σ H s):∀ b∈frs X.stack,b∈X.env.locals::X.fs:=fun b z=>by
 rcases I.ok.stk with e | ⟨e,J⟩
 .rw [e] at z;exact yAK _ z
 .rw [e] at z
  unfold frs at z
  rw [List.filterMap_cons,J] at z
  exact z
theorem Inv.stkFree (I:Inv X pins σ H s):∀ b∈frs X.stack,H b=none:=fun b J=>by
 rcases yAH.mp (I.stkSub b J) with e | J
 .rw [e];exact I.free
 .obtain ⟨_,o,L,_⟩:=I.ok.funs.mem J
  exact I.base.free b o L (I.ok.frf b J) fun z=>I.ok.exfs b z J
theorem Inv.step {g':Array GenState} {t':Nat} {d':Drawn} {ch:List Addr} (I:Inv X pins σ H s)
  (O:∀ b∈ch,(b∈X.ex∨X.s₀.heap.objs.size <= b) /\ b≠X.env.locals /\ (∀ x c,X.env.cells.lookup x=some c->c≠b) /\ ∀ p∈X.pn++pins,p.1≠b)
  (keep:∀ b o,b≠X.env.locals->b∉X.fs->b∉ch->s.heap.get? b=some o->H b=none->h'.get? b=some o)
  (slot:∀ b o,b≠X.env.locals->b∈X.fs->b∉ch->s.heap.get? b=some o->H b=none->∃ sl,h'.get? b=some { o with slots:=sl }) (free:∀ b o,b∉ch->s.heap.get? b=some o->H b=none->H' b=none)
  (there:∀ b o,b∉ch->s.heap.get? b=some o->∃ o',h'.get? b=some o')
  (tups:∀ b xs,H b=some (.tup xs)->H' b=some (.tup xs)) (frzs:∀ b o u,H b=some (.frz o u)->H' b=some (.frz o u)) (tbls:∀ b ps,H b=some (.tbl ps)->∃ a1,H' b=some (.tbl (ps++a1)))
  (ns:∀ m,s.heap.Ns X.env.locals m->h'.Ns X.env.locals m) (a3:HOk X.prog X.w H' h') (hg:AllBare g') :
  Inv X pins σ H' { s with heap:=h',gens:=g',drawn:=d',toks:=t' }:=by
 have a0:∀ b o,X.s₀.heap.get? b=some o->b≠X.env.locals:=fun b o e=>yAB (yAC (Heap.lt_size e) I.ok.above)
 have U:∀ b o,X.s₀.heap.get? b=some o->b∉X.ex->b∉ch:=fun b o e hx Z=>by
  rcases (O b Z).1 with z | z
  .exact hx z
  .exact absurd (yAC (Heap.lt_size e) z) (yAV _)
 have L:∀ x c,X.env.cells.lookup x=some c->∀ v,s.heap.IsCell c v->h'.IsCell c v:=fun x c e v ⟨o,ho,hd⟩=>by
  have J:c∉ch:=fun z=>(O c z).2.2.1 x c e rfl
  by_cases hc:c∈X.fs
  .obtain ⟨sl,q⟩:=slot c o (I.cne x c e) hc J ho (I.freeC x c e)
   exact ⟨_,q,hd⟩
  .exact ⟨o,keep c o (I.cne x c e) hc J ho (I.freeC x c e),hd⟩
 refine ⟨I.ok,I.os,hg,⟨fun b o e n Z hx=>?_,fun b o e n Z hx=>?_,fun b o e n hx=>?_,fun b o e hx=>?_,fun b xs e=>tups b xs (I.base.tups b xs e),fun b o xs e=>frzs b o xs (I.base.frzs b o xs e),fun b ps e=>?_⟩,?_,fun x c e=>?_,?_,fun x c e=>?_,fun p hp=>?_,a3,I.len⟩
 .exact keep b o (a0 b o e) Z (U b o e hx) (I.base.keep b o e n Z hx) (I.base.free b o e n hx)
 .obtain ⟨sl,Y⟩:=I.base.slot b o e n Z hx
  obtain ⟨a2,e2⟩:=slot b _ (a0 b o e) Z (U b o e hx) Y (I.base.free b o e n hx)
  exact ⟨a2,e2⟩
 .obtain ⟨o',Y⟩:=I.base.there b o e hx
  exact free b o' (U b o e hx) Y (I.base.free b o e n hx)
 .obtain ⟨o',Y⟩:=I.base.there b o e hx
  exact there b o' (U b o e hx) Y
 .obtain ⟨m1,Y⟩:=I.base.tbls b ps e
  obtain ⟨m2,e2⟩:=tbls b _ Y
  exact ⟨m1++m2,by rw [e2,Array.append_assoc]⟩
 .obtain ⟨m,hn,hl⟩:=I.loc
  refine ⟨m,ns m hn,fun i x v Y e2 e3=>?_⟩
  obtain ⟨u,r,l⟩:=hl i x v Y e2 e3
  refine ⟨u,r,?_⟩
  rcases l with l | ⟨k,c,e,z⟩
  .exact .inl l
  .exact .inr ⟨k,c,e,L x c e _ z⟩
 .obtain ⟨v,z⟩:=I.cell x c e
  exact ⟨v,L x c e v z⟩
 .obtain ⟨m,⟨o,_,_,ho,_⟩,_⟩:=I.loc
  exact free _ o (fun z=>(O _ z).2.1 rfl) ho I.free
 .obtain ⟨v,o,ho,hd⟩:=I.cell x c e
  exact free c o (fun z=>(O c z).2.2.1 x c e rfl) ho (I.freeC x c e)
 .obtain ⟨e,n,ne,nf,d⟩:=I.pin p hp
  have J:p.1∉ch:=fun z=>(O p.1 z).2.2.2 p hp rfl
  exact ⟨keep p.1 p.2 ne nf J e n,free p.1 p.2 J e n,ne,nf,d⟩
theorem Inv.un {t':Nat} (I:Inv X pins σ H s) (u:Un X.fs [] H H' s.heap h') (Y:HOk X.prog X.w H' h'):Inv X pins σ H' { s with heap:=h',toks:=t' }:=by
 obtain ⟨m,⟨o,es,ep,Z,r⟩,_⟩:=id I.loc
 obtain ⟨sl,hL⟩:=u.any Z I.free (by simp)
 exact I.step (g':=s.gens) (d':=s.drawn) (ch:=[]) (fun _ z=>nomatch z) (fun b o _ U _ e n=>u.keep b o e n U (by simp)) (fun b o _ U _ e n=>u.slot b o e n U (by simp)) (fun b o _ e n=>u.free b o e n (by simp)) (fun b o _ e=>u.there b o e (by simp)) u.tups u.frzs u.tbls (fun m' hm=>by
  obtain ⟨o',O,L,J,r'⟩:=hm
  rw [Z] at J;cases J
  exact ⟨_,O,L,hL,r'⟩) Y I.bare
theorem Inv.call {g':Array GenState} {t':Nat} {d':Drawn} {ch:List Addr} (I:Inv X pins σ H s) (u:Un (frs X.stack) ch H H' s.heap h') (Z:HOk X.prog X.w H' h') (hg:AllBare g')
  (L:∀ b∈ch,(b∈X.ex∨X.s₀.heap.objs.size <= b) /\ b≠X.env.locals /\ (∀ x c,X.env.cells.lookup x=some c->c≠b) /\ ∀ p∈X.pn++pins,p.1≠b) :
  Inv X pins σ H' { s with heap:=h',gens:=g',drawn:=d',toks:=t' }:=by
 obtain ⟨m,⟨o,es,ep,ho,r⟩,_⟩:=id I.loc
 obtain ⟨sl,Y⟩:=u.any ho I.free fun z=>(L _ z).2.1 rfl
 exact I.step (ch:=ch) L (fun b o Y hb hc e n=>u.keep b o e n (fun z=>(yAH.mp (I.stkSub b z)).elim Y hb) hc) (fun b o _ _ hc e n=>u.any e n hc) (fun b o hc e n=>u.free b o e n hc) (fun b o hc e=>u.there b o e hc) u.tups u.frzs u.tbls (fun m' hm=>by
  obtain ⟨o',U,O,J,r'⟩:=hm
  rw [ho] at J;cases J
  exact ⟨_,U,O,Y,r'⟩) Z hg
theorem Inv.turned {t':Nat} {it:Addr} (I:Inv X pins σ H s) (k:∀ b o,b≠it->s.heap.get? b=some o->h'.get? b=some o) (hn:H it=none) (L:it≠X.env.locals)
  (h1:it∈X.ex∨X.s₀.heap.objs.size <= it) (h2:∀ x c,X.env.cells.lookup x=some c->c≠it) (h3:∀ p∈X.pn++pins,p.1≠it):Inv X pins σ H { s with heap:=h',toks:=t' }:=by
 have J:∀ b u,H b=some u->b≠it:=fun b u e z=>by rw [z,hn] at e;cases e
 refine I.step (g':=s.gens) (d':=s.drawn) (ch:=[it]) (fun b O=>?_) (fun b o _ _ hc e _=>k b o (fun z=>hc (by simp [z])) e) (fun b o _ _ hc e _=>⟨o.slots,k b o (fun z=>hc (by simp [z])) e⟩) (fun _ _ _ _ n=>n)
  (fun b o hc e=>⟨o,k b o (fun z=>hc (by simp [z])) e⟩) (fun _ _ e=>e) (fun _ _ _ e=>e) (fun b ps e=>⟨#[],by rw [e];simp⟩) (fun m hm=>?_) (fun b u e=>?_) I.bare
 .have e:b=it:=by simpa using O
  subst e
  exact ⟨h1,L,h2,h3⟩
 .obtain ⟨o,es,Y,U,r⟩:=hm
  exact ⟨o,es,Y,k _ o (Ne.symm L) U,r⟩
 .refine (I.hok b u e).stay (fun c v hc q=>k c v ?_ q) (fun _ q=>q) fun _ _ q=>q
  rcases hc with z | z
  .rw [z];exact J b u e
  .exact J c _ z
theorem Inv.tok (I:Inv X pins σ H s) (t:Nat):Inv X pins σ H { s with toks:=t }:=I.un (h':=s.heap) (t':=t) Un.refl I.hok
theorem Inv.kept {t':Nat} (I:Inv X pins σ H s) (k:∀ b u,s.heap.get? b=some u->h'.get? b=some u):Inv X pins σ H { s with heap:=h',toks:=t' }:=I.un (Un.kept k) (I.hok.kept k)
theorem Inv.laid {a:Addr} {o:HO} {t':Nat} (I:Inv X pins σ H s) (k:∀ b u,s.heap.get? b=some u->h'.get? b=some u) (z:s.heap.objs.size <= a) (J:ObjOk X.prog X.w (upd H a o) h' a o) :
  Inv X pins σ (upd H a o) { s with heap:=h',toks:=t' }:=I.un (Un.laid k z (I.hok.fresh z)) (I.hok.laid k z J)
theorem Inv.write {x e:Addr} {o:HO} {t':Nat} (I:Inv X pins σ H s) (mu:Mut (H x)) (L:e=x∨H e=some (.own x)) (k:∀ b u,b≠e->s.heap.get? b=some u->h'.get? b=some u) (z:∃ u,h'.get? e=some u)
  (J:ObjOk X.prog X.w (upd H x o) h' x o):Inv X pins σ (upd H x o) { s with heap:=h',toks:=t' }:=I.un (Un.write mu L k z) (I.hok.write mu L k z J)
theorem Inv.pins_of {pins':List (Addr×Obj)} (I:Inv X pins σ H s) (h:∀ p∈pins',s.heap.get? p.1=some p.2 /\ H p.1=none /\ p.1≠X.env.locals /\ p.1∉X.fs /\ ∀ v,p.2.data≠.cell v):Inv X pins' σ H s :=
 ⟨I.ok,I.os,I.bare,I.base,I.loc,I.cell,I.free,I.freeC,fun p J=>(yAW.mp J).elim (fun z=>I.pin p (List.mem_append_left _ z)) (h p),I.hok,I.len⟩
theorem ZCt {N:List Str} (L:N.Nodup) {i j:Nat} {x:Str} (a:N[i]?=some x) (b:N[j]?=some x):i=j:=by
 obtain ⟨h1,z⟩:=yAP.mp a
 obtain ⟨h2,J⟩:=yAP.mp b
 exact (List.getElem_inj L).mp (z.trans J.symm)
theorem store_ok2 {M:Model} {A:Around} {E:Value->Shared->Prop} {i:Nat} {x:Str} {v:V} {u:Value} {Q:Unit->Shared->Prop} (I:Inv X pins σ H s) (hN:X.N.Nodup) (hi:X.N[i]?=some x) (hx:Loc X.env.scope x) (r:RelV v u)
  (h:∀ s',Inv X pins (σ.set i (some v)) H s'->(∃ a,Heap.SameBut a s.heap s'.heap /\ (a=X.env.locals∨X.env.cells.lookup x=some a))->Q () s') (hf:X.fn x=true∨X.env.scope.names.lookup x=some .local:=by first | exact .inl rfl | exact .inr rfl | assumption):wpAny M A (storeName X.env x u) Q E s:=by
 obtain ⟨m,hn,hl⟩:=id I.loc
 have a2:(X.env.scope.kind == .class || (X.env.scope.kind == .module && X.env.locals != X.env.globals))=false:=by rw [I.ok.kind];rfl
 have a0:i < σ.length:=by rw [I.len];exact (yAP.mp hi).1
 have cne:=I.cne
 have L:∀ {a:Addr} {h':Heap},(∃ o,s.heap.get? a=some o /\ H a=none)->Heap.SameBut a s.heap h'->HOk X.prog X.w H h':=fun {a h'} ha J b ob e=>by
  obtain ⟨_,_,U⟩:=ha
  refine (I.hok b ob e).stay (fun c w' hc q=>(J.2 c ?_).trans q) (fun _ q=>q) fun _ _ q=>q
  rintro rfl
  rcases hc with rfl | hc
  .rw [U] at e;cases e
  .rw [U] at hc;cases hc
 rcases hx with Z | Z
 .refine wpAny_storeName_local Z hn (fun h' a6 J=>?_) a2
  obtain ⟨oL,_,_,a7,_⟩:=id hn
  refine h _ ⟨I.ok,I.os,I.bare,⟨fun b o e n hb hx=>?_,fun b o e n hb hx=>?_,I.base.free,fun b o e hx=>?_,I.base.tups,I.base.frzs,I.base.tbls⟩,⟨_,a6,fun j y v' O Y e3=>?_⟩,fun y c e=>?_,I.free,I.freeC,fun p hp=>?_,L ⟨oL,a7,I.free⟩ J,by simpa using I.len⟩ ⟨_,J,.inl rfl⟩
  .exact (J.2 b (yAB (yAC (Heap.lt_size e) I.ok.above))).trans (I.base.keep b o e n hb hx)
  .obtain ⟨sl,O⟩:=I.base.slot b o e n hb hx
   exact ⟨sl,(J.2 b (yAB (yAC (Heap.lt_size e) I.ok.above))).trans O⟩
  .obtain ⟨o',O⟩:=I.base.there b o e hx
   exact ⟨o',(J.2 b (yAB (yAC (Heap.lt_size e) I.ok.above))).trans O⟩
  .by_cases hj:j=i
   .subst hj
    rw [hi] at O;cases O
    rw [List.getElem?_set_self a0] at Y
    cases Y
    exact ⟨u,r,.inl ⟨Z,by simp⟩⟩
   .rw [List.getElem?_set_ne (Ne.symm hj)] at Y
    obtain ⟨u',r',q⟩:=hl j y v' O Y e3
    refine ⟨u',r',?_⟩
    rcases q with ⟨k,e⟩ | ⟨k,c,e,z⟩
    .refine .inl ⟨k,?_⟩
     have:y≠x:=fun e=>hj (ZCt hN O (e ▸ hi))
     simp [this,e]
    .exact .inr ⟨k,c,e,z.sameBut J (cne y c e)⟩
  .obtain ⟨w',z⟩:=I.cell y c e
   exact ⟨w',z.sameBut J (cne y c e)⟩
  .obtain ⟨e,n,ne,nf,d⟩:=I.pin p hp
   exact ⟨(J.2 p.1 ne).trans e,n,ne,nf,d⟩
 .have a1:X.fn x=true:=by
   rcases hf with z | z
   .exact z
   .rw [z] at Z;cases Z
  obtain ⟨c,hc⟩:=I.ok.has x (.inl Z)
  obtain ⟨w',z⟩:=I.cell x c hc
  refine wpAny_storeName_cell I.ok.kind Z hc z (fun h' a4 J=>?_)
  obtain ⟨oc,a3,a5⟩:=id z
  refine h { s with heap:=h' } ⟨I.ok,I.os,I.bare,⟨fun b o e n hb hx=>?_,fun b o e n hb hx=>?_,I.base.free,fun b o e hx=>?_,I.base.tups,I.base.frzs,I.base.tbls⟩,⟨m,hn.sameBut J (Ne.symm (cne x c hc)),fun j y v' O Y e3=>?_⟩,fun y c' e=>?_,I.free,I.freeC,fun p hp=>?_,L ⟨oc,a3,I.freeC x c hc⟩ J,by simpa using I.len⟩ ⟨c,J,.inr hc⟩
  .exact (J.2 b (yAB (yAC (Heap.lt_size e) (I.ok.cab x c a1 hc)))).trans (I.base.keep b o e n hb hx)
  .obtain ⟨sl,O⟩:=I.base.slot b o e n hb hx
   exact ⟨sl,(J.2 b (yAB (yAC (Heap.lt_size e) (I.ok.cab x c a1 hc)))).trans O⟩
  .obtain ⟨o',O⟩:=I.base.there b o e hx
   exact ⟨o',(J.2 b (yAB (yAC (Heap.lt_size e) (I.ok.cab x c a1 hc)))).trans O⟩
  .by_cases hj:j=i
   .subst hj
    rw [hi] at O;cases O
    rw [List.getElem?_set_self a0] at Y
    cases Y
    exact ⟨u,r,.inr ⟨.inl Z,c,hc,a4⟩⟩
   .rw [List.getElem?_set_ne (Ne.symm hj)] at Y
    obtain ⟨u',r',q⟩:=hl j y v' O Y e3
    refine ⟨u',r',?_⟩
    rcases q with q | ⟨k,c',e,z'⟩
    .exact .inl q
    .refine .inr ⟨k,c',e,z'.sameBut J ?_⟩
     rintro rfl
     exact hj (ZCt hN O (I.ok.inj _ _ _ e hc ▸ hi))
  .by_cases hcc:c'=c
   .subst hcc;exact ⟨_,a4⟩
   .obtain ⟨w2,z2⟩:=I.cell y c' e
    exact ⟨w2,z2.sameBut J hcc⟩
  .obtain ⟨e,n,ne,nf,d⟩:=I.pin p hp
   refine ⟨(J.2 p.1 ?_).trans e,n,ne,nf,d⟩
   intro q
   rw [q,a3] at e
   have q':oc=p.2:=Option.some.inj e
   exact d w' (by rw [<- q'];exact a5)
theorem ZCJ {M:Model} {A:Around} {E:Value->Shared->Prop} {i:Nat} {x:Str} {v:V} {u:Value} {Q:Unit->Shared->Prop} (I:Inv X pins σ H s) (L:X.N.Nodup) (hi:X.N[i]?=some x) (hx:Loc X.env.scope x) (r:RelV v u)
  (h:∀ s',Inv X pins (σ.set i (some v)) H s'->Q () s') (J:X.fn x=true∨X.env.scope.names.lookup x=some .local:=by first | exact .inl rfl | exact .inr rfl | assumption):wpAny M A (storeName X.env x u) Q E s :=
 store_ok2 I L hi hx r (fun s' z _=>h s' z) J
theorem Inv.call' {s':Shared} {ch:List Addr} (I:Inv X pins σ H s) (L:s'.os=s.os) (u:Un (frs X.stack) ch H H' s.heap s'.heap) (z:HOk X.prog X.w H' s'.heap) (O:AllBare s'.gens)
  (J:∀ b∈ch,(b∈X.ex∨X.s₀.heap.objs.size <= b) /\ b≠X.env.locals /\ (∀ x c,X.env.cells.lookup x=some c->c≠b) /\ ∀ p∈X.pn++pins,p.1≠b):Inv X pins σ H' s':=by
 obtain ⟨h',g',d',t',o'⟩:=s'
 have e:o'=s.os:=L
 subst e
 exact I.call (g':=g') (t':=t') (d':=d') u z O J
end
noncomputable abbrev XK:=Value->Option Addr->Hp->Prop
noncomputable abbrev St:=List (Option V)
noncomputable abbrev VK:=V->Hp->Prop
noncomputable abbrev TE:=St->Hp->VK->Prop
noncomputable abbrev TT:=St->Hp->(Bool->Hp->Prop)->Prop
noncomputable abbrev TA:=St->Hp->(List V->Hp->Prop)->Prop
structure Ends where
 nx:St->Hp->Prop
 rt:VK
 bk:St->Hp->Prop:=fun _ _=>False
 ct:St->Hp->Prop:=fun _ _=>False
noncomputable abbrev TS:=Ends->St->Hp->Prop
noncomputable def EP (X:Cx) (pins:List (Addr×Obj)) (σ:St) (Q:VK) (u:Value) (s':Shared):Prop:=∃ v H',Inv X pins σ H' s' /\ RelV v u /\ Q v H'
noncomputable def TP (X:Cx) (pins:List (Addr×Obj)) (σ:St) (Q:Bool->Hp->Prop) (b:Bool) (s':Shared):Prop:=∃ H',Inv X pins σ H' s' /\ Q b H'
noncomputable def AP (X:Cx) (pins:List (Addr×Obj)) (σ:St) (Q:List V->Hp->Prop) (us:List Value) (s':Shared):Prop:=∃ vs H',Inv X pins σ H' s' /\ Vals vs us /\ Q vs H'
noncomputable def SP (X:Cx) (pins:List (Addr×Obj)) (D:Ends) (f:Flow) (s':Shared):Prop :=
 match f with
 | .next=>∃ σ' H',Inv X pins σ' H' s' /\ D.nx σ' H'
 | .brk=>∃ σ' H',Inv X pins σ' H' s' /\ D.bk σ' H'
 | .cont=>∃ σ' H',Inv X pins σ' H' s' /\ D.ct σ' H'
 | .ret u=>∃ v σ' H',Inv X pins σ' H' s' /\ RelV v u /\ D.rt v H'
noncomputable def PE (X:Cx) (e:Expr) (t:TE):Prop :=
 ∀ (pins:List (Addr×Obj)) (s:Shared) (σ:St) (H:Hp) (Q:VK),Inv X pins σ H s->t σ H Q->wpAny (model X.prog X.w) X.A (eval e X.env) (EP X pins σ Q) X.xe s
noncomputable def PT (X:Cx) (e:Expr) (t:TT):Prop :=
 ∀ (pins:List (Addr×Obj)) (s:Shared) (σ:St) (H:Hp) (Q:Bool->Hp->Prop),Inv X pins σ H s->t σ H Q->wpAny (model X.prog X.w) X.A (isTrue e X.env (eval e X.env)) (TP X pins σ Q) X.xe s
noncomputable def PW (X:Cx) (e:Expr) (t:TT):Prop :=
 ∀ (whole:Sem Value) (pins:List (Addr×Obj)) (s:Shared) (σ:St) (H:Hp) (Q:Bool->Hp->Prop),Inv X pins σ H s->t σ H Q->wpAny (model X.prog X.w) X.A (isTrue e X.env whole) (TP X pins σ Q) X.xe s
theorem PW.pt {X:Cx} {e:Expr} {t:TT} (h:PW X e t):PT X e t:=h _
noncomputable def PA (X:Cx) (es:List Expr) (t:TA):Prop :=
 ∀ (pos:Pos) (pins:List (Addr×Obj)) (s:Shared) (σ:St) (H:Hp) (Q:List V->Hp->Prop),Inv X pins σ H s->t σ H Q->wpAny (model X.prog X.w) X.A (spliced (backTo pos (starEach es X.env))) (AP X pins σ Q) X.xe s
noncomputable def PS (X:Cx) (st:Stmt) (t:TS):Prop :=
 ∀ (pins:List (Addr×Obj)) (s:Shared) (σ:St) (H:Hp) (D:Ends),Inv X pins σ H s->t D σ H->wpAny (model X.prog X.w) X.A (exec st X.env) (SP X pins D) X.xe s
noncomputable def PSs (X:Cx) (st:List Stmt) (t:TS):Prop :=
 ∀ (pins:List (Addr×Obj)) (s:Shared) (σ:St) (H:Hp) (D:Ends),Inv X pins σ H s->t D σ H->wpAny (model X.prog X.w) X.A (execs st X.env) (SP X pins D) X.xe s
theorem thn {α:Type} {t:Sem α} {Q Q':α->Shared->Prop} {M:Model} {A:Around} {E:Value->Shared->Prop} {s:Shared} (h:wpAny M A t Q E s) (z:∀ a s,Q a s->Q' a s):wpAny M A t Q' E s:=wpAny_mono h z fun _ _ x=>x
section
variable {X:Cx}
noncomputable def tVar (i:Nat):TE:=fun σ H Q=>∃ v,σ[i]?=some (some v) /\ Q v H
noncomputable def tC (v:V):TE:=fun _ H Q=>Q v H
theorem pe_var {i:Nat} {x:Str} {pos:Pos} (Y:X.N[i]?=some x) (U:Vis X.env.scope x) (hd:(x == ("__debug__":Str))=false:=by decide) (O:(x == ("__classdict__":Str))=false:=by decide):PE X (.Name x pos) (tVar i):=by
 intro pins s σ H Q I h
 obtain ⟨v,e,h⟩:=h
 obtain ⟨m,hn,hl⟩:=I.loc
 obtain ⟨u,r,l⟩:=hl i x v Y e U
 have J:EP X pins σ Q u s:=⟨v,H,I,r,h⟩
 rcases l with ⟨L,hm⟩ | ⟨L,c,hc,z⟩
 .exact wpAny_Name (wpAny_loadName_local I.ok.kind L hn hm J) hd
 .rcases L with L | L
  .exact wpAny_Name (wpAny_loadName_cell I.ok.kind L hc z J) hd
  .exact wpAny_Name (wpAny_loadName_free I.ok.kind L hc z J O) hd
theorem ZAD {i j pos}:PE X (.Constant (.int i) j pos) (tC (.int i)):=fun _ _ _ H _ I h=>wpAny_Constant_int ⟨.int i,H,I.tok _,⟨_,rfl⟩,h⟩
theorem ZBN {b j pos}:PE X (.Constant (.bool b) j pos) (tC (.bl b)):=fun _ _ _ H _ I h=>Constant_bool ⟨.bl b,H,I,rfl,h⟩
theorem pe_non {j pos}:PE X (.Constant .none j pos) (tC .non):=fun _ _ _ H _ I h=>Constant_none ⟨.non,H,I,rfl,h⟩
theorem ZBj {x j pos}:PE X (.Constant (.str x) j pos) (tC (.str x)):=fun _ _ _ H _ I h=>Calls.Constant_str ⟨.str x,H,I.tok _,⟨_,rfl⟩,h⟩
noncomputable def Gl (X:Cx) (x:Str):Prop:=X.env.kindOf x=some .globalImplicit
theorem ZBo {E:Value->Shared->Prop} {pins:List (Addr×Obj)} {s:Shared} {σ:St} {H:Hp} {x:Str} {u:Value} {pos:Pos} {Q:Value->Shared->Prop} (I:Inv X pins σ H s) (z:Gl X x) (hm:X.mg x=some u) (h:Q u s)
  (hd:(x == ("__debug__":Str))=false:=by decide):wpAny (model X.prog X.w) X.A (eval (.Name x pos) X.env) Q E s :=
 Calls.Name_function_global I.ok.kind z (Calls.loadGlobal_global (by rw [I.ok.glob];exact I.mod.glob.keeps I.bk) hm h) hd
theorem ZC3 {E:Value->Shared->Prop} {pins:List (Addr×Obj)} {s:Shared} {σ:St} {H:Hp} {x:Str} {u:Value} {pos:Pos} {Q:Value->Shared->Prop} (I:Inv X pins σ H s) (z:Gl X x) (hm:X.mg x=none) (J:bootBuiltins x=some u) (h:Q u s)
  (hn:x≠"__name__":=by decide) (hd:(x == ("__debug__":Str))=false:=by decide):wpAny (model X.prog X.w) X.A (eval (.Name x pos) X.env) Q E s:=by
 obtain ⟨L,h1,h2⟩:=I.mod.blt
 exact Calls.Name_function_global I.ok.kind z (Calls.loadGlobal_builtin (by rw [I.ok.glob];exact I.mod.glob.keeps I.bk) hm (by rw [I.ok.blt];exact h1.keeps I.bk) ((h2 x hn).trans J) h) hd
theorem ZDF {x:Str} {v:V} {u:Value} {pos:Pos} (z:Gl X x) (hm:X.mg x=some u) (r:RelV v u) (hd:(x == ("__debug__":Str))=false:=by decide):PE X (.Name x pos) (tC v) :=
 fun _ _ _ H _ I h=>ZBo I z hm ⟨v,H,I,r,h⟩ hd
theorem pe_bltn {x:Str} {v:V} {u:Value} {pos:Pos} (J:Gl X x) (hm:X.mg x=none) (z:bootBuiltins x=some u) (r:RelV v u) (hn:x≠"__name__":=by decide) (hd:(x == ("__debug__":Str))=false:=by decide):PE X (.Name x pos) (tC v) :=
 fun _ _ _ H _ I h=>ZC3 I J hm z ⟨v,H,I,r,h⟩ hn hd
variable {a b:Expr} {ta tb:TE} {pos:Pos}
noncomputable def tB (t:TE):TT:=fun σ H Q=>t σ H fun x H1=>∃ c,x=.bl c /\ Q c H1
theorem ZA9 {e:Expr} {t:TE} (h:PE X e t) (O:∀ z,isTrue e X.env z=(do let v <- z;standAt e.pos;holding [v] (truthy v)):=by intro _;rfl):PT X e (tB t):=by
 intro pins s σ H Q I hw
 refine isTrue_plain (thn (h pins s σ H _ I hw) fun v s1 U=>?_) (O _)
 obtain ⟨x,H1,Y,J,L⟩:=U
 obtain ⟨d,rfl,q⟩:=L
 cases J
 exact wpAny_truthy_bool ⟨H1,Y,q⟩
variable {tA tB':TT} {rest:List Expr}
noncomputable def tAnd (t u:TT):TT:=fun σ H Q=>t σ H fun c H1=>if c=true then u σ H1 Q else Q false H1
noncomputable def tOr (t u:TT):TT:=fun σ H Q=>t σ H fun c H1=>if c=true then Q true H1 else u σ H1 Q
noncomputable def tNot (t:TT):TT:=fun σ H Q=>t σ H fun c H1=>Q (!c) H1
theorem pw_and1 (ha:PT X a tA):PW X (.BoolOp .And [a] pos) tA:=by
 intro z pins s σ H Q I h
 refine isTrue_and (thn (ha pins s σ H Q I h) fun c s1 e=>?_)
 cases c with
 | true=>exact isTrue_and_nil e
 | false=>exact e
theorem ZBi (ha:PT X a tA):PW X (.BoolOp .Or [a] pos) tA:=by
 intro z pins s σ H Q I h
 refine isTrue_or (thn (ha pins s σ H Q I h) fun c s1 e=>?_)
 cases c with
 | false=>exact isTrue_or_nil e
 | true=>exact e
theorem pw_and (ha:PT X a tA) (L:PW X (.BoolOp .And (b::rest) pos) tB'):PW X (.BoolOp .And (a::b::rest) pos) (tAnd tA tB'):=by
 intro O pins s σ H Q I h
 refine isTrue_and (thn (ha pins s σ H _ I h) fun c s1 ⟨H1,J,z⟩=>?_)
 cases c with
 | true=>exact L O pins s1 σ H1 Q J z
 | false=>exact ⟨H1,J,z⟩
theorem ZCU (ha:PT X a tA) (L:PW X (.BoolOp .Or (b::rest) pos) tB'):PW X (.BoolOp .Or (a::b::rest) pos) (tOr tA tB'):=by
 intro O pins s σ H Q I h
 refine isTrue_or (thn (ha pins s σ H _ I h) fun c s1 ⟨H1,J,z⟩=>?_)
 cases c with
 | true=>exact ⟨H1,J,z⟩
 | false=>exact L O pins s1 σ H1 Q J z
theorem ZBQ (ha:PT X a tA):PT X (.UnaryOp .Not a pos) (tNot tA):=by
 intro pins s σ H Q I h
 exact isTrue_not (ha pins s σ H (fun c H1=>Q (!c) H1) I h)
noncomputable def ZDy (ta tb:TE):TE:=fun σ H Q=>ta σ H fun x H1=>∃ c,x=.bl c /\ if c=true then tb σ H1 Q else Q (.bl false) H1
noncomputable def tOrV (ta tb:TE):TE:=fun σ H Q=>ta σ H fun x H1=>∃ c,x=.bl c /\ if c=true then Q (.bl true) H1 else tb σ H1 Q
noncomputable def tNotV (ta:TE):TE:=fun σ H Q=>ta σ H fun x H1=>∃ c,x=.bl c /\ Q (.bl (!c)) H1
theorem ZDe {op} {t:TE} (h:PE X a t):PE X (.BoolOp op [a] pos) t:=fun pins s σ H Q I hw=>BoolOp_one (h pins s σ H Q I hw)
theorem ZDO (ha:PE X a ta) (L:PE X (.BoolOp .And (b::rest) pos) tb):PE X (.BoolOp .And (a::b::rest) pos) (ZDy ta tb):=by
 intro pins s σ H Q I h
 refine BoolOp_and (thn (ha pins s σ H _ I h) fun v s1 U=>?_)
 obtain ⟨x,H1,J,O,z⟩:=U
 obtain ⟨c,rfl,z⟩:=z
 cases O
 refine wpAny_truthy_bool ?_
 cases c with
 | true=>exact L pins s1 σ H1 Q J z
 | false=>exact ⟨.bl false,H1,J,rfl,z⟩
noncomputable def tIf (t:TT) (ta tb:TE):TE:=fun σ H Q=>t σ H fun c H1=>if c=true then ta σ H1 Q else tb σ H1 Q
theorem pe_ifExp {c:Expr} (hc:PT X c tA) (ha:PE X a ta) (L:PE X b tb):PE X (.IfExp c a b pos) (tIf tA ta tb):=by
 intro pins s σ H Q I h
 refine wpAny_IfExp (thn (hc pins s σ H _ I h) fun d s1 ⟨H1,J,z⟩=>?_)
 cases d with
 | true=>exact ha pins s1 σ H1 Q J z
 | false=>exact L pins s1 σ H1 Q J z
end
noncomputable def SqL (K:W.Frag) (H:Hp) (a:Addr) (xs:List V):Prop :=
 Rd H a (.lst xs) ∨
  ∃ (o:Obj) (its:Array Value) (n:Nat),K.lookup a=some o /\ o.cls=.type "list" /\ o.dict=none /\ o.data=.seq its n /\ its.size <= sizeLine /\ Vals xs its.toList
noncomputable def SqT (K:W.Frag) (H:Hp) (a:Addr) (xs:List V):Prop :=
 Rd H a (.tup xs) ∨
  ∃ (o:Obj) (its:Array Value) (n:Nat),K.lookup a=some o /\ o.cls=.type "tuple" /\ o.data=.seq its n /\ its.size <= sizeLine /\ Vals xs its.toList
noncomputable def absV:Value->Option V
 | .none=>some .non
 | .bool b=>some (.bl b)
 | .int i _=>some (.int i)
 | .str x _=>some (.str x)
 | .bytes b _=>some (.byt b)
 | .float b _=>some (.flt b)
 | .ref a=>some (.ref a)
 | .type n=>some (.ty n)
 | _=>none
theorem RelV.abs {x:V} {u:Value} (r:RelV x u):absV u=some x:=by
 cases x with
 | non=>cases r;rfl
 | bl _=>cases r;rfl
 | int _=>obtain ⟨t,rfl⟩:=r;rfl
 | str _=>obtain ⟨t,rfl⟩:=r;rfl
 | byt _=>obtain ⟨t,rfl⟩:=r;rfl
 | flt _=>obtain ⟨t,rfl⟩:=r;rfl
 | ref _=>cases r;rfl
 | ty _=>cases r;rfl
theorem RelV.inj {x y:V} {u:Value} (r:RelV x u) (q:RelV y u):x=y:=Option.some.inj (r.abs.symm.trans q.abs)
theorem Vals.inj:∀ {xs ys:List V} {us:List Value},Vals xs us->Vals ys us->xs=ys
 | _,_,_,.nil,.nil=>rfl
 | _,_,_,.cons r t,.cons r' t'=>by rw [r.inj r',Vals.inj t t']
section
variable {X:Cx} {pins:List (Addr×Obj)} {σ:St} {H:Hp} {s:Shared} {a:Addr} {xs ys:List V}
theorem SqL.of {K:W.Frag} (h:H a=some (.lst xs)):SqL K H a xs:=.inl (.inl h)
theorem SqT.of {K:W.Frag} (h:H a=some (.tup xs)):SqT K H a xs:=.inl (.inl h)
theorem Inv.list (I:Inv X pins σ H s) (h:SqL X.K H a xs):∃ its:List Value,Vals xs its /\ PlainL s.heap a its.toArray /\ xs.length <= sizeLine:=by
 rcases h with h | ⟨o,its,n,J,hc,hd,L,O,r⟩
 .obtain ⟨z,its,n,r,e⟩:=h.ok I.hok
  exact ⟨its,r,⟨_,n,e,rfl,rfl,rfl⟩,z⟩
 .refine ⟨its.toList,r,⟨o,n,I.kIn a o J,hc,hd,by simpa using L⟩,?_⟩
  have e:=r.length
  simp only [Array.length_toList] at e
  omega
theorem Inv.tuple (I:Inv X pins σ H s) (h:SqT X.K H a xs):∃ its:List Value,Vals xs its /\ IsTup s.heap a its.toArray /\ xs.length <= sizeLine:=by
 rcases h with h | ⟨o,its,n,J,hc,L,O,r⟩
 .obtain ⟨z,its,r,p⟩:=h.ok I.hok
  exact ⟨its,r,p,z⟩
 .refine ⟨its.toList,r,⟨o,I.kIn a o J,hc,n,by simpa using L⟩,?_⟩
  have e:=r.length
  simp only [Array.length_toList] at e
  omega
theorem Inv.list_inj (I:Inv X pins σ H s) (h:SqL X.K H a xs) (h':SqL X.K H a ys):xs=ys:=by
 obtain ⟨its,r,⟨o,n,e,_,_,d⟩,_⟩:=I.list h
 obtain ⟨its',J,⟨o',L,z,_,_,d'⟩,_⟩:=I.list h'
 rw [e] at z;cases z
 rw [d] at d'
 injection d' with d1 _
 have:its=its':=by simpa using congrArg Array.toList d1
 subst this
 exact r.inj J
end
noncomputable abbrev Cx.wish (X:Cx) (E:Value->Shared->Prop):Cx:={ X with xe:=E }
noncomputable abbrev Cx.nox (X:Cx):Cx:=X.wish fun _ _=>False
theorem Cx.Ok.wish {X:Cx} (ok:X.Ok) (E:Value->Shared->Prop):(X.wish E).Ok :=
 ⟨ok.mod,ok.kind,ok.glob,ok.blt,ok.above,ok.inj,ok.has,ok.cab,ok.hd,ok.frames,ok.stk,ok.exf,ok.bs,ok.bsz,ok.noex,ok.exfs,ok.funs,ok.frf⟩
theorem Cx.Ok.unwish {X:Cx} {E:Value->Shared->Prop} (ok:(X.wish E).Ok):X.Ok :=
 ⟨ok.mod,ok.kind,ok.glob,ok.blt,ok.above,ok.inj,ok.has,ok.cab,ok.hd,ok.frames,ok.stk,ok.exf,ok.bs,ok.bsz,ok.noex,ok.exfs,ok.funs,ok.frf⟩
section
variable {X:Cx} {pins:List (Addr×Obj)} {σ:St} {H:Hp} {s:Shared} {E:Value->Shared->Prop}
theorem Inv.wish (I:Inv X pins σ H s) (E:Value->Shared->Prop):Inv (X.wish E) pins σ H s:=⟨I.ok.wish E,I.os,I.bare,I.base,I.loc,I.cell,I.free,I.freeC,I.pin,I.hok,I.len⟩
theorem Inv.unwish (I:Inv (X.wish E) pins σ H s):Inv X pins σ H s:=⟨I.ok.unwish,I.os,I.bare,I.base,I.loc,I.cell,I.free,I.freeC,I.pin,I.hok,I.len⟩
theorem SP.unwish {D:Ends} {f:Flow} {s':Shared} (h:SP (X.wish E) pins D f s'):SP X pins D f s':=by
 cases f with
 | next=>obtain ⟨z,H',I,q⟩:=h;exact ⟨z,H',I.unwish,q⟩
 | brk=>obtain ⟨z,H',I,q⟩:=h;exact ⟨z,H',I.unwish,q⟩
 | cont=>obtain ⟨z,H',I,q⟩:=h;exact ⟨z,H',I.unwish,q⟩
 | ret u=>obtain ⟨v,z,H',I,r,q⟩:=h;exact ⟨v,z,H',I.unwish,r,q⟩
theorem PSs.nox {st:List Stmt} {t:TS} (h:PSs X.nox st t):PSs X st t:=fun pins s σ H D I hw=>
 wpAny_mono (h pins s σ H D (I.wish _) hw) (fun _ _ q=>q.unwish) fun _ _ z=>False.elim z
end
section
variable {X:Cx} {st:Stmt} {rest:List Stmt} {t u:TS} {e:Expr} {te:TE} {pos:Pos}
noncomputable def ZDv:TS:=fun D σ H=>D.nx σ H
noncomputable def tSeq (t u:TS):TS:=fun D σ H=>t { D with nx:=u D } σ H
theorem ZAX:PSs X [] ZDv:=fun _ _ σ H _ I h=>wpAny_execs_nil ⟨σ,H,I,h⟩
theorem ZAF (h1:PS X st t) (h2:PSs X rest u):PSs X (st::rest) (tSeq t u):=by
 intro pins s σ H D I h
 refine wpAny_execs_cons (thn (h1 pins s σ H { D with nx:=u D } I h) fun f s1 q=>?_)
 cases f with
 | next=>
  obtain ⟨z,H',J,q⟩:=q
  exact h2 pins s1 z H' D J q
 | ret v=>exact q
 | brk=>exact q
 | cont=>exact q
theorem ZAG (h1:PS X st t):PSs X [st] t:=by
 intro pins s σ H D I h
 refine wpAny_execs_cons (thn (h1 pins s σ H D I h) fun f s1 q=>?_)
 cases f with
 | next=>exact wpAny_execs_nil q
 | ret v=>exact q
 | brk=>exact q
 | cont=>exact q
theorem Inv.quiet {pins:List (Addr×Obj)} {σ:St} {H:Hp} {s:Shared} (I:Inv X pins σ H s):interactive X.env=false:=by simp [interactive,I.ok.kind]
noncomputable def ZDx (te:TE):TS:=fun D σ H=>te σ H fun _ H1=>D.nx σ H1
theorem ZBX (L:PE X e te) (z:swapsWith e none pos.line X.env=pure false:=by rfl):PS X (.Expr e pos) (ZDx te):=by
 intro pins s σ H D I h
 exact wpAny_Expr_any (thn (L pins s σ H _ I h) fun v s1 ⟨x,H1,O,U,J⟩=>⟨σ,H1,O,J⟩) I.quiet z
noncomputable def tRet (te:TE):TS:=fun D σ H=>te σ H D.rt
theorem ZAN (J:PE X e te):PS X (.Return (some e) pos) (tRet te):=by
 intro pins s σ H D I h
 exact wpAny_Return_some (thn (J pins s σ H _ I h) fun v s1 ⟨x,H1,O,L,z⟩=>⟨x,σ,H1,O,L,z⟩)
noncomputable def tRetN:TS:=fun D _ H=>D.rt .non H
noncomputable def tIfS (c:TT) (t u:TS):TS:=fun D σ H=>c σ H fun b H1=>if b=true then t D σ H1 else u D σ H1
theorem ZBI {c:Expr} {a b:List Stmt} {tc:TT} (hc:PT X c tc) (ha:PSs X a t) (L:PSs X b u):PS X (.If c a b pos) (tIfS tc t u):=by
 intro pins s σ H D I h
 refine wpAny_If (thn (hc pins s σ H _ I h) fun d s1 ⟨H1,J,z⟩=>?_)
 cases d with
 | true=>exact ha pins s1 σ H1 D J z
 | false=>exact L pins s1 σ H1 D J z
noncomputable def tNever:TS:=fun _ _ _=>False
end
noncomputable abbrev TG:=V->St->Hp->(St->Hp->Prop)->Prop
noncomputable abbrev TGs:=List V->St->Hp->(St->Hp->Prop)->Prop
noncomputable def PG (X:Cx) (target:Expr) (t:TG):Prop :=
 ∀ (pins:List (Addr×Obj)) (s:Shared) (σ:St) (H:Hp) (v:V) (u:Value) (Q:St->Hp->Prop),Inv X pins σ H s->RelV v u->t v σ H Q ->
  wpAny (model X.prog X.w) X.A (assign target X.env u) (fun _ s'=>∃ σ' H',Inv X pins σ' H' s' /\ Q σ' H') X.xe s
noncomputable def PGs (X:Cx) (ts:List Expr) (t:TGs):Prop :=
 ∀ (pins:List (Addr×Obj)) (s:Shared) (σ:St) (H:Hp) (vs:List V) (us:List Value) (Q:St->Hp->Prop),Inv X pins σ H s->Vals vs us->t vs σ H Q ->
  wpAny (model X.prog X.w) X.A (assignInOrder ((assignEach ts X.env).map (·.2)) us) (fun _ s'=>∃ σ' H',Inv X pins σ' H' s' /\ Q σ' H') X.xe s
noncomputable abbrev TSet:=V->V->V->Hp->(Hp->Prop)->Prop
noncomputable abbrev TIp:=V->V->Hp->VK->Prop
section
variable {X:Cx} {pos:Pos}
noncomputable def ZDl (i:Nat):TG:=fun v σ H Q=>Q (σ.set i (some v)) H
theorem ZAt {i:Nat} {x:Str} (L:X.N.Nodup) (hi:X.N[i]?=some x) (hx:Loc X.env.scope x) (J:X.fn x=true∨X.env.scope.names.lookup x=some .local:=by first | exact .inl rfl | exact .inr rfl | assumption):PG X (.Name x pos) (ZDl i):=by
 intro pins s σ H v u Q I r h
 exact wpAny_assign_Name (ZCJ I L hi hx r (fun s' z=>⟨_,H,z,h⟩) J)
noncomputable def gNil:TGs:=fun vs σ H Q=>vs=[] /\ Q σ H
noncomputable def ZD4 (t:TG) (u:TGs):TGs:=fun vs σ H Q=>∃ v r,vs=v::r /\ t v σ H fun σ' H'=>u r σ' H' Q
theorem ZCq:PGs X [] gNil:=by
 intro pins s σ H vs us Q I r h
 obtain ⟨e,h⟩:=h
 subst e
 cases r
 exact assignInOrder_nil ⟨σ,H,I,h⟩
theorem ZBR {e:Expr} {es:List Expr} {t:TG} {u:TGs} (h1:PG X e t) (h2:PGs X es u)
  (J:(assignEach (e::es) X.env).map (·.2)=assign e X.env::(assignEach es X.env).map (·.2):=by rfl):PGs X (e::es) (ZD4 t u):=by
 intro pins s σ H vs us Q I r h
 obtain ⟨v,Z,O,h⟩:=h
 subst O
 cases r with
 | cons r rr=>
  rw [J]
  refine assignInOrder_cons (thn (h1 pins s σ H _ _ _ I r h) fun _ s1 U=>?_)
  obtain ⟨z,H1,Y,L⟩:=U
  exact h2 pins s1 z H1 _ _ Q Y rr L
noncomputable def gTup (K:W.Frag) (n:Nat) (t:TGs):TG:=fun v σ H Q=>∃ a xs,v=.ref a /\ SqT K H a xs /\ xs.length=n /\ t xs σ H Q
theorem ZDN {es:List Expr} {k:Nat} {t:TGs} {n:Nat} (hc:X.calm=true) (h:PGs X es t)
  (hn:(assignEach es X.env).length=n:=by rfl) (z:(assignEach es X.env).findIdx? (·.1)=none:=by rfl):PG X (.Tuple es k pos) (gTup X.K n t):=by
 intro pins s σ H v u Q I r hw
 obtain ⟨a,xs,U,L,hl,hw⟩:=hw
 subst U
 cases r
 obtain ⟨its,J,O,Z⟩:=I.tuple L
 refine assign_Tuple_tuple (I.ok.hd hc) O (by simp [hn,<- hl,J.length]) z fun h' hx=>?_
 have Y:Inv X pins σ H { s with heap:=h' }:=I.kept (t':=s.toks) fun b o e=>hx b o (yAB (Heap.lt_size e)) e
 exact h pins _ σ H xs _ Q Y (by simpa using J) hw
noncomputable def gSub (to ti:TE) (t:TSet):TG:=fun v σ H Q=>to σ H fun o H1=>ti σ H1 fun i H2=>t o i v H2 fun H3=>Q σ H3
noncomputable def tAsg (te:TE) (g:TG):TS:=fun D σ H=>te σ H fun x H1=>g x σ H1 D.nx
theorem ZBA {i:Nat} {x:Str} {e:Expr} {te:TE} {pos':Pos} (Z:X.N.Nodup) (hi:X.N[i]?=some x) (hx:Loc X.env.scope x) (Y:PE X e te) (z:swapsWith e (some (.Name x pos')) pos.line X.env=pure false:=by rfl) (J:X.fn x=true∨X.env.scope.names.lookup x=some .local:=by first | exact .inl rfl | exact .inr rfl | assumption) :
  PS X (.Assign [.Name x pos'] e pos) (tAsg te (ZDl i)):=by
 intro pins s σ H D I h
 refine wpAny_Assign_Name (thn (Y pins s σ H _ I h) fun v s1 zz=>?_) z
 obtain ⟨y,H1,I1,O,U⟩:=zz
 exact ZCJ I1 Z hi hx O (fun s2 L=>⟨_,H1,L,U⟩) J
noncomputable def tAug (i:Nat) (te:TE) (ti:TIp):TS:=fun D σ H=>∃ x,σ[i]?=some (some x) /\ te σ H fun y H1=>ti x y H1 fun z H2=>D.nx (σ.set i (some z)) H2
noncomputable def ipI (f:Int->Int->Int):TIp:=fun x y H Q=>∃ i j,x=.int i /\ y=.int j /\ Q (.int (f i j)) H
end
section
variable {X:Cx} {pos:Pos}
end
structure It where
 go:Nat->Hp->Prop
 yld:Nat->Hp->V->Hp->Prop
 stop:Nat->Hp->Prop
noncomputable def FpOk (X:Cx) (pins:List (Addr×Obj)) (H:Hp) (b:Addr):Prop :=
 H b=none /\ b≠X.env.locals /\ b∉X.fs /\ (b∈X.ex∨X.s₀.heap.objs.size <= b) /\ (∀ x c,X.env.cells.lookup x=some c->c≠b) /\ ∀ p∈X.pn++pins,p.1≠b
theorem Inv.fpOk {X:Cx} {pins:List (Addr×Obj)} {σ:St} {H H':Hp} {s:Shared} {b:Addr} (I:Inv X pins σ H s) (J:s.heap.objs.size <= b) (hn:H' b=none):FpOk X pins H' b:=by
 refine ⟨hn,Nat.ne_of_gt (yAC I.lt J),I.nofs J,.inr (yAD I.sz J),fun x c e z=>?_,fun p L z=>?_⟩
 .obtain ⟨v,q⟩:=I.cell x c e
  exact absurd (yAC q.lt (by rw [z];exact J)) (yAV _)
 .exact absurd (yAC (Heap.lt_size (I.pin p L).1) (by rw [z];exact J)) (yAV _)
structure Turn (P:Program) (w:World) (K:W.Frag) (tg:Expr) (J:It) (fp:List Addr) (it:Addr) (tn:Nat->Heap->Prop):Prop where
 mem:it∈fp
 obj:∀ i h,tn i h->∀ b∈fp,∃ o,h.get? b=some o /\ ∀ v,o.data≠.cell v
 keep:∀ i h h',tn i h->(∀ b∈fp,∀ o,h.get? b=some o->h'.get? b=some o)->tn i h'
 item:∀ (X:Cx),X.prog=P->X.w=w->X.K=K->X.calm=true->∀ (i:Nat) (pins:List (Addr×Obj)) (s:Shared) (σ:St) (H:Hp) (E:Value->Shared->Prop),Inv X pins σ H s->(∀ b∈fp,FpOk X pins H b)->tn i s.heap->J.go i H ->
  wpAny (model P w) X.A (pyNext (.ref it)) (fun r s1=>∃ u,r=some u /\
   wpAny (model P w) X.A (letOwnedTupleGo tg (.ref it) u) (fun _ s2=>∃ x H',Inv X pins σ H' s2 /\ RelV x u /\ J.yld i H x H' /\ tn (i+1) s2.heap /\ ∀ b∈fp,H' b=none) E s1) E s
 done:∀ (X:Cx),X.prog=P->X.w=w->X.K=K->X.calm=true->∀ (i:Nat) (pins:List (Addr×Obj)) (s:Shared) (σ:St) (H:Hp) (E:Value->Shared->Prop),Inv X pins σ H s->(∀ b∈fp,FpOk X pins H b)->tn i s.heap->J.stop i H ->
  wpAny (model P w) X.A (pyNext (.ref it)) (fun r s1=>r=none /\ Inv X pins σ H s1) E s
 self:∀ (A:Around) (i:Nat) (s:Shared) (Q:Value->Shared->Prop) (E:Value->Shared->Prop),tn i s.heap->Q (.ref it) s->wpAny (model P w) A (pyIter (.ref it)) Q E s
noncomputable abbrev TI:=St->Hp->(It->Hp->Prop)->Prop
noncomputable def PIE (X:Cx) (pins:List (Addr×Obj)) (σ:St) (tg:Expr) (R:It->Hp->Prop) (itv:Value) (s2:Shared):Prop :=
 ∃ (it:Addr) (fp:List Addr) (tn:Nat->Heap->Prop) (J:It) (H':Hp),itv=.ref it /\ Inv X pins σ H' s2 /\ Turn X.prog X.w X.K tg J fp it tn /\ tn 0 s2.heap /\ (∀ b∈fp,FpOk X pins H' b) /\ R J H'
noncomputable def PI (X:Cx) (tg iter:Expr) (wi:TI):Prop :=
 ∀ (pins:List (Addr×Obj)) (s:Shared) (σ:St) (H:Hp) (R:It->Hp->Prop),Inv X pins σ H s->wi σ H R ->
  wpAny (model X.prog X.w) X.A (eval iter X.env) (fun v s1=>wpAny (model X.prog X.w) X.A (pyIter v) (PIE X pins σ tg R) X.xe s1) X.xe s
theorem go_of {M:Model} {A:Around} {E:Value->Shared->Prop} {s:Shared} {tg:Expr} {it:Addr} {u:Value} {o:Obj} {n:String} {vs:Array Value} {Q:Unit->Shared->Prop} (J:s.heap.get? it=some o) (hc:o.cls=.type n) (hd:o.data=.fields vs)
  (hn:["enumerate","zip","dict_itemiterator","dict_reverseitemiterator","odict_iterator","itertools.zip_longest","itertools.pairwise"].contains n=false) (z:Q () s):wpAny M A (letOwnedTupleGo tg (.ref it) u) Q E s:=by
 unfold letOwnedTupleGo
 cases tg <;> first
  | exact wpAny_pure z
  | (cases u <;> first
    | exact wpAny_pure z
    | (refine wpAny_bind (wpAny_load J ?_)
       rw [hc,hd]
       show wpAny M A (if (["enumerate","zip","dict_itemiterator","dict_reverseitemiterator","odict_iterator","itertools.zip_longest","itertools.pairwise"].contains n && vs[0]? == some (rawInt _))=true then _ else _) Q E s
       rw [if_neg (by intro h;rw [hn,Bool.false_and] at h;cases h)]
       exact wpAny_pure z))
noncomputable def Itl (K:W.Frag) (a:Addr):It :=
 ⟨fun i H=>∃ xs x,SqL K H a xs /\ xs[i]?=some x,fun i H x H'=>H'=H /\ ∀ xs,SqL K H a xs->xs[i]?=some x,fun i H=>∃ xs,SqL K H a xs /\ xs.length <= i⟩
noncomputable def Itr (lo:Int) (n:Nat):It:=⟨fun i _=>i < n,fun i H x H'=>H'=H /\ x=.int (lo+i),fun i _=>n <= i⟩
theorem turn_list {P:Program} {w:World} {K:W.Frag} {tg:Expr} (a it:Addr):Turn P w K tg (Itl K a) [it] it (fun i h=>h.IsListIter it a i) where
 mem:=by simp
 obj:=fun i h st b J=>by
  have e:b=it:=by simpa using J
  subst e
  obtain ⟨o,e,c,d⟩:=st
  exact ⟨o,e,fun v z=>by rw [d] at z;cases z⟩
 keep:=fun i h h' st k=>st.at fun o e=>k it (by simp) o e
 item:=by
  intro X hP hw hK hc i pins s σ H E I U st Z
  subst hP hw hK
  obtain ⟨xs,x,O,hx⟩:=Z
  obtain ⟨its,rv,p,hz⟩:=I.list O
  obtain ⟨u,hu,ru⟩:=rv.get hx
  obtain ⟨f0,f1,f2,f3,Y,f5⟩:=U it (by simp)
  refine wpAny_pyNext_list_item st p.isList (x:=u) (by simpa using hu) fun h' L sb=>?_
  have I1:Inv X pins σ H { s with heap:=h' }:=I.turned (t':=s.toks) (fun b o J e=>(sb.2 b J).trans e) f0 f1 f3 Y f5
  obtain ⟨o,e,c,d⟩:=id L
  exact ⟨u,rfl,go_of (s:={ s with heap:=h' }) e c d (by decide) ⟨x,H,I1,ru,⟨rfl,fun ys hy=>by rw [I.list_inj hy O];exact hx⟩,L,fun b J=>(U b J).1⟩⟩
 done:=by
  intro X hP hw hK hc i pins s σ H E I U st Z
  subst hP hw hK
  obtain ⟨xs,O,hx⟩:=Z
  obtain ⟨its,rv,p,hz⟩:=I.list O
  obtain ⟨f0,f1,f2,f3,Y,f5⟩:=U it (by simp)
  have hl:=rv.length
  exact wpAny_pyNext_list_end (I.ok.hd hc) st p.isList (by simp;omega) fun h' eb=>⟨rfl,I.turned (t':=s.toks) (fun b o J e=>eb b o J e) f0 f1 f3 Y f5⟩
 self:=fun _ _ _ _ _ st h=>wpAny_pyIter_listiter st h
theorem turn_range {P:Program} {w:World} {K:W.Frag} {tg:Expr} (it:Addr) (lo:Int) (n:Nat):Turn P w K tg (Itr lo n) [it] it (fun i h=>IsRangeIter h it (lo+(i:Nat) * 1) ((n:Int)-(i:Nat)) 1) where
 mem:=by simp
 obj:=fun i h st b J=>by
  have e:b=it:=by simpa using J
  subst e
  exact ⟨_,st,fun v z=>by
   have z':Data.fields _=Data.cell v:=z
   cases z'⟩
 keep:=fun i h h' st k=>k it (by simp) _ st
 item:=by
  intro X Z hw hK hc i pins s σ H E I O st Y
  subst Z hw hK
  obtain ⟨f0,f1,f2,f3,U,f5⟩:=O it (by simp)
  have W:=Walks.range (prog:=X.prog) (w:=X.w) (I.ok.hd hc) it lo 1 n
  refine W.item i s _ _ Y st fun v h' tk hv L kk=>?_
  obtain ⟨t,rfl⟩:=hv
  have I1:Inv X pins σ H { s with heap:=h',toks:=tk }:=I.turned (fun b o J e=>kk b o (by simpa using J) e) f0 f1 f3 U f5
  refine ⟨_,rfl,go_of (s:={ s with heap:=h',toks:=tk }) (n:="range_iterator") L rfl rfl (by decide) ⟨.int (lo+i),H,I1,⟨t,?_⟩,⟨rfl,rfl⟩,L,fun b J=>(O b J).1⟩⟩
  rw [Int.mul_one]
 done:=by
  intro X Z hw hK hc i pins s σ H E I O st Y
  subst Z hw hK
  obtain ⟨f0,f1,f2,f3,U,f5⟩:=O it (by simp)
  exact wpAny_pyNext_range_end (I.ok.hd hc) st (by have:n <= i:=Y;omega) fun h' eb=>⟨rfl,I.turned (t':=s.toks) (fun b o J e=>eb b o J e) f0 f1 f3 U f5⟩
 self:=fun _ _ _ _ _ st h=>wpAny_pyIter_rangeiter st h
section
variable {X:Cx} {tg:Expr}
noncomputable def ZD3 (K:W.Frag) (tl:TE):TI:=fun σ H R=>tl σ H fun x H1=>∃ a,x=.ref a /\ (∃ xs,SqL K H1 a xs) /\ R (Itl K a) H1
theorem ZBE {l:Expr} {tl:TE} (hl:PE X l tl):PI X tg l (ZD3 X.K tl):=by
 intro pins s σ H R I h
 refine thn (hl pins s σ H _ I h) fun v s1 L=>?_
 obtain ⟨x,H1,z,U,Y⟩:=L
 obtain ⟨a,e,⟨xs,J⟩,q⟩:=Y
 subst e
 cases U
 obtain ⟨its,Z,p,hz⟩:=z.list J
 refine wpAny_pyIter_list p.isList ?_
 refine ⟨s1.heap.objs.size,[s1.heap.objs.size],_,_,H1,rfl,z.kept (t':=s1.toks) fun b o e=>Heap.get?_push_of_some _ e,turn_list a _,⟨_,Heap.get?_push_size _ rfl,rfl,rfl⟩,fun b O=>?_,q⟩
 have e:b=s1.heap.objs.size:=by simpa using O
 subst e
 exact z.fpOk (yAA _) (z.hok.fresh (yAA _))
theorem range_it {pins:List (Addr×Obj)} {σ:St} {H:Hp} {s:Shared} {R:It->Hp->Prop} {E:Value->Shared->Prop} {lo hi:Int} {t u v:Tok} {tk:Nat} (I:Inv X pins σ H s) (h1:-(2 ^ 62) <= lo) (h2:lo < 2 ^ 62) (h3:-(2 ^ 62) <= hi) (J:hi < 2 ^ 62)
  (q:R (Itr lo (hi-lo).toNat) H):wpAny (model X.prog X.w) X.A (pyIter (.ref s.heap.objs.size)) (PIE X pins σ tg R) E { s with heap:=s.heap.push { cls:=.type "range",data:=.fields #[.int lo t,.int hi u,.int 1 v] },toks:=tk }:=by
 refine wpAny_pyIter_range (IsRange.new ..) (small_one h1 h2 h3 J) ?_
 have z:Inv X pins σ H { s with heap:=s.heap.push { cls:=.type "range",data:=.fields #[.int lo t,.int hi u,.int 1 v] },toks:=tk }:=I.kept fun b o e=>Heap.get?_push_of_some _ e
 refine ⟨(s.heap.push { cls:=.type "range",data:=.fields #[.int lo t,.int hi u,.int 1 v] }).objs.size,[(s.heap.push { cls:=.type "range",data:=.fields #[.int lo t,.int hi u,.int 1 v] }).objs.size],_,_,H,rfl,
  z.kept (t':=tk) fun b o e=>Heap.get?_push_of_some _ e,turn_range _ lo (hi-lo).toNat,?_,fun b L=>?_,q⟩
 .have O:lo+((0:Nat):Int) * 1=lo:=by simp
  have U:(((hi-lo).toNat:Nat):Int)-((0:Nat):Int)=Builtin.Range.rangeSize lo hi 1:=by rw [rangeSize_one];split <;> omega
  show IsRangeIter _ _ (lo+((0:Nat):Int) * 1) ((((hi-lo).toNat:Nat):Int)-((0:Nat):Int)) 1
  rw [O,U]
  exact Heap.get?_push_size _ rfl
 .have e:b=(s.heap.push { cls:=.type "range",data:=.fields #[.int lo t,.int hi u,.int 1 v] }).objs.size:=by simpa using L
  subst e
  exact z.fpOk (yAA _) (z.hok.fresh (yAA _))
noncomputable def ZD2 (ta:TA):TI:=fun σ H R=>ta σ H fun vs H1=>∃ j:Int,vs=[.int j] /\ -(2 ^ 62) <= j /\ j < 2 ^ 62 /\ R (Itr 0 j.toNat) H1
noncomputable def iRng2 (ta:TA):TI:=fun σ H R=>ta σ H fun vs H1=>∃ i j:Int,vs=[.int i,.int j] /\ (-(2 ^ 62) <= i /\ i < 2 ^ 62 /\ -(2 ^ 62) <= j /\ j < 2 ^ 62) /\ R (Itr i (j-i).toNat) H1
theorem ZCV {a:Expr} {ta:TA} {p pos:Pos} (L:Gl X "range") (hm:X.mg "range"=none) (ha:PA X [a] ta) (J:starEach [a] X.env=[(false,eval a X.env)]:=by rfl):PI X tg (.Call (.Name "range" p) [a] [] pos) (ZD2 ta):=by
 intro pins s σ H R I h
 refine Call_ (ZC3 I L hm boot_range (PyProof.Rows.callWith_type1 (thn (ha pos pins s σ H _ I h) fun us s1 Y=>?_) J rfl))
 obtain ⟨vs,H1,Z,O,z⟩:=Y
 obtain ⟨j,e,z,U,q⟩:=z
 subst e
 cases O with
 | cons r rr=>
  cases rr
  obtain ⟨t,rfl⟩:=r
  exact call_range_1 (range_it Z (by omega) (by omega) z U (by simpa using q))
noncomputable def tFor (wi:TI) (g:TG) (tb:TS):TS:=fun D σ H=>wi σ H fun J H1=>∃ W:Nat->Nat->St->Hp->Prop,(∃ m,W 0 m σ H1) /\ ∀ i m σ H,W i m σ H ->
 (J.stop i H /\ D.nx σ H)∨(J.go i H /\ ∃ N:St->Hp->Prop,(∀ σ' H',N σ' H'->∃ m',m' < m /\ W (i+1) m' σ' H') /\ ∀ x H',J.yld i H x H'->g x σ H' fun σ2 H2=>tb { D with nx:=N,ct:=N,bk:=D.nx } σ2 H2)
noncomputable def ZCz (fp:List Addr) (h:Heap):List (Addr×Obj):=fp.filterMap fun b=>(h.get? b).map fun o=>(b,o)
theorem ZBt {fp:List Addr} {h:Heap} {b:Addr} {o:Obj} (z:b∈fp) (e:h.get? b=some o):(b,o)∈ZCz fp h:=List.mem_filterMap.mpr ⟨b,z,by rw [e];rfl⟩
theorem of_pinsAt {fp:List Addr} {h:Heap} {p:Addr×Obj} (z:p∈ZCz fp h):p.1∈fp /\ h.get? p.1=some p.2:=by
 obtain ⟨b,L,e⟩:=List.mem_filterMap.mp z
 cases q:h.get? b with
 | none=>rw [q] at e;cases e
 | some o=>
  rw [q] at e
  have J:(b,o)=p:=Option.some.inj e
  subst J
  exact ⟨L,q⟩
theorem Inv.pinned {pins:List (Addr×Obj)} {σ:St} {H:Hp} {s:Shared} {fp:List Addr} (I:Inv X pins σ H s) (U:∀ b∈fp,FpOk X pins H b) (Z:∀ b∈fp,∃ o,s.heap.get? b=some o /\ ∀ v,o.data≠.cell v):Inv X (pins++ZCz fp s.heap) σ H s :=
 I.pins_of fun p O=>(yAW.mp O).elim (fun z=>I.pin p (yAN _ z)) fun z=>by
  obtain ⟨J,e⟩:=of_pinsAt z
  obtain ⟨f0,f1,Y,_⟩:=U p.1 J
  obtain ⟨o,L,d⟩:=Z p.1 J
  rw [e] at L;cases L
  exact ⟨e,f0,f1,Y,d⟩
theorem Inv.unpinned {pins pl:List (Addr×Obj)} {σ:St} {H:Hp} {s:Shared} (I:Inv X (pins++pl) σ H s):Inv X pins σ H s:=I.pins_of fun p z=>I.pin p (yAN _ (List.mem_append_left _ z))
theorem ZCI {iter:Expr} {body:List Stmt} {wi:TI} {g:TG} {tb:TS} {pos:Pos} (hp:PassesOwn (model X.prog X.w) X.A X.env X.xe) (hc:X.calm=true) (hi:PI X tg iter wi) (hg:PG X tg g) (hb:PSs X body tb)
  (hs:∀ x,foldedSetIterable iter X.env x=pure x:=by intro _;rfl):PS X (.For tg iter body [] pos) (tFor wi g tb):=by
 intro pins s σ H D I h
 refine wpAny_For (thn (hi pins s σ H _ I h) fun v s1 h1=>thn h1 fun aa s2 h2=>?_) hs
 obtain ⟨it,fp,tn,J,H2,e,I2,T,a6,f2,W,⟨m0,w0⟩,a5⟩:=h2
 subst e
 have Z:∀ {H':Hp},(∀ b∈fp,H' b=none)->∀ b∈fp,FpOk X pins H' b:=fun hn b hb=>⟨hn b hb,(f2 b hb).2⟩
 refine codeAny_forLoop_any (fun n s'=>∃ i Y H',Inv X pins Y H' s' /\ tn i s'.heap /\ (∀ b∈fp,H' b=none) /\ W i n Y H') ?_ m0 ⟨0,σ,H2,I2,a6,fun b hb=>(f2 b hb).1,w0⟩
 rintro n s3 ⟨i,a0,H3,I3,a4,a2,w3⟩
 rcases a5 i n a0 H3 w3 with ⟨a3,qn⟩ | ⟨go,N,hN,step⟩
 .refine wpAny_passesOwn hp (thn (T.done X rfl rfl rfl hc i pins s3 a0 H3 X.xe I3 (Z a2) a4 a3) fun r s4 ⟨hr,I4⟩=>?_)
  subst hr
  exact wpAny_execs_nil ⟨a0,H3,I4,qn⟩
 .refine wpAny_passesOwn hp (thn (T.item X rfl rfl rfl hc i pins s3 a0 H3 X.xe I3 (Z a2) a4 go) fun r s4 ⟨u,hr,h4⟩=>?_)
  subst hr
  refine wpAny_passesOwn hp (thn h4 fun _ s5 zz=>?_)
  obtain ⟨x,H5,I5,r5,y5,a1,a8⟩:=zz
  have a9:=I5.pinned (Z a8) (T.obj _ _ a1)
  refine wpAny_passesOwn hp (thn (hg _ s5 a0 H5 x u _ a9 r5 (step x H5 y5)) fun _ s6 zz=>?_)
  obtain ⟨a7,H6,I6,q6⟩:=zz
  refine wpAny_passesOwn hp (thn (hb _ s6 a7 H6 _ I6 q6) fun f s7 q7=>?_)
  have O:∀ {z:St} {L:Hp},Inv X (pins++ZCz fp s5.heap) z L s7->N z L->∃ m,m < n /\ ∃ i Y H',Inv X pins Y H' s7 /\ tn i s7.heap /\ (∀ b∈fp,H' b=none) /\ W i m Y H':=fun {z L} U n7=>by
   obtain ⟨m',hm,w7⟩:=hN z L n7
   refine ⟨m',hm,i+1,z,L,U.unpinned,T.keep _ _ _ a1 fun b hb o e=>(U.pin (b,o) (yAN _ (yAN _ (ZBt hb e)))).1,fun b hb=>?_,w7⟩
   obtain ⟨o,e,d⟩:=T.obj _ _ a1 b hb
   exact (U.pin (b,o) (yAN _ (yAN _ (ZBt hb e)))).2.1
  cases f with
  | next=>obtain ⟨z,L,U,n7⟩:=q7;exact O U n7
  | cont=>obtain ⟨z,L,U,n7⟩:=q7;exact O U n7
  | brk=>obtain ⟨z,L,U,q7⟩:=q7;exact ⟨z,L,U.unpinned,q7⟩
  | ret v=>obtain ⟨x7,z,L,U,r7,q7⟩:=q7;exact ⟨x7,z,L,U.unpinned,r7,q7⟩
end
theorem for_list {K:W.Frag} {a:Addr} {xs:List V} {g:TG} {tb:TS} {D:Ends} {σ:St} {H:Hp} (z:Nat->St->Hp->Prop) (Z:z 0 σ H) (hl:∀ i σ H,i <= xs.length->z i σ H->SqL K H a xs)
  (U:∀ i x σ H,xs[i]?=some x->z i σ H->g x σ H fun J H2=>tb { D with nx:=z (i+1),ct:=z (i+1),bk:=D.nx } J H2) (hd:∀ σ H,z xs.length σ H->D.nx σ H) :
  ∃ W:Nat->Nat->St->Hp->Prop,(∃ m,W 0 m σ H) /\ ∀ i m σ H,W i m σ H ->
   ((Itl K a).stop i H /\ D.nx σ H)∨((Itl K a).go i H /\ ∃ N:St->Hp->Prop,(∀ L H',N L H'->∃ O,O < m /\ W (i+1) O L H') /\ ∀ x H',(Itl K a).yld i H x H'->g x σ H' fun J H2=>tb { D with nx:=N,ct:=N,bk:=D.nx } J H2):=by
 refine ⟨fun i m σ H=>m=xs.length-i /\ i <= xs.length /\ z i σ H,⟨xs.length,by simp,yAO _,Z⟩,?_⟩
 rintro i m σ H ⟨rfl,hi,p⟩
 have q:=hl i σ H hi p
 by_cases hlt:i < xs.length
 .refine .inr ⟨⟨xs,xs[i],q,by simp [hlt]⟩,z (i+1),fun L H' Y=>⟨xs.length-(i+1),by omega,rfl,hlt,Y⟩,fun x H' y=>?_⟩
  obtain ⟨e,y⟩:=y
  subst e
  exact U i x σ _ (y xs q) p
 .have e:i=xs.length:=by omega
  subst e
  exact .inl ⟨⟨xs,q,yAA _⟩,hd σ H p⟩
theorem for_range {lo:Int} {n:Nat} {g:TG} {tb:TS} {D:Ends} {σ:St} {H:Hp} (z:Nat->St->Hp->Prop) (Z:z 0 σ H)
  (U:∀ i σ H,i < n->z i σ H->g (.int (lo+i)) σ H fun J H2=>tb { D with nx:=z (i+1),ct:=z (i+1),bk:=D.nx } J H2) (hd:∀ σ H,z n σ H->D.nx σ H) :
  ∃ W:Nat->Nat->St->Hp->Prop,(∃ m,W 0 m σ H) /\ ∀ i m σ H,W i m σ H ->
   ((Itr lo n).stop i H /\ D.nx σ H)∨((Itr lo n).go i H /\ ∃ N:St->Hp->Prop,(∀ L H',N L H'->∃ O,O < m /\ W (i+1) O L H') /\ ∀ x H',(Itr lo n).yld i H x H'->g x σ H' fun J H2=>tb { D with nx:=N,ct:=N,bk:=D.nx } J H2):=by
 refine ⟨fun i m σ H=>m=n-i /\ i <= n /\ z i σ H,⟨n,by simp,yAO _,Z⟩,?_⟩
 rintro i m σ H ⟨rfl,hi,p⟩
 by_cases hlt:i < n
 .refine .inr ⟨hlt,z (i+1),fun L H' Y=>⟨n-(i+1),by omega,rfl,hlt,Y⟩,fun x H' y=>?_⟩
  obtain ⟨e,y⟩:=y
  subst e y
  exact U i σ _ hlt p
 .have e:i=n:=by omega
  subst e
  exact .inl ⟨yAA _,hd σ H p⟩
noncomputable abbrev R2:=V->V->Hp->VK->Prop
noncomputable def OpR (X:Cx) (f:Value->Value->Sem Value) (r:R2):Prop :=
 ∀ (pins:List (Addr×Obj)) (s:Shared) (σ:St) (H:Hp) (x y:V) (v u:Value) (Q:VK),Inv X pins σ H s->RelV x v->RelV y u->r x y H Q ->
  wpAny (model X.prog X.w) X.A (f v u) (EP X pins σ Q) X.xe s
noncomputable def UnR (X:Cx) (f:Value->Sem Value) (r:V->Hp->VK->Prop):Prop :=
 ∀ (pins:List (Addr×Obj)) (s:Shared) (σ:St) (H:Hp) (x:V) (v:Value) (Q:VK),Inv X pins σ H s->RelV x v->r x H Q ->
  wpAny (model X.prog X.w) X.A (f v) (EP X pins σ Q) X.xe s
noncomputable def ZC7 (X:Cx) (f:Value) (r:List V->Hp->VK->Prop):Prop :=
 ∀ (pins:List (Addr×Obj)) (s:Shared) (σ:St) (H:Hp) (xs:List V) (us:List Value) (Q:VK),Inv X pins σ H s->Vals xs us->r xs H Q ->
  wpAny (model X.prog X.w) X.A (call f us) (EP X pins σ Q) X.xe s
noncomputable def tOp (r:R2) (ta tb:TE):TE:=fun σ H Q=>ta σ H fun x H1=>tb σ H1 fun y H2=>r x y H2 Q
noncomputable def tUn (r:V->Hp->VK->Prop) (ta:TE):TE:=fun σ H Q=>ta σ H fun x H1=>r x H1 Q
noncomputable def rI (C:Int->Int->Prop) (g:Int->Int->V):R2:=fun x y H Q=>∃ i j,x=.int i /\ y=.int j /\ C i j /\ Q (g i j) H
noncomputable def rI0 (g:Int->Int->V):R2:=fun x y H Q=>∃ i j,x=.int i /\ y=.int j /\ Q (g i j) H
noncomputable def rU (g:Int->V):V->Hp->VK->Prop:=fun x H Q=>∃ i,x=.int i /\ Q (g i) H
section
variable {X:Cx} {a b c:Expr} {ta tb tc:TE} {pos:Pos}
theorem binT (ha:PE X a ta) (Y:PE X b tb) {pins:List (Addr×Obj)} {s:Shared} {σ:St} {H:Hp} {R:V->V->Hp->Prop} (I:Inv X pins σ H s)
  (h:ta σ H fun x H1=>tb σ H1 fun y H2=>R x y H2) {Q:Value->Shared->Prop} {f:Value->Value->Sem Value}
  (O:∀ v u s2 x y H2,Inv X pins σ H2 s2->RelV x v->RelV y u->R x y H2->wpAny (model X.prog X.w) X.A (f v u) Q X.xe s2) :
  wpAny (model X.prog X.w) X.A (eval a X.env) (fun v s₁=>wpAny (model X.prog X.w) X.A (eval b X.env) (fun u z=>wpAny (model X.prog X.w) X.A (f v u) Q X.xe z) X.xe s₁) X.xe s:=by
 refine thn (ha pins s σ H _ I h) fun v s1 J=>?_
 obtain ⟨x,H1,I1,Z,q1⟩:=J
 refine thn (Y pins s1 σ H1 _ I1 q1) fun u s2 J=>?_
 obtain ⟨y,H2,U,L,q2⟩:=J
 exact O v u s2 x y H2 U Z L q2
theorem ZAV {z:Operator} {r:R2} (Y:OpR X (binaryOp z) r) (ha:PE X a ta) (U:PE X b tb):PE X (.BinOp a z b pos) (tOp r ta tb):=by
 intro pins s σ H Q I h
 exact wpAny_BinOp (binT ha U I h fun v u s2 x y H2 O L J q=>Y pins s2 σ H2 x y v u Q O L J q)
theorem ZC0 {z:UnaryOp} {r:V->Hp->VK->Prop} (J:UnR X (unaryOp z) r) (ha:PE X a ta):PE X (.UnaryOp z a pos) (tUn r ta):=by
 intro pins s σ H Q I h
 exact UnaryOp_ (thn (ha pins s σ H _ I h) fun v s1 ⟨x,H1,U,O,L⟩=>J pins s1 σ H1 x v Q U O L)
theorem opI {f:Value->Value->Sem Value} {C:Int->Int->Prop} {g:Int->Int->Int}
  (z:∀ (i j:Int) (t u:Tok) (s:Shared) (Q:Value->Shared->Prop) (E:Value->Shared->Prop),C i j->Q (.int (g i j) s.toks) { s with toks:=s.toks+1 }->wpAny (model X.prog X.w) X.A (f (.int i t) (.int j u)) Q E s) :
  OpR X f (rI C fun i j=>.int (g i j)):=by
 intro pins s σ H x y v u Q I L J h
 obtain ⟨i,j,rfl,rfl,hc,q⟩:=h
 obtain ⟨t,rfl⟩:=L
 obtain ⟨t',rfl⟩:=J
 exact z i j t t' s _ _ hc ⟨.int (g i j),H,I.tok _,⟨_,rfl⟩,q⟩
theorem opI0 {f:Value->Value->Sem Value} {g:Int->Int->Int}
  (z:∀ (i j:Int) (t u:Tok) (s:Shared) (Q:Value->Shared->Prop) (E:Value->Shared->Prop),Q (.int (g i j) s.toks) { s with toks:=s.toks+1 }->wpAny (model X.prog X.w) X.A (f (.int i t) (.int j u)) Q E s) :
  OpR X f (rI0 fun i j=>.int (g i j)):=by
 intro pins s σ H x y v u Q I L J h
 obtain ⟨i,j,rfl,rfl,q⟩:=h
 obtain ⟨t,rfl⟩:=L
 obtain ⟨t',rfl⟩:=J
 exact z i j t t' s _ _ ⟨.int (g i j),H,I.tok _,⟨_,rfl⟩,q⟩
theorem opB0 {f:Value->Value->Sem Value} {g:Int->Int->Bool}
  (z:∀ (i j:Int) (t u:Tok) (s:Shared) (Q:Value->Shared->Prop) (E:Value->Shared->Prop),Q (.bool (g i j)) s->wpAny (model X.prog X.w) X.A (f (.int i t) (.int j u)) Q E s) :
  OpR X f (rI0 fun i j=>.bl (g i j)):=by
 intro pins s σ H x y v u Q I L J h
 obtain ⟨i,j,rfl,rfl,q⟩:=h
 obtain ⟨t,rfl⟩:=L
 obtain ⟨t',rfl⟩:=J
 exact z i j t t' s _ _ ⟨.bl (g i j),H,I,rfl,q⟩
noncomputable def CDiv (i j:Int):Prop:=0 < j /\ j < 1073741824
noncomputable def CPow (i j:Int):Prop:=0 <= j /\ j <= 1000000 /\ i.natAbs < 2 ^ 64
noncomputable def CMul (i j:Int):Prop:=(-(2 ^ 64) < i /\ i < 2 ^ 64)∨(-(2 ^ 64) < j /\ j < 2 ^ 64)
theorem CMul.ok {i j:Int} (h:CMul i j):IntMulOk i j:=by
 rcases h with ⟨h1,h2⟩ | ⟨h1,h2⟩
 .exact .of_left (intBits_le_64 h1 h2)
 .exact .of_right (intBits_le_64 h1 h2)
theorem ZBx:OpR X (binaryOp .Add) (rI0 fun i j=>.int (i+j)):=opI0 fun _ _ _ _ _ _ _ q=>add_int q
theorem ZDg:OpR X (binaryOp .Sub) (rI0 fun i j=>.int (i-j)):=opI0 fun _ _ _ _ _ _ _ q=>sub_int q
theorem ZDh:OpR X (binaryOp .Mult) (rI CMul fun i j=>.int (i * j)):=opI fun _ _ _ _ _ _ _ hc q=>mul_int q hc.ok
theorem ZBd:OpR X (binaryOp .FloorDiv) (rI CDiv fun i j=>.int (i / j)):=opI fun i j _ _ _ _ _ hc q=>by
 have h1:(0:Int) < j:=hc.1
 have h2:j < 1073741824:=hc.2
 exact floordiv_int (by omega) (by rw [Int.fdiv_eq_ediv_of_nonneg i (by omega)];exact q) (.inl (PyProof.noPylong_small (by omega)))
theorem ZBH:OpR X (binaryOp .Mod) (rI (fun _ j=>0 < j) fun i j=>.int (i % j)):=opI fun i j _ _ _ _ _ hc q=>by
 have h1:(0:Int) < j:=hc
 exact mod_int' (by omega) (by rw [Int.fmod_eq_emod_of_nonneg i (by omega)];exact q)
theorem op_pow:OpR X (binaryOp .Pow) (rI CPow fun i j=>.int (i ^ j.toNat)):=opI fun _ _ _ _ _ _ _ hc q=>pow_int_small hc.1 hc.2.1 hc.2.2 q
theorem unI {f:Value->Sem Value} {g:Int->Int}
  (z:∀ (i:Int) (t:Tok) (s:Shared) (Q:Value->Shared->Prop) (E:Value->Shared->Prop),Q (.int (g i) s.toks) { s with toks:=s.toks+1 }->wpAny (model X.prog X.w) X.A (f (.int i t)) Q E s) :
  UnR X f (rU fun i=>.int (g i)):=by
 intro pins s σ H x v Q I J h
 obtain ⟨i,rfl,q⟩:=h
 obtain ⟨t,rfl⟩:=J
 exact z i t s _ _ ⟨.int (g i),H,I.tok _,⟨_,rfl⟩,q⟩
theorem ZCH:UnR X (unaryOp .USub) (rU fun i=>.int (-i)):=unI fun _ _ _ _ _ q=>neg_int q
end
noncomputable def scal:V->V->Bool
 | .non,.non=>true | .non,.int _=>true | .int _,.non=>true | .non,.bl _=>true | .bl _,.non=>true | .non,.str _=>true | .str _,.non=>true
 | .int _,.int _=>true | .bl _,.bl _=>true | .str _,.str _=>true | .byt _,.byt _=>true
 | .int _,.str _=>true | .str _,.int _=>true | .bl _,.str _=>true | .str _,.bl _=>true
 | _,_=>false
noncomputable def rEq:R2:=fun x y H Q=>scal x y=true /\ Q (.bl (decide (x=y))) H
noncomputable def rNe:R2:=fun x y H Q=>scal x y=true /\ Q (.bl (!decide (x=y))) H
theorem dec_int {i j:Int}:decide (V.int i=V.int j)=(i == j):=by
 rw [Bool.eq_iff_iff]
 simp
theorem dec_bl {i j:Bool}:decide (V.bl i=V.bl j)=(i == j):=by
 rw [Bool.eq_iff_iff]
 simp
theorem dec_str {i j:Str}:decide (V.str i=V.str j)=(i == j):=by
 rw [Bool.eq_iff_iff]
 simp
theorem dec_byt {i j:Array UInt8}:decide (V.byt i=V.byt j)=(i.toList == j.toList):=by
 rw [Bool.eq_iff_iff]
 cases i
 cases j
 simp
section
variable {X:Cx} {a b c:Expr} {ta tb tc:TE} {pos:Pos}
theorem ZAe {pins:List (Addr×Obj)} {σ:St} {H:Hp} {s:Shared} {Q:VK} {k z:Bool} (I:Inv X pins σ H s) (q:Q (.bl k) H) (e:k=z):EP X pins σ Q (.bool z) s:=by
 subst e
 exact ⟨.bl k,H,I,rfl,q⟩
theorem ZC2:OpR X (compareOp .Eq) rEq:=by
 intro pins s σ H x y v u Q I L z h
 obtain ⟨J,q⟩:=h
 cases x with
 | non=>
  cases L
  cases y with
  | non=>cases z;exact PySem.EqNone.eq_none_none (ZAe I q (by simp))
  | bl j=>cases z;exact PySem.EqNone.eq_none_bool (ZAe I q (by simp))
  | int j=>obtain ⟨t',rfl⟩:=z;exact PySem.EqNone.eq_none_int (ZAe I q (by simp))
  | str j=>obtain ⟨t',rfl⟩:=z;exact PySem.EqNone.eq_none_str (ZAe I q (by simp))
  | _=>exact absurd (show false=true from J) yAE
 | bl i=>
  cases L
  cases y with
  | non=>cases z;exact PySem.EqNone.eq_bool_none (ZAe I q (by simp))
  | bl j=>cases z;exact eq_bool (ZAe I q dec_bl)
  | str j=>obtain ⟨t',rfl⟩:=z;exact PySem.EqMixed.eq_bool_str (ZAe I q (by simp))
  | _=>exact absurd (show false=true from J) yAE
 | int i=>
  obtain ⟨t,rfl⟩:=L
  cases y with
  | non=>cases z;exact PySem.EqNone.eq_int_none (ZAe I q (by simp))
  | int j=>obtain ⟨t',rfl⟩:=z;exact eq_int (ZAe I q dec_int)
  | str j=>obtain ⟨t',rfl⟩:=z;exact PySem.EqMixed.eq_int_str (ZAe I q (by simp))
  | _=>exact absurd (show false=true from J) yAE
 | str i=>
  obtain ⟨t,rfl⟩:=L
  cases y with
  | non=>cases z;exact PySem.EqNone.eq_str_none (ZAe I q (by simp))
  | bl j=>cases z;exact PySem.EqMixed.eq_str_bool (ZAe I q (by simp))
  | int j=>obtain ⟨t',rfl⟩:=z;exact PySem.EqMixed.eq_str_int (ZAe I q (by simp))
  | str j=>obtain ⟨t',rfl⟩:=z;exact eq_str (ZAe I q dec_str)
  | _=>exact absurd (show false=true from J) yAE
 | byt i=>
  obtain ⟨t,rfl⟩:=L
  cases y with
  | byt j=>obtain ⟨t',rfl⟩:=z;exact PySem.W.eq_bytes (ZAe I q dec_byt)
  | _=>exact absurd (show false=true from J) yAE
 | _=>cases y <;> exact absurd (show false=true from J) yAE
theorem ZCa:OpR X (compareOp .NotEq) rNe:=by
 intro pins s σ H x y v u Q I L z h
 obtain ⟨J,q⟩:=h
 cases x with
 | non=>
  cases L
  cases y with
  | non=>cases z;exact PySem.EqNone.ne_none_none (ZAe I q (by simp))
  | bl j=>cases z;exact PySem.EqNone.ne_none_bool (ZAe I q (by simp))
  | int j=>obtain ⟨t',rfl⟩:=z;exact PySem.EqNone.ne_none_int (ZAe I q (by simp))
  | str j=>obtain ⟨t',rfl⟩:=z;exact PySem.EqNone.ne_none_str (ZAe I q (by simp))
  | _=>exact absurd (show false=true from J) yAE
 | bl i=>
  cases L
  cases y with
  | non=>cases z;exact PySem.EqNone.ne_bool_none (ZAe I q (by simp))
  | bl j=>cases z;exact ne_bool (ZAe I q (congrArg not dec_bl))
  | str j=>obtain ⟨t',rfl⟩:=z;exact PySem.EqMixed.ne_bool_str (ZAe I q (by simp))
  | _=>exact absurd (show false=true from J) yAE
 | int i=>
  obtain ⟨t,rfl⟩:=L
  cases y with
  | non=>cases z;exact PySem.EqNone.ne_int_none (ZAe I q (by simp))
  | int j=>obtain ⟨t',rfl⟩:=z;exact ne_int (ZAe I q (congrArg not dec_int))
  | str j=>obtain ⟨t',rfl⟩:=z;exact PySem.EqMixed.ne_int_str (ZAe I q (by simp))
  | _=>exact absurd (show false=true from J) yAE
 | str i=>
  obtain ⟨t,rfl⟩:=L
  cases y with
  | non=>cases z;exact PySem.EqNone.ne_str_none (ZAe I q (by simp))
  | bl j=>cases z;exact PySem.EqMixed.ne_str_bool (ZAe I q (by simp))
  | int j=>obtain ⟨t',rfl⟩:=z;exact PySem.EqMixed.ne_str_int (ZAe I q (by simp))
  | str j=>obtain ⟨t',rfl⟩:=z;exact ne_str (ZAe I q (congrArg not dec_str))
  | _=>exact absurd (show false=true from J) yAE
 | byt i=>
  obtain ⟨t,rfl⟩:=L
  cases y with
  | byt j=>obtain ⟨t',rfl⟩:=z;exact PySem.W.ne_bytes (ZAe I q (congrArg not dec_byt))
  | _=>exact absurd (show false=true from J) yAE
 | _=>cases y <;> exact absurd (show false=true from J) yAE
theorem ZDi:OpR X (compareOp .Lt) (rI0 fun i j=>.bl (decide (i < j))):=opB0 fun _ _ _ _ _ _ _ q=>lt_int q
theorem ZD1:OpR X (compareOp .Gt) (rI0 fun i j=>.bl (decide (j < i))):=opB0 fun _ _ _ _ _ _ _ q=>gt_int q
theorem ZAo (b:Expr) {z:CmpOp} (h:z≠.In:=by decide) (h2:z≠.NotIn:=by decide):behindInMarks z b=false:=by
 have J:(z == CmpOp.In)=false:=by cases z <;> first | rfl | exact absurd rfl h
 have L:(z == CmpOp.NotIn)=false:=by cases z <;> first | rfl | exact absurd rfl h2
 cases b <;> simp [behindInMarks,J,L]
theorem ZBm {z:CmpOp} {r:R2} (Y:OpR X (compareOp z) r) (ha:PE X a ta) (U:PE X b tb) (hm:behindInMarks z b=false):PE X (.Compare a [z] [b] pos) (tOp r ta tb):=by
 intro pins s σ H Q I h
 exact wpAny_Compare1 (binT ha U I h fun v u s2 x y H2 O L J q=>Y pins s2 σ H2 x y v u Q O L J q) hm
noncomputable def ZDt (t:TE):TT:=fun σ H Q=>t σ H fun x H'=>∃ k,x=.bl k /\ Q k H'
theorem ZAh {J:CmpOp} {r:R2} (ho:OpR X (compareOp J) r) (ha:PE X a ta) (Z:PE X b tb) (hm:behindInMarks J b=false):PT X (.Compare a [J] [b] pos) (ZDt (tOp r ta tb)):=by
 intro pins s σ H Q I h
 refine wpAny_isTrue_Compare1 (thn (ha pins s σ H _ I h) fun v s1 ⟨x,H1,I1,r1,q1⟩=>thn (Z pins s1 σ H1 _ I1 q1) fun u s2 ⟨y,H2,Y,L,q2⟩=>
  thn (ho pins s2 σ H2 x y v u _ Y r1 L q2) fun c s3 ⟨z,H3,O,U,k,e,q3⟩=>?_) hm
 subst e
 cases U
 exact wpAny_truthy_bool ⟨H3,O,q3⟩
noncomputable def tChain (r r':R2) (ta tb tc:TE):TE:=fun σ H Q=>ta σ H fun x H1=>tb σ H1 fun y H2=>r x y H2 fun z H3=>∃ k,z=.bl k /\
 (if k=true then tc σ H3 fun w' H4=>r' y w' H4 Q else Q (.bl false) H3)
theorem ZDj:(sizeLine:Nat) < 2 ^ 63:=by rw [sizeLine_eq];decide
theorem ZDs {x:V} {us:List Value} (r:Vals [x] us):∃ u,us=[u] /\ RelV x u:=by
 cases r with
 | cons r1 r2=>cases r2;exact ⟨_,rfl,r1⟩
theorem vals2 {x y:V} {us:List Value} (r:Vals [x,y] us):∃ u w',us=[u,w'] /\ RelV x u /\ RelV y w':=by
 cases r with
 | cons r1 r2=>
  cases r2 with
  | cons r3 r4=>cases r4;exact ⟨_,_,rfl,r1,r3⟩
end
structure ObjM (h:Heap) (x dx C:Addr) (mA:Str->Option Value):Prop where
 obj:h.get? x=some (PySem.W.instObj C dx)
 ns:h.Ns1 dx mA
 ne:dx≠x
theorem lookIn_ns {h:Heap} {dx:Addr} {mA:Str->Option Value} (n:h.Ns1 dx mA):∃ L,h.get? dx=some L /\ ∀ name,PySem.W.lookIn name L=some (mA name):=by
 obtain ⟨o,es,ep,Y,hd,Z,_,hm⟩:=n
 refine ⟨o,Y,fun name=>?_⟩
 have e:=hm name
 unfold nsFind findBy at e
 rw [<- Array.find?_toList] at e
 unfold PySem.W.lookIn
 rw [hd]
 dsimp only
 split
 .rename_i y q
  rw [q] at e
  exact congrArg some e
 .rename_i q
  rw [q] at e
  have a:es.toList.any (·.refKey)=false:=by
   rw [List.any_eq_false]
   intro y U
   obtain ⟨z,t,J⟩:=Z y (Array.mem_toList_iff.mp U)
   simp [DictEntry.refKey,J]
  have O:¬ es.toList.any (·.refKey)=true:=by rw [a];exact yAE
  rw [if_neg O]
  exact congrArg some e
theorem ObjM.look {h:Heap} {x dx C:Addr} {mA:Str->Option Value} (I:ObjM h x dx C mA):∃ z,PySem.W.InstAt h x (PySem.W.instObj C dx) C (some z) /\ ∀ name,PySem.W.lookIn name z=some (mA name) :=
 let ⟨z,ho,hl⟩:=lookIn_ns I.ns
 ⟨z,⟨I.obj,rfl,rfl,ho⟩,hl⟩
section
variable {prog:Program} {w:World} {A:Around} {E:Value->Shared->Prop} {s:Shared} {K:W.Frag} {x dx C f:Addr} {mA:Str->Option Value} {name:Str} {v:Value}
theorem get_map {z:Bool} {Q:Value->Shared->Prop} (X:K.In s.heap) (I:ObjM s.heap x dx C mA) (U:PySem.W.plainGet K C name=true) (hh:PySem.W.hasDictIn K C=true)
  (ha:W.findIn K (.ref C) name=some none) (O:mA name=some v) (L:PySem.W.handedIn v=true) (h:Q v { s with toks:=s.toks+1 }) :
  wpAny (model prog w) A (getAttr (.ref x) name z) Q E s:=by
 obtain ⟨Y,J,hl⟩:=I.look
 exact PySem.W.get_value X J (PySem.W.plainGet_of U).1 (PySem.W.findObj_own hh ha rfl (by rw [hl,O])) L h
theorem get_meth {pl:Sem Bool} {Q:Value×List Value->Shared->Prop} (X:K.In s.heap) (I:ObjM s.heap x dx C mA) (z:PySem.W.plainGet K C name=true)
  (L:W.findIn K (.ref C) name=some (some (.ref f))) (U:PySem.W.isFn K (.ref f)=true) (O:mA name=none) (h:Q (.ref f,[.ref x]) s) :
  wpAny (model prog w) A (getMethod (.ref x) name pl) Q E s:=by
 obtain ⟨Y,J,hl⟩:=I.look
 exact PySem.W.method_fn X J (PySem.W.plainGet_of z).1 (PySem.W.plainGet_of z).2 L (beq_iff_eq.mp U) (by show (PySem.W.lookIn name Y).map (·.isSome)=some false;rw [hl,O];rfl) h
theorem set_map {ns:List Str} {Q:Unit->Shared->Prop} (X:K.In s.heap) (I:ObjM s.heap x dx C mA)
  (hs:W.findIn K (.ref C) "__setattr__"=some (some (.builtin "object.__setattr__"))) (hp:PySem.W.plainOver K C=true) (ht:PySem.W.takerIn K C name=some none) (hh:PySem.W.hasDictIn K C=true)
  (hw:PySem.Within mA ns) (a0:ns.length <= sizeLine)
  (h:∀ h',ObjM h' x dx C (fun y=>if y=name then some v else mA y)->Heap.SameBut dx s.heap h'->Q () { s with heap:=h',toks:=s.toks+2 }) :
  wpAny (model prog w) A (setAttr (.ref x) name v) Q E s:=by
 obtain ⟨od,J,hl⟩:=I.look
 refine PySem.W.set_plain X J hs (PySem.W.osa_open (s:={ s with toks:=s.toks+1 }) (r:=none) X J hp ht fun b=>?_)
 obtain ⟨cd,hc,Y⟩:=PySem.W.any_some hh
 have hx:s.heap.get? x=some ⟨.ref C,some dx,.plain,#[]⟩:=I.obj
 refine wpAny_bind (wpAny_pure (wpAny_bind (wpAny_bind (wpAny_loadPart hx (wpAny_bind (PySem.W.Looks.here (s:={ s with toks:=s.toks+1 }) (PySem.W.looks_clsIn X hc) ?_))))))
 rw [Y]
 refine wpAny_pure (a:=some dx) (wpAny_bind (wpAny_pure (wpAny_bind ?_)))
 refine wpAny_nsSet1 (s:={ s with toks:=s.toks+1 }) I.ns fun h' L z=>?_
 obtain ⟨oD,a1,a2,O,U,Z⟩:=L.count (PySem.Within.cons name v hw)
 refine wpAny_bind (wpAny_lookBehind O (by rw [U];exact pastItsLine_dict (yAD Z (by rw [yAT];omega))) ?_)
 exact wpAny_pure (h _ ⟨(z.2 _ (Ne.symm I.ne)).trans I.obj,L,I.ne⟩ z)
theorem make_map {R:Result->Shared->Prop} {vs:List Value} {z:List (Str×Value)} (X:K.In s.heap) (hm:PySem.W.makesIn K C=true)
  (hi:W.findIn K (.ref C) "__init__"=some (some (.ref f))) (J:PySem.W.typeIn K (.ref f)=some (.type "function"))
  (h:codeAny (model prog w) (A.under (.builtin "type.__call__" ⟨.ref C::vs,z⟩)) (.call (.ref f) ⟨.ref (s.heap.objs.size+1)::vs,z⟩) (PySem.W.InitBack (s.heap.objs.size+1) R)
   { s with heap:=(s.heap.push PySem.W.emptyDict).push (PySem.W.instObj C s.heap.objs.size) }) :
  codeAny (model prog w) A (.call (.ref C) ⟨vs,z⟩) R s:=by
 obtain ⟨hh,g,d,t,os⟩:=s
 exact PySem.W.make_core (PySem.W.makes_of X hm) (PySem.W.looks_findIn X hi) (fun self=>PySem.W.bind_fn X self J) (.inl rfl) h
theorem make_map0 {R:Result->Shared->Prop} (X:K.In s.heap) (hm:PySem.W.makesIn K C=true)
  (hi:W.findIn K (.ref C) "__init__"=some (some (.builtin "object.__init__")))
  (z:∀ self,PySem.W.Looks (model prog w) s.heap (bindSpecial (.builtin "object.__init__") self) (.builtin "object.__init__",[self]))
  (h:codeAny (model prog w) (A.under (.builtin "type.__call__" ⟨[.ref C],[]⟩)) (.call (.builtin "object.__init__") ⟨[.ref (s.heap.objs.size+1)],[]⟩) (PySem.W.InitBack (s.heap.objs.size+1) R)
   { s with heap:=(s.heap.push PySem.W.emptyDict).push (PySem.W.instObj C s.heap.objs.size) }) :
  codeAny (model prog w) A (.call (.ref C) ⟨[],[]⟩) R s:=by
 obtain ⟨hh,g,d,t,os⟩:=s
 exact PySem.W.make_core (PySem.W.makes_of X hm) (PySem.W.looks_findIn X hi) z (.inr ⟨rfl,rfl⟩) h
end
noncomputable def putF (f:Str) (v:V):List (Str×V)->List (Str×V)
 | []=>[(f,v)]
 | (g,x)::r=>if g=f then (g,v)::r else (g,x)::putF f v r
theorem ZAp (f g:Str) (v:V):∀ fs:List (Str×V),(putF f v fs).lookup g=if g=f then some v else fs.lookup g
 | []=>by
  show List.lookup g [(f,v)]=_
  by_cases h:g=f
  .have z:(g == f)=true:=beq_iff_eq.mpr h
   simp only [List.lookup,z,if_pos h]
  .have z:(g == f)=false:=beq_eq_false_iff_ne.mpr h
   simp only [List.lookup,z,if_neg h]
 | (k,x)::r=>by
  have J:=ZAp f g v r
  rw [show putF f v ((k,x)::r)=(if k=f then (k,v)::r else (k,x)::putF f v r) from rfl]
  by_cases hk:k=f
  .rw [if_pos hk]
   by_cases h:g=k
   .have z:(g == k)=true:=beq_iff_eq.mpr h
    simp only [List.lookup,z,if_pos (h.trans hk)]
   .have z:(g == k)=false:=beq_eq_false_iff_ne.mpr h
    simp only [List.lookup,z,if_neg (fun e:g=f=>h (e.trans hk.symm))]
  .rw [if_neg hk]
   by_cases h:g=k
   .have z:(g == k)=true:=beq_iff_eq.mpr h
    simp only [List.lookup,z,if_neg (fun e:g=f=>hk (h.symm.trans e))]
   .have z:(g == k)=false:=beq_eq_false_iff_ne.mpr h
    simp only [List.lookup,z]
    exact J
theorem ZCY (f:Str) (v:V):∀ fs:List (Str×V),f∈(putF f v fs).map (·.1) /\ ∀ g,g∈fs.map (·.1)->g∈(putF f v fs).map (·.1)
 | []=>⟨by simp [putF],fun g h=>by simp at h⟩
 | (k,x)::r=>by
  obtain ⟨z,J⟩:=ZCY f v r
  rw [show putF f v ((k,x)::r)=(if k=f then (k,v)::r else (k,x)::putF f v r) from rfl]
  by_cases hk:k=f
  .rw [if_pos hk]
   subst hk
   exact ⟨by simp,fun g h=>by simpa using h⟩
  .rw [if_neg hk]
   refine ⟨?_,fun g h=>?_⟩
   .rw [yAU]
    exact yAK _ z
   .rw [yAU] at h ⊢
    rcases yAH.mp h with e | e
    .exact yAH.mpr (.inl e)
    .exact yAK _ (J g e)
theorem ZB3 (f:Str) (v:V):∀ fs:List (Str×V),(putF f v fs).length <= fs.length+1
 | []=>by simp [putF]
 | (k,x)::r=>by
  have z:=ZB3 f v r
  rw [show putF f v ((k,x)::r)=(if k=f then (k,v)::r else (k,x)::putF f v r) from rfl]
  by_cases hk:k=f
  .rw [if_pos hk,yAT,yAT];omega
  .rw [if_neg hk,yAT,yAT];omega
theorem RelO.some_of {v:V} {o:Option Value} (r:RelO (some v) o):∃ u,o=some u /\ RelV v u:=by
 cases o with
 | none=>exact (show False from r).elim
 | some u=>exact ⟨u,rfl,r⟩
theorem RelO.none_of {o:Option Value} (r:RelO none o):o=none:=by
 cases o with
 | none=>rfl
 | some u=>exact (show False from r).elim
theorem handed_of {v:V} {u:Value} (r:RelV v u):PySem.W.handedIn u=true:=by
 cases v with
 | non=>cases (show u=Value.none from r);rfl
 | bl b=>cases (show u=Value.bool b from r);rfl
 | int i=>obtain ⟨t,e⟩:=(show ∃ t,u=Value.int i t from r);cases e;rfl
 | str x=>obtain ⟨t,e⟩:=(show ∃ t,u=Value.str x t from r);cases e;rfl
 | byt b=>obtain ⟨t,e⟩:=(show ∃ t,u=Value.bytes b t from r);cases e;rfl
 | flt b=>obtain ⟨t,e⟩:=(show ∃ t,u=Value.float b t from r);cases e;rfl
 | ref a=>cases (show u=Value.ref a from r);rfl
 | ty n=>cases (show u=Value.type n from r);rfl
section
variable {P:Program} {w:World} {H H':Hp} {h h':Heap} {a C dx:Addr} {fs fs':List (Str×V)}
theorem ZCw (J:HOk P w H h) (e:H a=some (.ins C dx fs)):∃ mA,ObjM h a dx C mA /\ (∀ f,RelO (fs.lookup f) (mA f)) /\ PySem.Within mA (fs.map (·.1)) /\ fs.length <= 1000 /\ H dx=some (.own a):=by
 obtain ⟨d,z,ne,ob,mA,n,r,q⟩:=(show ObjOk P w H h a (.ins C dx fs) from J a _ e)
 exact ⟨mA,⟨ob,n,ne⟩,r,q,z,d⟩
end
structure Cls (K:W.Frag) (C:Addr):Prop where
 pg:PySem.W.plainGet K C Str.empty=true
 hd:PySem.W.hasDictIn K C=true
 po:PySem.W.plainOver K C=true
 sa:W.findIn K (.ref C) "__setattr__"=some (some (.builtin "object.__setattr__"))
theorem Cls.get {K:W.Frag} {C:Addr} (c:Cls K C) (f:Str):PySem.W.plainGet K C f=true:=c.pg
noncomputable def NoAttr (K:W.Frag) (C:Addr) (f:Str):Prop:=W.findIn K (.ref C) f=some none
theorem NoAttr.taker {K:W.Frag} {C:Addr} {f:Str} (n:NoAttr K C f):PySem.W.takerIn K C f=some none:=by
 unfold PySem.W.takerIn
 rw [show W.findIn K (.ref C) f=some none from n]
 rfl
structure Meth (K:W.Frag) (C:Addr) (m:Str) (f:Addr):Prop where
 at_:W.findIn K (.ref C) m=some (some (.ref f))
 fn:PySem.W.isFn K (.ref f)=true
 kp:W.keepIn K (.ref f)=true
section
variable {X:Cx} {pins:List (Addr×Obj)} {σ:St} {H:Hp} {s:Shared} {a C dx:Addr} {fs:List (Str×V)} {f:Str} {v:V} {A:Around} {E:Value->Shared->Prop}
theorem getattr_ok {b:Bool} {Q:Value->Shared->Prop} (I:Inv X pins σ H s) (e:H a=some (.ins C dx fs)) (c:Cls X.K C) (n:NoAttr X.K C f) (l:fs.lookup f=some v)
  (h:∀ u s',Inv X pins σ H s'->RelV v u->Q u s'):wpAny (model X.prog X.w) A (getAttr (.ref a) f b) Q E s:=by
 obtain ⟨mA,O,r,_,_,_⟩:=ZCw I.hok e
 obtain ⟨u,J,z⟩:=RelO.some_of (v:=v) (o:=mA f) (by rw [<- l];exact r f)
 exact get_map I.kIn O (c.get f) c.hd n J (handed_of z) (h u _ (I.tok _) z)
theorem ZCG {m:Str} {g:Addr} {pl:Sem Bool} {Q:Value×List Value->Shared->Prop} (I:Inv X pins σ H s) (e:H a=some (.ins C dx fs)) (c:Cls X.K C) (k:Meth X.K C m g) (l:fs.lookup m=none)
  (h:Q (.ref g,[.ref a]) s):wpAny (model X.prog X.w) A (getMethod (.ref a) m pl) Q E s:=by
 obtain ⟨mA,O,r,_,_,_⟩:=ZCw I.hok e
 have hn:mA m=none:=RelO.none_of (by rw [<- l];exact r m)
 exact get_meth I.kIn O (c.get m) k.at_ k.fn hn h
theorem setattr_ok {y:V} {u:Value} {Q:Unit->Shared->Prop} (I:Inv X pins σ H s) (e:H a=some (.ins C dx fs)) (c:Cls X.K C) (n:NoAttr X.K C f) (hl:fs.length < 1000) (U:RelV y u)
  (h:∀ s',Inv X pins σ (upd H a (.ins C dx (putF f y fs))) s'->Q () s'):wpAny (model X.prog X.w) A (setAttr (.ref a) f u) Q E s:=by
 obtain ⟨mA,O,r,wi,_,L⟩:=ZCw I.hok e
 have hz:(fs.map (·.1)).length <= sizeLine:=by rw [yAF,sizeLine_eq];omega
 refine set_map I.kIn O c.sa c.po n.taker c.hd wi hz fun h' J Y=>h _ ?_
 have hd:∃ o,h'.get? dx=some o:=let ⟨o,_,_,e',_⟩:=J.ns;⟨o,e'⟩
 refine I.write (x:=a) (e:=dx) (by rw [e];exact True.intro) (.inr L) (fun b q hb z=>(Y.2 b hb).trans z) hd ?_
 refine ⟨by rw [ZAH O.ne];exact L,?_,O.ne,J.obj,_,J.ns,fun g=>?_,fun g Z=>?_⟩
 .have:=ZB3 f y fs;omega
 .show RelO ((putF f y fs).lookup g) (if g=f then some u else mA g)
  rw [ZAp]
  by_cases q:g=f
  .rw [if_pos q,if_pos q];exact U
  .rw [if_neg q,if_neg q];exact r g
 .by_cases q:g=f
  .rw [q];exact (ZCY f y fs).1
  .refine (ZCY f y fs).2 g (wi g fun z=>Z ?_)
   show (if g=f then some u else mA g)=none
   rw [if_neg q];exact z
theorem Inv.made (I:Inv X pins σ H s):Inv X pins σ (upd (upd H s.heap.objs.size (.own (s.heap.objs.size+1))) (s.heap.objs.size+1) (.ins C s.heap.objs.size []))
  { s with heap:=(s.heap.push PySem.W.emptyDict).push (PySem.W.instObj C s.heap.objs.size) }:=by
 have z:(s.heap.push PySem.W.emptyDict).get? s.heap.objs.size=some PySem.W.emptyDict:=Heap.get?_push_size s.heap rfl
 have L:((s.heap.push PySem.W.emptyDict).push (PySem.W.instObj C s.heap.objs.size)).get? (s.heap.objs.size+1)=some (PySem.W.instObj C s.heap.objs.size):=by
  have:=Heap.get?_push_size (s.heap.push PySem.W.emptyDict) (o:=PySem.W.instObj C s.heap.objs.size) rfl
  rwa [Heap.size_push] at this
 have Y:(s.heap.push PySem.W.emptyDict).Ns s.heap.objs.size (fun _=>none):=⟨PySem.W.emptyDict,#[],_,z,rfl,(fun e O=>absurd O (by simp)),fun _=>rfl⟩
 have J:=I.laid (a:=s.heap.objs.size) (o:=.own (s.heap.objs.size+1)) (h':=s.heap.push PySem.W.emptyDict) (t':=s.toks) (fun b u q=>Heap.get?_push_of_some _ q) (yAA _) ⟨_,z⟩
 refine J.laid (a:=s.heap.objs.size+1) (o:=.ins C s.heap.objs.size []) (t':=s.toks) (fun b u q=>Heap.get?_push_of_some _ q) (Nat.le_of_eq (Heap.size_push _ _)) ?_
 have ne:s.heap.objs.size≠s.heap.objs.size+1:=yAB (yBF _)
 refine ⟨by rw [ZAH ne,ZAE],yAO _,ne,L,fun _=>none,(Heap.Ns1.of_empty Y).at fun o q=>Heap.get?_push_of_some _ q,fun _=>True.intro,fun y U=>absurd rfl U⟩
theorem attr_of {prog:Program} {w:World} {env:Env} {e:Expr} {f:Str} {pos:Pos} {s:Shared} {Q:Value->Shared->Prop} (z:attributeBase e f env (eval e env)=eval e env)
  (h:wpAny (model prog w) A (eval e env) (fun o s₁=>wpAny (model prog w) A (getAttr o f true) Q E s₁) E s):wpAny (model prog w) A (eval (.Attribute e f pos) env) Q E s :=
 Attribute_any_ h (by rw [arm_eval_Attribute,z])
end
noncomputable def tFld (K:W.Frag) (ta:TE) (f:Str):TE:=fun σ H Q=>ta σ H fun x H1=>∃ a C dx fs v,x=.ref a /\ H1 a=some (.ins C dx fs) /\ Cls K C /\ NoAttr K C f /\ fs.lookup f=some v /\ Q v H1
noncomputable def sFld (K:W.Frag) (ta tv:TE) (f:Str):TS:=fun D σ H=>tv σ H fun y H1=>ta σ H1 fun x H2=>∃ a C dx fs,x=.ref a /\ H2 a=some (.ins C dx fs) /\ Cls K C /\ NoAttr K C f /\ fs.length < 1000 /\
 D.nx σ (upd H2 a (.ins C dx (putF f y fs)))
noncomputable def sFldAug (K:W.Frag) (ta tv:TE) (rd:V->V->Hp->VK->Prop) (f:Str):TS:=fun D σ H=>ta σ H fun x H1=>∃ a C dx fs v,x=.ref a /\ H1 a=some (.ins C dx fs) /\ Cls K C /\ NoAttr K C f /\ fs.lookup f=some v /\
 tv σ H1 fun y H2=>rd v y H2 fun z H3=>∃ dx' fs',H3 a=some (.ins C dx' fs') /\ fs'.length < 1000 /\ D.nx σ (upd H3 a (.ins C dx' (putF f z fs')))
section
variable {X:Cx} {o e value:Expr} {f:Str} {pos pos' tpos:Pos} {ta tv:TE}
theorem ZBl (U:PE X e ta) (O:attributeBase e f X.env (eval e X.env)=eval e X.env):PE X (.Attribute e f pos) (tFld X.K ta f):=by
 intro pins s σ H Q I h
 refine attr_of O (thn (U pins s σ H _ I h) fun u s1 Y=>?_)
 obtain ⟨x,H1,Z,z,a,C,dx,fs,v,ex,ea,c,n,l,q⟩:=Y
 subst ex
 obtain rfl:u=Value.ref a:=z
 exact getattr_ok Z ea c n l fun u' s2 L J=>⟨v,H1,L,J,q⟩
theorem ZBw (ha:PE X o ta) (Y:PE X value tv) (J:swapsWith value (some (.Attribute o f pos')) pos.line X.env=pure false):PS X (.Assign [.Attribute o f pos'] value pos) (sFld X.K ta tv f):=by
 intro pins s σ H D I h
 refine plainObj_wpAny_Assign_Attribute (thn (Y pins s σ H _ I h) fun u s1 ⟨y,H1,I1,z,q⟩=>thn (ha pins s1 σ H1 _ I1 q) fun U s2 zz=>?_) J
 obtain ⟨x,H2,Z,O,a,C,dx,fs,ex,ea,c,n,l,q2⟩:=zz
 subst ex
 obtain rfl:U=Value.ref a:=O
 exact setattr_ok Z ea c n l z fun s3 L=>⟨σ,_,L,q2⟩
end
section
variable {X:Cx} {pins:List (Addr×Obj)} {σ:St} {H:Hp} {s:Shared} {A:Around} {E:Value->Shared->Prop} {Q:Value->Shared->Prop} {c:Value} {b:Bool}
inductive TyOf (K:W.Frag) (H:Hp):V->Value->Prop where
 | non:TyOf K H .non (.type "NoneType")
 | bl (x:Bool):TyOf K H (.bl x) (.type "bool")
 | int (i:Int):TyOf K H (.int i) (.type "int")
 | str (x:Str):TyOf K H (.str x) (.type "str")
 | flt (x:UInt64):TyOf K H (.flt x) (.type "float")
 | lst {a:Addr} {xs:List V} (e:H a=some (.lst xs)):TyOf K H (.ref a) (.type "list")
 | frz {a:Addr} {o:Obj} {xs:List V} (e:H a=some (.frz o (.lst xs))):TyOf K H (.ref a) (.type "list")
 | tup {a:Addr} {xs:List V} (e:H a=some (.tup xs)):TyOf K H (.ref a) (.type "tuple")
 | dK {a:Addr} {kvs:List (Key×V)} (e:H a=some (.dK kvs)):TyOf K H (.ref a) (.type "dict")
 | dT {a:Addr} {kvs:List (List Key×V)} (e:H a=some (.dT kvs)):TyOf K H (.ref a) (.type "dict")
 | ins {a C dx:Addr} {fs:List (Str×V)} (e:H a=some (.ins C dx fs)) (cl:Cls K C) (ha:W.findIn K (.ref C) "__class__"=some (some (.builtin "object.__class__")))
   (hn:PySem.W.specialIn K (.builtin "object.__class__") "__get__"=some (some (.builtin "getset_descriptor.__get__"))) (htk:PySem.W.takesIn K (.builtin "object.__class__")=some true)
   (hm:PySem.W.mroIn K C (.type "object")=some true):TyOf K H (.ref a) (.ref C)
theorem isinst_ok {x:V} {u t:Value} (I:Inv X pins σ H s) (L:RelV x u) (ty:TyOf X.K H x t) (e:PySem.W.kitOne X.K t c=some b) (h:∀ tk,Q (.bool b) { s with toks:=tk }) :
  wpAny (model X.prog X.w) A (call (.builtin "isinstance") [u,c]) Q E s:=by
 cases ty with
 | non=>cases (show u=Value.none from L);exact PySem.W.kia_one PySem.W.kitx_none I.kIn True.intro e (fun z=>nomatch z) h
 | bl y=>cases (show u=Value.bool y from L);exact PySem.W.kia_one PySem.W.kitx_bool I.kIn True.intro e (fun z=>nomatch z) h
 | int i=>obtain ⟨t,q⟩:=(show ∃ t,u=Value.int i t from L);cases q;exact PySem.W.kia_one PySem.W.kitx_int I.kIn True.intro e (fun z=>nomatch z) h
 | str y=>obtain ⟨t,q⟩:=(show ∃ t,u=Value.str y t from L);cases q;exact PySem.W.kia_one PySem.W.kitx_str I.kIn True.intro e (fun z=>nomatch z) h
 | flt y=>obtain ⟨t,q⟩:=(show ∃ t,u=Value.float y t from L);cases q;exact PySem.W.kia_one PySem.W.kitx_float I.kIn True.intro e (fun z=>nomatch z) h
 | @lst a xs ea=>
  cases (show u=Value.ref a from L)
  obtain ⟨_,_,n,_,h1⟩:=(show ObjOk X.prog X.w H s.heap a (.lst xs) from I.hok a _ ea)
  exact PySem.W.kia_one PySem.W.kitx_list I.kIn ⟨_,h1,rfl⟩ e (fun z=>nomatch z) h
 | @frz a ob xs ea=>
  cases (show u=Value.ref a from L)
  obtain ⟨_,_,_,n,_,h1⟩:=(show ObjOk X.prog X.w H s.heap a (.frz ob (.lst xs)) from I.hok a _ ea)
  exact PySem.W.kia_one PySem.W.kitx_list I.kIn ⟨_,h1,rfl⟩ e (fun z=>nomatch z) h
 | @tup a xs ea=>
  cases (show u=Value.ref a from L)
  obtain ⟨_,_,_,p⟩:=(show ObjOk X.prog X.w H s.heap a (.tup xs) from I.hok a _ ea)
  obtain ⟨o,h1,h2,_⟩:=p
  exact PySem.W.kia_one PySem.W.kitx_tuple I.kIn ⟨o,h1,h2⟩ e (fun z=>nomatch z) h
 | @dK a kvs ea=>
  cases (show u=Value.ref a from L)
  obtain ⟨_,_,vs,_,p⟩:=(show ObjOk X.prog X.w H s.heap a (.dK kvs) from I.hok a _ ea)
  obtain ⟨o,es,U,h1,h2,_⟩:=p
  exact PySem.W.kia_one PySem.W.kitx_dict I.kIn ⟨o,h1,h2.1⟩ e (fun z=>nomatch z) h
 | @dT a kvs ea=>
  cases (show u=Value.ref a from L)
  obtain ⟨_,_,xs,_,o,es,U,h1,h2,_⟩:=(show ObjOk X.prog X.w H s.heap a (.dT kvs) from I.hok a _ ea)
  exact PySem.W.kia_one PySem.W.kitx_dict I.kIn ⟨o,h1,h2.1⟩ e (fun z=>nomatch z) h
 | @ins a C dx fs ea cl ha hn htk hm=>
  cases (show u=Value.ref a from L)
  obtain ⟨mA,O,_⟩:=ZCw I.hok ea
  obtain ⟨Y,J,_⟩:=O.look
  exact PySem.W.kia_one (PySem.W.kitx_own (cl.get _) cl.hd ha hn htk hm) I.kIn J e (fun z=>nomatch z) h
end
structure Room (k:Nat) (A:Around):Prop where
 hd:A.handled=none
 dp:A.depth+3 * k+5 < recursionLimit
 un:A.units+16 * k+200 < cLine
 gd:A.guards=some []
theorem Room.mono {j k:Nat} {A:Around} (r:Room k A) (h:j <= k):Room j A:=⟨r.hd,by have:=r.dp;omega,by have:=r.un;omega,r.gd⟩
theorem Room.deeper {k:Nat} {A:Around} (r:Room (k+1) A) (env:Env):Room k (A.deeper env) :=
 ⟨r.hd,by have:=r.dp;show A.depth+1+3 * k+5 < _;omega,by have:=r.un;show A.units+3+16 * k+200 < _;omega,r.gd⟩
theorem make_depth {A:Around} {C:Addr} {us:List Value} {z:List (Str×Value)}:(A.under (.builtin "type.__call__" ⟨.ref C::us,z⟩)).depth=A.depth+1:=by
 first | rfl | simp [Around.under,Code.weight,Code.isCreation,Code.isGuard,Code.isCaller,Code.frames,Code.isFrame,guardIds]
theorem make_units {A:Around} {C:Addr} {us:List Value} {z:List (Str×Value)}:(A.under (.builtin "type.__call__" ⟨.ref C::us,z⟩)).units=A.units+1:=by
 first | rfl | simp [Around.under,Code.cUnits,Code.frames,Code.isFrame]
theorem Room.make {k:Nat} {A:Around} (r:Room (k+1) A) (C:Addr) (us:List Value) (z:List (Str×Value)):Room k (A.under (.builtin "type.__call__" ⟨.ref C::us,z⟩)) :=
 ⟨r.hd,by have:=r.dp;rw [make_depth];omega,by have:=r.un;rw [make_units];omega,by have:=r.gd;first | exact this | simp [Around.under,Code.guards,Code.isGuard,guardIds,this]⟩
theorem Room.depth {k:Nat} {A:Around} (r:Room k A):A.depth < recursionLimit:=by have:=r.dp;omega
theorem Room.units {k:Nat} {A:Around} (r:Room k A):A.units+64 < cLine:=by have:=r.un;omega
noncomputable def tNil:TA:=fun _ H Q=>Q [] H
noncomputable def ZBz (ta:TE) (tr:TA):TA:=fun σ H Q=>ta σ H fun x H1=>tr σ H1 fun xs H2=>Q (x::xs) H2
section
variable {X:Cx} {e:Expr} {es:List Expr} {te:TE} {t:TA} {pos:Pos}
theorem ZAB:PA X [] tNil:=fun _ _ _ _ H Q I h=>Calls.spliced_nil ⟨[],H,I,.nil,h⟩
theorem ZAA (ha:PE X e te) (O:PA X es t) (z:starEach (e::es) X.env=(false,eval e X.env)::starEach es X.env:=by rfl):PA X (e::es) (ZBz te t):=by
 intro pos pins s σ H Q I h
 rw [z]
 show wpAny _ _ (spliced ((false,eval e X.env)::backTo pos (starEach es X.env))) _ _ s
 refine Calls.spliced_cons (thn (ha pins s σ H _ I h) fun u s1 zz=>?_)
 obtain ⟨x,H1,I1,U,Y⟩:=zz
 exact thn (O pos pins s1 σ H1 _ I1 Y) fun us s2 ⟨xs,H2,L,J,Z⟩=>⟨x::xs,H2,L,.cons U J,Z⟩
noncomputable def tTup (t:TA):TE:=fun σ H Q=>t σ H fun xs H1=>xs.length <= sizeLine /\ ∀ p,H1 p=none->Q (.ref p) (upd H1 p (.tup xs))
noncomputable def tLst (t:TA):TE:=fun σ H Q=>t σ H fun xs H1=>xs.length <= sizeLine /\ ∀ p,H1 p=none->Q (.ref p) (upd H1 p (.lst xs))
theorem ZAu {x1} (h:PA X es t):PE X (.Tuple es x1 pos) (tTup t):=by
 intro pins s σ H Q I L
 refine wpAny_Tuple_spliced (thn (h pos pins s σ H _ I L) fun us s1 ⟨xs,H1,J,r,z,q⟩=>⟨by rw [<- r.length];exact z,?_⟩)
 have O:H1 s1.heap.objs.size=none:=J.hok.fresh (yAA _)
 refine ⟨.ref s1.heap.objs.size,upd H1 s1.heap.objs.size (.tup xs),J.laid (t':=s1.toks) (fun b u e=>Heap.get?_push_of_some _ e) (yAA _) ?_,rfl,q _ O⟩
 exact ⟨z,us,r,⟨_,Heap.get?_push_size _ rfl,rfl,_,rfl⟩⟩
theorem ZA2 (h:PA X es t):PE X (.List es pos) (tLst t):=by
 intro pins s σ H Q I L
 refine wpAny_List_spliced (thn (h pos pins s σ H _ I L) fun us s1 ⟨xs,H1,J,r,z,q⟩=>⟨by rw [<- r.length];exact z,?_⟩)
 have O:H1 s1.heap.objs.size=none:=J.hok.fresh (yAA _)
 refine ⟨.ref s1.heap.objs.size,upd H1 s1.heap.objs.size (.lst xs),J.laid (t':=s1.toks) (fun b u e=>Heap.get?_push_of_some _ e) (yAA _) ?_,rfl,q _ O⟩
 exact ⟨z,us,0,r,Heap.get?_push_size _ rfl⟩
end
noncomputable abbrev Sp:=List V->Hp->VK->XK->Prop
noncomputable abbrev CXT:=List Env->Hp->Shared->XK->Value->Shared->Prop
structure Env0 (P:Program) (w:World) (K:W.Frag) (mg:Str->Option Value) (base:Heap) (A:Around) (outer:List Env) (s:Shared) (H:Hp):Prop where
 frames:A.frames=some outer
 mod:Mod K mg base
 bs:∀ b o,base.get? b=some o->s.heap.get? b=some o /\ H b=none
 bsz:base.objs.size <= s.heap.objs.size
 funs:s.heap.FunFrames base outer
 frf:∀ b∈frs outer,H b=none
 hok:HOk P w H s.heap
 bare:AllBare s.gens
noncomputable def CE (outer:List Env) (P:Program) (w:World) (H:Hp) (s:Shared) (Q:VK) (u:Value) (s':Shared):Prop :=
 ∃ v H',s'.os=s.os /\ AllBare s'.gens /\ Un (frs outer) [] H H' s.heap s'.heap /\ HOk P w H' s'.heap /\ RelV v u /\ Q v H'
noncomputable def CR (CX:CXT) (outer:List Env) (P:Program) (w:World) (H:Hp) (s:Shared) (Q:VK) (E:XK) (r:Result) (s':Shared):Prop :=
 match r with
 | .ok (.ret u)=>CE outer P w H s Q u s'
 | .ok _=>False
 | .error e=>CX outer H s E e s'
structure FnOk (P:Program) (w:World) (K:W.Frag) (mg:Str->Option Value) (base:Heap) (CX:CXT) (k:Nat) (f:Addr) (fd:FuncData) (ps:List Str) (sp:Sp):Prop where
 len:∀ vs H Q E,sp vs H Q E->vs.length=ps.length
 run:∀ (A:Around) (outer:List Env) (s:Shared) (H:Hp) (args:Args) (us:List Value) (vs:List V) (Q:VK) (E:XK),Room k A->Env0 P w K mg base A outer s H->BindsTo s fd args (ps.zip us)->Vals vs us->sp vs H Q E ->
  codeAny (model P w) A (.call (.ref f) args) (CR CX outer P w H s Q E) s
theorem Env0.make {P:Program} {w:World} {K:W.Frag} {mg:Str->Option Value} {base:Heap} {A:Around} {outer:List Env} {s:Shared} {H:Hp} (e:Env0 P w K mg base A outer s H) (C:Addr) (us:List Value) (z:List (Str×Value)) :
  Env0 P w K mg base (A.under (.builtin "type.__call__" ⟨.ref C::us,z⟩)) outer s H:=⟨by first | exact e.frames | (simpa [Around.under,Code.envs,Code.isFrame,pushEnvs] using e.frames),e.mod,e.bs,e.bsz,e.funs,e.frf,e.hok,e.bare⟩
section
variable {X:Cx} {pins:List (Addr×Obj)} {σ:St} {H:Hp} {s s':Shared}
theorem Inv.env0 (I:Inv X pins σ H s):Env0 X.prog X.w X.K X.mg X.base X.A X.stack s H :=
 ⟨I.ok.frames,I.ok.mod,I.bs,yAD I.ok.bsz I.sz,I.stack,I.stkFree,I.hok,I.bare⟩
theorem Inv.after {Q:VK} {u:Value} (I:Inv X pins σ H s) (h:CE X.stack X.prog X.w H s Q u s'):EP X pins σ Q u s':=by
 obtain ⟨v,H',os,J,un,O,r,q⟩:=h
 obtain ⟨hh,g,d,t,L⟩:=s'
 obtain rfl:L=s.os:=os
 exact ⟨v,H',I.call (h':=hh) (g':=g) (d':=d) (t':=t) (ch:=[]) un O J (fun b z=>absurd z (by simp)),r,q⟩
end
noncomputable def ZDr (sp:Sp) (dvs:List V) (E:XK) (t:TA):TE:=fun σ H Q=>t σ H fun vs H1=>sp (vs++dvs) H1 Q E
noncomputable def ZDS (C:Addr) (m:Str) (sp:Sp) (dvs:List V) (E:XK) (ta:TE) (t:TA):TE:=fun σ H Q=>ta σ H fun x H1=>∃ a dx fs,x=.ref a /\ H1 a=some (.ins C dx fs) /\ fs.lookup m=none /\
 t σ H1 fun vs H2=>sp (x::(vs++dvs)) H2 Q E
noncomputable def ZDq (C:Addr) (sp:Sp) (dvs:List V) (E:XK) (t:TA):TE:=fun σ H Q=>t σ H fun vs H1=>∀ x dx,H1 x=none->H1 dx=none->dx≠x ->
 sp (.ref x::(vs++dvs)) (upd (upd H1 dx (.own x)) x (.ins C dx [])) (fun v H2=>v=.non /\ Q (.ref x) H2) E
noncomputable def Binds (K:W.Frag) (fd:FuncData) (ps:List Str) (ds:List Value):Prop :=
 ∀ (s:Shared) (us:List Value),K.In s.heap->(us++ds).length=ps.length->BindsTo s fd ⟨us,[]⟩ (ps.zip (us++ds))
theorem Binds.all {K:W.Frag} {fd:FuncData} {ps:List Str} (h:∀ us:List Value,us.length=ps.length->bindArgs fd ⟨us,[]⟩=pure (ps.zip us)):Binds K fd ps []:=fun s us _ hl=>by
 rw [List.append_nil] at hl ⊢
 exact .of_eq (h us hl)
noncomputable def ZBW (CX:CXT) (X:Cx) (E:XK):Prop:=∀ (pins:List (Addr×Obj)) (σ:St) (H:Hp) (s:Shared) (e:Value) (s':Shared),Inv X pins σ H s->CX X.stack H s E e s'->X.xe e s'
section
variable {X:Cx} {CX:CXT} {k:Nat} {f C:Addr} {fd:FuncData} {ps:List Str} {sp:Sp} {dvs:List V} {ds:List Value} {E:XK} {x m:Str} {p pos apos:Pos} {e o:Expr} {es:List Expr} {ta:TE} {t:TA}
theorem ZDd {pins:List (Addr×Obj)} {σ:St} {H:Hp} {s:Shared} {Q:VK} {us:List Value} {vs:List V} (F:FnOk X.prog X.w X.K X.mg X.base CX k f fd ps sp) (O:Room k X.A) (L:Binds X.K fd ps ds) (hd:Vals dvs ds) (hx:ZBW CX X E)
  (I:Inv X pins σ H s) (r:Vals vs us) (h:sp (vs++dvs) H Q E):wpAny (model X.prog X.w) X.A (call (.ref f) us) (EP X pins σ Q) X.xe s:=by
 have J:Vals (vs++dvs) (us++ds):=r.append hd
 have hl:(us++ds).length=ps.length:=by rw [<- J.length];exact F.len _ _ _ _ h
 refine wpAny_call (codeAny_mono (F.run X.A X.stack s H ⟨us,[]⟩ (us++ds) (vs++dvs) Q E O I.env0 (L s us I.kIn hl) J h) fun r s' z=>?_)
 cases r with
 | error e=>exact hx pins σ H s e s' I z
 | ok fl=>
  cases fl with
  | ret u=>exact I.after z
  | next=>exact False.elim z
  | brk=>exact False.elim z
  | cont=>exact False.elim z
theorem pe_call (F:FnOk X.prog X.w X.K X.mg X.base CX k f fd ps sp) (Y:Room k X.A) (O:Gl X x) (hm:X.mg x=some (.ref f)) (Z:W.keepIn X.K (.ref f)=true) (U:Binds X.K fd ps ds) (hd:Vals dvs ds) (hx:ZBW CX X E)
  (ha:PA X (e::es) t) (J:(x == ("__debug__":Str))=false:=by decide) (he:starEach (e::es) X.env=(false,eval e X.env)::starEach es X.env:=by rfl) (z:(backTo pos (starEach es X.env)).any (·.1)=false:=by rfl) :
  PE X (.Call (.Name x p) (e::es) [] pos) (ZDr sp dvs E t):=by
 intro pins s σ H Q I h
 refine wpAny_Call_Name_kw (ZBo I O hm ?_ J)
 refine PySem.W.callWith_K (h₀:=X.base) I.ok.mod.kin Z (thn (ha pos pins s σ H _ I h) fun us s1 ⟨vs,H1,L,r,q⟩=>⟨L.kIn,?_⟩) he z
 exact ZDd F Y U hd hx L r q
theorem pe_meth {pl:Sem Bool} (he:PE X o ta) (c:Cls X.K C) (hm:Meth X.K C m f) (F:FnOk X.prog X.w X.K X.mg X.base CX k f fd ps sp) (Z:Room k X.A) (Y:Binds X.K fd ps ds) (hd:Vals dvs ds) (hx:ZBW CX X E) (ha:PA X (e::es) t)
  (J:starEach (e::es) X.env=(false,eval e X.env)::starEach es X.env:=by rfl) (z:(backTo pos (starEach es X.env)).any (·.1)=false:=by rfl)
  (ht:eval (.Call (.Attribute o m apos) (e::es) [] pos) X.env=(do
   let ov <- eval o X.env
   standAt apos.atName
   let (f,first) <- holding [ov] (getMethod ov m pl)
   callWith pos f first (backTo pos (starEach (e::es) X.env)) (backToKw pos (keywordEach [] X.env))):=by rfl) :
  PE X (.Call (.Attribute o m apos) (e::es) [] pos) (ZDS C m sp dvs E ta t):=by
 intro pins s σ H Q I h
 refine PySem.W.methodCall_KW (pl:=pl) (thn (he pins s σ H _ I h) fun u s1 zz=>?_) ht
 obtain ⟨x,H1,O,U,a,dx,fs,ex,ea,l,q⟩:=zz
 subst ex
 obtain rfl:u=Value.ref a:=U
 refine ZCG O ea c hm l ?_
 refine PySem.W.callWith_K (first:=[.ref a]) (h₀:=X.base) I.ok.mod.kin hm.kp (thn (ha pos pins s1 σ H1 _ O q) fun us s2 ⟨vs,H2,L,r,q2⟩=>⟨L.kIn,?_⟩) J z
 exact ZDd (us:=.ref a::us) (vs:=.ref a::vs) F Z Y hd hx L (.cons rfl r) q2
theorem pe_meth0 {pl:Sem Bool} (Y:PE X o ta) (c:Cls X.K C) (hm:Meth X.K C m f) (F:FnOk X.prog X.w X.K X.mg X.base CX k f fd ps sp) (O:Room k X.A) (L:Binds X.K fd ps ds) (hd:Vals dvs ds) (hx:ZBW CX X E)
  (U:eval (.Call (.Attribute o m apos) [] [] pos) X.env=(do
   let ov <- eval o X.env
   standAt apos.atName
   let (f,first) <- holding [ov] (getMethod ov m pl)
   callWith pos f first (backTo pos (starEach [] X.env)) (backToKw pos (keywordEach [] X.env))):=by rfl) :
  PE X (.Call (.Attribute o m apos) [] [] pos) (ZDS C m sp dvs E ta tNil):=by
 intro pins s σ H Q I h
 refine PySem.W.methodCall_KW (pl:=pl) (thn (Y pins s σ H _ I h) fun u s1 Z=>?_) U
 obtain ⟨x,H1,z,J,a,dx,fs,ex,ea,l,q⟩:=Z
 subst ex
 obtain rfl:u=Value.ref a:=J
 refine ZCG z ea c hm l ?_
 exact PySem.W.callWith_K0 (first:=[.ref a]) z.kIn hm.kp (ZDd (us:=[.ref a]) (vs:=[.ref a]) F O L hd hx z (.cons rfl .nil) q)
structure Mk (K:W.Frag) (C f:Addr):Prop where
 makes:PySem.W.makesIn K C=true
 init:W.findIn K (.ref C) "__init__"=some (some (.ref f))
 fn:PySem.W.isFn K (.ref f)=true
 kp:W.keepIn K (.ref C)=true
theorem run_make {pins:List (Addr×Obj)} {σ:St} {H:Hp} {s:Shared} {Q:VK} {us:List Value} {vs:List V} (M:Mk X.K C f) (F:FnOk X.prog X.w X.K X.mg X.base CX k f fd ps sp) (hr:Room (k+1) X.A) (Z:Binds X.K fd ps ds) (hd:Vals dvs ds)
  (hx:ZBW CX X E) (I:Inv X pins σ H s) (r:Vals vs us)
  (h:∀ x dx,H x=none->H dx=none->dx≠x->sp (.ref x::(vs++dvs)) (upd (upd H dx (.own x)) x (.ins C dx [])) (fun v H2=>v=.non /\ Q (.ref x) H2) E) :
  wpAny (model X.prog X.w) X.A (call (.ref C) us) (EP X pins σ Q) X.xe s:=by
 have O:=h (s.heap.objs.size+1) s.heap.objs.size (I.hok.fresh (yAR _)) (I.hok.fresh (yAA _)) (yAB (yBF _))
 have J:=Inv.made (C:=C) I
 have L:Vals (V.ref (s.heap.objs.size+1)::(vs++dvs)) (Value.ref (s.heap.objs.size+1)::(us++ds)):=.cons rfl (r.append hd)
 have hl:(Value.ref (s.heap.objs.size+1)::us++ds).length=ps.length:=by
  have e:=L.length
  rw [F.len _ _ _ _ O] at e
  exact e.symm
 refine wpAny_call (make_map (f:=f) I.kIn M.makes M.init (beq_iff_eq.mp M.fn) (codeAny_mono (F.run _ X.stack _ _ ⟨Value.ref (s.heap.objs.size+1)::us,[]⟩ (Value.ref (s.heap.objs.size+1)::(us++ds)) _ _ E (hr.make C us [])
  (J.env0.make C us []) (Z _ (Value.ref (s.heap.objs.size+1)::us) J.kIn hl) L O) fun r s' z=>?_))
 cases r with
 | error e=>exact hx pins σ _ _ e s' J z
 | ok fl=>
  cases fl with
  | ret u=>
   obtain ⟨v,H',U,Y,ev,q3⟩:=J.after z
   subst ev
   exact ⟨Y,⟨V.ref (s.heap.objs.size+1),H',U,rfl,q3⟩⟩
  | next=>exact False.elim z
  | brk=>exact False.elim z
  | cont=>exact False.elim z
theorem pe_make (M:Mk X.K C f) (F:FnOk X.prog X.w X.K X.mg X.base CX k f fd ps sp) (Y:Room (k+1) X.A) (O:Gl X x) (hm:X.mg x=some (.ref C)) (U:Binds X.K fd ps ds) (hd:Vals dvs ds) (hx:ZBW CX X E)
  (ha:PA X (e::es) t) (J:(x == ("__debug__":Str))=false:=by decide) (Z:starEach (e::es) X.env=(false,eval e X.env)::starEach es X.env:=by rfl) (z:(backTo pos (starEach es X.env)).any (·.1)=false:=by rfl) :
  PE X (.Call (.Name x p) (e::es) [] pos) (ZDq C sp dvs E t):=by
 intro pins s σ H Q I h
 refine wpAny_Call_Name_kw (ZBo I O hm ?_ J)
 refine PySem.W.callWith_K (h₀:=X.base) I.ok.mod.kin M.kp (thn (ha pos pins s σ H _ I h) fun us s1 ⟨vs,H1,L,r,q⟩=>⟨L.kIn,?_⟩) Z z
 exact run_make M F Y U hd hx L r q
end
noncomputable def PK (X:Cx) (kws:List Keyword) (t:TA):Prop :=
 ∀ (pos:Pos) (pins:List (Addr×Obj)) (s:Shared) (σ:St) (H:Hp) (Q:List V->Hp->Prop),Inv X pins σ H s->t σ H Q->wpAny (model X.prog X.w) X.A (evalAll ((backToKw pos (keywordEach kws X.env)).map (·.2))) (AP X pins σ Q) X.xe s
section
variable {X:Cx} {CX:CXT} {k:Nat} {f C:Addr} {fd:FuncData} {ps ks:List Str} {sp:Sp} {E:XK} {x m:Str} {p pos apos kpos:Pos} {e o:Expr} {es:List Expr} {kws:List Keyword} {te ta:TE} {t tk:TA} {nm:Option Str}
theorem pk_nil:PK X [] tNil:=fun _ _ _ _ H Q I h=>wpAny_evalAll_nil ⟨[],H,I,.nil,h⟩
theorem pk_cons (ha:PE X e te) (L:PK X kws t):PK X (⟨nm,e,kpos⟩::kws) (ZBz te t):=by
 intro pos pins s σ H Q I h
 show wpAny _ _ (evalAll ((do let v <- eval e X.env;standAt pos;pure v)::(backToKw pos (keywordEach kws X.env)).map (·.2))) _ _ s
 refine wpAny_evalAll_cons (wpAny_bind (thn (ha pins s σ H _ I h) fun u s1 ⟨x,H1,Z,O,U⟩=>wpAny_bind (wpAny_standAt (wpAny_pure ?_))))
 exact thn (L pos pins s1 σ H1 _ Z U) fun us s2 ⟨xs,H2,J,z,Y⟩=>⟨x::xs,H2,J,.cons O z,Y⟩
variable {g:List Value->List Value->List Value} {gV:List V->List V->List V}
end
structure FnScope (N P:List Str) (sc:Scope):Prop where
 kind:sc.kind=.function
 co:sc.isCoroutine=false
 gen:sc.isGenerator=false
 nd:N.Nodup
 pre:N.take P.length=P
 par:∀ x∈P,sc.names.lookup x=some .local∨sc.names.lookup x=some .cell
 nofree:∀ y∈sc.names,y.2≠.free
theorem bindL_out {z:Str->Option NameKind} {x:Str}:∀ {binds:List (Str×Value)} {m:Str->Option Value},(∀ v,(x,v)∉binds)->bindL z binds m x=m x
 | [],_,_=>rfl
 | (n,v)::r,m,h=>by
  unfold bindL
  rw [bindL_out fun w hw=>h w (yAK _ hw)]
  split
  .have:x≠n:=by rintro rfl;exact h v yAL
   simp [this]
  .rfl
theorem bindC_out {z:Str->Option NameKind} {x:Str}:∀ {binds:List (Str×Value)} {m:Str->Option Value},(∀ v,(x,v)∉binds)->bindC z binds m x=m x
 | [],_,_=>rfl
 | (n,v)::r,m,h=>by
  unfold bindC
  rw [bindC_out fun w hw=>h w (yAK _ hw)]
  split
  .rfl
  .have:x≠n:=by rintro rfl;exact h v yAL
   simp [this]
theorem bindL_get {z:Str->Option NameKind} {x:Str} {v:Value}:∀ {P:List Str} {vs:List Value} {i:Nat} {m:Str->Option Value},P.Nodup->P[i]?=some x->vs[i]?=some v->z x=some .local ->
  bindL z (P.zip vs) m x=some v
 | [],_,_,_,_,h,_,_=>by simp at h
 | _::_,[],_,_,_,_,h,_=>by simp at h
 | p::P,w::vs,0,m,nd,h1,h2,hk=>by
  simp at h1 h2;subst h1;subst h2
  show bindL z ((p,w)::P.zip vs) m p=_
  unfold bindL
  rw [bindL_out fun v J=>(List.nodup_cons.mp nd).1 (List.of_mem_zip J).1,if_pos hk]
  simp
 | p::P,w::vs,i+1,m,nd,h1,h2,hk=>by
  show bindL z ((p,w)::P.zip vs) m x=_
  unfold bindL
  exact bindL_get (i:=i) (List.nodup_cons.mp nd).2 (by simpa using h1) (by simpa using h2) hk
theorem bindC_get {z:Str->Option NameKind} {x:Str} {v:Value}:∀ {P:List Str} {vs:List Value} {i:Nat} {m:Str->Option Value},P.Nodup->P[i]?=some x->vs[i]?=some v->z x≠some .local ->
  bindC z (P.zip vs) m x=some v
 | [],_,_,_,_,h,_,_=>by simp at h
 | _::_,[],_,_,_,_,h,_=>by simp at h
 | p::P,w::vs,0,m,nd,h1,h2,hk=>by
  simp at h1 h2;subst h1;subst h2
  show bindC z ((p,w)::P.zip vs) m p=_
  unfold bindC
  rw [bindC_out fun v J=>(List.nodup_cons.mp nd).1 (List.of_mem_zip J).1,if_neg hk]
  simp
 | p::P,w::vs,i+1,m,nd,h1,h2,hk=>by
  show bindC z ((p,w)::P.zip vs) m x=_
  unfold bindC
  exact bindC_get (i:=i) (List.nodup_cons.mp nd).2 (by simpa using h1) (by simpa using h2) hk
noncomputable def start (N:List Str) (vs:List V):St:=vs.map some++List.replicate (N.length-vs.length) none
noncomputable def cxOf (CX:CXT) (P:Program) (w:World) (K:W.Frag) (mg:Str->Option Value) (base:Heap) (N:List Str) (qual:Str) (scope:Scope) (f:Addr) (cd:Value) (A:Around) (outer:List Env) (s:Shared) (H:Hp) (E:XK):Cx where
 prog:=P
 w:=w
 K:=K
 mg:=mg
 base:=base
 A:=A.deeper (envOfC qual scope s.heap.objs.size f cd)
 N:=N
 s₀:=s
 H₀:=H
 env:=envOfC qual scope s.heap.objs.size f cd
 outer:=outer
 stack:=envOfC qual scope s.heap.objs.size f cd::outer
 ex:=[]
 calm:=true
 fn:=fun _=>true
 pn:=[]
 xe:=fun e s'=>wpAny (model P w) (A.deeper (envOfC qual scope s.heap.objs.size f cd)) (leaving (envOfC qual scope s.heap.objs.size f cd) e) (fun _ s''=>CX outer H s E e s'') (fun e' s''=>CX outer H s E e' s'') s'
theorem ZCM {sc:Scope} {n:Nat} {x:Str} (h:sc.names.lookup x=some .cell):∃ c,(cellsFrom n sc.names []).lookup x=some c:=by
 have q:=PySem.W.cellsFrom_some sc.names n [] (.inl h)
 exact Option.isSome_iff_exists.mp q
theorem inv_start {CX:CXT} {P:Program} {w:World} {K:W.Frag} {mg:Str->Option Value} {base:Heap} {N ps:List Str} {qual:Str} {scope:Scope} {f:Addr} {cd:Value} {A:Around} {outer:List Env} {s s1:Shared} {H:Hp} {E:XK} {us:List Value} {vs:List V}
  (S:FnScope N ps scope) (hd:A.handled=none) (J:Env0 P w K mg base A outer s H) (hl:vs.length=ps.length) (r:Vals vs us)
  (x:InCallC s s.heap.objs.size (bindL (envOfC qual scope s.heap.objs.size f cd).kindOf (ps.zip us) fun _=>none) (cellsFrom (s.heap.objs.size+1) scope.names []) (bindC (envOfC qual scope s.heap.objs.size f cd).kindOf (ps.zip us) fun _=>none) s1) :
  Inv (cxOf CX P w K mg base N qual scope f cd A outer s H E) [] (start N vs) H s1:=by
 have a0:ps.length <= N.length:=by have:=congrArg List.length S.pre;rw [List.length_take] at this;omega
 obtain ⟨h1,tk,rfl,hk⟩:=x.done
 have L:∀ b:Addr,b∉(cxOf CX P w K mg base N qual scope f cd A outer s H E).ex:=fun b z=>absurd (show b∈([]:List Addr) from z) (by simp)
 refine ⟨⟨J.mod,S.kind,rfl,rfl,yAA _,fun y z c h1 h2=>?_,fun y O=>?_,fun y c _ h=>?_,fun _=>hd,Around.frames_deeper J.frames,.inr ⟨rfl,rfl⟩,fun b z=>absurd z (L b),J.bs,J.bsz,fun b _ _=>L b,fun b z=>absurd z (L b),J.funs,J.frf⟩,
  rfl,J.bare,Un.kept hk,⟨_,x.toInCall.ns,fun i y v h1 h2 h3=>?_⟩,fun y c h=>⟨_,x.cell y c h⟩,J.hok.fresh (yAA _),fun y c h=>?_,fun p Y=>absurd (show p∈([]:List (Addr×Obj)) from Y) (by simp),J.hok.kept hk,?_⟩
 .exact name_of_addr x.apart (PySem.mem_of_lookup h1) (PySem.mem_of_lookup h2)
 .have O:scope.names.lookup y=some .cell∨scope.names.lookup y=some .free:=O
  rcases O with O | O
  .exact ZCM O
  .exact absurd rfl (S.nofree _ (PySem.mem_of_lookup O))
 .exact Nat.le_of_lt (x.above y c (PySem.mem_of_lookup h))
 .have hi:i < vs.length:=by
   unfold start at h2
   by_cases hi:i < vs.length
   .exact hi
   .rw [yAX (by simpa using hi)] at h2
    rw [yBI] at h2
    split at h2 <;> cases h2
  have ha:vs[i]?=some v:=by
   unfold start at h2
   rw [yAY (by simpa using hi),yAS] at h2
   cases e:vs[i]? with
   | none=>rw [e] at h2;cases h2
   | some a=>rw [e] at h2;cases h2;rfl
  obtain ⟨u,Z,rv⟩:=r.get ha
  have Y:ps[i]?=some y:=by
   rw [<- S.pre,List.getElem?_take_of_lt (by omega)];exact h1
  have U:ps.Nodup:=by rw [<- S.pre];exact S.nd.sublist (List.take_sublist _ _)
  refine ⟨u,rv,?_⟩
  rcases S.par y (yAQ Y) with k | k
  .exact .inl ⟨k,bindL_get U Y Z k⟩
  .obtain ⟨c,e⟩:=ZCM (n:=s.heap.objs.size+1) k
   refine .inr ⟨.inl k,c,e,?_⟩
   have q:=x.cell y c e
   rw [bindC_get U Y Z (by show scope.names.lookup y≠_;rw [k];decide)] at q
   exact q
 .exact J.hok.fresh (Nat.le_of_lt (x.above y c (PySem.mem_of_lookup h)))
 .unfold start
  show _=N.length
  rw [yAI,yAF,yAG]
  omega
theorem ZD5 {CX:CXT} {P:Program} {w:World} {K:W.Frag} {mg:Str->Option Value} {base:Heap} {k:Nat} {f:Addr} {name qual:Str} {L:Arguments} {body:List Stmt} {scope:Scope} {dV kV a2 pm z ct oc:Value} {an od:Option Addr}
  {a4:Array (Option Value)} {N ps:List Str} {sp:Sp} (lk:K.lookup f=some ⟨oc,od,.func (W.fnOf name qual L body scope dV kV a2 pm an z ct),a4⟩) (a6:W.codeIn K z qual=true) (S:FnScope N ps scope)
  (a3:∀ vs H Q E,sp vs H Q E->vs.length=ps.length)
  (Y:∀ (A:Around) (outer:List Env) (s:Shared) (H:Hp) (vs:List V) (Q:VK) (E:XK),Room k (A.deeper (envOfC qual scope s.heap.objs.size f z))->sp vs H Q E ->
   ∃ t,PSs (cxOf CX P w K mg base N qual scope f z A outer s H E) body t /\ t { nx:=fun _ H'=>Q .non H',rt:=Q } (start N vs) H) :
  FnOk P w K mg base CX (k+1) f (W.fnOf name qual L body scope dV kV a2 pm an z ct) ps sp:=by
 refine ⟨a3,fun A outer s H args us vs Q E hr e0 hb r a0=>?_⟩
 have hl:=a3 _ _ _ _ a0
 have KX:K.In s.heap:=e0.mod.kin.keeps fun b o e=>(e0.bs b o e).1
 have a5:s.heap.NoLimit:=e0.mod.nolimit.keeps fun b o e=>(e0.bs b o e).1
 have U:∀ y∈ps.zip us,scope.names.lookup y.1=some .local∨(scope.names.lookup y.1=some .cell /\ ((cellsFrom (s.heap.objs.size+1) scope.names []).lookup y.1).isSome=true):=fun ⟨n,v⟩ hy=>by
  rcases S.par n (List.of_mem_zip hy).1 with q | q
  .exact .inl q
  .exact .inr ⟨q,PySem.W.cellsFrom_some _ _ _ (.inl q)⟩
 refine codeAny_call_function hr.depth (KX _ _ lk) rfl S.co S.gen rfl (PySem.W.codeRec_of KX a6) (hb _ _ _ _ ?_)
 refine wpAny_newFunctionEnv_cells S.kind U fun env he s1 x=>?_
 subst he
 refine ⟨a5.keeps x.toInCall.keep,codeAny_func ?_⟩
 obtain ⟨t,ht,hq⟩:=Y A outer s H vs Q E (hr.deeper _) a0
 have I:Inv (cxOf CX P w K mg base N qual scope f z A outer s H E) [] (start N vs) H s1:=inv_start S hr.hd e0 hl r x
 refine wpAny_mono (ht [] s1 (start N vs) H _ I hq) (fun fl s' Z=>?_) fun e s' Z=>Z
 have a1:∀ {O:St} {H':Hp} {v:V} {u:Value},Inv (cxOf CX P w K mg base N qual scope f z A outer s H E) [] O H' s'->RelV v u->Q v H'->CE outer P w H s Q u s' :=
  fun {O H' v u} J rv q=>⟨v,H',J.os,J.bare,J.base,J.hok,rv,q⟩
 cases fl with
 | ret u=>
  obtain ⟨v,O,H',J,rv,q⟩:=Z
  exact a1 J rv q
 | next=>
  obtain ⟨O,H',J,q⟩:=Z
  exact a1 (v:=V.non) (u:=Value.none) J rfl q
 | brk=>
  obtain ⟨_,_,_,q⟩:=Z
  exact False.elim q
 | cont=>
  obtain ⟨_,_,_,q⟩:=Z
  exact False.elim q
section
variable {X:Cx} {x:Str} {p pos:Pos} {e:Expr} {es:List Expr} {t:TA} {id T:String} {r:List V->Hp->VK->Prop}
noncomputable def tCB (r:List V->Hp->VK->Prop) (t:TA):TE:=fun σ H Q=>t σ H fun vs H1=>r vs H1 Q
theorem ZAO (hc:ZC7 X (.builtin id) r) (L:Gl X x) (hm:X.mg x=none) (O:bootBuiltins x=some (.builtin id)) (ha:PA X (e::es) t) (hn:x≠"__name__":=by decide) (J:(x == ("__debug__":Str))=false:=by decide)
  (Z:starEach (e::es) X.env=(false,eval e X.env)::starEach es X.env:=by rfl) (z:(backTo pos (starEach es X.env)).any (·.1)=false:=by rfl):PE X (.Call (.Name x p) (e::es) [] pos) (tCB r t):=by
 intro pins s σ H Q I h
 refine wpAny_Call_Name_kw (ZC3 I L hm O ?_ hn J)
 exact PyProof.Rows.callWith_builtin1 (thn (ha pos pins s σ H _ I h) fun us s1 ⟨vs,H1,I1,U,Y⟩=>hc pins s1 σ H1 vs us Q I1 U Y) Z z
theorem ZBn (hc:ZC7 X (.type T) r) (L:Gl X x) (hm:X.mg x=none) (O:bootBuiltins x=some (.type T)) (ha:PA X (e::es) t) (hn:x≠"__name__":=by decide) (J:(x == ("__debug__":Str))=false:=by decide)
  (Z:starEach (e::es) X.env=(false,eval e X.env)::starEach es X.env:=by rfl) (z:(backTo pos (starEach es X.env)).any (·.1)=false:=by rfl):PE X (.Call (.Name x p) (e::es) [] pos) (tCB r t):=by
 intro pins s σ H Q I h
 refine wpAny_Call_Name_kw (ZC3 I L hm O ?_ hn J)
 exact PyProof.Rows.callWith_type1 (thn (ha pos pins s σ H _ I h) fun us s1 ⟨vs,H1,I1,U,Y⟩=>hc pins s1 σ H1 vs us Q I1 U Y) Z z
end
end L2
namespace HT
open PySem PyProof.Rows
section
open PySem.SeqAt
open PySem.AutoSeq1 (wpAny_loadPart')
open PySem.MeetsSeq PySem.MeetsSeq2 PySem.MeetsSeq3
end
section
variable {prog:Program} {w:World} {A:Around} {E:Value->Shared->Prop} {s:Shared}
noncomputable def sIx (n d:Nat):Option Int->Nat
 | none=>d
 | some v=>if v < 0 then (v+(n:Int)).toNat else min v.toNat n
theorem sIx_none (n d:Nat):sIx n d none=d:=rfl
theorem sIx_nat (n d k:Nat):sIx n d (some (k:Int))=min k n:=by
 show (if (k:Int) < 0 then ((k:Int)+(n:Int)).toNat else min (k:Int).toNat n)=min k n
 rw [if_neg (by omega),Int.toNat_natCast]
end
end HT
namespace L2
open PySem PySem.Spec PyProof.Rows
noncomputable abbrev TO:=St->Hp->(Option Int->Hp->Prop)->Prop
noncomputable def PO (X:Cx) (e:Option Expr) (t:TO):Prop :=
 ∀ (pins:List (Addr×Obj)) (s:Shared) (σ:St) (H:Hp) (Q:Option Int->Hp->Prop),Inv X pins σ H s->t σ H Q ->
  wpAny (model X.prog X.w) X.A (evalPart e X.env) (fun u s'=>∃ o H',Inv X pins σ H' s' /\ IsPart u o /\ Q o H') X.xe s
noncomputable def ZC8:TO:=fun _ H Q=>Q none H
noncomputable def ZDu (t:TE):TO:=fun σ H Q=>t σ H fun x H1=>∃ i,x=.int i /\ Q (some i) H1
theorem intsAre_of {ns:List Int}:∀ {us:List Value},Vals (ns.map V.int) us->IntsAre us ns:=by
 induction ns with
 | nil=>intro us r;rw [List.map_nil] at r;cases r;exact .nil
 | cons n ns ih=>
  intro us r
  rw [yAU] at r
  cases r with
  | cons r1 r2=>
   obtain ⟨t,e⟩:=r1
   subst e
   exact .cons n t (ih r2)
section
variable {X:Cx} {e:Expr} {te:TE} {lo hi:Option Expr} {tl th:TO} {pos p2:Pos}
theorem ZDD:PO X none ZC8:=by
 intro pins s σ H Q I h
 rw [evalPart_none]
 exact wpAny_pure ⟨none,H,I,.none,h⟩
theorem ZDC (h:PE X e te):PO X (some e) (ZDu te):=by
 intro pins s σ H Q I hw
 rw [evalPart_some]
 refine thn (h pins s σ H _ I hw) fun u s1 L=>?_
 obtain ⟨x,H1,O,z,J⟩:=L
 obtain ⟨i,rfl,q⟩:=J
 obtain ⟨t,rfl⟩:=z
 exact ⟨some i,H1,O,.int i t,q⟩
noncomputable def SlR (X:Cx) (r:V->Option Int->Option Int->Hp->VK->Prop):Prop :=
 ∀ (pins:List (Addr×Obj)) (s:Shared) (σ:St) (H:Hp) (x:V) (v vl vu:Value) (lo hi:Option Int) (sl:Addr) (Q:VK),Inv X pins σ H s->RelV x v->s.heap.IsSliceOf sl vl vu .none->IsPart vl lo->IsPart vu hi->r x lo hi H Q ->
  ∃ T id,typeLookup (.type T) "__getitem__"=pure (some (.builtin id)) /\ s.TypeIs v T /\ wpAny (model X.prog X.w) X.A (getItem v (.ref sl)) (EP X pins σ Q) X.xe s
noncomputable def tSl (r:V->Option Int->Option Int->Hp->VK->Prop) (te:TE) (tl th:TO):TE:=fun σ H Q=>te σ H fun x H1=>tl σ H1 fun l H2=>th σ H2 fun u H3=>r x l u H3 Q
theorem ZCr {r:V->Option Int->Option Int->Hp->VK->Prop} (hr:SlR X r) (he:PE X e te) (hl:PO X lo tl) (hu:PO X hi th):PE X (.Subscript e (.Slice lo hi none p2) pos) (tSl r te tl th):=by
 intro pins s σ H Q I h
 refine Subscript_ (thn (he pins s σ H _ I h) fun v s1 O=>?_)
 obtain ⟨x,H1,I1,r1,q1⟩:=O
 refine wpAny_Slice (thn (hl pins s1 σ H1 _ I1 q1) fun J s2 ⟨l,H2,I2,pl,q2⟩=>thn (hu pins s2 σ H2 _ I2 q2) fun L z O=>?_)
 obtain ⟨u,U,I3,Y,q3⟩:=O
 rw [evalPart_none]
 refine wpAny_pure ?_
 have I4:Inv X pins σ U { z with heap:=z.heap.push { cls:=.type "slice",data:=.fields #[J,L,.none] } }:=I3.kept (t':=z.toks) fun b ob q=>Heap.get?_push_of_some _ q
 obtain ⟨T,id,hT,ht,Z⟩:=hr pins { z with heap:=z.heap.push { cls:=.type "slice",data:=.fields #[J,L,.none] } } σ U x v J L l u z.heap.objs.size Q I4 r1 (Heap.IsSliceOf.new ..) pl Y q3
 show wpAny (model X.prog X.w) X.A (subscriptTail e (.Slice lo hi none p2) v (.ref z.heap.objs.size)) (EP X pins σ Q) X.xe { z with heap:=z.heap.push { cls:=.type "slice",data:=.fields #[J,L,.none] } }
 exact tail_any (ops:=[.ref z.heap.objs.size,v]) ht hT Z (by with_unfolding_all rfl)
noncomputable def cutV (xs:List V) (lo hi:Option Int):List V:=(xs.drop (HT.sIx xs.length 0 lo)).take (HT.sIx xs.length xs.length hi-HT.sIx xs.length 0 lo)
theorem cutV_length (xs:List V) (lo hi:Option Int):(cutV xs lo hi).length <= xs.length:=by
 unfold cutV
 rw [List.length_take,List.length_drop]
 omega
end
noncomputable def ixN (n:Nat) (i:Int):Option Nat:=if 0 <= i then (if i < n then some i.toNat else none) else if -(n:Int) <= i then some (i+n).toNat else none
noncomputable def atI {α:Type} (xs:List α) (i:Int):Option α:=(ixN xs.length i).bind fun j=>xs[j]?
theorem ixN_seq {n:Nat} {i:Int} {j:Nat} (h:ixN n i=some j):seqIndex? i n=some j /\ j < n /\ -(n:Int) <= i /\ i < n:=by
 unfold ixN at h
 by_cases h0:0 <= i
 .rw [if_pos h0] at h
  by_cases h1:i < n
  .rw [if_pos h1] at h
   have e:i.toNat=j:=Option.some.inj h
   exact ⟨by rw [seqIndex_of h0 h1,e],by omega,by omega,h1⟩
  .rw [if_neg h1] at h;cases h
 .rw [if_neg h0] at h
  by_cases h1:-(n:Int) <= i
  .rw [if_pos h1] at h
   have e:(i+n).toNat=j:=Option.some.inj h
   exact ⟨by rw [seqIndex_neg (by omega) h1,e],by omega,h1,by omega⟩
  .rw [if_neg h1] at h;cases h
theorem atI_get {α:Type} {xs:List α} {i:Int} {v:α} (h:atI xs i=some v):∃ j,seqIndex? i xs.length=some j /\ xs[j]?=some v /\ j < xs.length /\ -(xs.length:Int) <= i /\ i < xs.length:=by
 unfold atI at h
 cases e:ixN xs.length i with
 | none=>rw [e] at h;cases h
 | some j=>
  rw [e] at h
  obtain ⟨h1,h2,h3,z⟩:=ixN_seq e
  exact ⟨j,h1,h,h2,h3,z⟩
theorem atI_nat {α:Type} {xs:List α} {j:Nat} {v:α} (h:xs[j]?=some v):atI xs (j:Int)=some v:=by
 have z:j < xs.length:=(yAP.mp h).1
 have e:ixN xs.length (j:Int)=some j:=by
  unfold ixN
  rw [if_pos (by omega),if_pos (by omega)];simp
 unfold atI;rw [e];exact h
noncomputable def PlainIx (b:Expr):Prop:=∀ o i,subscripted b false o i=operate [o,i] (getItem o i)
noncomputable def IxR (X:Cx) (r:R2):Prop :=
 ∀ (value slice:Expr) (pins:List (Addr×Obj)) (s:Shared) (σ:St) (H:Hp) (x y:V) (v u:Value) (Q:VK),Inv X pins σ H s->RelV x v->RelV y u->r x y H Q ->
  subscripted slice false v u=operate [v,u] (getItem v u)->wpAny (model X.prog X.w) X.A (subscriptTail value slice v u) (EP X pins σ Q) X.xe s
noncomputable def MtR (X:Cx) (id:String) (r:V->List V->Hp->VK->Prop):Prop :=
 ∀ (pins:List (Addr×Obj)) (s:Shared) (σ:St) (H:Hp) (x:V) (xs:List V) (v:Value) (us:List Value) (Q:VK),Inv X pins σ H s->RelV x v->Vals xs us->r x xs H Q ->
  wpAny (model X.prog X.w) X.A (call (.builtin id) (v::us)) (EP X pins σ Q) X.xe s
section
variable {X:Cx} {a b:Expr} {ta tb:TE} {pos:Pos}
theorem ZBb {r:R2} (Y:IxR X r) (ha:PE X a ta) (U:PE X b tb) (J:PlainIx b):PE X (.Subscript a b pos) (tOp r ta tb):=by
 intro pins s σ H Q I h
 exact Subscript_ (binT ha U I h fun v u s2 x y H2 O L z q=>Y a b pins s2 σ H2 x y v u Q O L z q (J _ _))
noncomputable def rIxL (K:W.Frag):R2:=fun x y H Q=>∃ p xs i v,x=.ref p /\ y=.int i /\ SqL K H p xs /\ atI xs i=some v /\ Q v H
noncomputable def rIxT (K:W.Frag):R2:=fun x y H Q=>∃ p xs i v,x=.ref p /\ y=.int i /\ SqT K H p xs /\ atI xs i=some v /\ Q v H
theorem ZA8:IxR X (rIxL X.K):=by
 intro value U pins s σ H x y v u Q I rx ry h Y
 obtain ⟨p,xs,i,z,rfl,rfl,hq,he,q⟩:=h
 cases rx
 obtain ⟨t,rfl⟩:=ry
 obtain ⟨its,r,pl,hz⟩:=I.list hq
 obtain ⟨j,h1,h2,h3,h4,h5⟩:=atI_get he
 obtain ⟨w,Z,O⟩:=r.get h2
 have hl:=r.length
 have hn:=ZDj
 have J:EP X pins σ Q w s:=⟨z,H,I,O,q⟩
 by_cases h0:0 <= i
 .have L:i.toNat=j:=by
   rw [seqIndex_of h0 h5] at h1
   exact Option.some.inj h1
  exact item_listR pl.isList h0 (by omega) (by rw [L];simpa using Z) J Y
 .have L:(i+(its.toArray.size:Int)).toNat=j:=by
   rw [seqIndex_neg (by omega) h4] at h1
   rw [yAJ,<- hl]
   exact Option.some.inj h1
  exact subscriptTail_builtinR (x:=w) pl.isList.typeIs slot_list_getitem.lookup
   (wpAny_getItem_list_neg (Q:=fun r s'=>r=w /\ EP X pins σ Q r s') pl.isList (by omega) (by rw [yAJ] <;> omega) (by omega) (by rw [L];simpa using Z) ⟨rfl,J⟩) Y
theorem ZCf:IxR X (rIxT X.K):=by
 intro value O pins s σ H x y v u Q I Z U h Y
 obtain ⟨p,xs,i,z,rfl,rfl,hq,he,q⟩:=h
 cases Z
 obtain ⟨t,rfl⟩:=U
 obtain ⟨its,r,pl,hz⟩:=I.tuple hq
 obtain ⟨j,h1,h2,h3,h4,h5⟩:=atI_get he
 obtain ⟨w,ew,J⟩:=r.get h2
 have hl:=r.length
 have hn:=ZDj
 have L:EP X pins σ Q w s:=⟨z,H,I,J,q⟩
 exact subscriptTail_builtinR (x:=w) pl.typeIs slot_tuple_getitem.lookup
  (getItem_tuple (j:=j) (Q:=fun r s'=>r=w /\ EP X pins σ Q r s') pl (by omega) (by omega) (by rw [yAJ,<- hl];exact h1) (by simpa using ew) ⟨rfl,L⟩) Y
theorem slice_bounds (lo hi:Option Int) (n:Nat):(sliceBounds lo hi none n).1=((HT.sIx n 0 lo:Nat):Int) /\ (sliceBounds lo hi none n).2.1=((HT.sIx n n hi:Nat):Int) /\ (sliceBounds lo hi none n).2.2=1:=by
 refine ⟨?_,?_,rfl⟩
 .cases lo with
  | none=>simp [sliceBounds,HT.sIx]
  | some i=>
   simp only [sliceBounds,HT.sIx,Option.getD_none,show (1:Int) > 0 by decide,if_true]
   by_cases h:i < 0
   .simp only [h,if_true] <;> omega
   .simp only [h,if_false] <;> omega
 .cases hi with
  | none=>simp [sliceBounds,HT.sIx]
  | some i=>
   simp only [sliceBounds,HT.sIx,Option.getD_none,show (1:Int) > 0 by decide,if_true]
   by_cases h:i < 0
   .simp only [h,if_true] <;> omega
   .simp only [h,if_false] <;> omega
theorem slicePick_cut (its:List Value) (lo hi:Option Int):slicePick its.toArray lo hi none=((its.drop (HT.sIx its.length 0 lo)).take (HT.sIx its.length its.length hi-HT.sIx its.length 0 lo)).toArray:=by
 obtain ⟨h1,h2,h3⟩:=slice_bounds lo hi its.toArray.size
 unfold slicePick
 rw [h1,h2,h3]
 simp only [sliceRange_one,pick_run,yAJ] <;> rfl
noncomputable def rSlL (K:W.Frag):V->Option Int->Option Int->Hp->VK->Prop:=fun x lo hi H Q=>∃ a xs,x=.ref a /\ SqL K H a xs /\ ∀ p,H p=none->Q (.ref p) (upd H p (.lst (cutV xs lo hi)))
theorem ZDB:SlR X (rSlL X.K):=by
 intro pins s σ H x v vl vu lo hi Z Q I O L pl Y h
 obtain ⟨a,xs,rfl,hx,q⟩:=h
 cases O
 obtain ⟨its,r,J,U⟩:=I.list hx
 have z:=r.length
 refine ⟨"list",_,slot_list_getitem.lookup,J.isList.typeIs,?_⟩
 refine wpAny_getItem_list_slice J.isList L pl Y .none (by simp) ?_ (by rw [yAJ] <;> omega)
 rw [slicePick_cut,<- z]
 refine ⟨.ref s.heap.objs.size,_,I.laid (t':=s.toks) (o:=.lst (cutV xs lo hi)) (fun b ob q=>Heap.get?_push_of_some _ q) (yAA _) ?_,rfl,q _ (I.hok.fresh (yAA _))⟩
 exact ⟨yAD (cutV_length xs lo hi) U,_,0,(r.drop (HT.sIx xs.length 0 lo)).take (HT.sIx xs.length xs.length hi-HT.sIx xs.length 0 lo),Heap.get?_push_size _ rfl⟩
noncomputable def ZC5:V->Bool
 | .non=>true
 | .bl _=>true
 | .int _=>true
 | .str _=>true
 | _=>false
noncomputable def eqV:V->V->Bool
 | .non,.non=>true
 | .bl a,.bl b=>a == b
 | .bl a,.int b=>(if a then 1 else 0) == b
 | .int a,.bl b=>a == (if b then 1 else 0)
 | .int a,.int b=>a == b
 | .str a,.str b=>a == b
 | _,_=>false
theorem eqAt_V {A:Around} {s:Shared} {y x:V} {u v:Value} (J:RelV y u) (z:RelV x v) (O:ZC5 y=true) (L:ZC5 x=true):SeqAt.EqAt A s u v (eqV y x):=by
 cases y with
 | non=>
  cases J
  cases x with
  | non=>cases z;exact SeqAt.EqAt.same _
  | bl b=>cases z;exact SeqAt.EqAt.none_bool b
  | int b=>obtain ⟨t,rfl⟩:=z;exact SeqAt.EqAt.none_int b t
  | str b=>obtain ⟨t,rfl⟩:=z;exact SeqAt.EqAt.none_str b t
  | _=>exact absurd (show false=true from L) yAE
 | bl a=>
  cases J
  cases x with
  | non=>cases z;exact SeqAt.EqAt.bool_none a
  | bl b=>cases z;exact SeqAt.EqAt.bool_bool a b
  | int b=>obtain ⟨t,rfl⟩:=z;exact SeqAt.EqAt.bool_int a b t
  | str b=>obtain ⟨t,rfl⟩:=z;exact SeqAt.EqAt.bool_str a b t
  | _=>exact absurd (show false=true from L) yAE
 | int a=>
  obtain ⟨t',rfl⟩:=J
  cases x with
  | non=>cases z;exact SeqAt.EqAt.int_none a t'
  | bl b=>cases z;exact SeqAt.EqAt.int_bool a t' b
  | int b=>obtain ⟨t,rfl⟩:=z;exact SeqAt.EqAt.int_int a t' b t
  | str b=>obtain ⟨t,rfl⟩:=z;exact SeqAt.EqAt.int_str a t' b t
  | _=>exact absurd (show false=true from L) yAE
 | str a=>
  obtain ⟨t',rfl⟩:=J
  cases x with
  | non=>cases z;exact SeqAt.EqAt.str_none a t'
  | bl b=>cases z;exact SeqAt.EqAt.str_bool a t' b
  | int b=>obtain ⟨t,rfl⟩:=z;exact SeqAt.EqAt.str_int a t' b t
  | str b=>obtain ⟨t,rfl⟩:=z;exact SeqAt.EqAt.str_str a t' b t
  | _=>exact absurd (show false=true from L) yAE
 | _=>exact absurd (show false=true from O) yAE
noncomputable def eqU (x:V) (u:Value):Bool:=match u with
 | .none=>eqV .non x
 | .bool b=>eqV (.bl b) x
 | .int i _=>eqV (.int i) x
 | .str z _=>eqV (.str z) x
 | _=>false
theorem eqU_of {x y:V} {u:Value} (r:RelV y u) (f:ZC5 y=true):eqU x u=eqV y x:=by
 cases y with
 | non=>cases r;rfl
 | bl b=>cases r;rfl
 | int i=>obtain ⟨t,rfl⟩:=r;rfl
 | str z=>obtain ⟨t,rfl⟩:=r;rfl
 | _=>exact absurd (show false=true from f) yAE
theorem ZDJ {x:V}:∀ {xs:List V} {us:List Value},Vals xs us->xs.all ZC5=true->us.any (eqU x)=xs.any fun y=>eqV y x
 | _,_,.nil,_=>rfl
 | y::xs,u::us,.cons r t,f=>by
  rw [List.all_cons,Bool.and_eq_true] at f
  rw [List.any_cons,List.any_cons,eqU_of r f.1,ZDJ t f.2]
theorem ZCu {A:Around} {s:Shared} {x:V} {v:Value} (J:RelV x v) (L:ZC5 x=true):∀ {xs:List V} {us:List Value},Vals xs us->xs.all ZC5=true->∀ u∈us,SeqAt.EqAt A s u v (eqU x u)
 | _,_,.nil,_=>fun u z=>by cases z
 | y::xs,u::us,.cons r t,f=>fun u' z=>by
  rw [List.all_cons,Bool.and_eq_true] at f
  rcases yAH.mp z with rfl | z
  .rw [eqU_of r f.1];exact eqAt_V r J f.1 L
  .exact ZCu J L t f.2 u' z
noncomputable def inV (x:V) (xs:List V):Bool:=xs.any fun y=>eqV y x
noncomputable def rIn (K:W.Frag) (neg:Bool):R2:=fun x y H Q=>∃ p xs,y=.ref p /\ (SqL K H p xs∨SqT K H p xs) /\ ZC5 x=true /\ xs.all ZC5=true /\ Q (.bl (if neg then !inV x xs else inV x xs)) H
theorem op_notIn_seq:OpR X (compareOp .NotIn) (rIn X.K true):=by
 intro pins s σ H x y v u Q I J O h
 obtain ⟨p,xs,rfl,z,L,fs,q⟩:=h
 cases O
 rcases z with z | z
 .obtain ⟨its,r,pl,U⟩:=I.list z
  refine SeqAt.notIn_listAt (eqU x) pl.isList (fun w hw=>ZCu J L r fs w (by simpa using hw)) ⟨.bl _,H,I,rfl,?_⟩
  rw [show its.toArray.any (eqU x)=its.any (eqU x) by simp,ZDJ r fs]
  exact q
 .obtain ⟨its,r,pl,U⟩:=I.tuple z
  refine SeqAt.notIn_tupleAt (eqU x) pl (fun w hw=>ZCu J L r fs w (by simpa using hw)) ⟨.bl _,H,I,rfl,?_⟩
  rw [show its.toArray.any (eqU x)=its.any (eqU x) by simp,ZDJ r fs]
  exact q
theorem ZAv:ZC7 X (.builtin "len") (fun xs H Q=>∃ p ys,xs=[.ref p] /\ (SqL X.K H p ys∨SqT X.K H p ys) /\ Q (.int ys.length) H):=by
 intro pins s σ H xs us Q I r h
 obtain ⟨p,ys,rfl,J,q⟩:=h
 obtain ⟨u,rfl,O⟩:=ZDs r
 cases O
 have hn:=ZDj
 rcases J with J | J
 .obtain ⟨its,L,pl,U⟩:=I.list J
  have z:=L.length
  exact Calls.call_len_list pl.isList (by simp only [yAJ] <;> omega) ⟨.int ys.length,H,I.tok _,⟨s.toks+1,by rw [yAJ,z]⟩,q⟩
 .obtain ⟨its,L,pl,U⟩:=I.tuple J
  have z:=L.length
  exact len_tuple pl (by simp only [yAJ] <;> omega) ⟨.int ys.length,H,I.tok _,⟨s.toks+1,by rw [yAJ,z]⟩,q⟩
theorem ZBV:ZC7 X (.type "list") (fun xs H Q=>∃ p ys,xs=[.ref p] /\ (SqL X.K H p ys∨SqT X.K H p ys) /\ ∀ l,H l=none->Q (.ref l) (upd H l (.lst ys))):=by
 intro pins s σ H xs us Q I r h
 obtain ⟨p,ys,rfl,O,q⟩:=h
 obtain ⟨u,rfl,rx⟩:=ZDs r
 cases rx
 have L:∀ (its:List Value),Vals ys its->ys.length <= sizeLine->∀ (h':Heap) (c':Nat),(∀ b o',s.heap.get? b=some o'->h'.get? b=some o') ->
   h'.get? s.heap.objs.size=some { cls:=.type "list",dict:=none,data:=.seq its.toArray c',slots:=#[] }->EP X pins σ Q (.ref s.heap.objs.size) { s with heap:=h' }:=fun its z U h' c' J e=>
  ⟨.ref s.heap.objs.size,_,I.laid (t':=s.toks) J (yAA _) (show ObjOk X.prog X.w _ h' _ (.lst ys) from ⟨U,its,c',z,e⟩),rfl,q _ (I.hok.fresh (yAA _))⟩
 rcases O with O | O
 .obtain ⟨its,z,pl,U⟩:=I.list O
  have Y:=z.length
  obtain ⟨o,Z,hc,n,hd⟩:=pl.isList
  exact call_list_seq p (.inl rfl) Z hc hd (fun h' c' J e=>L its z U h' c' J e) (by simp only [yAJ] <;> omega)
 .obtain ⟨its,z,pl,U⟩:=I.tuple O
  have Y:=z.length
  obtain ⟨o,Z,hc,n,hd⟩:=pl
  exact call_list_seq p (.inr rfl) Z hc hd (fun h' c' J e=>L its z U h' c' J e) (by simp only [yAJ] <;> omega)
noncomputable def tyV (K:W.Frag) (T:String) (x:V) (H:Hp):Prop:=match x with
 | .str _=>T="str"
 | .int _=>T="int"
 | .ref p=>(T="list" /\ ∃ xs,SqL K H p xs)∨(T="tuple" /\ ∃ o,K.lookup p=some o /\ o.cls=.type "tuple" /\ o.dict=none) ∨
   (T="dict" /\ ((∃ kvs,H p=some (.dK kvs))∨∃ kvs,H p=some (.dT kvs)))∨(T="set" /\ ∃ S n,H p=some (.set S n))
 | _=>False
theorem tyV_is {pins:List (Addr×Obj)} {σ:St} {H:Hp} {s:Shared} {T:String} {x:V} {v:Value} (I:Inv X pins σ H s) (r:RelV x v) (ty:tyV X.K T x H) :
  s.TypeIs v T /\ ∀ a,v=.ref a->∃ ob,s.heap.get? a=some ob /\ ob.dict=none:=by
 cases x with
 | str z=>
  obtain ⟨t,rfl⟩:=r
  cases (show T="str" from ty)
  exact ⟨typeIs_str s z t,fun _ e=>nomatch e⟩
 | int i=>
  obtain ⟨t,rfl⟩:=r
  cases (show T="int" from ty)
  exact ⟨typeIs_int s i t,fun _ e=>nomatch e⟩
 | ref p=>
  cases r
  rcases ty with ⟨rfl,xs,O⟩ | ⟨rfl,o,J,hc,hd⟩ | ⟨rfl,J⟩ | ⟨rfl,S,n,J⟩
  .obtain ⟨its,_,pl,_⟩:=I.list O
   refine ⟨pl.isList.typeIs,fun a e=>?_⟩
   cases e
   obtain ⟨o,n,e,c,hd,_⟩:=pl
   exact ⟨o,e,hd⟩
  .refine ⟨⟨o,I.kIn p o J,hc⟩,fun a e=>?_⟩
   cases e
   exact ⟨o,I.kIn _ o J,hd⟩
  .have z:∃ o,s.heap.get? p=some o /\ o.ExactDict:=by
    rcases J with ⟨kvs,J⟩ | ⟨kvs,J⟩
    .obtain ⟨_,_,_,_,o,_,_,e,ex,_⟩:=I.hok p _ J
     exact ⟨o,e,ex⟩
    .obtain ⟨_,_,_,_,o,_,_,e,ex,_⟩:=I.hok p _ J
     exact ⟨o,e,ex⟩
   obtain ⟨o,e,ex⟩:=z
   refine ⟨⟨o,e,ex.1⟩,fun a L=>?_⟩
   cases L
   exact ⟨o,e,ex.2.1⟩
  .obtain ⟨o,_,_,_,e,ex,_⟩:=I.hok p _ J
   refine ⟨⟨o,e,ex.1⟩,fun a L=>?_⟩
   cases L
   exact ⟨o,e,ex.2.1⟩
 | _=>exact False.elim ty
noncomputable def tBM0 (K:W.Frag) (T:String) (r:V->List V->Hp->VK->Prop) (to:TE):TE:=fun σ H Q=>to σ H fun x H1=>tyV K T x H1 /\ r x [] H1 Q
noncomputable def tBM (K:W.Frag) (T:String) (r:V->List V->Hp->VK->Prop) (to:TE) (t:TA):TE:=fun σ H Q=>to σ H fun x H1=>tyV K T x H1 /\ t σ H1 fun xs H2=>r x xs H2 Q
variable {o e:Expr} {es:List Expr} {to:TE} {t:TA} {name:Str} {apos cpos:Pos} {T id:String} {r:V->List V->Hp->VK->Prop}
theorem pe_bm0 (Z:PlainAttrs T) (slot:Slot T name id) (L:typeOf (.builtin id)=pure (.type "method_descriptor")) (hm:MtR X id r) (Y:PE X o to)
  (J:attributeBase o name X.env (eval o X.env)=eval o X.env:=by rfl) (z:(apos.endLine == cpos.line)=true:=by rfl):PE X (.Call (.Attribute o name apos) [] [] cpos) (tBM0 X.K T r to):=by
 intro pins s σ H Q I h
 refine wpAny_Call_method0_late J z (thn (Y pins s σ H _ I h) fun v s1 zz=>?_)
 obtain ⟨x,H1,U,O,ty,q1⟩:=zz
 obtain ⟨h1,h2⟩:=tyV_is U O ty
 exact ⟨T,id,Z,slot,L,h1,h2,Calls.callWith_builtin rfl (PySem.evalArgs_none (hm pins s1 σ H1 x [] v [] Q U O .nil q1))⟩
theorem ZD0 (pa:PlainAttrs T) (slot:Slot T name id) (U:typeOf (.builtin id)=pure (.type "method_descriptor")) (hm:MtR X id r) (ho:PE X o to) (ha:PA X (e::es) t)
  (L:attributeBase o name X.env (eval o X.env)=eval o X.env:=by rfl)
  (O:((backTo cpos (starEach (e::es) X.env)).all (fun x=>!x.1) && (backToKw cpos (keywordEach [] X.env)).all (fun x=>x.1.isSome)
   && decide ((e::es).length+([]:List Keyword).length+(if ([]:List Keyword).isEmpty then 0 else 1) < 30))=true:=by rfl)
  (J:(apos.endLine == cpos.line)=true:=by rfl) (hs:starEach (e::es) X.env=(false,eval e X.env)::starEach es X.env:=by rfl) (z:(backTo cpos (starEach es X.env)).any (·.1)=false:=by rfl) :
  PE X (.Call (.Attribute o name apos) (e::es) [] cpos) (tBM X.K T r to t):=by
 intro pins s σ H Q I h
 refine wpAny_Call_method_late L O J rfl (thn (ho pins s σ H _ I h) fun v s1 zz=>?_)
 obtain ⟨x,H1,I1,Z,ty,q1⟩:=zz
 obtain ⟨h1,h2⟩:=tyV_is I1 Z ty
 refine ⟨T,id,pa,slot,U,h1,h2,?_⟩
 have Y:=ha cpos pins s1 σ H1 _ I1 q1
 rw [hs] at Y ⊢
 refine Calls.callWith_builtin (by show (false || (backTo cpos (starEach es X.env)).any (·.1))=false;rw [z] <;> rfl) (Calls.evalArgs_plain ?_)
 exact thn Y fun us s2 ⟨vs,H2,I2,r2,q2⟩=>hm pins s2 σ H2 x vs v us Q I2 Z r2 q2
end
noncomputable def MtM (X:Cx) (id:String) (r:V->List V->Hp->VK->Prop):Prop :=
 ∀ (pins:List (Addr×Obj)) (s:Shared) (σ:St) (H:Hp) (x:V) (xs:List V) (v:Value) (us:List Value) (Q:VK),Inv X pins σ H s->RelV x v->Vals xs us->r x xs H Q ->
  wpAny (model X.prog X.w) X.A (call (.builtin id) (v::us)) (EP X pins σ Q) X.xe s
theorem Vals.one {x:V} {us:List Value} (r:Vals [x] us):∃ u,us=[u] /\ RelV x u:=ZDs r
theorem Vals.zero:∀ {us:List Value},Vals [] us->us=[]
 | _,.nil=>rfl
theorem Vals.dropLast {xs:List V} {us:List Value} (h:Vals xs us):Vals xs.dropLast us.dropLast:=by
 induction h with
 | nil=>exact .nil
 | cons r t ih=>
  cases t with
  | nil=>exact .nil
  | cons q t'=>exact .cons r ih
theorem Vals.rep {xs:List V} {us:List Value} (h:Vals xs us):∀ k:Nat,Vals (List.replicate k xs).flatten (List.replicate k us).flatten
 | 0=>.nil
 | k+1=>by
  rw [yAZ,yAZ,List.flatten_cons,List.flatten_cons]
  exact Vals.append h (Vals.rep h k)
theorem erase_last {α:Type} (l:List α):l.eraseIdx (l.length-1)=l.dropLast:=by
 induction l with
 | nil=>rfl
 | cons a r ih=>
  cases r with
  | nil=>rfl
  | cons b r=>
   have e:(a::b::r).length-1=((b::r).length-1)+1:=by
    have h1:(a::b::r).length=r.length+2:=rfl
    have h2:(b::r).length=r.length+1:=rfl
    omega
   rw [e,List.eraseIdx_cons_succ,ih]
   all_goals rfl
theorem foldl_rep (its:List Value):∀ (k:Nat) (z:List Value),
  List.foldl (fun O J=>O++J) z.toArray (List.replicate k its.toArray)=(z++(List.replicate k its).flatten).toArray
 | 0,z=>by simp
 | k+1,z=>by
  have e:z.toArray++its.toArray=(z++its).toArray:=by simp
  have L:(z++its)++(List.replicate k its).flatten=z++(List.replicate (k+1) its).flatten:=by
   rw [yAZ,List.flatten_cons,List.append_assoc]
  rw [<- L,<- foldl_rep its k (z++its),<- e,yAZ,List.foldl_cons]
section
variable {X:Cx} {pins:List (Addr×Obj)} {σ:St} {H:Hp} {s:Shared} {l b:Addr} {xs ys zs:List V}
theorem Inv.lset {its its':List Value} {n:Nat} {f:Array Value->Array Value} {t':Nat} (I:Inv X pins σ H s) (z:H l=some (.lst xs))
  (e:s.heap.get? l=some { cls:=.type "list",data:=.seq its.toArray n }) (L:f its.toArray=its'.toArray) (O:Vals ys its') (J:ys.length <= sizeLine) :
  Inv X pins σ (upd H l (.lst ys)) { s with heap:=s.heap.update l (Obj.mapSeq f),toks:=t' }:=by
 have q:=PySem.IsL.update e f
 rw [L] at q
 refine I.write (x:=l) (e:=l) (by rw [z];exact trivial) (.inl rfl) (fun b' u U Y=>(Heap.get?_update_other s.heap (Obj.mapSeq f) (Ne.symm U)).trans Y) ⟨_,q⟩ ?_
 exact ⟨J,its',_,O,q⟩
theorem Inv.lnew {its:List Value} {t':Nat} (I:Inv X pins σ H s) (J:Vals ys its) (z:ys.length <= sizeLine) :
  Inv X pins σ (upd H s.heap.objs.size (.lst ys)) { s with heap:=s.heap.push { cls:=.type "list",data:=.seq its.toArray },toks:=t' } :=
 I.laid (fun _ _ q=>Heap.get?_push_of_some _ q) (yAA _) ⟨z,its,0,J,Heap.get?_push_size _ rfl⟩
theorem Inv.fresh (I:Inv X pins σ H s):H s.heap.objs.size=none:=I.hok.fresh (yAA _)
theorem Inv.lstM (I:Inv X pins σ H s) (J:H l=some (.lst xs)):xs.length <= sizeLine /\ ∃ (its:List Value) (n:Nat),Vals xs its /\ xs.length=its.length /\ s.heap.get? l=some { cls:=.type "list",data:=.seq its.toArray n }:=by
 obtain ⟨z,its,n,r,e⟩:=I.hok l _ J
 exact ⟨z,its,n,r,r.length,e⟩
theorem notLongL {n:Nat} (h:n <= sizeLine):Builtin.List.listTooLong n=false:=by
 unfold Builtin.List.listTooLong
 exact decide_eq_false (by omega)
end
section
variable {X:Cx}
noncomputable def rAppend:V->List V->Hp->VK->Prop:=fun x vs H Q=>∃ l xs y,x=.ref l /\ vs=[y] /\ H l=some (.lst xs) /\ xs.length < sizeLine /\ Q .non (upd H l (.lst (xs++[y])))
theorem ZCX:MtM X "list.append" rAppend:=by
 intro pins s σ H x vs v us Q I L U h
 obtain ⟨l,xs,y,rfl,rfl,J,Y,q⟩:=h
 cases L
 obtain ⟨u,rfl,O⟩:=U.one
 obtain ⟨z,its,n,r,hl,e⟩:=I.lstM J
 refine call_meets F.slot_list_append ⟨_,e,rfl⟩ F.entry_list_append (F.args_list_append_2 _ _) (PySem.list_append l its.toArray n u (by rw [yAJ];omega)) ⟨e,?_⟩
 refine ⟨.non,_,I.lset (its':=its++[u]) J e (by simp) (r.append (.cons O .nil)) ?_,rfl,q⟩
 rw [yAI,yAM]
 omega
noncomputable def rPop:V->List V->Hp->VK->Prop:=fun x vs H Q=>∃ l xs y,x=.ref l /\ vs=[] /\ H l=some (.lst xs) /\ xs[xs.length-1]?=some y /\ Q y (upd H l (.lst xs.dropLast))
theorem mt_pop:MtM X "list.pop" rPop:=by
 intro pins s σ H x vs v us Q I U Z h
 obtain ⟨l,xs,y,rfl,rfl,O,hy,q⟩:=h
 cases U
 have J:=Z.zero
 subst J
 obtain ⟨z,its,n,r,hl,e⟩:=I.lstM O
 obtain ⟨u,hu,Y⟩:=r.get hy
 have L:its.toArray[its.toArray.size-1]?=some u:=by
  show its.toArray[its.length-1]?=some u
  rw [<- Array.getElem?_toList,<- hl]
  exact hu
 refine call_meets F.slot_list_pop ⟨_,e,rfl⟩ F.entry_list_pop (F.args_list_pop_1 _) (MeetsSeq.list_pop_last l its.toArray n u L (by rw [yAJ];omega)) ⟨e,?_⟩
 refine ⟨y,_,I.lset (its':=its.dropLast) O e ?_ r.dropLast ?_,Y,q⟩
 .show its.toArray.eraseIdxIfInBounds (its.toArray.size-1)=its.dropLast.toArray
  rw [yAJ,List.eraseIdxIfInBounds_toArray,erase_last]
 .rw [List.length_dropLast]
  omega
noncomputable def rCat:R2:=fun x y H Q=>∃ l b xs zs,x=.ref l /\ y=.ref b /\ H l=some (.lst xs) /\ H b=some (.lst zs) /\ xs.length+zs.length <= sizeLine /\ ∀ p,H p=none->Q (.ref p) (upd H p (.lst (xs++zs)))
theorem ZCd:OpR X (binaryOp .Add) rCat:=by
 intro pins s σ H x y v u Q I U L h
 obtain ⟨l,b,xs,zs,rfl,rfl,hH,Y,hz,q⟩:=h
 cases U
 cases L
 obtain ⟨z,its,n,r,hl,e⟩:=I.lstM hH
 obtain ⟨z2,J,n2,O,Z,e2⟩:=I.lstM Y
 refine PySem.P.add_list e e2 ?_ (by rw [yAJ,yAJ];omega)
 have ea:its.toArray++J.toArray=(its++J).toArray:=by simp
 rw [ea]
 exact ⟨.ref _,_,I.lnew (t':=s.toks) (r.append O) (by rw [yAI];omega),rfl,q _ I.fresh⟩
noncomputable def rRep:R2:=fun x y H Q=>∃ l k xs,x=.ref l /\ y=.int k /\ H l=some (.lst xs) /\ -(2 ^ 63) <= k /\ k < 2 ^ 63 /\ xs.length * k.toNat <= sizeLine /\
 ∀ p,H p=none->Q (.ref p) (upd H p (.lst (List.replicate k.toNat xs).flatten))
theorem len_rep {α:Type} (xs:List α) (k:Nat):(List.replicate k xs).flatten.length=k * xs.length:=by
 induction k with
 | zero=>simp
 | succ k ih=>rw [yAZ,List.flatten_cons,yAI,ih,Nat.succ_mul,Nat.add_comm]
theorem op_rep:OpR X (binaryOp .Mult) rRep:=by
 intro pins s σ H x y v u Q I rx ry h
 obtain ⟨l,k,xs,rfl,rfl,hH,h1,h2,hz,q⟩:=h
 cases rx
 obtain ⟨t,rfl⟩:=ry
 obtain ⟨z,its,n,r,hl,e⟩:=I.lstM hH
 have O:its.toArray.size * k.toNat <= sizeLine:=by rw [yAJ,<- hl];exact hz
 have L:¬ its.toArray.size * k.toNat > (2 ^ 63-1) / 8:=by
  have:(sizeLine:Nat) <= (2 ^ 63-1) / 8:=by decide
  omega
 have Y:¬ (!Builtin.List.listFitsIndex k)=true:=by
  rw [fitsIndex_both h1 h2]
  exact yAE
 have J:¬ Builtin.List.listTooLong (its.toArray.size * k.toNat)=true:=by
  rw [notLongL O]
  exact yAE
 have Z:List.foldl (fun x1 x2=>x1++x2) #[] (List.replicate (if its.toArray.isEmpty=true then 0 else k.toNat) its.toArray)=(List.replicate k.toNat its).flatten.toArray:=by
  have f0:∀ m:Nat,List.foldl (fun x1 x2=>x1++x2) #[] (List.replicate m its.toArray)=(List.replicate m its).flatten.toArray:=fun m=>by
   have:=foldl_rep its m []
   rw [List.nil_append] at this
   exact this
  rw [f0]
  cases its with
  | nil=>simp
  | cons a r'=>rw [if_neg (by simp)]
 refine wpAny_binaryOp_repeat_ref (T:="list") (U:="int") (by decide) ⟨_,e,rfl⟩ (fun s'=>typeIs_int s' k t) noFill_list_mul F.fills_int_mul F.slot_int_rmul repeat_list F.slot_int_index.lookup
  (call_meets F.slot_int_rmul (typeIs_int s k t) F.entry_int_rmul (F.args_int_rmul_2 _ _) (int___rmul___int_list k t l its.toArray n)
   ⟨e,rfl,⟨_,e,rfl⟩,call_meets F.slot_list_mul ⟨_,e,rfl⟩ F.entry_list_mul (F.args_list_mul_2 _ _) (AutoListH.list___mul___list_int_3 l its.toArray n k t Y L J) ⟨e,?_⟩⟩)
 rw [Z]
 exact ⟨.ref _,_,I.lnew (t':=s.toks) (r.rep k.toNat) (by rw [len_rep,Nat.mul_comm];exact hz),rfl,q _ I.fresh⟩
end
section
variable {prog:Program} {w:World} {A:Around} {E:Value->Shared->Prop} {s:Shared}
set_option maxRecDepth 100000 in
end
section
variable {X:Cx}
end
end L2
namespace Att
open PySem PySem.W PySem.Calls PyProof.Rows
theorem ints_of_wellAll {P:Params} {h:Heap}:∀ (ns:List Int) (vs:List Value),WellAll P h vs (ns.map WData.int)->IntsAre vs ns:=by
 intro ns
 induction ns with
 | nil=>
  intro vs w
  rw [List.map_nil] at w
  cases w
  exact .nil
 | cons n ns ih=>
  intro vs w
  rw [yAU] at w
  cases w with
  | cons a b=>
   cases a
   exact .cons _ _ (ih _ b)
theorem script_of {l:OpenLaw} {n:Nat} (hn:l.most=some n) {P:Params} {h:Heap} {args:List WData} {J:List Value}
  (z:l.row.toRowW.claim.pre args=true) (Z:WellAll P h J args) :
  ∃ a vs ns,J=[Value.ref a] /\ args=[WData.list (ns.map WData.int)] /\ h.get? a=some { cls:=.type "list",data:=.seq vs.toArray } /\ IntsAre vs ns /\ ns.length <= n:=by
 have Y:WShape.hasAll [] args [.list .int]=true:=(pre_splitW z).1
 have hc:l.pre.holds [] { args:=args }=true:=(pre_splitW z).2
 obtain ⟨d,r,rfl,h1,h2⟩:=hasAllW_cons Y
 obtain rfl:=hasAllW_nil h2
 obtain ⟨xs,rfl,h3⟩:=hasW_list h1
 obtain ⟨ns,rfl⟩:=items_int h3
 have L:ns.length <= n:=by
  unfold OpenLaw.pre at hc
  have O:(WTm.not (.lt (.lit (.int (n:Int))) (.len (.arg 0)))).holds [] { args:=[.list (ns.map .int)] }=true:=by
   have O:=(holds_andW hc).1
   rw [hn] at O
   exact O
  have U:=condW_of O (w_not (w_lt w_lit (w_len_list (w_arg rfl))))
  rw [yAF] at U
  refine Nat.le_of_not_lt fun q=>?_
  have q':(n:Int) < ((ns.length:Nat):Int):=by omega
  first
   | (rw [decide_eq_true q'] at U;exact absurd U (by decide))
   | (simp at U;omega)
 cases Z with
 | cons w1 w2=>
  cases w2
  cases w1 with
  | list ho hall=>exact ⟨_,_,ns,rfl,rfl,ho,ints_of_wellAll ns _ hall,L⟩
theorem post_true (l:OpenLaw) (args:List WData):l.row.toRowW.claim.post args (.bool true) args=true :=
 postW_of (r:=l.row.toRowW) (X:=(true == true))
  (show WShape.has [] (.bool true) .bool=true by first | rfl | decide | simp [WShape.has,WShape.arms,WShape.armsAll])
  (show (WTm.eq .res (.lit (.bool true))).value [] { args:=args,res:=some (.bool true),after:=args }=some (.bool (true == true)) from w_eq_bool (w_res rfl) w_lit) rfl
theorem attach_call {l:OpenLaw} {n:Nat} {q:Program} {loose:List Str} {XP:(Str->Option Value)->Heap->Prop} {YP:World->Heap->Prop} {d:DefRec}
  (hn:l.most=some n) (a0:d.params.defaults=[])
  (call:∀ (w:World) (s₀ s₁:Shared) (mg mb:Str->Option Value) (U:Addr) (o:Obj) (pm cd J:Value) (a:Addr) (vs:List Value) (ns:List Int),
   Ground q loose [] XP w s₀ mg mb s₁.heap->YP w s₁.heap ->
   s₁.heap.get? U=some o->o.data=.func (docDef d.name d.params d.body d.scope pm cd J)->s₁.heap.CodeRec cd d.name->mg d.name=some (.ref U) ->
   s₁.heap.get? a=some { cls:=.type "list",data:=.seq vs.toArray }->IntsAre vs ns->ns.length <= n->s₁.gens=#[] ->
   codeAny (model l.prog w) callerA (.call (.ref U) ⟨[.ref a],[]⟩) (fun r s'=>r=.ok (.ret (.bool true)) /\ OldK s₁.heap s'.heap /\ s'.os=s₁.os /\ AllBare s'.gens) s₁) :
  WalkO q loose XP YP l.row.toRowW d [] (fun f vs=>PySem.call f vs):=by
 intro w s₀ s₁ mg mb G Y U o pm cd J dV kV ho hd a2 hD a1 hg args a5 as O a4 a7 a3 a6
 obtain rfl:dV=.none:=Dflts.none hD a0
 obtain rfl:kV=.none:=Dflts.noKw hD
 obtain ⟨a,vs,ns,rfl,rfl,L,z,Z⟩:=script_of hn O a3
 refine enter_call (codeAny_mono (call w s₀ s₁ mg mb U o pm cd J a vs ns G Y ho (fd_plain hd) a2 a1 L z Z hg) fun r s' hq=>?_)
 obtain ⟨rfl,h2,h3,h4⟩:=hq
 exact ⟨.inl ⟨.bool true,.bool true,[],rfl,fun _=>rfl,.bool true,post_true l _,fun _=>⟨List.Pairwise.nil,fun _ hm=>(nomatch hm)⟩⟩,h2,h3,h4⟩
section
variable {prog:Program} {w:World} {A:Around} {E:Value->Shared->Prop} {s:Shared} {K:Frag}
end
end Att
namespace L2
open PySem PySem.Spec PyProof.Rows
theorem vals_ints:∀ {vs:List Value} {ns:List Int},IntsAre vs ns->Vals (ns.map V.int) vs
 | _,_,.nil=>.nil
 | _,_,.cons n t h=>.cons ⟨t,rfl⟩ (vals_ints h)
end L2
namespace L2
open PySem PySem.Spec PyProof.Rows
noncomputable def ZAx (s:Stmt) (j:Nat):Stmt:=match s with
 | .ClassDef _ _ _ body _ _ _ _ _ _ _=>body.getD j (.Pass ⟨0,0,0,0⟩)
 | _=>.Pass ⟨0,0,0,0⟩
noncomputable def ZAK (s:Stmt):Arguments:=match s with
 | .FunctionDef _ a _ _ _ _ _ _ _ _=>a
 | _=>{ posonlyargs:=[],args:=[],vararg:=none,kwonlyargs:=[],kw_defaults:=[],kwarg:=none,defaults:=[] }
noncomputable def ZAJ (s:Stmt):List Stmt:=match s with
 | .FunctionDef _ _ b _ _ _ _ _ _ _=>b
 | _=>[]
noncomputable def ZAC (s:Stmt):Scope:=match s with
 | .FunctionDef _ _ _ _ _ _ sc _ _ _=>sc
 | _=>{ kind:=.function,names:=[],isGenerator:=false,isCoroutine:=false }
noncomputable abbrev CX0:CXT:=fun _ _ _ _ _ _=>False
noncomputable abbrev E0:XK:=fun _ _ _=>False
theorem ZAP {X:Cx}:ZBW CX0 X E0:=fun _ _ _ _ _ _ _ h=>h.elim
structure Fun (K:W.Frag) (x qual:Str) (st:Stmt) (f:Addr) (fd:FuncData):Prop where
 ex:∃ (oc:Value) (od:Option Addr) (kV doc pm:Value) (an:Option Addr) (cdv ct:Value) (osl:Array (Option Value)),
  fd=W.fnOf x qual (ZAK st) (ZAJ st) (ZAC st) .none kV doc pm an cdv ct /\ K.lookup f=some ⟨oc,od,.func fd,osl⟩ /\ W.codeIn K cdv qual=true
 kp:W.keepIn K (.ref f)=true
section
variable {P:Program} {w:World} {K:W.Frag} {mg:Str->Option Value} {base:Heap}
theorem Fun.ok {x qual:Str} {st:Stmt} {f:Addr} {fd:FuncData} {N ps:List Str} {k:Nat} {sp:Sp} (F:Fun K x qual st f fd) (S:FnScope N ps (ZAC st)) (U:∀ vs H Q E,sp vs H Q E->vs.length=ps.length)
  (J:∀ (z:Value) (A:Around) (outer:List Env) (s:Shared) (H:Hp) (vs:List V) (Q:VK) (E:XK),Room k (A.deeper (envOfC qual (ZAC st) s.heap.objs.size f z))->sp vs H Q E ->
   ∃ t,PSs (cxOf CX0 P w K mg base N qual (ZAC st) f z A outer s H E).nox (ZAJ st) t /\ t { nx:=fun _ H'=>Q .non H',rt:=Q } (start N vs) H):FnOk P w K mg base CX0 (k+1) f fd ps sp:=by
 obtain ⟨oc,od,kV,a0,pm,an,z,ct,Y,rfl,lk,O⟩:=F.ex
 refine ZD5 lk O S U fun A outer s H vs Q E Z L=>?_
 obtain ⟨t,h,q⟩:=J z A outer s H vs Q E Z L
 exact ⟨t,h.nox,q⟩
theorem Fun.binds {x qual:Str} {st:Stmt} {f:Addr} {fd:FuncData} {ps:List Str} (F:Fun K x qual st f fd)
  (h:∀ (kV J L:Value) (O:Option Addr) (z ct:Value) (us:List Value),us.length=ps.length->bindArgs (W.fnOf x qual (ZAK st) (ZAJ st) (ZAC st) .none kV J L O z ct) ⟨us,[]⟩=pure (ps.zip us)):Binds K fd ps []:=by
 obtain ⟨oc,Z,kV,J,L,O,z,ct,U,rfl,lk,Y⟩:=F.ex
 exact .all (h kV J L O z ct)
theorem ZAg {x qual:Str} {st:Stmt} {f:Addr} {oc:Value} {Y U:Option Addr} {L:Array (Option Value)} {kV J O z ct:Value} (l:K.lookup f=some ⟨oc,Y,.func (W.fnOf x qual (ZAK st) (ZAJ st) (ZAC st) .none kV J O U z ct),L⟩)
  (c:W.codeIn K z qual=true) (k:W.keepIn K (.ref f)=true):Fun K x qual st f (W.fnOf x qual (ZAK st) (ZAJ st) (ZAC st) .none kV J O U z ct):=⟨⟨oc,Y,kV,J,O,U,z,ct,L,rfl,l,c⟩,k⟩
end
theorem ZB9 {n:Nat} (h:n <= 1000):n < sizeLine:=Nat.lt_of_le_of_lt h (by decide)
section
variable {X:Cx}
theorem pv (i:Nat) {x:Str} {pos:Pos} (L:X.N[i]?=some x:=by rfl) (J:Vis X.env.scope x:=by first | exact Or.inl rfl | exact Or.inr (Or.inl rfl) | exact Or.inr (Or.inr rfl)) (hd:(x == ("__debug__":Str))=false:=by decide)
  (z:(x == ("__classdict__":Str))=false:=by decide):PE X (.Name x pos) (tVar i):=pe_var L J hd z
end
noncomputable def Same (H H':Hp):Prop:=∀ b o,H b=some o->H' b=some o
theorem Same.refl (H:Hp):Same H H:=fun _ _ h=>h
theorem Same.trans {H H1 H2:Hp} (a:Same H H1) (b:Same H1 H2):Same H H2:=fun c o h=>b c o (a c o h)
theorem Same.free {H H':Hp} (e:Same H H') {l:Addr} (h:H' l=Option.none):H l=Option.none:=by
 cases q:H l with
 | none=>rfl
 | some o=>
  rw [e l o q] at h
  cases h
theorem Same.seq {K:W.Frag} {H H':Hp} {a:Addr} {xs:List V} (e:Same H H') (h:SqL K H a xs):SqL K H' a xs:=by
 rcases h with (h | ⟨o,h⟩) | h
 .exact .inl (.inl (e _ _ h))
 .exact .inl (.inr ⟨o,e _ _ h⟩)
 .exact .inr h
end L2
set_option maxHeartbeats 4000000
namespace L2
open PySem PySem.Spec PyProof.Rows
theorem natlt {a b:Addr} (h:a < b):@LT.lt Nat _ a b:=h
theorem ZCb {a b:Addr} {n:Nat} (h:a < n) (k:n <= b):a≠b:=yAB (yAC h k)
theorem ZA5:∀ (names:List (Str×NameKind)) (n:Nat) (acc:List (Str×Addr)),cellsFrom n names acc=cellsFrom n names []++acc
 | [],_,_=>rfl
 | (x,k)::r,n,acc=>by
  unfold cellsFrom
  split
  .rw [ZA5 r (n+1) ((x,n)::acc),ZA5 r (n+1) [(x,n)],List.append_assoc];rfl
  .exact ZA5 r n acc
theorem ZBf:∀ (names:List (Str×NameKind)) (n:Nat) (acc:List (Str×Addr)) (y:Str) (c:Addr),(y,c)∈cellsFrom n names acc->(y,c)∈acc∨((y,NameKind.cell)∈names /\ n <= c)
 | [],_,_,_,_,h=>.inl h
 | (x,k)::r,n,acc,y,c,h=>by
  unfold cellsFrom at h
  split at h
  .rename_i hk
   have z:k=.cell:=by simpa using hk
   rcases ZBf r (n+1) _ y c h with h | ⟨h,l⟩
   .rcases yAH.mp h with e | h
    .cases e;subst z;exact .inr ⟨yAL,yAA _⟩
    .exact .inl h
   .exact .inr ⟨yAK _ h,Nat.le_of_succ_le l⟩
  .rcases ZBf r n _ y c h with h | ⟨h,l⟩
   .exact .inl h
   .exact .inr ⟨yAK _ h,l⟩
noncomputable def closFrom (cells:List (Str×Addr)):List (Str×NameKind)->List (Str×Addr)->List (Str×Addr)
 | [],acc=>acc
 | (x,k)::r,acc=>if k == .free then closFrom cells r ((x,(cells.lookup x).getD 0)::acc) else closFrom cells r acc
theorem ZBT {cells:List (Str×Addr)}:∀ (names:List (Str×NameKind)) (acc:List (Str×Addr)) (y:Str) (c:Addr),(y,c)∈closFrom cells names acc->(y,c)∈acc∨((y,NameKind.free)∈names /\ c=(cells.lookup y).getD 0)
 | [],_,_,_,h=>.inl h
 | (x,k)::r,acc,y,c,h=>by
  unfold closFrom at h
  split at h
  .rename_i hk
   have z:k=.free:=by simpa using hk
   rcases ZBT r _ y c h with h | ⟨h,l⟩
   .rcases yAH.mp h with e | h
    .cases e;subst z;exact .inr ⟨yAL,rfl⟩
    .exact .inl h
   .exact .inr ⟨yAK _ h,l⟩
  .rcases ZBT r _ y c h with h | ⟨h,l⟩
   .exact .inl h
   .exact .inr ⟨yAK _ h,l⟩
theorem ZBp {cells:List (Str×Addr)}:∀ (names:List (Str×NameKind)) (acc:List (Str×Addr)) (p:Str×Addr),p∈acc->p∈closFrom cells names acc
 | [],_,_,h=>h
 | (x,k)::r,acc,p,h=>by
  unfold closFrom
  split
  .exact ZBp r _ p (yAK _ h)
  .exact ZBp r _ p h
theorem ZBU {cells:List (Str×Addr)}:∀ (names:List (Str×NameKind)) (acc:List (Str×Addr)) (y:Str),(y,NameKind.free)∈names->(y,(cells.lookup y).getD 0)∈closFrom cells names acc
 | [],_,_,h=>nomatch h
 | (x,k)::r,acc,y,h=>by
  unfold closFrom
  rcases yAH.mp h with e | h
  .cases e
   rw [if_pos (by rfl)]
   exact ZBp r _ _ yAL
  .split
   .exact ZBU r _ y h
   .exact ZBU r _ y h
theorem ZBJ {α:Type}:∀ {l:List (Str×α)} {y:Str} {c:α},(y,c)∈l->∃ c',l.lookup y=some c'
 | (k,v)::r,y,c,h=>by
  rw [yBA]
  cases hb:y == k with
  | true=>exact ⟨v,rfl⟩
  | false=>
   rcases yAH.mp h with e | h
   .cases e;rw [beq_self_eq_true] at hb;cases hb
   .exact ZBJ h
theorem ZBe {env:Env} (f:Str×NameKind->List (Str×Addr)->Sem (ForInStep (List (Str×Addr))))
  (z:∀ name kind cs,f (name,kind) cs=if kind == .free then (do let a <- cellOf env name;pure (.yield ((name,a)::cs))) else pure (.yield cs)) :
  ∀ (names:List (Str×NameKind)) (acc:List (Str×Addr)),(∀ x,(x,NameKind.free)∈names->∃ c,env.cells.lookup x=some c)->forIn names acc f=(pure (closFrom env.cells names acc):Sem (List (Str×Addr)))
 | [],acc,_=>by rw [List.forIn_nil];rfl
 | (x,k)::r,acc,h=>by
  have L:∀ x,(x,NameKind.free)∈r->∃ c,env.cells.lookup x=some c:=fun y O=>h y (yAK _ O)
  rw [List.forIn_cons,z]
  unfold closFrom
  split
  .rename_i hk
   have J:k=.free:=by simpa using hk
   subst J
   obtain ⟨c,hc⟩:=h x yAL
   have e:cellOf env x=(pure c:Sem Addr):=by unfold cellOf;rw [hc]
   rw [e,hc]
   exact ZBe f z r ((x,c)::acc) L
  .exact ZBe f z r acc L
theorem closureFor_eq {scope:Scope} {env:Env} (h:∀ x,(x,NameKind.free)∈scope.names->∃ c,env.cells.lookup x=some c):closureFor scope env=pure (closFrom env.cells scope.names []):=by
 simp only [closureFor]
 rw [ZBe _ (fun name kind cs=>by cases hk:kind == NameKind.free <;> simp [hk]) scope.names [] h]
 rfl
section
variable {M:Model} {A:Around} {E:Value->Shared->Prop} {s:Shared}
theorem newEnv_comp {scope:Scope} {globals:Addr} {cl:List (Str×Addr)} {qual:Str} {env:Env} {Q:Env->Shared->Prop}
  (z:Q { scope:=scope,locals:=s.heap.objs.size,globals:=globals,cells:=cellsFrom (s.heap.objs.size+1) scope.names cl,qual:=qual,func:=none,code:=env.code,frame:=env.frame,builtins:=env.builtins }
   { s with heap:=pushCells (s.heap.push { cls:=.type "dict",data:=.dict #[] }) scope.names }) :
  wpAny M A (newFunctionEnv scope globals cl [] qual none .none (some env)) Q E s:=by
 simp only [newFunctionEnv,Option.isSome_some,if_true]
 refine wpAny_bind (wpAny_alloc ?_)
 refine wpAny_bind (wpAny_layCells _ (fun name kind cells=>by cases hkc:kind == NameKind.cell <;> simp [hkc]) _ _ _ _ ?_)
 rw [show ({ s with heap:=s.heap.push { cls:=.type "dict",data:=.dict #[] } }:Shared).heap.objs.size=s.heap.objs.size+1 from Heap.size_push ..]
 rw [List.forIn_nil]
 exact wpAny_bind (wpAny_pure (wpAny_pure z))
end
theorem relabel_lookup {scope:Scope} {env:Env} (x:Str):(relabel scope env).names.lookup x=(scope.names.lookup x).map fun k=>if (k == .free && env.scope.kind == .function && env.kindOf x == some .cell)=true then NameKind.cell else k:=by
 unfold relabel
 dsimp only
 generalize scope.names=names
 induction names with
 | nil=>rfl
 | cons p r ih=>
  obtain ⟨n,k⟩:=p
  rw [yAU,yBA (as:=r)]
  cases hx:x == n with
  | true=>
   have e:x=n:=beq_iff_eq.mp hx
   subst e
   by_cases hc:(k == NameKind.free && env.scope.kind == .function && env.kindOf x == some .cell)=true
   .simp only [hc,if_true,yBA,hx,Option.map_some]
   .simp only [hc,yBJ,if_false,yBA,hx,Option.map_some]
  | false=>
   by_cases hc:(k == NameKind.free && env.scope.kind == .function && env.kindOf n == some .cell)=true
   .simp only [hc,if_true,yBA,hx];exact ih
   .simp only [hc,yBJ,if_false,yBA,hx];exact ih
noncomputable def ZCL (N:List Str) (osc:Scope) (k:Nat) (js:List Nat) (N':List Str) (sc:Scope):Bool :=
 decide (sc.kind=.function) && decide (N'.length=k+js.length) && decide N'.Nodup &&
 sc.names.all (fun p=>decide (sc.names.lookup p.1=some p.2) && (decide (p.2≠.free) || decide (osc.names.lookup p.1=some .cell) || decide (osc.names.lookup p.1=some .free))) &&
 (List.range js.length).all (fun i=>decide (js[i]?.bind (fun j=>N[j]?)=N'[k+i]?) && decide ((N'[k+i]?).bind (fun y=>sc.names.lookup y)=some .free))
structure CmpOk (N:List Str) (osc:Scope) (k:Nat) (js:List Nat) (N':List Str) (sc:Scope):Prop where
 kind:sc.kind=.function
 len:N'.length=k+js.length
 nd:N'.Nodup
 look:∀ p∈sc.names,sc.names.lookup p.1=some p.2
 fr:∀ y,(y,NameKind.free)∈sc.names->osc.names.lookup y=some .cell∨osc.names.lookup y=some .free
 js:∀ i j,js[i]?=some j->∃ y,N'[k+i]?=some y /\ N[j]?=some y /\ sc.names.lookup y=some .free
theorem cmpOk {N:List Str} {J:Scope} {k:Nat} {js:List Nat} {N':List Str} {sc:Scope} (h:ZCL N J k js N' sc=true):CmpOk N J k js N' sc:=by
 unfold ZCL at h
 simp only [Bool.and_eq_true,decide_eq_true_eq,List.all_eq_true,Bool.or_eq_true,List.mem_range] at h
 obtain ⟨⟨⟨⟨h1,h2⟩,h3⟩,O⟩,Z⟩:=h
 refine ⟨h1,h2,h3,fun p U=>(O p U).1,fun y Y=>?_,fun i j L=>?_⟩
 .rcases (O _ Y).2 with (z | z) | z
  .exact absurd rfl z
  .exact .inl z
  .exact .inr z
 .have hi:i < js.length:=(yAP.mp L).1
  obtain ⟨a,b⟩:=Z i hi
  rw [L] at a
  cases e:N'[k+i]? with
  | none=>rw [e] at b;cases b
  | some y=>
   rw [e] at a b
   exact ⟨y,rfl,a,b⟩
noncomputable def ZCx (scope:Scope) (cl:List (Str×Addr)) (C:Addr) (env:Env):Env :=
 { scope:=relabel scope env,locals:=C,globals:=env.globals,cells:=cellsFrom (C+1) scope.names cl,qual:=env.qual,func:=none,code:=env.code,frame:=env.frame,builtins:=env.builtins }
noncomputable def ZBc (X:Cx) (N':List Str) (scope:Scope) (C:Addr) (fp:List Addr) (s2:Shared) (H2:Hp):Cx where
 prog:=X.prog
 w:=X.w
 K:=X.K
 mg:=X.mg
 base:=X.base
 A:=X.A
 N:=N'
 s₀:=s2
 H₀:=H2
 env:=ZCx scope (closFrom X.env.cells scope.names []) C X.env
 outer:=X.stack
 stack:=X.stack
 ex:=fp
 fn:=fun x=>decide (scope.names.lookup x=some .cell)
 calm:=X.calm
 pn:=[]
 xe:=fun _ _=>False
noncomputable def up (k:Nat) (js:List Nat) (σ:St):St:=List.replicate k none++js.map fun j=>(σ[j]?).getD none
section
variable {X:Cx} {pins:List (Addr×Obj)} {σ:St} {H:Hp} {s2:Shared} {k:Nat} {js:List Nat} {N':List Str} {scope:Scope} {fp:List Addr}
theorem comp_inv (hc:CmpOk X.N X.env.scope k js N' scope) (I:Inv X pins σ H s2) (a0:∀ b∈fp,FpOk X pins H b) (a2:∀ b∈fp,b < s2.heap.objs.size) {h3:Heap} (hz:h3.objs.size=s2.heap.objs.size+1) (a7:∀ b o,s2.heap.get? b=some o->h3.get? b=some o) :
  Inv (ZBc X N' scope (s2.heap.objs.size+1) fp s2 H) [] (up k js σ) H { s2 with heap:=pushCells (h3.push { cls:=.type "dict",data:=.dict #[] }) scope.names }:=by
 have U:∀ y,(y,NameKind.free)∈scope.names->∃ c,X.env.cells.lookup y=some c:=fun y hy=>I.ok.has y (hc.fr y hy)
 have a1:=cellsFrom_ok scope.names (h3.push { cls:=.type "dict",data:=.dict #[] }) (s2.heap.objs.size+2) [] ⟨fun _ _ hm=>(nomatch hm),List.Pairwise.nil⟩ (by rw [Heap.size_push,hz];exact yAA _)
 rw [Heap.size_push,hz] at a1
 have J:∀ y c,(ZCx scope (closFrom X.env.cells scope.names []) (s2.heap.objs.size+1) X.env).cells.lookup y=some c ->
   ((y,c)∈cellsFrom (s2.heap.objs.size+2) scope.names [] /\ (y,NameKind.cell)∈scope.names /\ s2.heap.objs.size+2 <= c)∨((y,NameKind.free)∈scope.names /\ X.env.cells.lookup y=some c):=fun y c e=>by
  have m:=PySem.mem_of_lookup e
  change (y,c)∈cellsFrom (s2.heap.objs.size+1+1) scope.names _ at m
  rw [ZA5] at m
  rcases yAW.mp m with m | m
  .rcases ZBf _ _ _ _ _ m with z | ⟨z,l⟩
   .cases z
   .exact .inl ⟨m,z,l⟩
  .rcases ZBT _ _ _ _ m with z | ⟨z,l⟩
   .cases z
   .obtain ⟨c',e'⟩:=U y z
    rw [e'] at l
    exact .inr ⟨z,by rw [e'];exact congrArg some l.symm⟩
 have a4:∀ y c,X.env.cells.lookup y=some c->c < s2.heap.objs.size:=fun y c e=>by
  obtain ⟨v,q⟩:=I.cell y c e
  exact q.lt
 have O:∀ y,(y,NameKind.free)∈scope.names->∀ c,X.env.cells.lookup y=some c->(ZCx scope (closFrom X.env.cells scope.names []) (s2.heap.objs.size+1) X.env).cells.lookup y=some c:=fun y hy c e=>by
  have m:(y,c)∈cellsFrom (s2.heap.objs.size+1+1) scope.names (closFrom X.env.cells scope.names []):=by
   rw [ZA5]
   have q:=ZBU (cells:=X.env.cells) scope.names [] y hy
   rw [e] at q
   exact yAN _ q
  obtain ⟨c',q⟩:=ZBJ m
  rcases J y c' q with ⟨_,z,_⟩ | ⟨_,z⟩
  .have z1:=hc.look _ z
   have z2:=hc.look _ hy
   rw [z1] at z2
   cases z2
  .rw [e] at z
   cases z
   exact q
 have L:∀ b o,s2.heap.get? b=some o->(pushCells (h3.push { cls:=.type "dict",data:=.dict #[] }) scope.names).get? b=some o:=fun b o e=>pushCells_keeps _ _ b o (Heap.get?_push_of_some _ (a7 b o e))
 refine ⟨⟨I.ok.mod,hc.kind,I.ok.glob,I.ok.blt,yAR _,fun y z c h1 h2=>?_,fun y hy=>?_,fun y c h1 h2=>?_,I.ok.hd,I.ok.frames,.inl rfl,fun b hb=>⟨?_,fun y c e=>?_⟩,I.bs,yAD I.ok.bsz I.sz,fun b o e hb=>?_,fun b hb hs=>?_,I.stack,I.stkFree⟩,
  rfl,I.bare,Un.kept L,⟨fun _=>none,?_,fun i y v e1 e2 e3=>?_⟩,fun y c e=>?_,I.hok.fresh (yAR _),fun y c e=>?_,fun p hp=>absurd (show p∈([]:List (Addr×Obj)) from hp) (by simp),I.hok.kept L,?_⟩
 .
  rcases J y c h1 with ⟨a,_,l⟩ | ⟨_,a⟩ <;> rcases J z c h2 with ⟨b,_,l'⟩ | ⟨_,b⟩
  .exact name_of_addr a1.apart a b
  .have:=natlt (a4 z c b);omega
  .have:=natlt (a4 y c a);omega
  .exact I.ok.inj y z c a b
 .
  have Y:(relabel scope X.env).names.lookup y=some .cell∨(relabel scope X.env).names.lookup y=some .free:=hy
  rw [relabel_lookup] at Y
  have q:scope.names.lookup y=some .cell∨scope.names.lookup y=some .free:=by
   cases e:scope.names.lookup y with
   | none=>rw [e] at Y;rcases Y with z | z <;> cases z
   | some kk=>
    rw [e] at Y
    cases kk <;> first | exact .inl rfl | exact .inr rfl | (rcases Y with z | z <;> simp at z)
  rcases q with q | q
  .obtain ⟨c,e⟩:=ZCM (n:=s2.heap.objs.size+1+1) q
   have m:(y,c)∈cellsFrom (s2.heap.objs.size+1+1) scope.names (closFrom X.env.cells scope.names []):=by
    rw [ZA5]
    exact List.mem_append_left _ (PySem.mem_of_lookup e)
   exact ZBJ m
  .have m:=PySem.mem_of_lookup q
   obtain ⟨c,e⟩:=U y m
   exact ⟨c,O y m c e⟩
 .
  have a8:scope.names.lookup y=some .cell:=of_decide_eq_true h1
  rcases J y c h2 with ⟨_,_,l⟩ | ⟨z,_⟩
  .show s2.heap.objs.size <= c
   omega
  .have:=hc.look _ z
   rw [a8] at this
   cases this
 .
  exact ZCb (a2 b hb) (yAR _)
 .rcases J y c e with ⟨_,_,l⟩ | ⟨_,z⟩
  .exact (ZCb (a2 b hb) (yAD (Nat.le_add_right _ 2) l)).symm
  .exact (a0 b hb).2.2.2.2.1 y c z
 .
  rcases (a0 b hb).2.2.2.1 with z | z
  .exact I.ok.noex b o e z
  .exact absurd (yAC (Heap.lt_size e) (yAD I.ok.bsz z)) (yAV _)
 .
  rcases yAH.mp (I.stkSub b hs) with z | z
  .exact (a0 b hb).2.1 z
  .exact (a0 b hb).2.2.1 z
 .
  have q:=(Heap.Ns.new h3 (.type "dict")).keeps (pushCells_keeps scope.names _)
  rw [hz] at q
  exact q
 .
  unfold up at e2
  have a5:k <= i:=by
   by_cases hi:i < k
   .rw [yAY (by simpa using hi),yBI] at e2
    rw [if_pos hi] at e2
    cases e2
   .omega
  rw [yAX (by simpa using a5),yAG,yAS] at e2
  cases ej:js[i-k]? with
  | none=>rw [ej] at e2;cases e2
  | some j=>
   rw [ej] at e2
   have Z:(σ[j]?).getD none=some v:=Option.some.inj e2
   have e4:σ[j]?=some (some v):=by
    cases q:σ[j]? with
    | none=>rw [q] at Z;cases Z
    | some z=>rw [q] at Z;exact congrArg some Z
   obtain ⟨y',n1,n2,n3⟩:=hc.js _ _ ej
   rw [Nat.add_sub_cancel' a5] at n1
   have n0:N'[i]?=some y:=e1
   rw [n1] at n0
   cases n0
   have hm:=PySem.mem_of_lookup n3
   have a3:Vis X.env.scope y:=.inr (hc.fr y hm)
   obtain ⟨m,hn,hl⟩:=I.loc
   obtain ⟨u,r,l⟩:=hl j y v n2 e4 a3
   refine ⟨u,r,?_⟩
   rcases l with ⟨kk,_⟩ | ⟨kk,c,ec,ic⟩
   .have a6:X.env.scope.names.lookup y=some .local:=kk
    rcases hc.fr y hm with z | z <;> (rw [a6] at z;cases z)
   .refine .inr ⟨?_,c,O y hm c ec,ic.keeps L⟩
    show (relabel scope X.env).names.lookup y=some .cell∨(relabel scope X.env).names.lookup y=some .free
    rw [relabel_lookup,n3]
    simp only [Option.map_some]
    split
    .exact .inl rfl
    .exact .inr rfl
 .
  rcases J y c e with ⟨a,_,_⟩ | ⟨_,a⟩
  .exact ⟨none,(a1.empty y c a).1⟩
  .obtain ⟨v,q⟩:=I.cell y c a
   exact ⟨v,q.keeps L⟩
 .rcases J y c e with ⟨_,_,l⟩ | ⟨_,a⟩
  .exact I.hok.fresh (by omega)
  .exact I.freeC y c a
 .unfold up
  show _=N'.length
  rw [yAI,yAG,yAF,hc.len]
theorem comp_end {a4:St} {H':Hp} {s':Shared} {C D:Addr} {its:List Value} {n:Nat} {ys:List V} (I:Inv X pins σ H s2) (a5:∀ b∈fp,FpOk X pins H b) (hC:s2.heap.objs.size <= C) (hD:s2.heap.objs.size <= D) (a2:D≠C)
  (U:Inv (ZBc X N' scope C fp s2 H) [(D,{ cls:=.type "list",data:=.seq its.toArray n })] a4 H' s') (hv:Vals ys its) (hz:ys.length <= sizeLine) :
  H' D=none /\ ∀ h',Heap.SameBut C s'.heap h'->Inv X pins σ (upd H' D (.lst ys)) { s' with heap:=h' }:=by
 obtain ⟨eD,nD,_,_,_⟩:=U.pin (D,{ cls:=.type "list",data:=.seq its.toArray n }) (yAN _ yAL)
 dsimp only at eD nD
 have nC:H' C=none:=U.free
 refine ⟨nD,fun h' Y=>?_⟩
 have L:∀ b o,s2.heap.get? b=some o->b≠C:=fun b o e=>ZCb (Heap.lt_size e) hC
 have a3:∀ b o,s2.heap.get? b=some o->b≠D:=fun b o e=>ZCb (Heap.lt_size e) hD
 have Z:∀ b u,H' b=some u->b≠D:=fun b u e z=>by rw [z,nD] at e;cases e
 have a0:∀ b u,H' b=some u->b≠C:=fun b u e z=>by rw [z,nC] at e;cases e
 have B:=U.base
 refine I.call' (s':={ s' with heap:=h' }) (ch:=fp) U.os ⟨fun b o e nn J hx=>?_,fun b o e nn J hx=>?_,fun b o e nn hx=>?_,fun b o e hx=>?_,fun b xs e=>?_,fun b o u e=>?_,fun b ps e=>?_⟩ (fun b u e=>?_) U.bare fun b J=>?_
 .exact (Y.2 b (L b o e)).trans (B.keep b o e nn J hx)
 .obtain ⟨sl,q⟩:=B.slot b o e nn J hx
  exact ⟨sl,(Y.2 b (L b o e)).trans q⟩
 .rw [ZAH (a3 b o e)]
  exact B.free b o e nn hx
 .obtain ⟨o',q⟩:=B.there b o e hx
  exact ⟨o',(Y.2 b (L b o e)).trans q⟩
 .have q:=B.tups b xs e
  rw [ZAH (Z b _ q)]
  exact q
 .have q:=B.frzs b o u e
  rw [ZAH (Z b _ q)]
  exact q
 .obtain ⟨a1,q⟩:=B.tbls b ps e
  exact ⟨a1,by rw [ZAH (Z b _ q)];exact q⟩
 .by_cases J:b=D
  .subst J
   rw [ZAE] at e
   cases e
   exact ⟨hz,its,n,hv,(Y.2 b a2).trans eD⟩
  .rw [ZAH J] at e
   refine (U.hok b u e).stay (fun c v O q=>(Y.2 c ?_).trans q) (fun c q=>by rw [ZAH (Z c _ q)];exact q) fun c xs q=>by rw [ZAH (Z c _ q)];exact q
   rcases O with rfl | O
   .exact a0 c _ e
   .exact a0 c _ O
 .obtain ⟨_,f1,_,f3,f4,f5⟩:=a5 b J
  exact ⟨f3,f1,f4,f5⟩
end
section
variable {prog:Program} {w:World} {A:Around} {R:Result->Shared->Prop} {s:Shared}
theorem codeAny_compLoop_any {elt z iter:Expr} {ifs:List Expr} {scope:Scope} {pos:Pos} {it a1:Value} {env:Env} (I:Nat->Shared->Prop)
  (a4:∀ n s,I n s->wpAny (model prog w) A (pyNext it) (fun r s₁=>match r with
   | none=>R (.ok .next) s₁
   | some v=>wpAny (model prog w) A (letOwnedTupleGo z it v) (fun _ L=>wpAny (model prog w) A (assign z env v) (fun _ Z=>
     wpAny (model prog w) A (forIn ifs true fun c r=>if r=true then do let ok <- isTrue c env (eval c env);pure (ForInStep.yield ok) else pure (ForInStep.yield r)) (fun ok J=>
      if ok=true then wpAny (model prog w) A (eval elt env) (fun x Y=>
       wpAny (model prog w) A (call (.builtin "list.append") [a1,x]) (fun _ O=>∃ m,m < n /\ I m O) (notedBy (model prog w) A env fun e s'=>R (.error e) s') Y) (notedBy (model prog w) A env fun e s'=>R (.error e) s') J
      else ∃ m,m < n /\ I m J) (notedBy (model prog w) A env fun e s'=>R (.error e) s') Z) (notedBy (model prog w) A env fun e s'=>R (.error e) s') L) (notedBy (model prog w) A env fun e s'=>R (.error e) s') s₁) (notedBy (model prog w) A env fun e s'=>R (.error e) s') s)
  (n:Nat) (h:I n s) :
  codeAny (model prog w) A (.compLoop (.ListComp elt [⟨z,iter,ifs,0⟩] scope pos) 0 it a1 env) R s:=by
 refine codeAny_loop rfl I (fun n s hI=>?_) n h
 show wpAny _ A ((compTurn (.ListComp elt [⟨z,iter,ifs,0⟩] scope pos) 0 it a1 env).onRaise (fun x=>do noteFrame x env;theTreesLotGoes x)) _ _ s
 refine wpAny_noted ?_
 rw [compTurn_list]
 refine wpAny_bind (wpAny_standAt (wpAny_bind (wpAny_mono (a4 n s hI) (fun r s₁ h₁=>?_) fun _ _ h'=>h')))
 cases r with
 | none=>exact wpAny_pure h₁
 | some v=>
  refine wpAny_bind (wpAny_mono h₁ (fun _ L a0=>?_) fun _ _ h'=>h')
  refine wpAny_bind (wpAny_mono a0 (fun _ Z a3=>wpAny_bind (wpAny_mono a3 (fun ok J U=>?_) fun _ _ h'=>h')) fun _ _ h'=>h')
  cases ok with
  | false=>exact wpAny_pure ⟨rfl,U⟩
  | true=>exact wpAny_bind (wpAny_bind (wpAny_mono U (fun x Y a2=>wpAny_bind (wpAny_mono a2 (fun _ O a5=>wpAny_pure (wpAny_pure ⟨rfl,a5⟩)) fun _ _ h'=>h')) fun _ _ h'=>h'))
end
noncomputable def PIfs (X:Cx) (ifs:List Expr) (t:TT):Prop :=
 ∀ (pins:List (Addr×Obj)) (s:Shared) (σ:St) (H:Hp) (Q:Bool->Hp->Prop),Inv X pins σ H s->t σ H Q ->
  wpAny (model X.prog X.w) X.A (forIn ifs true fun c r=>if r=true then do let ok <- isTrue c X.env (eval c X.env);pure (ForInStep.yield ok) else pure (ForInStep.yield r)) (TP X pins σ Q) X.xe s
noncomputable def tYes:TT:=fun _ H Q=>Q true H
theorem ZBr {X:Cx}:PIfs X [] tYes:=fun _ _ _ H _ I h=>wpAny_tests_nil ⟨H,I,h⟩
theorem pifs_one {X:Cx} {c:Expr} {t:TT} (hc:PT X c t):PIfs X [c] t:=fun pins s σ H Q I h=>wpAny_tests_one (hc pins s σ H Q I h)
noncomputable def ZDA (k:Nat) (js:List Nat) (wi:TI) (g:TG) (tt:TT) (te:TE):TE:=fun σ H Q=>wi σ H fun J H1=>∃ W:Nat->Nat->List V->St->Hp->Prop,(∃ m,W 0 m [] (up k js σ) H1) /\ ∀ i m ys σ H,W i m ys σ H ->
 (J.stop i H /\ ys.length <= sizeLine /\ ∀ p,H p=none->Q (.ref p) (upd H p (.lst ys))) ∨
 (J.go i H /\ ys.length < sizeLine /\ ∀ x H',J.yld i H x H'->g x σ H' fun σ2 H2=>tt σ2 H2 fun b H3=>if b=true then te σ2 H3 fun y H4=>∃ m',m' < m /\ W (i+1) m' (ys++[y]) σ2 H4 else ∃ m',m' < m /\ W (i+1) m' ys σ2 H3)
section
variable {X:Cx} {k:Nat} {js:List Nat} {N':List Str} {scope:Scope} {tg iter elt:Expr} {ifs:List Expr} {wi:TI} {g:TG} {tt:TT} {te:TE} {pos:Pos}
theorem comp_core {use:Option (Value->Sem Unit)} {Q':Value->Shared->Prop} (ag:X.calm=true) (hc:CmpOk X.N X.env.scope k js N' scope) (hi:PI X tg iter wi)
  (hg:∀ C fp s2 H2,PG (ZBc X N' scope C fp s2 H2) tg g) (ht:∀ C fp s2 H2,PIfs (ZBc X N' scope C fp s2 H2) ifs tt) (he:∀ C fp s2 H2,PE (ZBc X N' scope C fp s2 H2) elt te)
  {pins:List (Addr×Obj)} {s:Shared} {σ:St} {H:Hp} {Q:VK} (I:Inv X pins σ H s) (h:ZDA k js wi g tt te σ H Q)
  (ba:∀ (C D:Addr) (s':Shared) (m:Str->Option Value) (H':Hp) (ys:List V),s'.heap.Ns C m->C≠X.env.locals->C∉X.fs->D≠C->H' C=none->X.s₀.heap.objs.size <= C->(∀ x c,X.env.cells.lookup x=some c->c≠C)->(∀ p∈X.pn++pins,p.1≠C)->(∀ h',Heap.SameBut C s'.heap h'->Inv X pins σ (upd H' D (.lst ys)) { s' with heap:=h' })->Q (.ref D) (upd H' D (.lst ys)) ->
   compPost (model X.prog X.w) X.A X.xe use Q' (.ref D) C (.ok .next) s')
  (hs:∀ x,foldedSetIterable iter X.env x=pure x) (p':Pos) :
  wpAny (model X.prog X.w) X.A (comprehension (.ListComp elt [⟨tg,iter,ifs,0⟩] scope pos) scope X.env p' (newList []) false (eval iter X.env) use) Q' X.xe s:=by
 have ad:closureFor scope X.env=pure (closFrom X.env.cells scope.names []):=closureFor_eq fun y hy=>I.ok.has y (hc.fr y hy)
 refine wpAny_comprehension_free (g:=⟨tg,iter,ifs,0⟩) (gs:=[]) rfl hs ad hc.kind (fun x hx hl=>by rw [hc.look x hx,hl]) ?_
 refine thn (hi pins s σ H _ I h) fun v s1 h1=>thn h1 fun bg s2 h2=>?_
 obtain ⟨it,fp,tn,J,H2,e,Z,T,ac,f2,W,⟨m0,w0⟩,b0⟩:=h2
 subst e
 have ai:∀ b∈fp,b < s2.heap.objs.size:=fun b U=>by
  obtain ⟨o,e,_⟩:=T.obj _ _ ac b U
  exact Heap.lt_size e
 refine wpAny_newObj_type (newEnv_comp ?_)
 have b1:(s2.heap.push { cls:=.type "list",dict:=none,data:=.seq ([]:List Value).toArray }).objs.size=s2.heap.objs.size+1:=Heap.size_push ..
 have I3:=comp_inv (h3:=s2.heap.push { cls:=.type "list",dict:=none,data:=.seq ([]:List Value).toArray }) hc Z f2 ai b1 (fun b o e=>Heap.get?_push_of_some _ e)
 dsimp only
 rw [b1]
 generalize hS4:({ s2 with heap:=pushCells ((s2.heap.push { cls:=.type "list",dict:=none,data:=.seq ([]:List Value).toArray }).push { cls:=.type "dict",data:=.dict #[] }) scope.names }:Shared)=s4 at I3 ⊢
 have a5:∀ b o,s2.heap.get? b=some o->s4.heap.get? b=some o:=fun b o e=>by
  rw [<- hS4]
  exact pushCells_keeps _ _ b o (Heap.get?_push_of_some _ (Heap.get?_push_of_some _ e))
 have aw:s4.heap.get? s2.heap.objs.size=some { cls:=.type "list",data:=.seq ([]:List Value).toArray 0 }:=by
  rw [<- hS4]
  exact pushCells_keeps _ _ _ _ (Heap.get?_push_of_some _ (Heap.get?_push_size _ rfl))
 generalize hX':ZBc X N' scope (s2.heap.objs.size+1) fp s2 H2=X' at I3
 have a0:X'.env.locals=s2.heap.objs.size+1:=by rw [<- hX'];rfl
 have a9:X'.fs=frs X.stack:=by rw [<- hX'];rfl
 have ae:∀ a,s2.heap.objs.size <= a->a∉frs X.stack:=fun a ha U=>by
  rcases yAH.mp (Z.stkSub a U) with z | z
  .exact absurd z.symm (ZCb Z.lt ha)
  .exact Z.nofs ha z
 have aj:∀ x c,X'.env.cells.lookup x=some c->c≠s2.heap.objs.size:=fun x c e z=>by
  obtain ⟨v,o,ho,hd⟩:=I3.cell x c e
  rw [z,aw] at ho
  cases ho
  cases hd
 have a8:∀ {L:St} {H':Hp} {s':Shared} {its:List Value} {n:Nat},Inv X' [] L H' s'->s'.heap.get? s2.heap.objs.size=some { cls:=.type "list",data:=.seq its.toArray n }->H' s2.heap.objs.size=none ->
   Inv X' [(s2.heap.objs.size,{ cls:=.type "list",data:=.seq its.toArray n })] L H' s':=fun {L H' s' its n} J e nn=>J.pins_of fun p hp=>by
  have e':p=(s2.heap.objs.size,{ cls:=.type "list",data:=.seq its.toArray n }):=by simpa using hp
  subst e'
  refine ⟨e,nn,?_,?_,fun v z=>nomatch z⟩
  .rw [a0];exact yAB (yBF _)
  .rw [a9];exact ae _ (yAA _)
 have I4:=a8 I3 aw (Z.hok.fresh (yAA _))
 have a6:∀ {H':Hp} {o:Obj},(∀ b∈fp,H' b=none)->∀ b∈fp,FpOk X' [(s2.heap.objs.size,o)] H' b:=fun {H' o} hn b U=>by
  have ap:=ai b U
  refine ⟨hn b U,?_,?_,.inl (by rw [<- hX'];exact U),fun x c e z=>?_,fun p hp z=>?_⟩
  .rw [a0];exact ZCb ap (yAR _)
  .rw [a9]
   intro z
   rcases yAH.mp (Z.stkSub b z) with q | q
   .exact (f2 b U).2.1 q
   .exact (f2 b U).2.2.1 q
  .have q:=I3.ok.exf b (by rw [<- hX'];exact U)
   exact q.2 x c e z
  .rw [show X'.pn=[] by rw [<- hX'];rfl] at hp
   have e':p=(s2.heap.objs.size,o):=by simpa using hp
   subst e'
   exact absurd ap (by rw [<- z];exact yAV _)
 have az:∀ {L:St} {H':Hp} {s':Shared} {its:List Value} {n:Nat} {ys:List V},Inv X' [(s2.heap.objs.size,{ cls:=.type "list",data:=.seq its.toArray n })] L H' s'->Vals ys its->ys.length <= sizeLine->(∀ p,H' p=none->Q (.ref p) (upd H' p (.lst ys))) ->
   compPost (model X.prog X.w) X.A X.xe use Q' (.ref s2.heap.objs.size) (s2.heap.objs.size+1) (.ok .next) s':=fun {L H' s' its n ys} J hv hz hq=>by
  obtain ⟨m,hn,_⟩:=id J.loc
  rw [a0] at hn
  have nC:H' (s2.heap.objs.size+1)=none:=by rw [<- a0];exact J.free
  have J':Inv (ZBc X N' scope (s2.heap.objs.size+1) fp s2 H2) [(s2.heap.objs.size,{ cls:=.type "list",data:=.seq its.toArray n })] L H' s':=by rw [hX'];exact J
  obtain ⟨nD,E⟩:=comp_end Z f2 (yAR _) (yAA _) (yAB (yBF _)) J' hv hz
  refine ba _ _ s' m H' ys hn ?_ (Z.nofs (yAR _)) (yAB (yBF _)) nC (yAD Z.sz (yAR _)) (fun x c e z=>?_) (fun p hp z=>?_) E (hq _ nD)
  .exact (ZCb Z.lt (yAR _)).symm
  .obtain ⟨v,q⟩:=Z.cell x c e
   exact absurd z (ZCb q.lt (yAR _))
  .exact absurd z (ZCb (Heap.lt_size (Z.pin p hp).1) (yAR _))
 have O:X'.prog=X.prog:=by rw [<- hX'];rfl
 have hw:X'.w=X.w:=by rw [<- hX'];rfl
 have hK:X'.K=X.K:=by rw [<- hX'];rfl
 have Y:X'.calm=true:=by rw [<- hX'];exact ag
 have hA:X'.A=X.A:=by rw [<- hX'];rfl
 have ax:ZCx scope (closFrom X.env.cells scope.names []) (s2.heap.objs.size+1) X.env=X'.env:=by rw [<- hX'];rfl
 have aq:=hg (s2.heap.objs.size+1) fp s2 H2
 have am:=ht (s2.heap.objs.size+1) fp s2 H2
 have ak:=he (s2.heap.objs.size+1) fp s2 H2
 rw [hX'] at aq am ak
 have ah:∀ e s',X'.xe e s'->False:=fun e s' z=>by rw [<- hX'] at z;exact z
 have bd:X'.pn=[]:=by rw [<- hX'];rfl
 have b4:X'.s₀.heap.objs.size=s2.heap.objs.size:=by rw [<- hX'];rfl
 have aa:codeAny (model X.prog X.w) X.A (.compLoop (.ListComp elt [⟨tg,iter,ifs,0⟩] scope pos) 0 (.ref it) (.ref s2.heap.objs.size) X'.env) (compPost (model X.prog X.w) X.A X.xe use Q' (.ref s2.heap.objs.size) (s2.heap.objs.size+1)) s4:=by
  refine codeAny_compLoop_any (fun n s'=>∃ i L H' its nn ys,Inv X' [(s2.heap.objs.size,{ cls:=.type "list",data:=.seq its.toArray nn })] L H' s' /\ tn i s'.heap /\ (∀ b∈fp,H' b=none) /\ Vals ys its /\ W i n ys L H') ?_ m0
   ⟨0,_,H2,[],0,[],I4,T.keep _ _ _ ac (fun b _ o e=>a5 b o e),fun b U=>(f2 b U).1,.nil,w0⟩
  rintro n s5 ⟨i,a7,H5,its,nn,ys,I5,an,av,hv,w5⟩
  rcases b0 i n ys a7 H5 w5 with ⟨ay,hz,hq⟩ | ⟨go,hz,step⟩
  .have d:=T.done X' O hw hK Y i _ s5 a7 H5 (fun _ _=>False) I5 (a6 av) an ay
   rw [hA] at d
   refine wpAny_mono d (fun r s6 ⟨hr,I6⟩=>?_) fun _ _ z=>z.elim
   subst hr
   exact az I6 hv hz hq
  .have d:=T.item X' O hw hK Y i _ s5 a7 H5 (fun _ _=>False) I5 (a6 av) an go
   rw [hA] at d
   refine wpAny_mono d (fun r s6 ⟨u,hr,h6⟩=>?_) fun _ _ z=>z.elim
   subst hr
   refine wpAny_mono h6 (fun _ s7 zz=>?_) fun _ _ z=>z.elim
   obtain ⟨x,H7,I7,r7,y7,af,b6⟩:=zz
   have bb:=I7.pinned (a6 b6) (T.obj _ _ af)
   have a1:=aq _ s7 a7 H7 x u _ bb r7 (step x H7 y7)
   rw [O,hw,hA] at a1
   refine wpAny_mono a1 (fun _ s8 zz=>?_) fun _ _ z=>(ah _ _ z).elim
   obtain ⟨a4,H8,I8,q8⟩:=zz
   have a2:=am _ s8 a4 H8 _ I8 q8
   rw [O,hw,hA] at a2
   refine wpAny_mono a2 (fun ok s9 ⟨H9,I9,q9⟩=>?_) fun _ _ z=>(ah _ _ z).elim
   have back:∀ {L:St} {H':Hp} {s':Shared},Inv X' ([(s2.heap.objs.size,({ cls:=.type "list",data:=.seq its.toArray nn }:Obj))]++ZCz fp s7.heap) L H' s'->tn (i+1) s'.heap /\ (∀ b∈fp,H' b=none):=fun {L H' s'} J=>by
    refine ⟨T.keep _ _ _ af fun b U o e=>(J.pin (b,o) (yAN _ (yAN _ (ZBt U e)))).1,fun b U=>?_⟩
    obtain ⟨o,e,d⟩:=T.obj _ _ af b U
    exact (J.pin (b,o) (yAN _ (yAN _ (ZBt U e)))).2.1
   cases ok with
   | false=>
    rw [if_neg yAE] at q9 ⊢
    obtain ⟨m',hm,w9⟩:=q9
    obtain ⟨t9,f9⟩:=back I9
    exact ⟨m',hm,i+1,a4,H9,its,nn,ys,I9.unpinned,t9,f9,hv,w9⟩
   | true=>
    rw [if_pos rfl] at q9 ⊢
    have a3:=ak _ s9 a4 H9 _ I9 q9
    rw [O,hw,hA] at a3
    refine wpAny_mono a3 (fun uy s10 zz=>?_) fun _ _ z=>(ah _ _ z).elim
    obtain ⟨y,ar,al,b5,m',hm,bf⟩:=zz
    obtain ⟨b7,b9⟩:=back al
    have b2:=al.unpinned
    obtain ⟨eD,nD,_,_,_⟩:=b2.pin (s2.heap.objs.size,{ cls:=.type "list",data:=.seq its.toArray nn }) (yAN _ yAL)
    dsimp only at eD nD
    have bh:its.length < sizeLine:=by rw [<- hv.length];exact hz
    refine wpAny_list_append_plain ⟨nn,eD⟩ (fun h' be ao=>?_) (by rw [yAJ];omega)
    obtain ⟨n',e'⟩:=be
    have b3:h'.get? s2.heap.objs.size=some { cls:=.type "list",data:=.seq (its++[uy]).toArray n' }:=by rw [e'];simp
    have bc:Inv X' [] a4 ar s10:=b2.pins_of fun p hp=>absurd hp (by simp)
    have b8:=bc.turned (h':=h') (t':=s10.toks) (it:=s2.heap.objs.size) (fun b o U e=>(ao.2 b U).trans e) nD (by rw [a0];exact yAB (yBF _)) (.inr (by rw [b4];exact yAA _)) aj (fun p hp=>absurd hp (by rw [bd];simp))
    refine ⟨m',hm,i+1,a4,ar,its++[uy],n',ys++[y],a8 b8 b3 nD,T.keep _ _ _ b7 fun b U o e=>?_,b9,hv.append (.cons b5 .nil),bf⟩
    exact (ao.2 b (ZCb (ai b U) (yAA _))).trans e
 have au:codeAny (model X.prog X.w) X.A (.compStart (.ListComp elt [⟨tg,iter,ifs,0⟩] scope pos) 0 (.ref it) (.ref s2.heap.objs.size) X'.env) (compPost (model X.prog X.w) X.A X.xe use Q' (.ref s2.heap.objs.size) (s2.heap.objs.size+1)) s4 :=
  codeAny_compStart_list aa (T.self X.A 0 s4 _ _ (T.keep _ _ _ ac (fun b _ o e=>a5 b o e)) aa)
 rw [<- ax] at au
 exact au
theorem ZCW (z:X.calm=true) (hc:ZCL X.N X.env.scope k js N' scope=true) (hi:PI X tg iter wi)
  (O:∀ C fp s2 H2,PG (ZBc X N' scope C fp s2 H2) tg g) (U:∀ C fp s2 H2,PIfs (ZBc X N' scope C fp s2 H2) ifs tt) (Y:∀ C fp s2 H2,PE (ZBc X N' scope C fp s2 H2) elt te)
  (L:∀ x,foldedSetIterable iter X.env x=pure x:=by intro _;rfl):PE X (.ListComp elt [⟨tg,iter,ifs,0⟩] scope pos) (ZDA k js wi g tt te):=by
 intro pins s σ H Q I h
 rw [eval_ListComp]
 refine comp_core (use:=none) z (cmpOk hc) hi O U Y I h (fun C D s' m H' ys hn _ _ _ _ _ _ _ E q=>?_) L _
 exact ⟨m,hn,fun h' J=>⟨.ref D,_,E h' J,rfl,q⟩⟩
theorem ZCF {i:Nat} {x:Str} {Y O:Pos} (hN:X.N.Nodup) (a1:X.N[i]?=some x) (hx:Loc X.env.scope x) (U:X.calm=true) (hc:ZCL X.N X.env.scope k js N' scope=true) (hi:PI X tg iter wi)
  (hg:∀ C fp s2 H2,PG (ZBc X N' scope C fp s2 H2) tg g) (ht:∀ C fp s2 H2,PIfs (ZBc X N' scope C fp s2 H2) ifs tt) (he:∀ C fp s2 H2,PE (ZBc X N' scope C fp s2 H2) elt te)
  (hs:∀ x,foldedSetIterable iter X.env x=pure x:=by intro _;rfl) (a2:swapsWith (.ListComp elt [⟨tg,iter,ifs,0⟩] scope pos) (some (.Name x Y)) O.line X.env=pure true:=by rfl)
  (hf:X.fn x=true∨X.env.scope.names.lookup x=some .local:=by first | exact .inl rfl | exact .inr rfl | assumption) :
  PS X (.Assign [.Name x Y] (.ListComp elt [⟨tg,iter,ifs,0⟩] scope pos) O) (tAsg (ZDA k js wi g tt te) (ZDl i)):=by
 intro pins s σ H D I h
 rw [exec_Assign_Name_used _ _ _ _ a2]
 refine wpAny_bind (wpAny_standAt (wpAny_bind ?_))
 show wpAny _ X.A (do let _ <- comprehension (.ListComp elt [⟨tg,iter,ifs,0⟩] scope pos) scope X.env _ (newList []) false (eval iter X.env) (some (assign (.Name x Y) X.env))) _ _ s
 refine wpAny_bind (wpAny_mono (comp_core (use:=some (assign (.Name x Y) X.env)) (Q':=fun _ s'=>SP X pins D .next s') U (cmpOk hc) hi hg ht he I h (fun C Z s' m H' ys hn c1 c2 c3 c4 c5 c6 c7 E q=>?_) hs _) (fun _ s' hq=>wpAny_pure (wpAny_pure hq)) fun _ _ e=>e)
 have J:=E s'.heap (.refl ..)
 obtain ⟨oC,es,ep,eC,dC,rC⟩:=id hn
 have J':Inv X (pins++[(C,oC)]) σ (upd H' Z (.lst ys)) s':=J.pins_of fun p hp=>by
  rcases yAW.mp hp with z | z
  .exact J.pin p (yAN _ z)
  .have e':p=(C,oC):=by simpa using z
   subst e'
   refine ⟨eC,?_,c1,c2,fun v z=>?_⟩
   .show upd H' Z _ C=none
    rw [ZAH (Ne.symm c3)]
    exact c4
   .have z':oC.data=.cell v:=z
    rw [dC] at z'
    cases z'
 show wpAny _ X.A (assign (.Name x Y) X.env (.ref Z)) _ _ _
 refine wpAny_assign_Name (ZCJ (Q:=fun _ L=>∃ m,L.heap.Ns C m /\ ∀ h',Heap.SameBut C L.heap h'->SP X pins D .next { L with heap:=h' }) J' hN a1 hx (v:=.ref Z) (u:=.ref Z) rfl (fun L K'=>?_) hf)
 obtain ⟨e2,n2,_,_,_⟩:=K'.pin (C,oC) (yAN _ (yAN _ yAL))
 dsimp only at e2 n2
 refine ⟨m,⟨oC,es,ep,e2,dC,rC⟩,fun h' a0=>⟨_,_,K'.unpinned.turned (it:=C) (t':=L.toks) (fun b o hb e=>(a0.2 b hb).trans e) n2 c1 (.inr c5) c6 c7,q⟩⟩
end
mutual
noncomputable def Dp (K:W.Frag) (H:Hp):PyData->V->Prop
 | .none,v=>v=.non
 | .bool b,v=>v=.bl b
 | .int i,v=>v=.int i
 | .str x,v=>v=.str x
 | .list ds,v=>∃ a xs,v=.ref a /\ SqL K H a xs /\ DpAll K H ds xs
 | .tuple ds,v=>∃ a xs,v=.ref a /\ SqT K H a xs /\ DpAll K H ds xs
 | .dict _,_=>False
noncomputable def DpAll (K:W.Frag) (H:Hp):List PyData->List V->Prop
 | [],vs=>vs=[]
 | d::ds,vs=>∃ v r,vs=v::r /\ Dp K H d v /\ DpAll K H ds r
end
theorem Same.seqT {K:W.Frag} {H H':Hp} {a:Addr} {xs:List V} (e:Same H H') (h:SqT K H a xs):SqT K H' a xs:=by
 rcases h with (h | ⟨o,h⟩) | h
 .exact .inl (.inl (e _ _ h))
 .exact .inl (.inr ⟨o,e _ _ h⟩)
 .exact .inr h
mutual
theorem Dp.mono {K:W.Frag} {H H':Hp} (e:Same H H'):∀ {d:PyData} {v:V},Dp K H d v->Dp K H' d v
 | .none,_,h=>h
 | .bool _,_,h=>h
 | .int _,_,h=>h
 | .str _,_,h=>h
 | .list ds,_,h=>by
  unfold Dp at h ⊢
  obtain ⟨a,xs,r,q,t⟩:=h
  exact ⟨a,xs,r,e.seq q,DpAll.mono e t⟩
 | .tuple ds,_,h=>by
  unfold Dp at h ⊢
  obtain ⟨a,xs,r,q,t⟩:=h
  exact ⟨a,xs,r,e.seqT q,DpAll.mono e t⟩
 | .dict _,_,h=>by unfold Dp at h;exact h.elim
theorem DpAll.mono {K:W.Frag} {H H':Hp} (e:Same H H'):∀ {ds:List PyData} {vs:List V},DpAll K H ds vs->DpAll K H' ds vs
 | [],_,h=>h
 | _::_,_,h=>by
  unfold DpAll at h ⊢
  obtain ⟨v,r,q,a,t⟩:=h
  exact ⟨v,r,q,Dp.mono e a,DpAll.mono e t⟩
end
theorem DpAll.length {K:W.Frag} {H:Hp}:∀ {ds:List PyData} {vs:List V},DpAll K H ds vs->vs.length=ds.length
 | [],_,h=>by unfold DpAll at h;subst h;rfl
 | _::_,_,h=>by
  unfold DpAll at h
  obtain ⟨v,r,q,a,t⟩:=h
  subst q
  rw [yAT,yAT,DpAll.length t]
theorem DpAll.get {K:W.Frag} {H:Hp}:∀ {ds:List PyData} {vs:List V} {i:Nat} {d:PyData},DpAll K H ds vs->ds[i]?=some d->∃ v,vs[i]?=some v /\ Dp K H d v
 | [],_,_,_,_,e=>by simp at e
 | _::_,_,0,_,h,e=>by
  unfold DpAll at h
  obtain ⟨v,r,q,a,t⟩:=h
  subst q
  simp at e
  subst e
  exact ⟨v,rfl,a⟩
 | _::_,_,i+1,_,h,e=>by
  unfold DpAll at h
  obtain ⟨v,r,q,a,t⟩:=h
  subst q
  simp at e
  obtain ⟨u,h1,h2⟩:=DpAll.get t e
  exact ⟨u,by simpa using h1,h2⟩
theorem DpAll.of_get {K:W.Frag} {H:Hp} {ds:List PyData} {vs:List V} {i:Nat} {v:V} (h:DpAll K H ds vs) (e:vs[i]?=some v):∃ d,ds[i]?=some d /\ Dp K H d v:=by
 have hi:i < ds.length:=by rw [<- h.length];exact (yAP.mp e).1
 obtain ⟨u,h1,h2⟩:=h.get (yBB hi)
 rw [e] at h1
 cases h1
 exact ⟨_,yBB hi,h2⟩
theorem DpAll.append {K:W.Frag} {H:Hp}:∀ {ds es:List PyData} {vs us:List V},DpAll K H ds vs->DpAll K H es us->DpAll K H (ds++es) (vs++us)
 | [],_,_,_,h,k=>by unfold DpAll at h;subst h;exact k
 | _::_,_,_,_,h,k=>by
  unfold DpAll at h
  obtain ⟨v,r,q,a,t⟩:=h
  subst q
  exact (show DpAll K H (_::_) (_::_) by unfold DpAll;exact ⟨v,_,rfl,a,DpAll.append t k⟩)
theorem DpAll.nil {K:W.Frag} {H:Hp}:DpAll K H [] []:=by unfold DpAll;rfl
theorem DpAll.cons {K:W.Frag} {H:Hp} {d:PyData} {ds:List PyData} {v:V} {vs:List V} (a:Dp K H d v) (t:DpAll K H ds vs):DpAll K H (d::ds) (v::vs):=by unfold DpAll;exact ⟨v,vs,rfl,a,t⟩
theorem DpAll.snoc {K:W.Frag} {H:Hp} {d:PyData} {ds:List PyData} {v:V} {vs:List V} (t:DpAll K H ds vs) (a:Dp K H d v):DpAll K H (ds++[d]) (vs++[v]):=t.append (.cons a .nil)
theorem DpAll.one {K:W.Frag} {H:Hp} {d:PyData} {v:V} (a:Dp K H d v):DpAll K H [d] [v]:=.cons a .nil
theorem DpAll.two {K:W.Frag} {H:Hp} {d e:PyData} {v u:V} (a:Dp K H d v) (b:Dp K H e u):DpAll K H [d,e] [v,u]:=.cons a (.cons b .nil)
theorem ZC6 {K:W.Frag} {H:Hp} (i:Int):Dp K H (.int i) (.int i):=by unfold Dp;rfl
theorem ZCh {K:W.Frag} {H:Hp} (i:Str):Dp K H (.str i) (.str i):=by unfold Dp;rfl
theorem dp_non {K:W.Frag} {H:Hp}:Dp K H .none .non:=by unfold Dp;rfl
theorem dp_lst {K:W.Frag} {H:Hp} {a:Addr} {xs:List V} {ds:List PyData} (h:SqL K H a xs) (t:DpAll K H ds xs):Dp K H (.list ds) (.ref a):=by unfold Dp;exact ⟨a,xs,rfl,h,t⟩
theorem ZCg {K:W.Frag} {H:Hp} {a:Addr} {xs:List V} {ds:List PyData} (h:SqT K H a xs) (t:DpAll K H ds xs):Dp K H (.tuple ds) (.ref a):=by unfold Dp;exact ⟨a,xs,rfl,h,t⟩
theorem Dp.asT {K:W.Frag} {H:Hp} {v:V} {ds:List PyData} (h:Dp K H (.tuple ds) v):∃ a xs,v=.ref a /\ SqT K H a xs /\ DpAll K H ds xs:=by unfold Dp at h;exact h
theorem Dp.asI {K:W.Frag} {H:Hp} {v:V} {i:Int} (h:Dp K H (.int i) v):v=.int i:=by unfold Dp at h;exact h
theorem Dp.asS {K:W.Frag} {H:Hp} {v:V} {i:Str} (h:Dp K H (.str i) v):v=.str i:=by unfold Dp at h;exact h
section
variable {X:Cx} {pins:List (Addr×Obj)} {σ:St} {H:Hp} {s:Shared}
mutual
theorem Inv.reads (I:Inv X pins σ H s):∀ {d:PyData} {v:V} {u:Value},Dp X.K H d v->RelV v u->∃ as,Reads s.heap u d as
 | .none,_,_,h,r=>by unfold Dp at h;subst h;cases (show _=Value.none from r);exact ⟨_,.none⟩
 | .bool b,_,_,h,r=>by unfold Dp at h;subst h;cases (show _=Value.bool b from r);exact ⟨_,.bool b⟩
 | .int i,_,_,h,r=>by unfold Dp at h;subst h;obtain ⟨t,q⟩:=(show ∃ t,_=Value.int i t from r);subst q;exact ⟨_,.int i t⟩
 | .str x,_,_,h,r=>by unfold Dp at h;subst h;obtain ⟨t,q⟩:=(show ∃ t,_=Value.str x t from r);subst q;exact ⟨_,.str x t⟩
 | .list ds,_,_,h,r=>by
  unfold Dp at h
  obtain ⟨a,xs,q,U,t⟩:=h
  subst q
  cases (show _=Value.ref a from r)
  obtain ⟨its,L,pl,_⟩:=I.list U
  obtain ⟨as,O⟩:=Inv.readsAll I t L
  obtain ⟨o,n,z,J,_,Y⟩:=pl
  exact ⟨_,.list z J Y (by simpa using O)⟩
 | .tuple ds,_,_,h,r=>by
  unfold Dp at h
  obtain ⟨a,xs,q,U,t⟩:=h
  subst q
  cases (show _=Value.ref a from r)
  obtain ⟨its,L,pl,_⟩:=I.tuple U
  obtain ⟨as,O⟩:=Inv.readsAll I t L
  obtain ⟨o,z,J,n,Y⟩:=pl
  exact ⟨_,.tuple z J Y (by simpa using O)⟩
 | .dict _,_,_,h,_=>by unfold Dp at h;exact h.elim
theorem Inv.readsAll (I:Inv X pins σ H s):∀ {ds:List PyData} {vs:List V} {us:List Value},DpAll X.K H ds vs->Vals vs us->∃ as,ReadsAll s.heap us ds as
 | [],_,_,h,r=>by unfold DpAll at h;subst h;cases r;exact ⟨_,.nil⟩
 | _::_,_,_,h,r=>by
  unfold DpAll at h
  obtain ⟨v,q,e,a,t⟩:=h
  subst e
  cases r with
  | cons r1 r2=>
   obtain ⟨as,h1⟩:=Inv.reads I a r1
   obtain ⟨bs,h2⟩:=Inv.readsAll I t r2
   exact ⟨_,.cons h1 h2⟩
end
noncomputable def rEqD (K:W.Frag):R2:=fun x y H Q=>∃ d e,Dp K H d x /\ Dp K H e y /\ d.canLay0=true /\ e.canLay0=true /\ d.depth <= 64 /\ Q (.bl (PyData.eqv d e)) H
theorem op_eqD (Y:X.A.units+64 < cLine):OpR X (compareOp .Eq) (rEqD X.K):=by
 intro pins s σ H x y v u Q I J z h
 obtain ⟨d,e,h1,h2,c1,c2,U,q⟩:=h
 obtain ⟨as,O⟩:=I.reads h1 J
 obtain ⟨bs,L⟩:=I.reads h2 z
 exact SeqAt.compareEq_reads O L c1 c2 (by omega) ⟨.bl _,H,I,rfl,q⟩
end
section
variable {X:Cx} {x:Str} {pos:Pos}
theorem ZDE {y:Str} (z:Gl X x) (h:∃ t,X.mg x=some (.str y t)) (hd:(x == ("__debug__":Str))=false:=by decide):PE X (.Name x pos) (tC (.str y)):=by
 obtain ⟨t,e⟩:=h
 exact ZDF z e ⟨t,rfl⟩ hd
theorem pe_gint {y:Int} (z:Gl X x) (h:∃ t,X.mg x=some (.int y t)) (hd:(x == ("__debug__":Str))=false:=by decide):PE X (.Name x pos) (tC (.int y)):=by
 obtain ⟨t,e⟩:=h
 exact ZDF z e ⟨t,rfl⟩ hd
theorem ZBF {C:Addr} (z:Gl X x) (h:X.mg x=some (.ref C)) (hd:(x == ("__debug__":Str))=false:=by decide):PE X (.Name x pos) (tC (.ref C)):=ZDF z h rfl hd
theorem ZDf {n:String} (J:Gl X x) (hm:X.mg x=none) (z:bootBuiltins x=some (.type n)) (hn:x≠"__name__":=by decide) (hd:(x == ("__debug__":Str))=false:=by decide):PE X (.Name x pos) (tC (.ty n)):=pe_bltn J hm z rfl hn hd
end
structure Fn (P:Program) (w:World) (K:W.Frag) (mg:Str->Option Value) (base:Heap) (CX:CXT) (x:Str) (k:Nat) (ps:List Str) (sp:Sp):Prop where
 ex:∃ f fd,FnOk P w K mg base CX k f fd ps sp /\ Binds K fd ps [] /\ W.keepIn K (.ref f)=true /\ mg x=some (.ref f)
structure Mt (P:Program) (w:World) (K:W.Frag) (mg:Str->Option Value) (base:Heap) (CX:CXT) (C:Addr) (m:Str) (k:Nat) (ps:List Str) (sp:Sp):Prop where
 cl:Cls K C
 ex:∃ f fd,FnOk P w K mg base CX k f fd ps sp /\ Binds K fd ps [] /\ Meth K C m f
structure Kl (P:Program) (w:World) (K:W.Frag) (mg:Str->Option Value) (base:Heap) (CX:CXT) (x:Str) (C:Addr) (k:Nat) (ps:List Str) (sp:Sp):Prop where
 mgC:mg x=some (.ref C)
 ex:∃ f fd,FnOk P w K mg base CX k f fd ps sp /\ Binds K fd ps [] /\ Mk K C f
section
variable {X:Cx} {CX:CXT} {k:Nat} {ps:List Str} {sp:Sp} {E:XK} {x m:Str} {C:Addr} {p pos apos:Pos} {e o:Expr} {es:List Expr} {ta:TE} {t:TA}
theorem ZA6 (F:Fn X.prog X.w X.K X.mg X.base CX x k ps sp) (O:Room k X.A) (Y:Gl X x) (hx:ZBW CX X E) (ha:PA X (e::es) t) (z:(x == ("__debug__":Str))=false:=by decide) (U:starEach (e::es) X.env=(false,eval e X.env)::starEach es X.env:=by rfl) (J:(backTo pos (starEach es X.env)).any (·.1)=false:=by rfl) :
  PE X (.Call (.Name x p) (e::es) [] pos) (ZDr sp [] E t):=by
 obtain ⟨f,fd,h1,h2,h3,L⟩:=F.ex
 exact pe_call h1 O Y L h3 h2 .nil hx ha z U J
theorem ZBv {pl:Sem Bool} (F:Mt X.prog X.w X.K X.mg X.base CX C m k ps sp) (L:Room k X.A) (hx:ZBW CX X E) (U:PE X o ta) (ha:PA X (e::es) t)
  (J:starEach (e::es) X.env=(false,eval e X.env)::starEach es X.env:=by rfl) (z:(backTo pos (starEach es X.env)).any (·.1)=false:=by rfl)
  (O:eval (.Call (.Attribute o m apos) (e::es) [] pos) X.env=(do
   let ov <- eval o X.env
   standAt apos.atName
   let (f,first) <- holding [ov] (getMethod ov m pl)
   callWith pos f first (backTo pos (starEach (e::es) X.env)) (backToKw pos (keywordEach [] X.env))):=by rfl) :
  PE X (.Call (.Attribute o m apos) (e::es) [] pos) (ZDS C m sp [] E ta t):=by
 obtain ⟨f,fd,h1,h2,h3⟩:=F.ex
 exact pe_meth U F.cl h3 h1 L h2 .nil hx ha J z O
theorem ZBk {pl:Sem Bool} (F:Mt X.prog X.w X.K X.mg X.base CX C m k ps sp) (z:Room k X.A) (hx:ZBW CX X E) (L:PE X o ta)
  (J:eval (.Call (.Attribute o m apos) [] [] pos) X.env=(do
   let ov <- eval o X.env
   standAt apos.atName
   let (f,first) <- holding [ov] (getMethod ov m pl)
   callWith pos f first (backTo pos (starEach [] X.env)) (backToKw pos (keywordEach [] X.env))):=by rfl) :
  PE X (.Call (.Attribute o m apos) [] [] pos) (ZDS C m sp [] E ta tNil):=by
 obtain ⟨f,fd,h1,h2,h3⟩:=F.ex
 exact pe_meth0 L F.cl h3 h1 z h2 .nil hx J
theorem ZBg (F:Kl X.prog X.w X.K X.mg X.base CX x C k ps sp) (L:Room (k+1) X.A) (U:Gl X x) (hx:ZBW CX X E) (ha:PA X (e::es) t) (z:(x == ("__debug__":Str))=false:=by decide) (O:starEach (e::es) X.env=(false,eval e X.env)::starEach es X.env:=by rfl) (J:(backTo pos (starEach es X.env)).any (·.1)=false:=by rfl) :
  PE X (.Call (.Name x p) (e::es) [] pos) (ZDq C sp [] E t):=by
 obtain ⟨f,fd,h1,h2,h3⟩:=F.ex
 exact pe_make h3 h1 L U F.mgC h2 .nil hx ha z O J
end
noncomputable def ZDk:V->Bool
 | .ty _=>true
 | .ref _=>true
 | _=>false
noncomputable def cval:V->Value
 | .ty n=>.type n
 | .ref a=>.ref a
 | _=>.none
section
variable {X:Cx}
theorem ZA7:ZC7 X (.builtin "isinstance") (fun xs H Q=>∃ x c ty b,xs=[x,c] /\ ZDk c=true /\ TyOf X.K H x ty /\ PySem.W.kitOne X.K ty (cval c)=some b /\ Q (.bl b) H):=by
 intro pins s σ H xs us Q I r h
 obtain ⟨x,c,ty,b,rfl,hc,z,e,q⟩:=h
 obtain ⟨u,w',rfl,L,J⟩:=vals2 r
 have O:w'=cval c:=by
  cases c <;> first | (cases hc;done) | exact J
 subst O
 exact isinst_ok I L z e fun tk=>⟨.bl b,H,I.tok tk,rfl,q⟩
end
theorem ZAY {v:V} {σ:St} {H:Hp} {Q:VK}:tVar 0 (some v::σ) H Q=Q v H:=by
 apply propext;unfold tVar;simp
theorem ZAf {i:Nat} {a:Option V} {σ:St} {H:Hp} {Q:VK}:tVar (i+1) (a::σ) H Q=tVar i σ H Q:=by
 apply propext;unfold tVar;simp
theorem rI0_int {g:Int->Int->V} {i j:Int} {H:Hp} {Q:VK}:rI0 g (.int i) (.int j) H Q=Q (g i j) H:=by
 apply propext;unfold rI0;simp
theorem rI_int {C:Int->Int->Prop} {g:Int->Int->V} {i j:Int} {H:Hp} {Q:VK}:rI C g (.int i) (.int j) H Q=(C i j /\ Q (g i j) H):=by
 apply propext;unfold rI;simp
theorem rU_int {g:Int->V} {i:Int} {H:Hp} {Q:VK}:rU g (.int i) H Q=Q (g i) H:=by
 apply propext;unfold rU;simp
theorem rEq_int {i j:Int} {H:Hp} {Q:VK}:rEq (.int i) (.int j) H Q=Q (.bl (decide (i=j))) H:=by
 exact propext ⟨fun h=>by simpa using h.2,fun h=>⟨rfl,by simpa using h⟩⟩
theorem rNe_int {i j:Int} {H:Hp} {Q:VK}:rNe (.int i) (.int j) H Q=Q (.bl (!decide (i=j))) H:=by
 exact propext ⟨fun h=>by simpa using h.2,fun h=>⟨rfl,by simpa using h⟩⟩
theorem rEq_bl {i j:Bool} {H:Hp} {Q:VK}:rEq (.bl i) (.bl j) H Q=Q (.bl (decide (i=j))) H:=by
 exact propext ⟨fun h=>by simpa using h.2,fun h=>⟨rfl,by simpa using h⟩⟩
theorem rNe_bl {i j:Bool} {H:Hp} {Q:VK}:rNe (.bl i) (.bl j) H Q=Q (.bl (!decide (i=j))) H:=by
 exact propext ⟨fun h=>by simpa using h.2,fun h=>⟨rfl,by simpa using h⟩⟩
theorem rEq_str {i j:Str} {H:Hp} {Q:VK}:rEq (.str i) (.str j) H Q=Q (.bl (decide (i=j))) H:=by
 exact propext ⟨fun h=>by simpa using h.2,fun h=>⟨rfl,by simpa using h⟩⟩
theorem rNe_str {i j:Str} {H:Hp} {Q:VK}:rNe (.str i) (.str j) H Q=Q (.bl (!decide (i=j))) H:=by
 exact propext ⟨fun h=>by simpa using h.2,fun h=>⟨rfl,by simpa using h⟩⟩
theorem ex_bl {c:Bool} {Q:Bool->Prop}:(∃ k,V.bl c=V.bl k /\ Q k)=Q c:=by
 apply propext;simp
theorem ex_int {c:Int} {Q:Int->Prop}:(∃ k,V.int c=V.int k /\ Q k)=Q c:=by
 apply propext;simp
theorem ZAL {n:Nat} (h:n <= 1000):n <= sizeLine:=Nat.le_of_lt (ZB9 h)
theorem ZAW {H:Hp} {p:Addr} (h:H p=none) (o:HO):Same H (upd H p o):=fun b u q=>by rw [ZAH (ZAI q h)];exact q
theorem ZCN {H:Hp} {p a:Addr} {o u:HO} (h:H p=none) (e:H a=some u):upd H p o a=some u:=by rw [ZAH (ZAI e h)];exact e
noncomputable def getF (K:W.Frag) (f:Str) (x:V) (H:Hp) (Q:VK):Prop:=∃ a C dx fs v,x=.ref a /\ H a=some (.ins C dx fs) /\ Cls K C /\ NoAttr K C f /\ fs.lookup f=some v /\ Q v H
theorem tFld_eq {K:W.Frag} {ta:TE} {f:Str} {σ:St} {H:Hp} {Q:VK}:tFld K ta f σ H Q=ta σ H (fun x H1=>getF K f x H1 Q):=rfl
theorem ZDH {K:W.Frag} {f:Str} {a C dx:Addr} {fs:List (Str×V)} {v:V} {H:Hp} {Q:VK} (h:H a=some (.ins C dx fs)) (cl:Cls K C) (n:NoAttr K C f) (l:fs.lookup f=some v) (q:Q v H):getF K f (.ref a) H Q:=⟨a,C,dx,fs,v,rfl,h,cl,n,l,q⟩
noncomputable def setF (K:W.Frag) (f:Str) (x y:V) (H:Hp) (Q:Hp->Prop):Prop:=∃ a C dx fs,x=.ref a /\ H a=some (.ins C dx fs) /\ Cls K C /\ NoAttr K C f /\ fs.length < 1000 /\ Q (upd H a (.ins C dx (putF f y fs)))
theorem sFld_eq {K:W.Frag} {ta tv:TE} {f:Str} {D:Ends} {σ:St} {H:Hp}:sFld K ta tv f D σ H=tv σ H (fun y H1=>ta σ H1 fun x H2=>setF K f x y H2 (D.nx σ)):=rfl
theorem setF_of {K:W.Frag} {f:Str} {a C dx:Addr} {fs:List (Str×V)} {y:V} {H:Hp} {Q:Hp->Prop} (h:H a=some (.ins C dx fs)) (cl:Cls K C) (n:NoAttr K C f) (l:fs.length < 1000) (q:Q (upd H a (.ins C dx (putF f y fs)))):setF K f (.ref a) y H Q:=⟨a,C,dx,fs,rfl,h,cl,n,l,q⟩
theorem ZBS {K:W.Frag} {p:Addr} {xs:List V} {i:Int} {v:V} {H:Hp} {Q:VK} (h:SqL K H p xs) (e:atI xs i=some v) (q:Q v H):rIxL K (.ref p) (.int i) H Q:=⟨p,xs,i,v,rfl,rfl,h,e,q⟩
theorem ZDR {α:Type} {xs:List α} {i:Int} {v:α} (z:0 <= i) (h:xs[i.toNat]?=some v):atI xs i=some v:=by
 have q:=atI_nat h
 rwa [Int.toNat_of_nonneg z] at q
theorem atI_ints {xs:List Int} {i:Int} {v:Int} (z:0 <= i) (h:xs[i.toNat]?=some v):atI (xs.map V.int) i=some (.int v):=ZDR z (by rw [yAS,h];rfl)
noncomputable def Nxt (P:Nat->List V->St->Hp->Prop) (n i:Nat) (ys:List V) (σ:St) (H:Hp):Prop:=∃ m',m' < n-i /\ m'=n-(i+1) /\ i+1 <= n /\ P (i+1) ys σ H
theorem Nxt.of {P:Nat->List V->St->Hp->Prop} {n i:Nat} {ys:List V} {σ:St} {H:Hp} (h:i < n) (p:P (i+1) ys σ H):Nxt P n i ys σ H:=⟨n-(i+1),by omega,rfl,h,p⟩
theorem comp_list {K:W.Frag} {a:Addr} {xs:List V} {g:TG} {tt:TT} {te:TE} {Q:VK} {σ0:St} {H:Hp} (P:Nat->List V->St->Hp->Prop) (U:P 0 [] σ0 H) (hl:∀ i ys σ H,i <= xs.length->P i ys σ H->SqL K H a xs /\ ys.length <= i) (Y:xs.length <= sizeLine)
  (O:∀ i ys x σ H,i < xs.length->xs[i]?=some x->P i ys σ H->g x σ H fun z H2=>tt z H2 fun b L=>if b=true then te z L fun y H4=>Nxt P xs.length i (ys++[y]) z H4 else Nxt P xs.length i ys z L)
  (hd:∀ ys σ H,P xs.length ys σ H->∀ p,H p=none->Q (.ref p) (upd H p (.lst ys))) :
  ∃ W:Nat->Nat->List V->St->Hp->Prop,(∃ m,W 0 m [] σ0 H) /\ ∀ i m ys σ H,W i m ys σ H ->
   ((Itl K a).stop i H /\ ys.length <= sizeLine /\ ∀ p,H p=none->Q (.ref p) (upd H p (.lst ys))) ∨
   ((Itl K a).go i H /\ ys.length < sizeLine /\ ∀ x H',(Itl K a).yld i H x H'->g x σ H' fun z H2=>tt z H2 fun b L=>if b=true then te z L fun y H4=>∃ J,J < m /\ W (i+1) J (ys++[y]) z H4 else ∃ J,J < m /\ W (i+1) J ys z L):=by
 refine ⟨fun i m ys σ H=>m=xs.length-i /\ i <= xs.length /\ P i ys σ H,⟨xs.length,by simp,yAO _,U⟩,?_⟩
 rintro i m ys σ H ⟨rfl,hi,p⟩
 obtain ⟨q,Z⟩:=hl i ys σ H hi p
 by_cases hlt:i < xs.length
 .refine .inr ⟨⟨xs,xs[i],q,by simp [hlt]⟩,by omega,fun x H' y=>?_⟩
  obtain ⟨e,y⟩:=y
  subst e
  exact O i ys x σ _ hlt (y xs q) p
 .have e:i=xs.length:=by omega
  subst e
  exact .inl ⟨⟨xs,q,yAA _⟩,by omega,hd ys σ H p⟩
theorem comp_range {lo:Int} {n:Nat} {g:TG} {tt:TT} {te:TE} {Q:VK} {σ0:St} {H:Hp} (P:Nat->List V->St->Hp->Prop) (U:P 0 [] σ0 H) (hl:∀ i ys σ H,P i ys σ H->ys.length <= i) (Y:n <= sizeLine)
  (O:∀ i ys σ H,i < n->P i ys σ H->g (.int (lo+i)) σ H fun z H2=>tt z H2 fun b L=>if b=true then te z L fun y H4=>Nxt P n i (ys++[y]) z H4 else Nxt P n i ys z L)
  (hd:∀ ys σ H,P n ys σ H->∀ p,H p=none->Q (.ref p) (upd H p (.lst ys))) :
  ∃ W:Nat->Nat->List V->St->Hp->Prop,(∃ m,W 0 m [] σ0 H) /\ ∀ i m ys σ H,W i m ys σ H ->
   ((Itr lo n).stop i H /\ ys.length <= sizeLine /\ ∀ p,H p=none->Q (.ref p) (upd H p (.lst ys))) ∨
   ((Itr lo n).go i H /\ ys.length < sizeLine /\ ∀ x H',(Itr lo n).yld i H x H'->g x σ H' fun z H2=>tt z H2 fun b L=>if b=true then te z L fun y H4=>∃ J,J < m /\ W (i+1) J (ys++[y]) z H4 else ∃ J,J < m /\ W (i+1) J ys z L):=by
 refine ⟨fun i m ys σ H=>m=n-i /\ i <= n /\ P i ys σ H,⟨n,by simp,yAO _,U⟩,?_⟩
 rintro i m ys σ H ⟨rfl,hi,p⟩
 have Z:=hl i ys σ H p
 by_cases hlt:i < n
 .refine .inr ⟨hlt,by omega,fun x H' y=>?_⟩
  obtain ⟨e,y⟩:=y
  subst e y
  exact O i ys σ _ hlt p
 .have e:i=n:=by omega
  subst e
  exact .inl ⟨yAA _,by omega,hd ys σ H p⟩
theorem atI2 {x y:V} (c:Int):atI [x,y] (c % 2)=some (if c % 2=0 then x else y):=by
 have h:c % 2=0∨c % 2=1:=by omega
 rcases h with h | h <;> rw [h] <;> rfl
theorem ZDc {K:W.Frag} {a:Addr} {xs:List V} {lo hi:Option Int} {H:Hp} {Q:VK} (h:SqL K H a xs) (q:∀ p,H p=none->Q (.ref p) (upd H p (.lst (cutV xs lo hi)))):rSlL K (.ref a) lo hi H Q:=⟨a,xs,rfl,h,q⟩
noncomputable def forL (K:W.Frag) (g:TG) (tb:TS) (D:Ends) (σ:St) (x:V) (H1:Hp):Prop:=∃ a,x=.ref a /\ (∃ xs,SqL K H1 a xs) /\ ∃ W:Nat->Nat->St->Hp->Prop,(∃ m,W 0 m σ H1) /\ ∀ i m σ H,W i m σ H ->
 ((Itl K a).stop i H /\ D.nx σ H)∨((Itl K a).go i H /\ ∃ N:St->Hp->Prop,(∀ σ' H',N σ' H'->∃ m',m' < m /\ W (i+1) m' σ' H') /\ ∀ x H',(Itl K a).yld i H x H'->g x σ H' fun σ2 H2=>tb { D with nx:=N,ct:=N,bk:=D.nx } σ2 H2)
theorem tForL_eq {K:W.Frag} {tl:TE} {g:TG} {tb:TS} {D:Ends} {σ:St} {H:Hp}:tFor (ZD3 K tl) g tb D σ H=tl σ H (fun x H1=>forL K g tb D σ x H1):=rfl
theorem ZB5 {K:W.Frag} {g:TG} {tb:TS} {D:Ends} {σ:St} {H:Hp} {a:Addr} {xs:List V} (h:SqL K H a xs) (z:Nat->St->Hp->Prop) (O:z 0 σ H) (hl:∀ i σ H,i <= xs.length->z i σ H->SqL K H a xs)
  (L:∀ i x σ H,xs[i]?=some x->z i σ H->g x σ H fun J H2=>tb { D with nx:=z (i+1),ct:=z (i+1),bk:=D.nx } J H2) (hd:∀ σ H,z xs.length σ H->D.nx σ H):forL K g tb D σ (.ref a) H :=
 ⟨a,rfl,⟨xs,h⟩,for_list z O hl L hd⟩
noncomputable def forR (lo:Int) (g:TG) (tb:TS) (D:Ends) (σ:St) (n:Nat) (H1:Hp):Prop:=∃ W:Nat->Nat->St->Hp->Prop,(∃ m,W 0 m σ H1) /\ ∀ i m σ H,W i m σ H ->
 ((Itr lo n).stop i H /\ D.nx σ H)∨((Itr lo n).go i H /\ ∃ N:St->Hp->Prop,(∀ σ' H',N σ' H'->∃ m',m' < m /\ W (i+1) m' σ' H') /\ ∀ x H',(Itr lo n).yld i H x H'->g x σ H' fun σ2 H2=>tb { D with nx:=N,ct:=N,bk:=D.nx } σ2 H2)
noncomputable def forR1 (g:TG) (tb:TS) (D:Ends) (σ:St) (x:V) (H1:Hp):Prop:=∃ j:Int,[x]=[.int j] /\ -(2 ^ 62) <= j /\ j < 2 ^ 62 /\ forR 0 g tb D σ j.toNat H1
noncomputable def forR2 (g:TG) (tb:TS) (D:Ends) (σ:St) (x y:V) (H1:Hp):Prop:=∃ i j:Int,[x,y]=[.int i,.int j] /\ (-(2 ^ 62) <= i /\ i < 2 ^ 62 /\ -(2 ^ 62) <= j /\ j < 2 ^ 62) /\ forR i g tb D σ (j-i).toNat H1
theorem tForR1_eq {t:TE} {g:TG} {tb:TS} {D:Ends} {σ:St} {H:Hp}:tFor (ZD2 (ZBz t tNil)) g tb D σ H=t σ H (fun x H1=>forR1 g tb D σ x H1):=rfl
theorem tForR2_eq {t u:TE} {g:TG} {tb:TS} {D:Ends} {σ:St} {H:Hp}:tFor (iRng2 (ZBz t (ZBz u tNil))) g tb D σ H=t σ H (fun x H1=>u σ H1 fun y H2=>forR2 g tb D σ x y H2):=rfl
theorem forR_of {lo:Int} {n:Nat} {g:TG} {tb:TS} {D:Ends} {σ:St} {H:Hp} (z:Nat->St->Hp->Prop) (O:z 0 σ H)
  (L:∀ i σ H,i < n->z i σ H->g (.int (lo+i)) σ H fun J H2=>tb { D with nx:=z (i+1),ct:=z (i+1),bk:=D.nx } J H2) (hd:∀ σ H,z n σ H->D.nx σ H):forR lo g tb D σ n H:=for_range z O L hd
theorem forR1_of {j:Int} {g:TG} {tb:TS} {D:Ends} {σ:St} {H:Hp} (h:-1000 <= j /\ j <= 1000) (q:forR 0 g tb D σ j.toNat H):forR1 g tb D σ (.int j) H:=⟨j,rfl,by omega,by omega,q⟩
noncomputable def compL (K:W.Frag) (g:TG) (tt:TT) (te:TE) (σ0:St) (Q:VK) (x:V) (H1:Hp):Prop:=∃ a,x=.ref a /\ (∃ xs,SqL K H1 a xs) /\ ∃ W:Nat->Nat->List V->St->Hp->Prop,(∃ m,W 0 m [] σ0 H1) /\ ∀ i m ys σ H,W i m ys σ H ->
 ((Itl K a).stop i H /\ ys.length <= sizeLine /\ ∀ p,H p=none->Q (.ref p) (upd H p (.lst ys))) ∨
 ((Itl K a).go i H /\ ys.length < sizeLine /\ ∀ x H',(Itl K a).yld i H x H'->g x σ H' fun σ2 H2=>tt σ2 H2 fun b H3=>if b=true then te σ2 H3 fun y H4=>∃ m',m' < m /\ W (i+1) m' (ys++[y]) σ2 H4 else ∃ m',m' < m /\ W (i+1) m' ys σ2 H3)
theorem tCompL_eq {k:Nat} {js:List Nat} {K:W.Frag} {tl:TE} {g:TG} {tt:TT} {te:TE} {σ:St} {H:Hp} {Q:VK}:ZDA k js (ZD3 K tl) g tt te σ H Q=tl σ H (fun x H1=>compL K g tt te (up k js σ) Q x H1):=rfl
theorem ZBu {K:W.Frag} {a:Addr} {xs:List V} {g:TG} {tt:TT} {te:TE} {Q:VK} {σ0:St} {H:Hp} (h:SqL K H a xs) (O:xs.length <= 1000) (P:Nat->List V->St->Hp->Prop) (U:P 0 [] σ0 H) (hl:∀ i ys σ H,i <= xs.length->P i ys σ H->SqL K H a xs /\ ys.length <= i)
  (L:∀ i ys x σ H,i < xs.length->xs[i]?=some x->P i ys σ H->g x σ H fun z H2=>tt z H2 fun b J=>if b=true then te z J fun y H4=>Nxt P xs.length i (ys++[y]) z H4 else Nxt P xs.length i ys z J)
  (hd:∀ ys σ H,P xs.length ys σ H->∀ p,H p=none->Q (.ref p) (upd H p (.lst ys))):compL K g tt te σ0 Q (.ref a) H:=⟨a,rfl,⟨xs,h⟩,comp_list P U hl (ZAL O) L hd⟩
noncomputable def compR (lo:Int) (g:TG) (tt:TT) (te:TE) (σ0:St) (Q:VK) (n:Nat) (H1:Hp):Prop:=∃ W:Nat->Nat->List V->St->Hp->Prop,(∃ m,W 0 m [] σ0 H1) /\ ∀ i m ys σ H,W i m ys σ H ->
 ((Itr lo n).stop i H /\ ys.length <= sizeLine /\ ∀ p,H p=none->Q (.ref p) (upd H p (.lst ys))) ∨
 ((Itr lo n).go i H /\ ys.length < sizeLine /\ ∀ x H',(Itr lo n).yld i H x H'->g x σ H' fun σ2 H2=>tt σ2 H2 fun b H3=>if b=true then te σ2 H3 fun y H4=>∃ m',m' < m /\ W (i+1) m' (ys++[y]) σ2 H4 else ∃ m',m' < m /\ W (i+1) m' ys σ2 H3)
noncomputable def compR1 (g:TG) (tt:TT) (te:TE) (σ0:St) (Q:VK) (x:V) (H1:Hp):Prop:=∃ j:Int,[x]=[.int j] /\ -(2 ^ 62) <= j /\ j < 2 ^ 62 /\ compR 0 g tt te σ0 Q j.toNat H1
theorem tCompR1_eq {k:Nat} {js:List Nat} {t:TE} {g:TG} {tt:TT} {te:TE} {σ:St} {H:Hp} {Q:VK}:ZDA k js (ZD2 (ZBz t tNil)) g tt te σ H Q=t σ H (fun x H1=>compR1 g tt te (up k js σ) Q x H1):=rfl
theorem compR1_of {j:Int} {g:TG} {tt:TT} {te:TE} {Q:VK} {σ0:St} {H:Hp} (h:-1000 <= j /\ j <= 1000) (P:Nat->List V->St->Hp->Prop) (O:P 0 [] σ0 H) (hl:∀ i ys σ H,P i ys σ H->ys.length <= i)
  (L:∀ i ys σ H,i < j.toNat->P i ys σ H->g (.int (0+i)) σ H fun z H2=>tt z H2 fun b J=>if b=true then te z J fun y H4=>Nxt P j.toNat i (ys++[y]) z H4 else Nxt P j.toNat i ys z J)
  (hd:∀ ys σ H,P j.toNat ys σ H->∀ p,H p=none->Q (.ref p) (upd H p (.lst ys))):compR1 g tt te σ0 Q (.int j) H:=⟨j,rfl,by omega,by omega,comp_range P O hl (ZAL (by omega)) L hd⟩
section
variable {X:Cx}
end
theorem gCons_eq {t:TG} {u:TGs} {v:V} {r:List V} {σ:St} {H:Hp} {Q:St->Hp->Prop}:ZD4 t u (v::r) σ H Q=t v σ H (fun z H'=>u r z H' Q):=by
 apply propext;unfold ZD4;constructor
 .rintro ⟨L,J,e,q⟩;cases e;exact q
 .exact fun q=>⟨v,r,rfl,q⟩
theorem gNil_eq {σ:St} {H:Hp} {Q:St->Hp->Prop}:gNil [] σ H Q=Q σ H:=by
 apply propext;unfold gNil;simp
theorem ZDI {K:W.Frag} {n:Nat} {t:TGs} {a:Addr} {xs:List V} {σ:St} {H:Hp} {Q:St->Hp->Prop} (h:SqT K H a xs) (l:xs.length=n) (q:t xs σ H Q):gTup K n t (.ref a) σ H Q:=⟨a,xs,rfl,h,l,q⟩
structure TSame (H H':Hp):Prop where
 t:∀ b xs,H b=some (.tup xs)->H' b=some (.tup xs)
 f:∀ b o u,H b=some (.frz o u)->H' b=some (.frz o u)
theorem TSame.updL {H:Hp} {p:Addr} {xs:List V} {o:HO} (h:H p=some (.lst xs)):TSame H (L2.upd H p o):=⟨fun b ys e=>by rw [ZAH (ne_of e h (by intro z;cases z))];exact e,fun b o u e=>by rw [ZAH (ne_of e h (by intro z;cases z))];exact e⟩
mutual
noncomputable def ZDU:PyData->Bool
 | .none=>true
 | .bool _=>true
 | .int _=>true
 | .str _=>true
 | .list _=>false
 | .tuple ds=>ZCe ds
 | .dict _=>false
noncomputable def ZCe:List PyData->Bool
 | []=>true
 | d::ds=>ZDU d && ZCe ds
end
theorem SqT.ts {K:W.Frag} {H H':Hp} {a:Addr} {xs:List V} (e:TSame H H') (h:SqT K H a xs):SqT K H' a xs:=by
 rcases h with (h | ⟨o,h⟩) | h
 .exact .inl (.inl (e.t _ _ h))
 .exact .inl (.inr ⟨o,e.f _ _ _ h⟩)
 .exact .inr h
mutual
theorem Dp.ts {K:W.Frag} {H H':Hp} (e:TSame H H'):∀ {d:PyData} {v:V},ZDU d=true->Dp K H d v->Dp K H' d v
 | .none,_,_,h=>h
 | .bool _,_,_,h=>h
 | .int _,_,_,h=>h
 | .str _,_,_,h=>h
 | .list ds,_,z,_=>by unfold ZDU at z;cases z
 | .tuple ds,_,z,h=>by
  unfold Dp at h ⊢
  unfold ZDU at z
  obtain ⟨a,xs,r,q,t⟩:=h
  exact ⟨a,xs,r,q.ts e,DpAll.ts e z t⟩
 | .dict _,_,_,h=>by unfold Dp at h;exact h.elim
theorem DpAll.ts {K:W.Frag} {H H':Hp} (e:TSame H H'):∀ {ds:List PyData} {vs:List V},ZCe ds=true->DpAll K H ds vs->DpAll K H' ds vs
 | [],_,_,h=>h
 | _::_,_,z,h=>by
  unfold ZCe at z
  rw [Bool.and_eq_true] at z
  unfold DpAll at h ⊢
  obtain ⟨v,r,q,a,t⟩:=h
  exact ⟨v,r,q,Dp.ts e z.1 a,DpAll.ts e z.2 t⟩
end
section
variable {X:Cx} {tg l e o:Expr} {es:List Expr} {tl te to:TE} {t:TA} {pos apos cpos:Pos} {f:Str}
theorem call_list_ofK (K:W.Frag) (h:X.K=K:=by rfl):ZC7 X (.type "list") (fun xs H Q=>∃ p ys,xs=[.ref p] /\ (SqL K H p ys∨SqT K H p ys) /\ ∀ l,H l=none->Q (.ref l) (upd H l (.lst ys))):=h ▸ ZBV
theorem pg_tupK (K:W.Frag) {k:Nat} {z:TGs} {n:Nat} (hc:X.calm=true) (L:PGs X es z)
  (hn:(assignEach es X.env).length=n:=by rfl) (J:(assignEach es X.env).findIdx? (·.1)=none:=by rfl) (h:X.K=K:=by rfl):PG X (.Tuple es k pos) (gTup K n z):=h ▸ ZDN hc L hn J
end
open PySem
theorem tVar_1 {v:V} {a0:Option V} {σ:St} {H:Hp} {Q:VK}:tVar 1 (a0::some v::σ) H Q=Q v H:=by
 simp only [ZAf,ZAY]
theorem tVar_2 {v:V} {a0 z:Option V} {σ:St} {H:Hp} {Q:VK}:tVar 2 (a0::z::some v::σ) H Q=Q v H:=by
 simp only [ZAf,ZAY]
theorem tVar_3 {v:V} {a0 z J:Option V} {σ:St} {H:Hp} {Q:VK}:tVar 3 (a0::z::J::some v::σ) H Q=Q v H:=by
 simp only [ZAf,ZAY]
theorem tVar_4 {v:V} {a0 z L J:Option V} {σ:St} {H:Hp} {Q:VK}:tVar 4 (a0::z::L::J::some v::σ) H Q=Q v H:=by
 simp only [ZAf,ZAY]
theorem tVar_5 {v:V} {a0 z L J O:Option V} {σ:St} {H:Hp} {Q:VK}:tVar 5 (a0::z::L::J::O::some v::σ) H Q=Q v H:=by
 simp only [ZAf,ZAY]
theorem tVar_6 {v:V} {a0 z L J U O:Option V} {σ:St} {H:Hp} {Q:VK}:tVar 6 (a0::z::L::J::U::O::some v::σ) H Q=Q v H:=by
 simp only [ZAf,ZAY]
theorem tVar_7 {v:V} {a0 z L J U O Y:Option V} {σ:St} {H:Hp} {Q:VK}:tVar 7 (a0::z::L::J::U::O::Y::some v::σ) H Q=Q v H:=by
 simp only [ZAf,ZAY]
theorem tVar_8 {v:V} {a0 z L J Y U Z O:Option V} {σ:St} {H:Hp} {Q:VK}:tVar 8 (a0::z::L::J::Y::U::Z::O::some v::σ) H Q=Q v H:=by
 simp only [ZAf,ZAY]
theorem tVar_9 {v:V} {a0 z L J Z U a6 O Y:Option V} {σ:St} {H:Hp} {Q:VK}:tVar 9 (a0::z::L::J::Z::U::a6::O::Y::some v::σ) H Q=Q v H:=by
 simp only [ZAf,ZAY]
theorem tVar_10 {v:V} {a0 J O L a4 Y a6 U Z z:Option V} {σ:St} {H:Hp} {Q:VK}:tVar 10 (a0::J::O::L::a4::Y::a6::U::Z::z::some v::σ) H Q=Q v H:=by
 simp only [ZAf,ZAY]
theorem tVar_11 {v:V} {a0 L U O a4 Z a6 Y a8 J z:Option V} {σ:St} {H:Hp} {Q:VK}:tVar 11 (a0::L::U::O::a4::Z::a6::Y::a8::J::z::some v::σ) H Q=Q v H:=by
 simp only [ZAf,ZAY]
theorem tVar_12 {v:V} {a0 O Y U a4 a5 a6 Z a8 L z J:Option V} {σ:St} {H:Hp} {Q:VK}:tVar 12 (a0::O::Y::U::a4::a5::a6::Z::a8::L::z::J::some v::σ) H Q=Q v H:=by
 simp only [ZAf,ZAY]
theorem tVar_13 {v:V} {a0 U Z Y a4 a5 a6 a7 a8 O J L z:Option V} {σ:St} {H:Hp} {Q:VK}:tVar 13 (a0::U::Z::Y::a4::a5::a6::a7::a8::O::J::L::z::some v::σ) H Q=Q v H:=by
 simp only [ZAf,ZAY]
theorem tVar_14 {v:V} {a0 Y a2 Z a4 a5 a6 a7 a8 U J L z O:Option V} {σ:St} {H:Hp} {Q:VK}:tVar 14 (a0::Y::a2::Z::a4::a5::a6::a7::a8::U::J::L::z::O::some v::σ) H Q=Q v H:=by
 simp only [ZAf,ZAY]
theorem tVar_15 {v:V} {a0 Y a2 a3 a4 a5 a6 a7 Z a9 J z U O L:Option V} {σ:St} {H:Hp} {Q:VK}:tVar 15 (a0::Y::a2::a3::a4::a5::a6::a7::Z::a9::J::z::U::O::L::some v::σ) H Q=Q v H:=by
 simp only [ZAf,ZAY]
theorem tVar_16 {v:V} {a0 Z a2 a3 a4 a5 a6 a7 a8 a9 J z Y U L O:Option V} {σ:St} {H:Hp} {Q:VK}:tVar 16 (a0::Z::a2::a3::a4::a5::a6::a7::a8::a9::J::z::Y::U::L::O::some v::σ) H Q=Q v H:=by
 simp only [ZAf,ZAY]
theorem tVar_17 {v:V} {a0 a1 a2 a3 a4 a5 a6 a7 a8 a9 L z Z Y O U J:Option V} {σ:St} {H:Hp} {Q:VK}:tVar 17 (a0::a1::a2::a3::a4::a5::a6::a7::a8::a9::L::z::Z::Y::O::U::J::some v::σ) H Q=Q v H:=by
 simp only [ZAf,ZAY]
theorem tVar_18 {v:V} {a0 a1 a2 a3 a4 a5 a6 a7 a8 a9 L z aa Z O U J Y:Option V} {σ:St} {H:Hp} {Q:VK}:tVar 18 (a0::a1::a2::a3::a4::a5::a6::a7::a8::a9::L::z::aa::Z::O::U::J::Y::some v::σ) H Q=Q v H:=by
 simp only [ZAf,ZAY]
theorem tVar_19 {v:V} {a0 a1 a2 a3 a4 a5 a6 a7 a8 a9 L z ac aa O Y J Z U:Option V} {σ:St} {H:Hp} {Q:VK}:tVar 19 (a0::a1::a2::a3::a4::a5::a6::a7::a8::a9::L::z::ac::aa::O::Y::J::Z::U::some v::σ) H Q=Q v H:=by
 simp only [ZAf,ZAY]
theorem tVar_20 {v:V} {a0 a1 a2 a3 a4 a5 a6 a7 a8 a9 O J ad ac U Z L aa Y z:Option V} {σ:St} {H:Hp} {Q:VK}:tVar 20 (a0::a1::a2::a3::a4::a5::a6::a7::a8::a9::O::J::ad::ac::U::Z::L::aa::Y::z::some v::σ) H Q=Q v H:=by
 simp only [ZAf,ZAY]
theorem tVar_21 {v:V} {a0 a1 a2 a3 a4 a5 a6 a7 a8 a9 O J ad ac U Z L aa Y z ae:Option V} {σ:St} {H:Hp} {Q:VK}:tVar 21 (a0::a1::a2::a3::a4::a5::a6::a7::a8::a9::O::J::ad::ac::U::Z::L::aa::Y::z::ae::some v::σ) H Q=Q v H:=by
 simp only [ZAf,ZAY]
theorem tVar_22 {v:V} {a0 a1 a2 a3 a4 a5 a6 a7 a8 a9 U L ae ad Y aa O ac Z z af J:Option V} {σ:St} {H:Hp} {Q:VK}:tVar 22 (a0::a1::a2::a3::a4::a5::a6::a7::a8::a9::U::L::ae::ad::Y::aa::O::ac::Z::z::af::J::some v::σ) H Q=Q v H:=by
 simp only [ZAf,ZAY]
theorem tVar_23 {v:V} {a0 a1 a2 a3 a4 a5 a6 a7 a8 a9 Y L af ae Z ac U ad aa z ag J O:Option V} {σ:St} {H:Hp} {Q:VK}:tVar 23 (a0::a1::a2::a3::a4::a5::a6::a7::a8::a9::Y::L::af::ae::Z::ac::U::ad::aa::z::ag::J::O::some v::σ) H Q=Q v H:=by
 simp only [ZAf,ZAY]
theorem tVar_24 {v:V} {a0 a1 a2 a3 a4 a5 a6 a7 a8 a9 Z L ag af aa ad Y ae ac z ah J U O:Option V} {σ:St} {H:Hp} {Q:VK}:tVar 24 (a0::a1::a2::a3::a4::a5::a6::a7::a8::a9::Z::L::ag::af::aa::ad::Y::ae::ac::z::ah::J::U::O::some v::σ) H Q=Q v H:=by
 simp only [ZAf,ZAY]
theorem tVar_25 {v:V} {a0 a1 a2 a3 a4 a5 a6 a7 a8 a9 aa L ah ag ac ae Z af ad z ai J U O Y:Option V} {σ:St} {H:Hp} {Q:VK}:tVar 25 (a0::a1::a2::a3::a4::a5::a6::a7::a8::a9::aa::L::ah::ag::ac::ae::Z::af::ad::z::ai::J::U::O::Y::some v::σ) H Q=Q v H:=by
 simp only [ZAf,ZAY]
theorem tVar_26 {v:V} {a0 a1 a2 a3 a4 a5 a6 a7 a8 a9 aa L ah ag ac ae Z af ad z aj J U O Y ai:Option V} {σ:St} {H:Hp} {Q:VK}:tVar 26 (a0::a1::a2::a3::a4::a5::a6::a7::a8::a9::aa::L::ah::ag::ac::ae::Z::af::ad::z::aj::J::U::O::Y::ai::some v::σ) H Q=Q v H:=by
 simp only [ZAf,ZAY]
theorem tVar_27 {v:V} {a0 a1 a2 a3 a4 a5 a6 a7 a8 a9 aa L ah ag ac ae Z af ad z aj J U O Y ai ak:Option V} {σ:St} {H:Hp} {Q:VK}:tVar 27 (a0::a1::a2::a3::a4::a5::a6::a7::a8::a9::aa::L::ah::ag::ac::ae::Z::af::ad::z::aj::J::U::O::Y::ai::ak::some v::σ) H Q=Q v H:=by
 simp only [ZAf,ZAY]
theorem tVar_28 {v:V} {a0 a1 a2 a3 a4 a5 a6 a7 a8 a9 ac O ai ah ad af aa ag ae z ak L Y U Z aj al J:Option V} {σ:St} {H:Hp} {Q:VK}:tVar 28 (a0::a1::a2::a3::a4::a5::a6::a7::a8::a9::ac::O::ai::ah::ad::af::aa::ag::ae::z::ak::L::Y::U::Z::aj::al::J::some v::σ) H Q=Q v H:=by
 simp only [ZAf,ZAY]
theorem tVar_29 {v:V} {a0 a1 a2 a3 a4 a5 a6 a7 a8 a9 ad U aj ai ae ag ac ah af J al O Z Y aa ak am L z:Option V} {σ:St} {H:Hp} {Q:VK}:tVar 29 (a0::a1::a2::a3::a4::a5::a6::a7::a8::a9::ad::U::aj::ai::ae::ag::ac::ah::af::J::al::O::Z::Y::aa::ak::am::L::z::some v::σ) H Q=Q v H:=by
 simp only [ZAf,ZAY]
theorem tVar_30 {v:V} {a0 a1 a2 a3 a4 a5 a6 a7 a8 a9 ad U aj ai ae ag ac ah af J al O Z Y aa ak am L z an:Option V} {σ:St} {H:Hp} {Q:VK}:tVar 30 (a0::a1::a2::a3::a4::a5::a6::a7::a8::a9::ad::U::aj::ai::ae::ag::ac::ah::af::J::al::O::Z::Y::aa::ak::am::L::z::an::some v::σ) H Q=Q v H:=by
 simp only [ZAf,ZAY]
open PySem
noncomputable def Cut (t:TS):TS:=t
theorem ZAU {X:Cx} {rest:List Stmt} {u:TS} (h:PSs X rest u):PSs X rest (Cut u):=h
theorem ZAz {u:TS} {D:Ends} {σ:St} {H:Hp} (h:u D σ H):Cut u D σ H:=h
theorem us0 {l:List Value} (h:l.length=0):l=[]:=List.length_eq_zero_iff.mp h
theorem us1 {l:List Value} (h:l.length=1):∃ a0,l=[a0]:=by
 cases l with
 | nil=>cases h
 | cons a l=>
  obtain rfl:=us0 (l:=l) (Nat.succ.inj h)
  exact ⟨a,rfl⟩
theorem us2 {l:List Value} (h:l.length=2):∃ a0 J,l=[a0,J]:=by
 cases l with
 | nil=>cases h
 | cons a l=>
  obtain ⟨z,rfl⟩:=us1 (l:=l) (Nat.succ.inj h)
  exact ⟨a,z,rfl⟩
theorem us3 {l:List Value} (h:l.length=3):∃ a0 J L,l=[a0,J,L]:=by
 cases l with
 | nil=>cases h
 | cons a l=>
  obtain ⟨z,O,rfl⟩:=us2 (l:=l) (Nat.succ.inj h)
  exact ⟨a,z,O,rfl⟩
structure MkN (K:W.Frag) (C:Addr):Prop where
 makes:PySem.W.makesIn K C=true
 init:W.findIn K (.ref C) "__init__"=some (some (.builtin "object.__init__"))
 kp:W.keepIn K (.ref C)=true
noncomputable def ZDX (C:Addr):TE:=fun σ H Q=>∀ x dx,H x=none->H dx=none->dx≠x->Q (.ref x) (upd (upd H dx (.own x)) x (.ins C dx []))
structure KlN (K:W.Frag) (mg:Str->Option Value) (x:Str) (C:Addr):Prop where
 mgC:mg x=some (.ref C)
 mn:MkN K C
theorem pe_mkN {X:Cx} {x:Str} {C:Addr} {p pos:Pos} (F:KlN X.K X.mg x C) (Z:Gl X x) (L:(x == ("__debug__":Str))=false:=by decide):PE X (.Call (.Name x p) [] [] pos) (ZDX C):=by
 intro pins O σ H Q I J
 have I2:=Inv.made (C:=C) I
 have hq:=J (O.heap.objs.size+1) O.heap.objs.size (I.hok.fresh (yAR _)) (I.hok.fresh (yAA _)) (yAB (yBF _))
 refine wpAny_Call_Name_kw (ZBo I Z F.mgC ?_ L)
 refine PySem.W.callWith_K0 I.kIn F.mn.kp ?_
 refine wpAny_call (make_map0 I.kIn F.mn.makes F.mn.init (fun U=>PySem.W.Looks.of_pure (PySem.W.oi_bind U)) ?_)
 obtain ⟨z,gg,dd,tt,oo⟩:=O
 have ty:PySem.W.Looks (model X.prog X.w) ((z.push PySem.W.emptyDict).push (PySem.W.instObj C z.objs.size)) (typeOf (.ref (z.objs.size+1))) (.ref C):=by
  refine (PySem.W.Looks.ld (o:=PySem.W.instObj C z.objs.size) ?_).andThen .now
  have e:=Heap.get?_push_size (z.push PySem.W.emptyDict) (o:=PySem.W.instObj C z.objs.size) rfl
  rw [Heap.size_push] at e
  exact e
 have Y:=PySem.W.makes_of (M:=model X.prog X.w) I.kIn F.mn.makes
 have ob:PySem.W.Looks (model X.prog X.w) ((z.push PySem.W.emptyDict).push (PySem.W.instObj C z.objs.size)) (isInstance (.ref (z.objs.size+1)) (.type "object")) true :=
  ty.andThen (Y.top.keeps fun b o e=>Heap.get?_push_of_some _ (Heap.get?_push_of_some _ e))
 refine codeAny_call_builtin PySem.W.oi_plain PySem.W.entry_oi (PySem.W.check_slot (i:="object.__init__") PySem.W.oi_kind PySem.W.oi_split ob (PySem.W.oi_args _) ?_)
 rw [PySem.W.oi_run]
 exact wpAny_pure ⟨rfl,V.ref (z.objs.size+1),_,I2,rfl,hq⟩
noncomputable def ZC9 (t u:TE):TE:=fun σ H Q=>t σ H Q∨u σ H Q
theorem ZAn {X:Cx} {e:Expr} {t u:TE} (h:PE X e t) (k:PE X e u):PE X e (ZC9 t u):=fun pins s σ H Q I z=>z.elim (h pins s σ H Q I) (k pins s σ H Q I)
section
variable {X:Cx}
theorem tAug_eq {i:Nat} {te:TE} {ti:TIp} {D:Ends} {σ:St} {H:Hp}:tAug i te ti D σ H=tVar i σ H (fun x J=>te σ J fun y H1=>ti x y H1 fun z H2=>D.nx (σ.set i (some z)) H2):=rfl
theorem ipI_int {f:Int->Int->Int} {i j:Int} {H:Hp} {Q:VK}:ipI f (.int i) (.int j) H Q=Q (.int (f i j)) H:=by
 refine propext ⟨?_,fun q=>⟨i,j,rfl,rfl,q⟩⟩
 rintro ⟨a,b,z,J,q⟩
 cases z;cases J;exact q
theorem cx_K {CX:CXT} {P:Program} {w:World} {K:W.Frag} {mg:Str->Option Value} {base:Heap} {N:List Str} {qual:Str} {scope:Scope} {f:Addr} {cd:Value} {A:Around} {outer:List Env} {s:Shared} {H:Hp} {E:XK}:(cxOf CX P w K mg base N qual scope f cd A outer s H E).K=K:=rfl
end
section
variable {α β γ:Type} [DecidableEq α] [DecidableEq β] [DecidableEq γ] {e:α->PyData} {f:β->PyData} {g:γ->PyData} {n m k:Nat}
end
section
variable {K:W.Frag} {H:Hp} {R:Bool->Prop}
end
section
variable {P:Program} {w:World} {K:W.Frag} {mg:Str->Option Value} {base:Heap}
end
section
variable {X:Cx} {CX:CXT} {k:Nat} {ps:List Str} {sp:Sp} {dvs:List V} {E:XK} {x m:Str} {C:Addr} {p pos apos:Pos} {e o:Expr} {es:List Expr} {ta:TE} {t:TA}
end
section
variable {X:Cx}
end
theorem Same.get {H H':Hp} {b:Addr} {o:HO} (s:Same H H') (h:H b=some o):H' b=some o:=s b o h
theorem newH {H:Hp} {p:Addr} (h:H p=none) (o:HO):∃ H',upd H p o=H' /\ Same H H' /\ H' p=some o:=⟨_,rfl,ZAW h o,ZAE⟩
section
variable {K:W.Frag} {a:Addr} {xs:List V} {te:TE} {Q:VK} {σ0 rest:St} {H:Hp}
end
section
variable {X:Cx} {pins:List (Addr×Obj)} {σ:St} {H:Hp} {s:Shared}
end
noncomputable def Ite (K:W.Frag) (a:Addr):It :=
 ⟨fun i H=>∃ xs x,SqL K H a xs /\ xs[i]?=some x,fun i H v H'=>∃ p x,H p=none /\ (∀ xs,SqL K H a xs->xs[i]?=some x) /\ H'=upd H p (.tup [.int i,x]) /\ v=.ref p,fun i H=>∃ xs,SqL K H a xs /\ xs.length <= i⟩
section
variable {X:Cx}
noncomputable def iEnum (K:W.Frag) (ta:TA):TI:=fun σ H R=>ta σ H fun vs H1=>∃ a,vs=[.ref a] /\ (∃ xs,SqL K H1 a xs) /\ R (Ite K a) H1
end
section
variable {K:W.Frag} {a:Addr} {xs:List V} {g:TG} {tb:TS} {D:Ends} {σ:St} {H:Hp}
noncomputable def forE (K:W.Frag) (g:TG) (tb:TS) (D:Ends) (σ:St) (x:V) (H1:Hp):Prop:=∃ a,[x]=[.ref a] /\ (∃ xs,SqL K H1 a xs) /\ ∃ W:Nat->Nat->St->Hp->Prop,(∃ m,W 0 m σ H1) /\ ∀ i m σ H,W i m σ H ->
 ((Ite K a).stop i H /\ D.nx σ H)∨((Ite K a).go i H /\ ∃ N:St->Hp->Prop,(∀ σ' H',N σ' H'->∃ m',m' < m /\ W (i+1) m' σ' H') /\ ∀ x H',(Ite K a).yld i H x H'->g x σ H' fun σ2 H2=>tb { D with nx:=N,ct:=N,bk:=D.nx } σ2 H2)
theorem tForE_eq {t:TE}:tFor (iEnum K (ZBz t tNil)) g tb D σ H=t σ H (fun x H1=>forE K g tb D σ x H1):=rfl
variable {tt:TT} {te:TE} {Q:VK} {σ0:St}
noncomputable def compE (K:W.Frag) (g:TG) (tt:TT) (te:TE) (σ0:St) (Q:VK) (x:V) (H1:Hp):Prop:=∃ a,[x]=[.ref a] /\ (∃ xs,SqL K H1 a xs) /\ ∃ W:Nat->Nat->List V->St->Hp->Prop,(∃ m,W 0 m [] σ0 H1) /\ ∀ i m ys σ H,W i m ys σ H ->
 ((Ite K a).stop i H /\ ys.length <= sizeLine /\ ∀ p,H p=none->Q (.ref p) (upd H p (.lst ys))) ∨
 ((Ite K a).go i H /\ ys.length < sizeLine /\ ∀ x H',(Ite K a).yld i H x H'->g x σ H' fun σ2 H2=>tt σ2 H2 fun b H3=>if b=true then te σ2 H3 fun y H4=>∃ m',m' < m /\ W (i+1) m' (ys++[y]) σ2 H4 else ∃ m',m' < m /\ W (i+1) m' ys σ2 H3)
theorem tCompE_eq {k:Nat} {js:List Nat} {t:TE}:ZDA k js (iEnum K (ZBz t tNil)) g tt te σ H Q=t σ H (fun x H1=>compE K g tt te (up k js σ) Q x H1):=rfl
end
noncomputable abbrev FZ (o:Obj):HO:=.frz o (.ext fun _=>True)
theorem ZDm {P:Program} {w:World} {H:Hp} {h:Heap} {a:Addr} {o:Obj} (e:h.get? a=some o):ObjOk P w H h a (FZ o):=⟨e,trivial,⟨o,e⟩,fun _ _ _ _=>trivial⟩
theorem ZCZ {P:Program} {w:World} {H:Hp} {h:Heap} {a:Addr} {o:Obj} (x:HOk P w H h) (e:H a=some (FZ o)):h.get? a=some o:=(x a _ e).1
noncomputable def CodeAt (H:Hp) (c:Addr) (qual:Str):Prop:=∃ oc vs t,H c=some (FZ oc) /\ oc.data=.fields vs /\ vs[1]?=some (.str qual t)
theorem CodeAt.rec {P:Program} {w:World} {H:Hp} {h:Heap} {c:Addr} {qual:Str} (x:HOk P w H h) (k:CodeAt H c qual):h.CodeRec (.ref c) qual :=
 let ⟨oc,vs,t,e,d,v⟩:=k;⟨c,oc,vs,t,rfl,ZCZ x e,d,v⟩
structure CloL (H:Hp) (g:Addr) (iname iq:Str) (ip:Arguments) (ib:List Stmt) (isc:Scope) (fr:List Str) (cs:List V) (cl:List (Str×Addr)):Prop where
 obj:∃ (doc pm ctv:Value) (c':Addr),H g=some (FZ (PySem.W.fnMade iname iq ip ib isc cl doc pm c' ctv)) /\ CodeAt H c' iq
 keys:∀ x c,cl.lookup x=some c->x∈fr
 inj:∀ x y c,cl.lookup x=some c->cl.lookup y=some c->x=y
 cell:∀ (i:Nat) (x:Str),fr[i]?=some x->∃ v c u o,cs[i]?=some v /\ cl.lookup x=some c /\ RelV v u /\ H c=some (FZ o) /\ o.data=.cell (some u)
 len:cs.length=fr.length
noncomputable def Clo (H:Hp) (g:Addr) (iname iq:Str) (ip:Arguments) (ib:List Stmt) (isc:Scope) (fr:List Str) (cs:List V):Prop:=∃ cl,CloL H g iname iq ip ib isc fr cs cl
noncomputable def ZDn (H H':Hp):Prop:=∀ b o,H b=some (FZ o)->H' b=some (FZ o)
theorem CodeAt.mono {H H':Hp} {c:Addr} {q:Str} (e:ZDn H H') (k:CodeAt H c q):CodeAt H' c q:=let ⟨oc,vs,t,a,d,v⟩:=k;⟨oc,vs,t,e _ _ a,d,v⟩
theorem Same.fz {H H':Hp} (e:Same H H'):ZDn H H':=fun b o h=>e b _ h
theorem CloL.inj' {H:Hp} {g:Addr} {iname iq:Str} {ip:Arguments} {ib:List Stmt} {isc:Scope} {fr:List Str} {cs cs':List V} {cl cl':List (Str×Addr)} (k:CloL H g iname iq ip ib isc fr cs cl) (z:CloL H g iname iq ip ib isc fr cs' cl'):cs=cs':=by
 obtain ⟨d1,p1,t1,c1,e1,_⟩:=k.obj
 obtain ⟨d2,p2,t2,c2,Y,_⟩:=z.obj
 rw [e1] at Y
 have J:cl=cl':=by
  have:=Option.some.inj Y
  injection this with h1 h2
  injection h1 with h3 h4 h5
  injection h5 with h6
  injection h6
 subst J
 refine List.ext_getElem? fun i=>?_
 by_cases hi:i < fr.length
 .obtain ⟨v,c,u,o,Z,a2,a3,a4,a5⟩:=k.cell i _ (yBB hi)
  obtain ⟨v',c',u',o',b1,U,b3,L,O⟩:=z.cell i _ (yBB hi)
  rw [a2] at U
  cases U
  rw [a4] at L
  have eo:o=o':=by
   have:=Option.some.inj L
   injection this
  subst eo
  rw [a5] at O
  have eu:u=u':=by injection O with h;injection h
  subst eu
  rw [Z,b1,a3.inj b3]
 .rw [List.getElem?_eq_none (by rw [k.len];omega),List.getElem?_eq_none (by rw [z.len];omega)]
open Classical in
noncomputable def hid (cl:List (Str×Addr)) (H:Hp):Hp:=fun b=>if ∃ x,cl.lookup x=some b then none else H b
open Classical in
noncomputable def back (cl:List (Str×Addr)) (H H1:Hp):Hp:=fun b=>if ∃ x,cl.lookup x=some b then H b else H1 b
theorem ZC4 {cl:List (Str×Addr)} {H:Hp} {x:Str} {b:Addr} (h:cl.lookup x=some b):hid cl H b=none:=by unfold hid;rw [if_pos ⟨x,h⟩]
theorem ZCC {cl:List (Str×Addr)} {H:Hp} {b:Addr} (h:¬ ∃ x,cl.lookup x=some b):hid cl H b=H b:=by unfold hid;rw [if_neg h]
theorem ZCi {cl:List (Str×Addr)} {H H1:Hp} {x:Str} {b:Addr} (h:cl.lookup x=some b):back cl H H1 b=H b:=by unfold back;rw [if_pos ⟨x,h⟩]
theorem ZBy {cl:List (Str×Addr)} {H H1:Hp} {b:Addr} (h:¬ ∃ x,cl.lookup x=some b):back cl H H1 b=H1 b:=by unfold back;rw [if_neg h]
theorem hid_le {cl:List (Str×Addr)} {H:Hp} {b:Addr} {o:HO} (h:hid cl H b=some o):H b=some o:=by
 by_cases q:∃ x,cl.lookup x=some b
 .obtain ⟨x,q⟩:=q;rw [ZC4 q] at h;cases h
 .rw [ZCC q] at h;exact h
noncomputable def ZDo (cl:List (Str×Addr)) (H:Hp):Prop:=∀ x c,cl.lookup x=some c->∃ u o,H c=some (FZ o) /\ o.data=.cell u
theorem CloL.cells {H:Hp} {g:Addr} {iname iq:Str} {ip:Arguments} {ib:List Stmt} {isc:Scope} {fr:List Str} {cs:List V} {cl:List (Str×Addr)} (k:CloL H g iname iq ip ib isc fr cs cl):ZDo cl H:=fun x c h=>by
 obtain ⟨i,hi⟩:=List.getElem?_of_mem (k.keys x c h)
 obtain ⟨v,c2,u,o,_,h2,_,z,J⟩:=k.cell i x hi
 rw [h] at h2
 cases h2
 exact ⟨_,o,z,J⟩
theorem ZBK {cl:List (Str×Addr)} {H:Hp} {b:Addr} {o:HO} (C:ZDo cl H) (h:H b=some o) (n:∀ ob,o≠FZ ob):hid cl H b=some o:=by
 rw [ZCC,h]
 rintro ⟨x,q⟩
 obtain ⟨u,ob,e,_⟩:=C x b q
 rw [h] at e
 exact n ob (Option.some.inj e)
theorem hid_none {cl:List (Str×Addr)} {H:Hp} {b:Addr} (C:ZDo cl H) (h:hid cl H b=none) (n:¬ ∃ x,cl.lookup x=some b):H b=none:=by rw [ZCC n] at h;exact h
theorem back_upd {cl:List (Str×Addr)} {H H1:Hp} {l:Addr} {o:HO} (n:¬ ∃ x,cl.lookup x=some l):back cl H (upd H1 l o)=upd (back cl H H1) l o:=by
 funext b
 by_cases q:∃ x,cl.lookup x=some b
 .have:b≠l:=fun e=>n (e ▸ q)
  obtain ⟨x,q⟩:=q
  rw [ZCi q,ZAH this,ZCi q]
 .rw [ZBy q]
  by_cases e:b=l
  .subst e;rw [ZAE,ZAE]
  .rw [ZAH e,ZAH e,ZBy q]
theorem back_hid {cl:List (Str×Addr)} {H:Hp}:back cl H (hid cl H)=H:=by
 funext b
 by_cases q:∃ x,cl.lookup x=some b
 .obtain ⟨x,q⟩:=q;rw [ZCi q]
 .rw [ZBy q,ZCC q]
noncomputable def NoC (cl:List (Str×Addr)) (H:Hp):Prop:=∀ x c,cl.lookup x=some c->H c=none
structure CloScope (N ps fr:List Str) (sc:Scope):Prop where
 kind:sc.kind=.function
 co:sc.isCoroutine=false
 gen:sc.isGenerator=false
 nd:N.Nodup
 pre:N.take ps.length=ps
 suf:N.drop (N.length-fr.length)=fr
 two:ps.length+fr.length <= N.length
 par:∀ x∈ps,sc.names.lookup x=some .local
 nocell:∀ y∈sc.names,y.2≠.cell
 free:∀ x∈fr,sc.names.lookup x=some .free
 only:∀ x,sc.names.lookup x=some .free->x∈fr
noncomputable def ZB6 (N:List Str) (vs cs:List V):St:=vs.map some++(List.replicate (N.length-vs.length-cs.length) none++cs.map some)
noncomputable def ZDV (P:Program) (w:World) (K:W.Frag) (mg:Str->Option Value) (base:Heap) (N:List Str) (qual:Str) (scope:Scope) (f:Addr) (cd:Value) (cl:List (Str×Addr)) (A:Around) (outer:List Env) (s:Shared) (H:Hp):Cx where
 prog:=P
 w:=w
 K:=K
 mg:=mg
 base:=base
 A:=A.deeper (PySem.W.envX qual scope s.heap.objs.size f cd cl)
 N:=N
 s₀:=s
 H₀:=H
 env:=PySem.W.envX qual scope s.heap.objs.size f cd cl
 outer:=outer
 stack:=PySem.W.envX qual scope s.heap.objs.size f cd cl::outer
 ex:=[]
 calm:=true
 fn:=fun _=>false
 pn:=[]
 xe:=fun _ _=>False
theorem startC_get {N:List Str} {vs cs:List V} {i:Nat} {v:V} (hl:vs.length+cs.length <= N.length) (h:(ZB6 N vs cs)[i]?=some (some v)) :
  vs[i]?=some v∨(N.length-cs.length <= i /\ cs[i-(N.length-cs.length)]?=some v):=by
 unfold ZB6 at h
 by_cases h1:i < vs.length
 .rw [yAY (by simpa using h1),yAS] at h
  cases e:vs[i]? with
  | none=>rw [e] at h;cases h
  | some a=>rw [e] at h;cases h;exact .inl rfl
 .rw [yAX (by simpa using Nat.le_of_not_lt h1),yAF] at h
  by_cases h2:i-vs.length < N.length-vs.length-cs.length
  .rw [yAY (by simpa using h2),yBI,if_pos h2] at h
   cases h
  .rw [yAX (by simpa using Nat.le_of_not_lt h2),yAG,yAS] at h
   right
   refine ⟨by omega,?_⟩
   rw [show i-(N.length-cs.length)=i-vs.length-(N.length-vs.length-cs.length) by omega]
   cases e:cs[i-vs.length-(N.length-vs.length-cs.length)]? with
   | none=>rw [e] at h;cases h
   | some a=>rw [e] at h;cases h;rfl
theorem zip_fst_sub:∀ (ps:List Str) (us:List Value),((ps.zip us).map (·.1)).Sublist ps
 | [],_=>by simp
 | p::ps,[]=>by simp
 | p::ps,u::us=>by rw [List.zip_cons_cons,yAU];exact (zip_fst_sub ps us).cons₂ p
theorem lookup_nodup {α:Type}:∀ {cs:List (Str×α)} {n:Str} {c:α},(cs.map (·.1)).Nodup->(n,c)∈cs->cs.lookup n=some c
 | (m,d)::r,n,c,hn,h=>by
  rw [yAU] at hn
  have J:=List.nodup_cons.mp hn
  rw [yBA]
  rcases yAH.mp h with e | h
  .cases e;simp
  .have:n≠m:=fun z=>J.1 (z ▸ List.mem_map_of_mem (f:=(·.1)) h)
   have:(n == m)=false:=by simpa using this
   rw [this]
   exact lookup_nodup J.2 h
theorem zip_lookup {ps:List Str} {us:List Value} (J:ps.Nodup) {i:Nat} {x:Str} {u:Value} (h1:ps[i]?=some x) (h2:us[i]?=some u):((ps.zip us).reverse).lookup x=some u:=by
 have hm:(x,u)∈(ps.zip us).reverse:=by
  rw [List.mem_reverse]
  refine yAQ (i:=i) ?_
  rw [List.getElem?_zip_eq_some]
  exact ⟨h1,h2⟩
 have z:((ps.zip us).reverse.map (·.1)).Nodup:=by
  rw [List.map_reverse]
  exact List.pairwise_reverse.mpr (List.Pairwise.imp (fun h=>Ne.symm h) (J.sublist (zip_fst_sub ps us)))
 exact lookup_nodup z hm
section
variable {P:Program} {w:World} {K:W.Frag} {mg:Str->Option Value} {base:Heap} {A:Around} {outer:List Env} {s:Shared} {H:Hp} {g:Addr} {iname iq:Str} {ip:Arguments} {ib:List Stmt} {isc:Scope} {N ps fr:List Str} {cs vs:List V} {us:List Value} {cl:List (Str×Addr)} {k:Nat}
theorem clo_call {Q:VK} (C:CloL H g iname iq ip ib isc fr cs cl) (S:CloScope N ps fr isc) (hr:Room (k+1) A) (Y:Env0 P w K mg base A outer s H) (hl:vs.length=ps.length) (r:Vals vs us)
  (a9:∀ (a6 pm a0:Value) (c':Addr),bindArgs (PySem.W.fnX iname iq ip ib isc cl .none .none a6 pm none (.ref c') a0) ⟨us,[]⟩=pure (ps.zip us))
  (aa:∀ (cd:Value) (A':Around),Room k A'->∃ t,PSs (ZDV P w K mg base N iq isc g cd cl A outer s (hid cl H)) ib t /\ t { nx:=fun _ H'=>NoC cl H'->Q .non (back cl H H'),rt:=fun v H'=>NoC cl H'->Q v (back cl H H') } (ZB6 N vs cs) (hid cl H)) :
  codeAny (model P w) A (.call (.ref g) ⟨us,[]⟩) (fun r s'=>match r with | .ok (.ret u)=>CE outer P w H s Q u s' | _=>False) s:=by
 obtain ⟨a6,pm,a0,c',hg,hc⟩:=C.obj
 have af:=ZCZ Y.hok hg
 have ak:s.heap.NoLimit:=Y.mod.nolimit.keeps fun b o e=>(Y.bs b o e).1
 have al:ps.Nodup:=by rw [<- S.pre];exact S.nd.sublist (List.take_sublist _ _)
 refine codeAny_call_def (o:=PySem.W.fnMade iname iq ip ib isc cl a6 pm c' a0) (fd:=PySem.W.fnX iname iq ip ib isc cl .none .none a6 pm none (.ref c') a0) (body:=ib) (binds:=ps.zip us) hr.depth af rfl ak (hc.rec Y.hok) rfl (.of_eq (a9 a6 pm a0 c')) S.nocell (fun y hy=>S.par _ (List.of_mem_zip hy).1) (fun h₁ aj U=>?_) S.co S.gen S.kind
 obtain ⟨t,ht,hq⟩:=aa (.ref c') _ (hr.deeper (PySem.W.envX iq isc s.heap.objs.size g (.ref c') cl))
 have L:∀ x c,cl.lookup x=some c->∃ o u,H c=some (FZ o) /\ s.heap.get? c=some o /\ o.data=.cell u:=fun x c h=>by
  obtain ⟨u,o,e,d⟩:=C.cells x c h
  exact ⟨o,u,e,ZCZ Y.hok e,d⟩
 have ag:∀ x c,cl.lookup x=some c->c∉frs outer:=fun x c h hb=>by
  obtain ⟨o,u,e,_⟩:=L x c h
  rw [Y.frf c hb] at e;cases e
 have am:ps.length <= N.length:=by have:=S.two;omega
 have I:Inv (ZDV P w K mg base N iq isc g (.ref c') cl A outer s (hid cl H)) [] (ZB6 N vs cs) (hid cl H) { s with heap:=h₁,toks:=s.toks+(ps.zip us).length }:=by
  refine ⟨⟨Y.mod,S.kind,rfl,rfl,yAA _,C.inj,fun x hx=>?_,fun y c h=>absurd h (by simp [ZDV]),fun _=>hr.hd,Around.frames_deeper Y.frames,.inr ⟨rfl,rfl⟩,fun b z=>absurd (show b∈([]:List Addr) from z) (by simp),fun b o e=>?_,Y.bsz,fun b _ _ z=>absurd (show b∈([]:List Addr) from z) (by simp),fun b z=>absurd (show b∈([]:List Addr) from z) (by simp),Y.funs,fun b hb=>?_⟩,
   rfl,Y.bare,Un.kept U,⟨_,aj,fun i x v h1 h2 h3=>?_⟩,fun x c h=>?_,?_,fun x c h=>ZC4 h,fun p hp=>absurd (show p∈([]:List (Addr×Obj)) from hp) (by simp),?_,?_⟩
  .have hx:isc.names.lookup x=some .cell∨isc.names.lookup x=some .free:=hx
   rcases hx with hx | hx
   .exact absurd rfl (S.nocell _ (PySem.mem_of_lookup hx))
   .obtain ⟨i,hi⟩:=List.getElem?_of_mem (S.only x hx)
    obtain ⟨v,c,u,o,_,h2,_⟩:=C.cell i x hi
    exact ⟨c,h2⟩
  .refine ⟨(Y.bs b o e).1,?_⟩
   show hid cl H b=none
   by_cases q:∃ x,cl.lookup x=some b
   .obtain ⟨x,q⟩:=q;exact ZC4 q
   .rw [ZCC q];exact (Y.bs b o e).2
  .show hid cl H b=none
   rw [ZCC]
   .exact Y.frf b hb
   .rintro ⟨x,q⟩;exact ag x b q hb
  .have h1:N[i]?=some x:=h1
   have ad:=C.len
   rcases startC_get (by rw [hl,ad];exact S.two) h2 with h4 | ⟨h4,h5⟩
   .obtain ⟨u,hu,rv⟩:=r.get h4
    have hi:i < vs.length:=(yAP.mp h4).1
    have hp:ps[i]?=some x:=by rw [<- S.pre,List.getElem?_take_of_lt (by omega)];exact h1
    exact ⟨u,rv,.inl ⟨S.par x (yAQ hp),zip_lookup al hp hu⟩⟩
   .have hf:fr[i-(N.length-cs.length)]?=some x:=by
     rw [<- S.suf,List.getElem?_drop,<- ad,show N.length-cs.length+(i-(N.length-cs.length))=i by omega]
     exact h1
    obtain ⟨v',c,u,o,a1,a2,a3,a4,a5⟩:=C.cell _ x hf
    rw [h5] at a1
    cases a1
    refine ⟨u,a3,.inr ⟨.inr (S.free x (yAQ hf)),c,a2,o,U _ _ (ZCZ Y.hok a4),a5⟩⟩
  .obtain ⟨o,u,e,Z,d⟩:=L x c h
   exact ⟨u,o,U _ _ Z,d⟩
  .show hid cl H s.heap.objs.size=none
   have hn:=Y.hok.fresh (yAA _)
   rw [ZCC]
   .exact hn
   .rintro ⟨x,q⟩
    obtain ⟨o,u,e,_⟩:=L x _ q
    rw [hn] at e;cases e
  .intro b o e
   have e':=hid_le e
   refine (Y.hok b o e').stay (fun c v _ q=>U c v q) (fun c q=>?_) fun c xs q=>?_
   .exact ZBK C.cells q (fun ob z=>by cases z)
   .exact ZBK C.cells q (fun ob z=>by cases z)
  .unfold ZB6
   show _=N.length
   have:=S.two
   have:=C.len
   simp only [yAI,yAF,yAG]
   omega
 refine wpAny_mono (ht [] _ (ZB6 N vs cs) (hid cl H) _ I hq) (fun fl s' hs=>?_) fun e s' hs=>False.elim hs
 have ah:∀ {a7:St} {H':Hp} {v:V} {u:Value},Inv (ZDV P w K mg base N iq isc g (.ref c') cl A outer s (hid cl H)) [] a7 H' s'->RelV v u->(NoC cl H'->Q v (back cl H H'))->CE outer P w H s Q u s' :=
  fun {a7 H' v u} J rv q=>by
   have un:Un (frs outer) [] (hid cl H) H' s.heap s'.heap:=J.base
   have ac:∀ b:Addr,b∉([]:List Addr):=fun b=>by simp
   have a8:∀ x c o,cl.lookup x=some c->s.heap.get? c=some o->s'.heap.get? c=some o:=fun x c o h e=>un.keep c o e (ZC4 h) (ag x c h) (ac c)
   have O:∀ x c,cl.lookup x=some c->H' c=none:=fun x c h=>by
    obtain ⟨o,u,e,Z,d⟩:=L x c h
    exact un.free c o Z (ZC4 h) (ac c)
   refine ⟨v,back cl H H',J.os,J.bare,⟨fun b o e n hb hx=>?_,fun b o e n hb hx=>?_,fun b o e n hx=>?_,un.there,fun b xs e=>?_,fun b o u' e=>?_,fun b ai e=>?_⟩,fun b o e=>?_,rv,q O⟩
   .refine un.keep b o e ?_ hb hx
    by_cases q:∃ x,cl.lookup x=some b
    .obtain ⟨x,q⟩:=q;exact ZC4 q
    .rw [ZCC q];exact n
   .refine un.slot b o e ?_ hb hx
    by_cases q:∃ x,cl.lookup x=some b
    .obtain ⟨x,q⟩:=q;exact ZC4 q
    .rw [ZCC q];exact n
   .have nc:¬ ∃ x,cl.lookup x=some b:=by
     rintro ⟨x,q⟩
     obtain ⟨o,u,e,_⟩:=L x b q
     rw [n] at e;cases e
    rw [ZBy nc]
    exact un.free b o e (by rw [ZCC nc];exact n) hx
   .have Z:=un.tups b xs (ZBK C.cells e (fun ob z=>by cases z))
    rw [ZBy]
    .exact Z
    .rintro ⟨x,q⟩;rw [O x b q] at Z;cases Z
   .by_cases q:∃ x,cl.lookup x=some b
    .obtain ⟨x,q⟩:=q;rw [ZCi q];exact e
    .rw [ZBy q];exact un.frzs b o u' (by rw [ZCC q];exact e)
   .obtain ⟨ae,Z⟩:=un.tbls b ai (ZBK C.cells e (fun ob z=>by cases z))
    refine ⟨ae,?_⟩
    rw [ZBy]
    .exact Z
    .rintro ⟨x,q⟩;rw [O x b q] at Z;cases Z
   .have up:∀ c oc,H' c=some oc->back cl H H' c=some oc:=fun c oc q=>by
     rw [ZBy]
     .exact q
     .rintro ⟨x,z⟩;rw [O x c z] at q;cases q
    by_cases q:∃ x,cl.lookup x=some b
    .obtain ⟨x,q⟩:=q
     rw [ZCi q] at e
     obtain ⟨o2,u2,Z,e3,d⟩:=L x b q
     rw [e] at Z
     cases Z
     exact ZDm (a8 x b _ q e3)
    .rw [ZBy q] at e
     exact (J.hok b o e).stay (fun c v _ q=>q) (fun c q=>up c _ q) fun c xs q=>up c _ q
 cases fl with
 | ret u=>
  obtain ⟨v,a7,H',J,rv,q⟩:=hs
  exact ah J rv q
 | next=>
  obtain ⟨a7,H',J,q⟩:=hs
  exact ah (v:=V.non) (u:=Value.none) J rfl q
 | brk=>
  obtain ⟨_,_,_,q⟩:=hs
  exact False.elim q
 | cont=>
  obtain ⟨_,_,_,q⟩:=hs
  exact False.elim q
end
noncomputable def ZDY (r:V->List V->Hp->VK->Prop) (ta:TE) (t:TA):TE:=fun σ H Q=>ta σ H fun f H1=>(∃ g o,f=.ref g /\ H1 g=some (FZ o) /\ ∃ fd,o.data=.func fd) /\ t σ H1 fun vs H2=>r f vs H2 Q
noncomputable def CloR (X:Cx) (r:V->List V->Hp->VK->Prop):Prop :=
 ∀ (pins:List (Addr×Obj)) (s:Shared) (σ:St) (H:Hp) (f:Addr) (vs:List V) (us:List Value) (Q:VK),Inv X pins σ H s->Vals vs us->r (.ref f) vs H Q ->
  PySem.W.FnAt f s.heap /\ wpAny (model X.prog X.w) X.A (call (.ref f) us) (EP X pins σ Q) X.xe s
theorem fnAt_of {h:Heap} {g:Addr} {o:Obj} {fd:FuncData} (e:h.get? g=some o) (d:o.data=.func fd):PySem.W.FnAt g h:=by
 obtain ⟨oc,L,J,z⟩:=o
 have d':J=.func fd:=d
 subst d'
 exact ⟨oc,L,fd,z,e⟩
theorem pe_callV {X:Cx} {x:Str} {p pos:Pos} {e:Expr} {es:List Expr} {ta:TE} {t:TA} {r:V->List V->Hp->VK->Prop} (hc:CloR X r) (hx:PE X (.Name x p) ta) (ha:PA X (e::es) t)
  (he:starEach (e::es) X.env=(false,eval e X.env)::starEach es X.env:=by rfl) (z:(backTo pos (starEach es X.env)).any (·.1)=false:=by rfl):PE X (.Call (.Name x p) (e::es) [] pos) (ZDY r ta t):=by
 intro pins s σ H Q I h
 refine wpAny_Call_Name_kw (thn (hx pins s σ H _ I h) fun v s1 J=>?_)
 obtain ⟨f,H1,L,Y,⟨g,o,eg,U,fd,hd⟩,q⟩:=J
 subst eg
 cases Y
 refine PySem.W.callWith_F (fnAt_of (ZCZ L.hok U) hd) (thn (ha pos pins s1 σ H1 _ L q) fun us s2 J=>?_) he z
 obtain ⟨vs,H2,Z,O,q2⟩:=J
 exact hc pins s2 σ H2 g vs us Q Z O q2
structure CloOk (P:Program) (w:World) (K:W.Frag) (mg:Str->Option Value) (base:Heap) (k:Nat) (r:V->List V->Hp->VK->Prop):Prop where
 run:∀ (A:Around) (outer:List Env) (s:Shared) (H:Hp) (f:Addr) (vs:List V) (us:List Value) (Q:VK),Room k A->Env0 P w K mg base A outer s H->Vals vs us->r (.ref f) vs H Q ->
  PySem.W.FnAt f s.heap /\ codeAny (model P w) A (.call (.ref f) ⟨us,[]⟩) (fun r s'=>match r with | .ok (.ret u)=>CE outer P w H s Q u s' | _=>False) s
theorem CloOk.at {X:Cx} {k:Nat} {r:V->List V->Hp->VK->Prop} (C:CloOk X.prog X.w X.K X.mg X.base k r) (L:Room k X.A):CloR X r:=by
 intro pins s σ H f vs us Q I J h
 obtain ⟨h1,h2⟩:=C.run X.A X.stack s H f vs us Q L I.env0 J h
 refine ⟨h1,wpAny_call (codeAny_mono h2 fun r s' z=>?_)⟩
 cases r with
 | error e=>exact False.elim z
 | ok fl=>
  cases fl with
  | ret u=>exact I.after z
  | next=>exact False.elim z
  | brk=>exact False.elim z
  | cont=>exact False.elim z
theorem Clo.fnAt {P:Program} {w:World} {H:Hp} {h:Heap} {g:Addr} {iname iq:Str} {ip:Arguments} {ib:List Stmt} {isc:Scope} {fr:List Str} {cs:List V} {cl:List (Str×Addr)} (x:HOk P w H h) (C:CloL H g iname iq ip ib isc fr cs cl):PySem.W.FnAt g h:=by
 obtain ⟨J,L,z,c',e,_⟩:=C.obj
 exact fnAt_of (ZCZ x e) rfl
theorem clo_of {P:Program} {w:World} {K:W.Frag} {mg:Str->Option Value} {base:Heap} {iname iq:Str} {ip:Arguments} {ib:List Stmt} {isc:Scope} {N ps fr:List Str} {k:Nat} {r:V->List V->Hp->VK->Prop} (S:CloScope N ps fr isc)
  (Y:∀ f vs H Q,r f vs H Q->∃ g cs,f=.ref g /\ Clo H g iname iq ip ib isc fr cs) (Z:∀ f vs H Q,r f vs H Q->vs.length=ps.length)
  (L:∀ (cl:List (Str×Addr)) (O U z:Value) (c':Addr) (us:List Value),us.length=ps.length->bindArgs (PySem.W.fnX iname iq ip ib isc cl .none .none O U none (.ref c') z) ⟨us,[]⟩=pure (ps.zip us))
  (J:∀ (g:Addr) (cs:List V) (cl:List (Str×Addr)) (cd:Value) (A:Around) (outer:List Env) (s:Shared) (H:Hp) (vs:List V) (Q:VK),Room k (A.deeper (PySem.W.envX iq isc s.heap.objs.size g cd cl))->CloL H g iname iq ip ib isc fr cs cl->r (.ref g) vs H Q ->
   ∃ t,PSs (ZDV P w K mg base N iq isc g cd cl A outer s (hid cl H)) ib t /\ t { nx:=fun _ H'=>NoC cl H'->Q .non (back cl H H'),rt:=fun v H'=>NoC cl H'->Q v (back cl H H') } (ZB6 N vs cs) (hid cl H)):CloOk P w K mg base (k+1) r:=by
 refine ⟨fun A outer s H f vs us Q hr e0 rv h=>?_⟩
 obtain ⟨g,cs,eg,cl,C⟩:=Y _ _ _ _ h
 cases eg
 have hl:=Z _ _ _ _ h
 refine ⟨Clo.fnAt e0.hok C,clo_call (k:=k) C S hr e0 hl rv (fun O U z c'=>L cl O U z c' us (by rw [<- rv.length];exact hl)) fun cd A' a0=>?_⟩
 exact J f cs cl cd A outer s H vs Q (hr.deeper _) C h
theorem NoC.ne {cl:List (Str×Addr)} {H:Hp} {b:Addr} {o:HO} (n:NoC cl H) (h:H b=some o):¬ ∃ x,cl.lookup x=some b:=fun ⟨x,e⟩=>by rw [n x b e] at h;cases h
noncomputable def ZD6 (H:Hp) (Pt:Addr) (pos:Pos) (iq:Str):Prop:=H Pt=some (.tbl #[])∨∃ c',H Pt=some (.tbl #[rawInt pos.line,rawInt pos.col,.ref c']) /\ CodeAt H c' iq
noncomputable def ZDK (mg:Str->Option Value) (h:Heap):Prop:=∃ bm ob,mg "__builtins__"=some (.ref bm) /\ bm≠builtinsNs /\ h.get? bm=some ob /\ ob.cls=.type "module" /\ ob.dict=some builtinsNs /\ ob.data=.plain
section
variable {X:Cx} {pins:List (Addr×Obj)} {σ:St} {H:Hp} {s:Shared}
structure MadeMid (H H':Hp) (Pt:Addr) (pos:Pos) (g:Addr) (iname iq:Str) (ip:Arguments) (ib:List Stmt) (isc:Scope) (cl:List (Str×Addr)):Prop where
 same:∀ b o,b≠Pt->H b=some o->H' b=some o
 tab:ZD6 H' Pt pos iq
 obj:∃ (doc pm ctv:Value) (c':Addr),H' g=some (FZ (PySem.W.fnMade iname iq ip ib isc cl doc pm c' ctv)) /\ CodeAt H' c' iq
 fresh:H g=none
theorem Inv.made3 (I:Inv X pins σ H s) {Pt c':Addr} {ps J:Array Value} {h':Heap} {oc fo:Obj} {tk:Nat} (O:H Pt=some (.tbl ps)) (hx:Heap.ExtBut Pt s.heap h') (U:s.heap.objs.size <= c') (Y:c' < h'.objs.size) (a2:h'.get? c'=some oc)
  (Z:h'.get? Pt=some (PySem.W.tabObj (ps++J))) (a0:fo.isFreed=false):Inv X pins σ (upd (upd (upd H Pt (.tbl (ps++J))) c' (FZ oc)) h'.objs.size (FZ fo)) { s with heap:=h'.push fo,toks:=tk }:=by
 have gn:∀ b o,s.heap.get? b=some o->b≠h'.objs.size /\ b≠c':=fun b o e=>by
  have l:=Heap.lt_size e
  exact ⟨yAB (Nat.lt_trans (yAC l U) Y),yAB (yAC l U)⟩
 have gt:∀ b o,H b=some o->b≠h'.objs.size /\ b≠c':=fun b o e=>by
  have l:=I.hok.lt e
  exact ⟨yAB (Nat.lt_trans (yAC l U) Y),yAB (yAC l U)⟩
 have np:∀ b,H b=none->b≠Pt:=fun b n z=>by rw [z,O] at n;cases n
 have cg:c'≠h'.objs.size:=yAB Y
 have L:∀ b o,b≠Pt->H b=some o->upd (upd (upd H Pt (.tbl (ps++J))) c' (FZ oc)) h'.objs.size (FZ fo) b=some o:=fun b o n e=>by
  rw [ZAH (gt b o e).1,ZAH (gt b o e).2,ZAH n];exact e
 have a1:upd (upd (upd H Pt (.tbl (ps++J))) c' (FZ oc)) h'.objs.size (FZ fo) Pt=some (.tbl (ps++J)):=by
  rw [ZAH (gt Pt _ O).1,ZAH (gt Pt _ O).2,ZAE]
 refine I.un (h':=h'.push fo) (t':=tk) ⟨fun b o e n _ _=>?_,fun b o e n _ _=>?_,fun b o e n _=>?_,fun b o e _=>?_,fun b xs e=>?_,fun b o u e=>?_,fun b qs e=>?_⟩ fun b o e=>?_
 .exact Heap.get?_push_of_some _ (hx b o (np b n) e)
 .exact ⟨o.slots,Heap.get?_push_of_some _ (hx b o (np b n) e)⟩
 .rw [ZAH (gn b o e).1,ZAH (gn b o e).2,ZAH (np b n)];exact n
 .by_cases q:b=Pt
  .subst q;exact ⟨_,Heap.get?_push_of_some _ Z⟩
  .exact ⟨o,Heap.get?_push_of_some _ (hx b o q e)⟩
 .exact L b _ (fun z=>by rw [z,O] at e;cases e) e
 .exact L b _ (fun z=>by rw [z,O] at e;cases e) e
 .by_cases q:b=Pt
  .subst q
   rw [O] at e
   cases e
   exact ⟨J,a1⟩
  .exact ⟨#[],by rw [L b _ q e];simp⟩
 .by_cases q1:b=h'.objs.size
  .subst q1;rw [ZAE] at e;cases e;exact ZDm (Heap.get?_push_size _ a0)
  .rw [ZAH q1] at e
   by_cases q2:b=c'
   .subst q2;rw [ZAE] at e;cases e;exact ZDm (Heap.get?_push_of_some _ a2)
   .rw [ZAH q2] at e
    by_cases q3:b=Pt
    .subst q3;rw [ZAE] at e;cases e;exact Heap.get?_push_of_some _ Z
    .rw [ZAH q3] at e
     refine (I.hok b o e).stay (fun c u hc q=>?_) (fun c q=>?_) fun c xs q=>?_
     .refine Heap.get?_push_of_some _ (hx c u ?_ q)
      rcases hc with z | z
      .rw [z];exact q3
      .intro z2;rw [z2,O] at z;cases z
     .exact L c _ (fun z=>by rw [z,O] at q;cases q) q
     .exact L c _ (fun z=>by rw [z,O] at q;cases q) q
theorem Inv.made1 (I:Inv X pins σ H s) {h':Heap} {fo:Obj} {tk:Nat} (L:∀ b o,s.heap.get? b=some o->h'.get? b=some o) (z:s.heap.objs.size <= h'.objs.size) (J:fo.isFreed=false):Inv X pins σ (upd H h'.objs.size (FZ fo)) { s with heap:=h'.push fo,toks:=tk } :=
 I.laid (fun b u q=>Heap.get?_push_of_some _ (L b u q)) z (ZDm (Heap.get?_push_size _ J))
noncomputable def tDef (i:Nat) (Pt:Addr) (pos:Pos) (iname iq:Str) (ip:Arguments) (ib:List Stmt) (isc:Scope) (cl:List (Str×Addr)):TS:=fun D σ H=>ZD6 H Pt pos iq /\ ∀ g H',MadeMid H H' Pt pos g iname iq ip ib isc cl->D.nx (σ.set i (some (.ref g))) H'
theorem ps_def {i:Nat} {Pt c:Addr} {pos:Pos} {iname iq:Str} {ip:Arguments} {ib:List Stmt} {isc:Scope} (hN:X.N.Nodup) (hi:X.N[i]?=some iname) (hx:Loc X.env.scope iname) (hf:X.fn iname=true∨X.env.scope.names.lookup iname=some .local)
  (U:X.env.code=.ref c) (C:PySem.W.CodeHd X.base c Pt) (B:ZDK X.mg X.base) (hq:qualnameIn X.env iname iname=iq) (hd0:ip.defaults=[]) (af:ip.kw_defaults=[]) (ha:annTrees ip none X.env=[])
  (ae:∀ x,(x,NameKind.free)∈isc.names->∃ c,X.env.cells.lookup x=some c) :
  PS X (.FunctionDef iname ip ib [] none [] isc none iname pos) (tDef i Pt pos iname iq ip ib isc (closFrom X.env.cells isc.names [])):=by
 intro pins s σ H D I h
 obtain ⟨ht,h⟩:=h
 refine PySem.W.nestDef_K hd0 af ha ?_
 rw [hq]
 have a5:=I.ok.mod.glob.keeps I.bk
 have hC:=C.keeps I.bk
 have a7:=closureFor_eq (scope:=isc) (env:=X.env) ae
 obtain ⟨bm,ob,b1,b2,b3,b4,b5,b6⟩:=B
 have ac:bm≠mainGlobals:=fun q=>by
  obtain ⟨o,es,ep,e,hd,_⟩:=I.ok.mod.glob
  rw [q,e] at b3;cases b3;rw [hd] at b6;cases b6
 have O:∀ {qs:Array Value},s.heap.get? Pt=some (PySem.W.tabObj qs)->mainGlobals≠Pt /\ s.heap.BuiltinsAt X.mg Pt:=fun {qs} hm=>by
  refine ⟨fun q=>?_,bm,ob,b1,b2,ac,fun q=>?_,I.bk _ _ b3,b4,b5,b6⟩
  .obtain ⟨o,es,ep,e,hd,_⟩:=a5
   rw [q,hm] at e;cases e;cases hd
  .have e:=I.bk _ _ b3
   rw [q,hm] at e;cases e;cases b4
 have a8:∀ {g:Addr} {H':Hp} {s':Shared},Inv X pins σ H' s'->MadeMid H H' Pt pos g iname iq ip ib isc (closFrom X.env.cells isc.names []) ->
   wpAny (model X.prog X.w) X.A (storeName X.env iname (.ref g)) (fun _ a6=>SP X pins D .next a6) X.xe s':=fun {g H' s'} J M=>
  ZCJ J hN hi hx (v:=.ref g) rfl (fun a6 J'=>⟨_,H',J',h g H' M⟩) hf
 rcases ht with ht | ⟨c1,ht,ag⟩
 .have hP:s.heap.get? Pt=some (PySem.W.tabObj #[]):=I.hok Pt _ ht
  obtain ⟨a1,a2⟩:=O hP
  refine PySem.W.makeFunction_K a7 I.ok.glob a5 U hC hP trivial rfl a1 a2 fun c' z L h' tk aa Z a0 a9 ad=>?_
  obtain ⟨c2,oc,vs,t,e2,ah,hd,hv⟩:=a9
  cases e2
  have J:=I.made3 (tk:=tk) (fo:=PySem.W.fnMade iname iq ip ib isc (closFrom X.env.cells isc.names []) L ((X.mg "__name__").getD .none) c' z) ht aa Z a0 ah ad rfl
  have gt:∀ b o,H b=some o->b≠h'.objs.size /\ b≠c':=fun b o e=>by
   have l:=I.hok.lt e
   exact ⟨yAB (Nat.lt_trans (yAC l Z) a0),yAB (yAC l Z)⟩
  have Y:CodeAt (upd (upd (upd H Pt (.tbl (#[]++#[rawInt pos.line,rawInt pos.col,.ref c']))) c' (FZ oc)) h'.objs.size (FZ (PySem.W.fnMade iname iq ip ib isc (closFrom X.env.cells isc.names []) L ((X.mg "__name__").getD .none) c' z))) c' iq :=
   ⟨oc,vs,t,by rw [ZAH (yAB a0),ZAE],hd,hv⟩
  refine a8 J ⟨fun b o n e=>?_,.inr ⟨c',?_,Y⟩,⟨L,_,z,c',ZAE,Y⟩,?_⟩
  .rw [ZAH (gt b o e).1,ZAH (gt b o e).2,ZAH n];exact e
  .rw [ZAH (gt Pt _ ht).1,ZAH (gt Pt _ ht).2,ZAE];rfl
  .exact I.hok.fresh (yAD Z (Nat.le_of_lt a0))
 .have hP:s.heap.get? Pt=some (PySem.W.tabObj #[rawInt pos.line,rawInt pos.col,.ref c1]):=I.hok Pt _ ht
  obtain ⟨a1,a2⟩:=O hP
  refine PySem.W.makeFunction_hit (cv:=.ref c1) a7 I.ok.glob a5 U hC hP trivial ?_ a2 fun z L h' tk hk a4=>?_
  .simp [codeAmong,rawInt]
  have J:=I.made1 (tk:=tk) (fo:=PySem.W.fnMade iname iq ip ib isc (closFrom X.env.cells isc.names []) L ((X.mg "__name__").getD .none) c1 z) hk a4 rfl
  have gt:∀ b o,H b=some o->b≠h'.objs.size:=fun b o e=>yAB (yAC (I.hok.lt e) a4)
  have a3:∀ b o,H b=some o->upd H h'.objs.size (FZ (PySem.W.fnMade iname iq ip ib isc (closFrom X.env.cells isc.names []) L ((X.mg "__name__").getD .none) c1 z)) b=some o:=fun b o e=>by rw [ZAH (gt b o e)];exact e
  have Y:=ag.mono (H':=upd H h'.objs.size (FZ (PySem.W.fnMade iname iq ip ib isc (closFrom X.env.cells isc.names []) L ((X.mg "__name__").getD .none) c1 z))) fun b o e=>a3 b _ e
  exact a8 J ⟨fun b o _ e=>a3 b o e,.inr ⟨c1,a3 _ _ ht,Y⟩,⟨L,_,z,c1,ZAE,Y⟩,I.hok.fresh a4⟩
end
noncomputable def ZD7 (tabs:List (Addr×Addr)) (H:Hp):Prop:=∀ q∈tabs,H q.2=some (.tbl #[])
theorem law_callT {P:Program} {w:World} {K:W.Frag} {mg mb:Str->Option Value} {CX:CXT} {k:Nat} {fa a:Addr} {fd:FuncData} {x:Str} {sp:Sp} {s₁:Shared} {vs:List Value} {ns:List Int} {tabs:List (Addr×Addr)}
  (KX:K.In s₁.heap) (aa:s₁.heap.Ns mainGlobals mg) (U:s₁.heap.Ns builtinsNs mb) (am:∀ x:Str,x≠"__name__"->mb x=bootBuiltins x) (ac:s₁.heap.NoLimit) (hg:s₁.gens=#[])
  (ha:s₁.heap.get? a=some { cls:=.type "list",data:=.seq vs.toArray }) (hi:IntsAre vs ns) (hl:ns.length <= sizeLine) (hr:Room k callerA)
  (hT:∀ q∈tabs,PySem.W.CodeHd s₁.heap q.1 q.2 /\ s₁.heap.get? q.2=some (PySem.W.tabObj #[])) (nt:PySem.W.noTabs K=true) (ah:ZDK mg s₁.heap)
  (F:∀ base:Heap,K.In base->base.Ns mainGlobals mg->(∀ q∈tabs,PySem.W.CodeHd base q.1 q.2)->ZDK mg base->FnOk P w K mg base CX k fa fd [x] sp) (a5:∀ (s:Shared) (u:Value),BindsTo s fd ⟨[u],[]⟩ [(x,u)])
  (ak:∀ H:Hp,ZD7 tabs H->SqL K H a (ns.map V.int)->sp [.ref a] H (fun v _=>v=.bl true) fun _ _ _=>False)
  (ai:∀ H e s',CX [] H s₁ (fun _ _ _=>False) e s'->False) :
  codeAny (model P w) callerA (.call (.ref fa) ⟨[.ref a],[]⟩) (fun r s'=>r=.ok (.ret (.bool true)) /\ OldK s₁.heap s'.heap /\ s'.os=s₁.os /\ AllBare s'.gens) s₁:=by
 have rv:=vals_ints hi
 have a7:=hi.length
 have a2:∀ H:Hp,SqL K H a (ns.map V.int)->HOk P w H s₁.heap->(∀ b o,H b=some o->(b=a /\ K.lookup a=none /\ ∃ ob xs,o=.frz ob (.lst xs))∨(o=.tbl #[] /\ ∃ q∈tabs,q.2=b))->ZD7 tabs H ->
   codeAny (model P w) callerA (.call (.ref fa) ⟨[.ref a],[]⟩) (fun r s'=>r=.ok (.ret (.bool true)) /\ OldK s₁.heap s'.heap /\ s'.os=s₁.os /\ AllBare s'.gens) s₁:=by
  intro H hS ad hA hO
  have J:∀ {b:Addr} {o:Obj},s₁.heap.get? b=some o->H b=none->(hidT s₁.heap H).get? b=some o:=fun e n=>hidT_get e n
  have Y:∀ {b:Addr} {o:Obj},s₁.heap.get? b=some o->(∀ a4 n',o.data≠.seq a4 n')->(o.cls=.none->∀ a4,o.data≠.fields a4)->H b=none:=fun {b o} e d1 d2=>by
   cases q:H b with
   | none=>rfl
   | some u=>
    rcases hA b u q with ⟨e',_⟩ | ⟨_,Z,O,e'⟩
    .subst e'
     rw [ha] at e;cases e
     exact absurd rfl (d1 _ _)
    .subst e'
     rw [(hT Z O).2] at e;cases e
     exact absurd rfl (d2 rfl _)
  have a0:∀ {b:Addr} {m:Str->Option Value},s₁.heap.Ns b m->(hidT s₁.heap H).Ns b m:=fun {b m} ⟨o,es,ep,e,d,r⟩=>⟨o,es,ep,J e (Y e (by rw [d];intro _ _ z;cases z) (fun _=>by rw [d];intro _ z;cases z)),d,r⟩
  have ae:K.In (hidT s₁.heap H):=fun b o e=>J (KX b o e) (by
   cases q:H b with
   | none=>rfl
   | some u=>
    rcases hA b u q with ⟨e',n,_⟩ | ⟨_,Z,O,e'⟩
    .subst e';rw [n] at e;cases e
    .subst e'
     have e2:=KX _ _ e
     rw [(hT Z O).2] at e2
     cases e2
     have h2:=List.all_eq_true.mp nt _ (PySem.W.mem_of_lookupK e)
     exact absurd (show false=true from h2) yAE)
  have hM:Mod K mg (hidT s₁.heap H):=⟨ae,a0 aa,⟨mb,a0 U,am⟩,let ⟨mc,h1,h2⟩:=ac;⟨mc,a0 h1,h2⟩⟩
  have e0:Env0 P w K mg (hidT s₁.heap H) callerA [] s₁ H:=⟨rfl,hM,fun b o e=>of_hidT e,Nat.le_of_eq (hidT_size _ _),trivial,fun b U=>absurd (show b∈([]:List Addr) from U) (by simp),ad,.of_eq hg⟩
  have hC:∀ q∈tabs,PySem.W.CodeHd (hidT s₁.heap H) q.1 q.2:=fun q O=>by
   obtain ⟨o,vs,af,tf,a6,tg,aj,a9,tt,e1,e2,e3,r⟩:=(hT q O).1
   exact ⟨o,vs,af,tf,a6,tg,aj,a9,tt,J e1 (Y e1 (by rw [e3];intro _ _ z;cases z) (fun z=>by rw [e2] at z;cases z)),e2,e3,r⟩
  have hB:ZDK mg (hidT s₁.heap H):=by
   obtain ⟨bm,ob,b1,b2,b3,b4,b5,b6⟩:=ah
   exact ⟨bm,ob,b1,b2,J b3 (Y b3 (by rw [b6];intro _ _ z;cases z) (fun z=>by rw [b4] at z;cases z)),b4,b5,b6⟩
  refine codeAny_mono ((F _ ae (a0 aa) hC hB).run callerA [] s₁ H ⟨[.ref a],[]⟩ [.ref a] [.ref a] _ _ hr e0 (a5 s₁ (.ref a)) (.cons rfl .nil) (ak H hO hS)) fun r s' h=>?_
  cases r with
  | error e=>exact (ai H e s' h).elim
  | ok fl=>
   cases fl with
   | next=>exact False.elim h
   | brk=>exact False.elim h
   | cont=>exact False.elim h
   | ret u=>
    obtain ⟨v,H',os,a8,un,a1,r',q⟩:=h
    have Z:v=.bl true:=q
    subst Z
    obtain rfl:u=Value.bool true:=r'
    have al:∀ b:Addr,b∉frs ([]:List Env):=fun b z=>absurd (show b∈([]:List Addr) from z) (by simp)
    refine ⟨rfl,⟨fun b o e=>?_,fun b o e=>un.there b o e (by simp)⟩,os,a8⟩
    cases q:H b with
    | none=>exact .inl (un.keep b o e q (al b) (by simp))
    | some u=>
     rcases hA b u q with ⟨_,_,ob,xs,z⟩ | ⟨z,Z,O,e'⟩
     .subst z
      have z2:=un.frzs b ob _ q
      obtain ⟨e1,_⟩:=ad b _ q
      obtain ⟨e2,_⟩:=a1 b _ z2
      rw [e] at e1;cases e1
      exact .inl e2
     .subst z
      subst e'
      obtain ⟨a3,z2⟩:=un.tbls _ _ q
      have e2:s'.heap.get? Z.2=some (PySem.W.tabObj (#[]++a3)):=a1 _ _ z2
      have e3:=(hT Z O).2
      rw [e] at e3
      have e4:o=PySem.W.tabObj #[]:=Option.some.inj e3
      subst e4
      exact .inr (.inl ⟨((hT Z O).1.tab (hT Z O).2).isCodeTable,rfl,#[],a3,rfl,e2⟩)
 have ag:∀ q∈tabs,q.2≠a:=fun q O z=>by
  have e:=(hT q O).2
  rw [z,ha] at e;cases e
 cases hk:K.lookup a with
 | some o=>
  have e:=KX a o hk
  rw [ha] at e
  cases e
  refine a2 (fun b=>if b∈tabs.map (·.2) then some (.tbl #[]) else none) (.inr ⟨_,vs.toArray,_,hk,rfl,rfl,rfl,by rw [yAJ,a7];exact hl,by simpa using rv⟩) (fun b u z=>?_) (fun b u z=>?_) fun q O=>if_pos (List.mem_map_of_mem O)
  .by_cases U:b∈tabs.map (·.2)
   .have L:=(if_pos U).symm.trans z
    cases L
    obtain ⟨q,O,rfl⟩:=yBG.mp U
    exact (hT q O).2
   .have L:=(if_neg U).symm.trans z
    cases L
  .by_cases U:b∈tabs.map (·.2)
   .have L:=(if_pos U).symm.trans z
    cases L
    obtain ⟨q,O,e⟩:=yBG.mp U
    exact .inr ⟨rfl,q,O,e⟩
   .have L:=(if_neg U).symm.trans z
    cases L
 | none=>
  refine a2 (fun b=>if b∈tabs.map (·.2) then some (.tbl #[]) else if b=a then some (.frz { cls:=.type "list",data:=.seq vs.toArray } (.lst (ns.map V.int))) else none) (.inl (.inr ⟨{ cls:=.type "list",data:=.seq vs.toArray },?_⟩)) (fun b u z=>?_) (fun b u z=>?_) fun q O=>if_pos (List.mem_map_of_mem O)
  .dsimp only
   rw [if_neg,if_pos rfl]
   intro z
   obtain ⟨q,O,e⟩:=yBG.mp z
   exact ag q O e
  .by_cases U:b∈tabs.map (·.2)
   .have L:=(if_pos U).symm.trans z
    cases L
    obtain ⟨q,O,rfl⟩:=yBG.mp U
    exact (hT q O).2
   .have L:=(if_neg U).symm.trans z
    by_cases hba:b=a
    .have L:=(if_pos hba).symm.trans L
     cases L
     subst hba
     exact ⟨ha,by rw [yAF];exact hl,vs,_,rv,ha⟩
    .have L:=(if_neg hba).symm.trans L
     cases L
  .by_cases U:b∈tabs.map (·.2)
   .have L:=(if_pos U).symm.trans z
    cases L
    obtain ⟨q,O,e⟩:=yBG.mp U
    exact .inr ⟨rfl,q,O,e⟩
   .have L:=(if_neg U).symm.trans z
    by_cases hba:b=a
    .have L:=(if_pos hba).symm.trans L
     cases L
     exact .inl ⟨hba,hk,_,_,rfl⟩
    .have L:=(if_neg hba).symm.trans L
     cases L
noncomputable def ZDa (K:W.Frag) (tabs:List (Addr×Addr)):Sp:=fun vs H Q _=>∃ (a:Addr) (ns:List Int),vs=[.ref a] /\ SqL K H a (ns.map V.int) /\ ns.length <= 63 /\ ZD7 tabs H /\ ∀ H',Q (.bl true) H'
theorem tabIn_of {K:W.Frag} {x:Str} {f c Pt:Addr} {oc z:Value} {Z J:Option Addr} {fd:FuncData} {O L:Array (Option Value)} {vs:Array Value} (a:W.nsIn K mainGlobals x=some (some (.ref f))) (l:K.lookup f=some ⟨oc,Z,.func fd,O⟩) (hc:fd.code=.ref c)
  (U:K.lookup c=some ⟨z,J,.fields vs,L⟩) (Y:vs[11]?=some (.ref Pt)):PySem.W.tabIn K x=some (c,Pt):=by
 unfold PySem.W.tabIn
 rw [a]
 dsimp only
 rw [l]
 dsimp only
 rw [hc]
 dsimp only
 rw [U]
 dsimp only
 rw [Y]
theorem walk_ofT2 {l:PySem.W.OpenLaw} {k:Nat} {q:Program} {loose:List Str} {XP:(Str->Option Value)->Heap->Prop} {YP:World->Heap->Prop} {d:DefRec} {K:Params->W.Frag} {x:Str} {names:List Str}
  (hn:l.most=some 63) (a0:d.params.defaults=[]) (hr:Room k callerA)
  (hY:∀ (w:World) (h:Heap),YP w h->(K w.params).In h) (O:∀ y∈names,∃ dr,(recsOf q).find? (fun e=>e.name == y)=some dr)
  (F:∀ (w:World) (mg:Str->Option Value) (Z:Addr) (h:Heap),(K w.params).In h->h.Ns mainGlobals mg->mg d.name=some (.ref Z) ->
   ∃ (tabs:List (Addr×Addr)) (fd:FuncData),PySem.W.noTabs (K w.params)=true /\ (∀ t∈tabs,∃ y∈names,PySem.W.tabIn (K w.params) y=some t) /\ (∀ (s:Shared) (u:Value),BindsTo s fd ⟨[u],[]⟩ [(x,u)]) /\
    ∀ base:Heap,(K w.params).In base->base.Ns mainGlobals mg->(∀ t∈tabs,PySem.W.CodeHd base t.1 t.2)->ZDK mg base->FnOk l.prog w (K w.params) mg base CX0 k Z fd [x] (ZDa (K w.params) tabs)) :
  PySem.W.WalkO q loose XP YP l.row.toRowW d [] (fun f vs=>PySem.call f vs):=by
 refine Att.attach_call hn a0 fun w s₀ s₁ mg mb Z o pm cd a2 a vs ns G Y ho hd a3 a1 U L J hg=>?_
 have KX:=hY w _ Y
 obtain ⟨tabs,fd,nt,ht,hb,hF⟩:=F w mg Z _ KX G.T.g a1
 refine law_callT (tabs:=tabs) KX G.T.g G.T.b G.T.builtins G.T.nolimit hg U L (yAD J (by decide)) hr (fun t h2=>?_) nt G.T.bmain hF hb (fun H hO hS=>⟨a,ns,rfl,hS,J,hO,fun _=>rfl⟩) fun H e s' z=>z
 obtain ⟨y,hy,e2⟩:=ht t h2
 obtain ⟨dr,e1⟩:=O y hy
 exact PySem.W.tab_of G.T KX e1 e2
theorem hix_of {ix:List Nat} {ps fr:List Str} (h:ix.map (fun i=>ps[i]?)=fr.map some):∀ (j:Nat) (y:Str),fr[j]?=some y->∃ i,ix[j]?=some i /\ ps[i]?=some y:=fun j y e=>by
 have:=congrArg (fun l=>l[j]?) h
 simp only [yAS,e,Option.map_some] at this
 cases q:ix[j]? with
 | none=>rw [q] at this;cases this
 | some i=>rw [q] at this;exact ⟨i,rfl,by simpa using this⟩
noncomputable def inBody (s:Stmt) (j:Nat):Stmt:=(ZAJ s).getD j (.Pass ⟨0,0,0,0⟩)
noncomputable def defPos (s:Stmt):Pos:=match s with
 | .FunctionDef _ _ _ _ _ _ _ _ _ pos=>pos
 | _=>⟨0,0,0,0⟩
theorem cx_cloK {P:Program} {w:World} {K:W.Frag} {mg:Str->Option Value} {base:Heap} {N:List Str} {qual:Str} {scope:Scope} {f:Addr} {cd:Value} {cl:List (Str×Addr)} {A:Around} {outer:List Env} {s:Shared} {H:Hp}:(ZDV P w K mg base N qual scope f cd cl A outer s H).K=K:=rfl
section
variable {prog:Program} {w:World} {A:Around} {R:Result->Shared->Prop} {I:Addr} {fp wr:List Addr} {n:Nat} {P:Nat->Value->Prop} {St:Nat->Heap->Prop}
theorem maxd_loop {kw:List (Str×Value)} (W:Walks prog w A.in1 I fp wr n P St) (bt:Nat->Nat->Bool) (a7:CmpOf prog w A.in1 .Gt P bt) (S:Addr) (a9:S∉fp) :
  ∀ (k j:Nat) (s:Shared) (vb:Value) (c:Nat),n-(j+1)=k->j+1 <= n->St (j+1) s.heap->P (argBest bt j) vb ->
  s.heap.get? S=some { cls:=.type "list",dict:=none,data:=.seq #[vb,vb] c,slots:=#[] } ->
  (∀ v h' tk,P (argBest bt (n-1)) v->(∀ b o,b∉wr->b≠S->s.heap.get? b=some o->h'.get? b=some o)->R (.ok (.ret v)) { s with heap:=h',toks:=tk }) ->
  codeAny (model prog w) A (.builtin "max.loop" ⟨[.ref I,.none,.ref S],kw⟩) R s:=by
 have a8:S∉wr:=fun h=>a9 (W.sub _ h)
 have O:(toString "max"++toString ".loop":String)="max.loop":=by decide
 intro k
 induction k with
 | zero=>
  intro j s vb c hk hj a5 a0 hS hR
  have a6:j+1=n:=by omega
  refine codeAny_builtin F.entry_max_loop ?_
  rw [Around.under_plainId F.plain_max_loop _]
  show wpAny _ A.in1 (seqItems? (.ref S) >>= _) _ _ s
  refine wpAny_bind (wpAny_seqItems hS rfl ?_)
  show wpAny _ A.in1 (tryCatch (pyNext (.ref I)) _ >>= _) _ _ s
  refine wpAny_bind (wpAny_tryCatch (W.done s _ _ (a6 ▸ a5) fun h' tk L=>?_))
  have Z:=L S _ a8 hS
  show wpAny _ A.in1 (updateSeq S (fun _=>#[]) >>= _) _ _ _
  refine wpAny_bind ?_
  refine wpAny_updateSeq Z rfl (wpAny_bind (wpAny_letGo (wpAny_pure ?_)))
  refine hR vb _ tk (by rw [<- a6];exact a0) fun b o z J e=>(Heap.get?_update_other _ _ (Ne.symm J)).trans (L b o z e)
 | succ k ih=>
  intro j s vb c hk hj a5 a0 hS hR
  have a4:j+1 < n:=by omega
  refine codeAny_builtin F.entry_max_loop ?_
  rw [Around.under_plainId F.plain_max_loop _]
  show wpAny _ A.in1 (seqItems? (.ref S) >>= _) _ _ s
  refine wpAny_bind (wpAny_seqItems hS rfl ?_)
  show wpAny _ A.in1 (tryCatch (pyNext (.ref I)) _ >>= _) _ _ s
  refine wpAny_bind (wpAny_tryCatch (W.item (j+1) s _ _ a4 a5 fun v h' tk hP a1 L=>?_))
  have Z:=L S _ a8 hS
  show wpAny _ A.in1 (tryCatch (holding [v,v] (richCompare .Gt v vb >>= _)) _ >>= _) _ _ _
  refine wpAny_bind (wpAny_tryCatch (wpAny_holding (wpAny_bind (a7 (j+1) (argBest bt j) v vb _ _ _ hP a0 ?_))))
  refine wpAny_bind (wpAny_holding (wpAny_truthy_bool ?_))
  refine wpAny_bind (wpAny_letGo (wpAny_pure ?_))
  cases hb:bt (j+1) (argBest bt j) with
  | true=>
   simp only [if_true]
   refine wpAny_bind ?_
   refine wpAny_updateSeq Z rfl (wpAny_bind (wpAny_letGo ?_))
   rw [O]
   refine wpAny_pure ⟨plainId_quiet F.plain_max_loop _,ih (j+1) _ v _ (by omega) a4 (W.frame _ _ _ a1 fun b aa o e=>?_) (by simp only [argBest,hb,if_true];exact hP) (Heap.get?_update_self _ Z rfl)
    fun v' a2 U a3 Y=>?_⟩
   .exact (Heap.get?_update_other _ _ (fun h:S=b=>a9 (by rw [h];exact aa))).trans e
   .exact hR v' a2 U a3 fun b o z J e=>Y b o z J ((Heap.get?_update_other _ _ (Ne.symm J)).trans (L b o z e))
  | false=>
   simp only [yBJ,if_false]
   refine wpAny_bind (wpAny_letGo ?_)
   rw [O]
   refine wpAny_pure ⟨plainId_quiet F.plain_max_loop _,ih (j+1) _ vb c (by omega) a4 a1 (by simp only [argBest,hb,yBJ,if_false];exact a0) Z fun v' a2 U a3 Y=>?_⟩
   exact hR v' a2 U a3 fun b o z J e=>Y b o z J (L b o z e)
theorem maxd_first {kw:List (Str×Value)} (W:Walks prog w A.in1 I fp wr n P St) (bt:Nat->Nat->Bool) (Y:CmpOf prog w A.in1 .Gt P bt) (S:Addr) (J:S∉fp) (hn:0 < n) {s:Shared} {c:Nat} (a7:St 0 s.heap)
  (hS:s.heap.get? S=some { cls:=.type "list",dict:=none,data:=.seq #[] c,slots:=#[] })
  (hR:∀ v h' tk,P (argBest bt (n-1)) v->(∀ b o,b∉wr->b≠S->s.heap.get? b=some o->h'.get? b=some o)->R (.ok (.ret v)) { s with heap:=h',toks:=tk }) :
  codeAny (model prog w) A (.builtin "max.loop" ⟨[.ref I,.none,.ref S],kw⟩) R s:=by
 have a6:S∉wr:=fun h=>J (W.sub _ h)
 have z:(toString "max"++toString ".loop":String)="max.loop":=by decide
 refine codeAny_builtin F.entry_max_loop ?_
 rw [Around.under_plainId F.plain_max_loop _]
 show wpAny _ A.in1 (seqItems? (.ref S) >>= _) _ _ s
 refine wpAny_bind (wpAny_seqItems hS rfl ?_)
 show wpAny _ A.in1 (tryCatch (pyNext (.ref I)) _ >>= _) _ _ s
 refine wpAny_bind (wpAny_tryCatch (W.item 0 s _ _ hn a7 fun v h' tk hP a0 Z=>?_))
 have a2:=Z S _ a6 hS
 show wpAny _ A.in1 (updateSeq S (fun _=>#[v,v]) >>= _) _ _ _
 refine wpAny_bind ?_
 refine wpAny_updateSeq a2 rfl ?_
 rw [z]
 refine wpAny_pure ⟨plainId_quiet F.plain_max_loop _,maxd_loop W bt Y S J _ 0 _ v _ rfl hn (W.frame _ _ _ a0 fun b a5 o e=>?_) hP (Heap.get?_update_self _ a2 rfl) fun v' a3 O a4 a1=>?_⟩
 .exact (Heap.get?_update_other _ _ (fun h:S=b=>J (by rw [h];exact a5))).trans e
 .exact hR v' a3 O a4 fun b o U L e=>a1 b o U L ((Heap.get?_update_other _ _ (Ne.symm L)).trans (Z b o U e))
theorem maxd_none {d:Value} (W:Walks prog w A.in1 I fp wr 0 P St) (S:Addr) (L:S∉fp) {s:Shared} {c:Nat} (O:St 0 s.heap)
  (Z:s.heap.get? S=some { cls:=.type "list",dict:=none,data:=.seq #[] c,slots:=#[] })
  (U:∀ h' tk,(∀ b o,b∉wr->b≠S->s.heap.get? b=some o->h'.get? b=some o)->R (.ok (.ret d)) { s with heap:=h',toks:=tk }) :
  codeAny (model prog w) A (.builtin "max.loop" ⟨[.ref I,.none,.ref S],[("default",d)]⟩) R s:=by
 have Y:S∉wr:=fun h=>L (W.sub _ h)
 refine codeAny_builtin F.entry_max_loop ?_
 rw [Around.under_plainId F.plain_max_loop _]
 show wpAny _ A.in1 (seqItems? (.ref S) >>= _) _ _ s
 refine wpAny_bind (wpAny_seqItems Z rfl ?_)
 show wpAny _ A.in1 (tryCatch (pyNext (.ref I)) _ >>= _) _ _ s
 refine wpAny_bind (wpAny_tryCatch (W.done s _ _ O fun h' tk J=>?_))
 exact wpAny_bind (wpAny_rule (wpAny_pure (U h' tk fun b o z _ e=>J b o z e)))
end
theorem args_maxd (a v:Value):argsOk "max" ⟨[a],[(Str.ofString "default",v)]⟩:=by unfold argsOk;kernel_rfl
section
variable {prog:Program} {w:World} {A:Around} {E:Value->Shared->Prop} {s:Shared} {l:Addr}
theorem maxd_ints {d:Value} {its:List Value} {ns:List Int} {Q:Value->Shared->Prop} (hh:A.handled=none) (hl:s.heap.IsList l its.toArray) (hi:IntsAre its ns)
  (h0:ns=[]->∀ h' tk,(∀ b o,s.heap.get? b=some o->h'.get? b=some o)->Q d { s with heap:=h',toks:=tk })
  (h1:∀ M t h' tk,M∈ns->(∀ a∈ns,a <= M)->(∀ b o,s.heap.get? b=some o->h'.get? b=some o)->Q (.int M t) { s with heap:=h',toks:=tk }) :
  wpAny (model prog w) A (call (.builtin "max") [.ref l] [("default",d)]) Q E s:=by
 have J:(toString "max"++toString ".loop":String)="max.loop":=by decide
 obtain ⟨xs,e⟩:=hi.allInts.items
 have L:ns=xs.toList.map (·.1):=by
  rw [<- hi.numsOf,<- nums_intItems,<- e]
 rw [e] at hl
 refine PyProof.Rows.kmb_tree F.kind_max F.plain_max F.entry_max (args_maxd _ _) ?_
 show wpAny _ A.in1 (Builtin.Builtins.bindParams "max" ["key","default"] 0 ⟨[],[("default",d)]⟩ >>= _) _ _ s
 refine wpAny_bind (wpAny_of_eq (show Builtin.Builtins.bindParams "max" ["key","default"] 0 ⟨[],[("default",d)]⟩=pure [none,some d] from rfl) ?_)
 refine wpAny_bind (wpAny_pure ?_)
 refine wpAny_bind (iter_intList hl fun a2 e st Y a1=>?_)
 subst e
 refine wpAny_bind (wpAny_newObj_type ?_)
 rw [J]
 have W:=Walks.list (prog:=prog) (w:=w) (A:=A.in1) hh _ l a1 (intItems xs)
 have U:∀ {z:Nat} {f:List Addr},(∀ b∈f,b < z)->z∉f:=fun h hm=>yAV _ (h _ hm)
 by_cases hz:xs.size=0
 .have a0:(intItems xs).size=0:=by simpa [intItems] using hz
  rw [a0] at W
  refine wpAny_pure ⟨plainId_quiet F.plain_max_loop _,maxd_none W _ (U Y) (W.frame _ _ _ st fun b _ o e=>Heap.get?_push_of_some _ e) (Heap.get?_push_size _ rfl) fun h' tk hk=>?_⟩
  refine h0 (by rw [L,List.map_eq_nil_iff,<- Array.toList_empty];exact congrArg Array.toList (Array.eq_empty_of_size_eq_zero hz)) h' tk ?_
  exact old_kept fun b o O e=>hk b o O (yAB (Heap.lt_size e)) (Heap.get?_push_of_some _ e)
 .refine wpAny_pure ⟨plainId_quiet F.plain_max_loop _,maxd_first W _ (CmpOf.ints_gt (numAt xs) (fun _ _=>intItems_at)) _ (U Y) (by simp [intItems];omega) (W.frame _ _ _ st fun b _ o e=>Heap.get?_push_of_some _ e) (Heap.get?_push_size _ rfl) fun v h' tk hP hk=>?_⟩
  have Z:(intItems xs)[argBest (fun i j=>decide (numAt xs i > numAt xs j)) (xs.size-1)]?=some v:=by simpa [intItems] using hP
  obtain ⟨t,rfl⟩:=intItems_at Z
  obtain ⟨g1,g2⟩:=argBest_gt (numAt xs) (xs.size-1)
  refine h1 _ t h' tk ?_ (fun a ha=>?_) (old_kept fun b o O e=>hk b o O (yAB (Heap.lt_size e)) (Heap.get?_push_of_some _ e))
  .rw [L,numAt_eq];exact getD_mem (by rw [yAF,Array.length_toList];omega)
  .rw [L] at ha
   obtain ⟨j,hj,rfl⟩:=mem_getD ha
   rw [yAF,Array.length_toList] at hj
   rw [<- numAt_eq];exact g2 j (by omega)
end
noncomputable def maxD (d:Int):List Int->Int
 | []=>d
 | x::r=>r.foldl (fun m y=>if m < y then y else m) x
theorem ZCB:∀ (r:List Int) (x:Int),(r.foldl (fun m y=>if m < y then y else m) x=x∨r.foldl (fun m y=>if m < y then y else m) x∈r) /\ x <= r.foldl (fun m y=>if m < y then y else m) x /\ ∀ y∈r,y <= r.foldl (fun m y=>if m < y then y else m) x
 | [],x=>⟨.inl rfl,Int.le_refl _,fun _ h=>(nomatch h)⟩
 | y::r,x=>by
  rw [List.foldl_cons]
  by_cases hxy:x < y
  .rw [if_pos hxy]
   obtain ⟨a,b,c⟩:=ZCB r y
   refine ⟨?_,by omega,fun z J=>?_⟩
   .rcases a with a | a
    .rw [a]
     exact .inr yAL
    .exact .inr (yAK _ a)
   .rcases yAH.mp J with e | J
    .subst e
     exact b
    .exact c z J
  .rw [if_neg hxy]
   obtain ⟨a,b,c⟩:=ZCB r x
   refine ⟨?_,b,fun z J=>?_⟩
   .rcases a with a | a
    .exact .inl a
    .exact .inr (yAK _ a)
   .rcases yAH.mp J with e | J
    .subst e
     omega
    .exact c z J
theorem maxD_eq {d:Int} {ns:List Int} {M:Int} (h1:M∈ns) (h2:∀ a∈ns,a <= M):maxD d ns=M:=by
 cases ns with
 | nil=>cases h1
 | cons x r=>
  obtain ⟨a,b,c⟩:=ZCB r x
  show r.foldl (fun m y=>if m < y then y else m) x=M
  have h3:=h2 _ yAL
  have z:r.foldl (fun m y=>if m < y then y else m) x <= M:=by
   rcases a with a | a
   .rw [a];exact h3
   .exact h2 _ (yAK _ a)
  rcases yAH.mp h1 with e | e
  .omega
  .have:=c M e
   omega
section
variable {X:Cx} {e d:Expr} {te td:TE} {p pos:Pos} {kpos:Pos}
noncomputable def ZDw (K:W.Frag) (te td:TE):TE:=fun σ H Q=>te σ H fun x H1=>td σ H1 fun y H2=>∃ a ns dd,x=.ref a /\ y=.int dd /\ SqL K H2 a (ns.map V.int) /\ Q (.int (maxD dd ns)) H2
theorem pe_maxd (hc:X.calm=true) (he:PE X e te) (hd:PE X d td) (U:Gl X "max") (hm:X.mg "max"=none)
  (h1:starEach [e] X.env=(false,eval e X.env)::starEach [] X.env:=by rfl) (h2:backTo pos (starEach [e] X.env)=(false,eval e X.env)::backTo pos (starEach [] X.env):=by rfl)
  (h3:(backTo pos (starEach [e] X.env)).any (·.1)=false:=by rfl) (Y:(backToKw pos (keywordEach [⟨some "default",d,kpos⟩] X.env)).all (·.1.isSome)=true:=by rfl)
  (h5:(backToKw pos (keywordEach [⟨some "default",d,kpos⟩] X.env)).any (·.1.isNone)=false:=by rfl) :
  PE X (.Call (.Name "max" p) [e] [⟨some "default",d,kpos⟩] pos) (ZDw X.K te td):=by
 intro pins s σ H Q I h
 refine wpAny_Call_Name_kw (ZC3 I U hm PyProof.Rows.boot_max ?_ (by decide) (by decide))
 refine PyProof.Rows.callWith_kw ?_ h2 h3 Y h5
 rw [h1]
 show wpAny _ _ (spliced ((false,eval e X.env)::backTo pos (starEach [] X.env))) _ _ s
 refine Calls.spliced_cons (thn (he pins s σ H _ I h) fun u s1 L=>?_)
 obtain ⟨x,H1,I1,r1,q1⟩:=L
 refine Calls.spliced_nil ?_
 have J:ZBz td tNil σ H1 (fun zs H2=>match zs with | [y]=>∃ a ns dd,x=.ref a /\ y=.int dd /\ SqL X.K H2 a (ns.map V.int) /\ Q (.int (maxD dd ns)) H2 | _=>False):=q1
 refine thn (pk_cons (nm:=some "default") (kpos:=kpos) hd (pk_nil (X:=X)) pos pins s1 σ H1 _ I1 J) fun kvs s2 L=>?_
 obtain ⟨zs,H2,z,O,q2⟩:=L
 match zs,O,q2 with
 | [y],.cons ry .nil,⟨a,ns,dd,ex,ey,hS,q⟩=>
  subst ex ey
  cases r1
  obtain ⟨t,rfl⟩:=ry
  obtain ⟨its,Z,pl,_⟩:=z.list hS
  obtain ⟨o,n,e1,e2,_,e3⟩:=pl
  have hi:=intsAre_of Z
  refine maxd_ints (z.ok.hd hc) ⟨o,e1,e2,n,e3⟩ hi (fun hn h' tk k=>?_) (fun M t' h' tk m1 m2 k=>?_)
  .subst hn
   exact ⟨.int dd,H2,z.kept k,⟨_,rfl⟩,q⟩
  .refine ⟨.int M,H2,z.kept k,⟨_,rfl⟩,?_⟩
   rw [<- maxD_eq (d:=dd) m1 m2]
   exact q
end
theorem lkc {k z:Str} {v:V} {r:List (Str×V)}:List.lookup k ((z,v)::r)=if k=z then some v else List.lookup k r:=by
 rw [yBA]
 by_cases h:k=z
 .subst h;simp
 .have:(k == z)=false:=by simpa using h
  rw [this,if_neg h]
structure Ins (H:Hp) (a C:Addr) (fl:List (Str×V)):Prop where
 ex:∃ dx fs,H a=some (.ins C dx fs) /\ fs.length <= 50 /\ ∀ f,fs.lookup f=fl.lookup f
theorem Ins.of {H:Hp} {a C dx:Addr} {fl:List (Str×V)} (h:H a=some (.ins C dx fl)) (hl:fl.length <= 50):Ins H a C fl:=⟨dx,fl,h,hl,fun _=>rfl⟩
theorem Ins.congr {H:Hp} {a C:Addr} {fl fl':List (Str×V)} (h:Ins H a C fl) (e:∀ f,fl.lookup f=fl'.lookup f):Ins H a C fl':=let ⟨dx,fs,h1,h2,h3⟩:=h.ex;⟨dx,fs,h1,h2,fun f=>(h3 f).trans (e f)⟩
theorem Ins.mono {H H':Hp} {a C:Addr} {fl:List (Str×V)} (h:Ins H a C fl) (s:Same H H'):Ins H' a C fl:=let ⟨dx,fs,h1,h2,h3⟩:=h.ex;⟨dx,fs,s _ _ h1,h2,h3⟩
section
variable {K:W.Frag} {f:Str} {a C:Addr} {fl:List (Str×V)} {v:V} {H:Hp}
theorem Ins.get {Q:VK} (h:Ins H a C fl) (cl:Cls K C) (n:NoAttr K C f) (l:fl.lookup f=some v) (q:Q v H):getF K f (.ref a) H Q:=by
 obtain ⟨dx,fs,h1,h2,h3⟩:=h.ex
 exact ZDH h1 cl n ((h3 f).trans l) q
theorem Ins.meth {m:Str} {R:Prop} (h:Ins H a C fl) (l:fl.lookup m=none) (q:R):∃ b dx fs,V.ref a=.ref b /\ H b=some (.ins C dx fs) /\ fs.lookup m=none /\ R:=by
 obtain ⟨dx,fs,h1,h2,h3⟩:=h.ex
 exact ⟨a,dx,fs,rfl,h1,(h3 m).trans l,q⟩
end
noncomputable def augA (K:W.Frag) (tv:TE) (rd:V->V->Hp->VK->Prop) (f:Str) (D:Ends) (σ:St) (x:V) (H1:Hp):Prop:=∃ a C dx fs v,x=.ref a /\ H1 a=some (.ins C dx fs) /\ Cls K C /\ NoAttr K C f /\ fs.lookup f=some v /\
 tv σ H1 fun y H2=>rd v y H2 fun z H3=>∃ dx' fs',H3 a=some (.ins C dx' fs') /\ fs'.length < 1000 /\ D.nx σ (upd H3 a (.ins C dx' (putF f z fs')))
theorem sFldAug_eq {K:W.Frag} {ta tv:TE} {rd:V->V->Hp->VK->Prop} {f:Str} {D:Ends} {σ:St} {H:Hp}:sFldAug K ta tv rd f D σ H=ta σ H (fun x H1=>augA K tv rd f D σ x H1):=rfl
theorem setX {K:W.Frag} {f:Str} {a C dx:Addr} {fs:List (Str×V)} {v:V} {H:Hp} {Q:Hp->Prop} (h:H a=some (.ins C dx fs)) (cl:Cls K C) (n:NoAttr K C f) (hl:fs.length <= 20) (q:∀ H',H' a=some (.ins C dx (putF f v fs))->(∀ b,b≠a->H' b=H b)->Q H'):setF K f (.ref a) v H Q :=
 setF_of h cl n (by omega) (q _ ZAE fun b z=>ZAH z)
theorem ZCp {f:Str} {v:V} {fs:List (Str×V)} {n:Nat} (h:fs.length <= n):(putF f v fs).length <= n+1:=yAD (ZB3 f v fs) (Nat.succ_le_succ h)
theorem ZDT {f0:Str} {v0:V}:(putF f0 v0 []).length <= 20:=yAD (ZCp (yAA 0)) (by decide)
theorem ZDz {f0 f1:Str} {v0 v1:V}:(putF f1 v1 (putF f0 v0 [])).length <= 20:=yAD (ZCp (ZCp (yAA 0))) (by decide)
end L2
namespace PySem
open Sem (wp)
theorem dict_mapFieldsD (o : Obj) (f) : (o.mapFields f).dict = o.dict := by
  unfold Obj.mapFields
  split <;> rfl
structure Kpo (o o' : Obj) : Prop where
  fr : o'.isFreed = o.isFreed
  di : o'.dict = o.dict
theorem Kpo.refl (o : Obj) : Kpo o o := ⟨rfl, rfl⟩
theorem Kpo.set (i : Nat) (v : Value) (o : Obj) : Kpo o (o.mapFields (·.setIfInBounds i v)) := by
  unfold Obj.mapFields
  split
  · exact ⟨rfl, rfl⟩
  · exact .refl _
def Kph (h h' : Heap) : Prop := ∀ b o, h.get? b = some o → ∃ u, h'.get? b = some u ∧ Kpo o u
theorem Kph.trans {h h' k : Heap} (x : Kph h h') (y : Kph h' k) : Kph h k := fun b o e => by
  obtain ⟨u, e1, q1⟩ := x b o e
  obtain ⟨w, e2, q2⟩ := y b u e1
  exact ⟨w, e2, q2.fr.trans q1.fr, q2.di.trans q1.di⟩
theorem Kph.upd (h : Heap) (a : Addr) {f : Obj → Obj} (hf : ∀ o, Kpo o (f o)) : Kph h (h.update a f) := fun b o e => by
  by_cases q : a = b
  · subst q
    exact ⟨_, Heap.get?_update_self f e ((hf o).fr.trans (Heap.get?_some_iff.mp e).2), hf o⟩
  · exact ⟨o, (Heap.get?_update_other h f q).trans e, .refl o⟩
inductive Tame {α : Type} : Sem α → Prop
  | pure (a) : Tame (.pure a)
  | no (w) : Tame (.unsupported w)
  | load {a p k} : (∀ o, Tame (k o)) → Tame (.load a p k)
  | upd {a p f k} : (∀ o, Kpo o (f o)) → Tame (k ()) → Tame (.update a p f k)
  | new {o k} : (∀ a, Tame (k a)) → Tame (.alloc o k)
  | stack {k} : (∀ l, Tame (k l)) → Tame (.stack k)
section
variable {α β : Type} {M : Model} {Γ : Ctx} {A : Around} {E : Value → Shared → Prop} {s : Shared}
theorem Tame.wp {t : Sem α} (T : Tame t) {Q : α → Pos → Shared → Prop} {E : Value → Pos → Shared → Prop} {p : Pos} : ∀ {s : Shared}, wp M Γ t Q E p s → wp M Γ t (fun a p z => Q a p z ∧ Kph s.heap z.heap) E p s := by
  have go : ∀ {t : Sem α} {s s1 : Shared}, Kph s.heap s1.heap → (∀ {s : Shared}, Sem.wp M Γ t Q E p s → Sem.wp M Γ t (fun a p z => Q a p z ∧ Kph s.heap z.heap) E p s) → Sem.wp M Γ t Q E p s1 → Sem.wp M Γ t (fun a p z => Q a p z ∧ Kph s.heap z.heap) E p s1 :=
    fun k ih h => Sem.wp_mono M Γ _ (fun _ _ _ z => ⟨z.1, k.trans z.2⟩) (fun _ _ _ z => z) _ _ (ih h)
  induction T with
  | pure => exact fun h => ⟨h, fun b o e => ⟨o, e, .refl o⟩⟩
  | no => exact id
  | load _ ih => exact fun ⟨o, e, h⟩ => ⟨o, e, ih o h⟩
  | upd f _ ih => exact fun ⟨e, h⟩ => ⟨e, go (Kph.upd _ _ f) ih h⟩
  | @new o k _ ih => exact fun {s} h => go (t := k s.heap.objs.size) (s1 := { s with heap := s.heap.push o }) (fun b u e => ⟨u, Heap.get?_push_of_some _ e, .refl u⟩) (ih _) h
  | stack _ ih => exact fun h => ih _ h
theorem Tame.any {t : Sem α} (T : Tame t) {Q : α → Shared → Prop} (h : wpAny M A t Q E s) : wpAny M A t (fun a z => Q a z ∧ Kph s.heap z.heap) E s := fun Γ p hΓ => T.wp (h Γ p hΓ)
theorem Tame.bind {m : Sem α} {f : α → Sem β} (x : Tame m) (y : ∀ a, Tame (f a)) : Tame (m >>= f) := by
  show Tame (m.bind f)
  induction x with
  | pure a => exact y a
  | no w => exact .no w
  | load _ ih => exact .load ih
  | upd h _ ih => exact .upd h ih
  | new _ ih => exact .new ih
  | stack _ ih => exact .stack ih
theorem Tame.ite {c : Prop} [Decidable c] {x y : Sem α} (hx : Tame x) (hy : Tame y) : Tame (if c then x else y) := by split <;> assumption
theorem tame_field (v : Value) (i : Nat) : Tame (field v i) := by
  refine .bind (m := fieldsOf v) ?_ fun a => ?_
  · unfold fieldsOf
    split
    · refine .bind (.load fun o => .pure o) fun o => ?_
      split
      · exact .pure _
      · exact .no _
    · exact .no _
  · split
    · exact .pure _
    · exact .no _
theorem tame_setField (i : Nat) (v x : Value) : Tame (setField v i x) := by
  unfold setField
  split
  · unfold updateField
    refine .bind (.load fun o => .pure o) fun o => ?_
    split
    · exact .ite (.upd (Kpo.set i x) (.pure _)) (.no _)
    · exact .no _
  · exact .no _
theorem tame_ready (l : List Env) : Tame (readyFrames l) := by
  induction l with
  | nil => exact .pure _
  | cons env r ih =>
    unfold readyFrames
    split
    next f hf =>
      refine .bind (.load fun o => .pure o) fun o => .ite (.pure _) (.bind ?_ fun b => .bind ?_ fun c => .bind (.upd (fun o => ⟨by cases o with | mk a b d c => cases d <;> rfl, rfl⟩) (.pure _)) fun _ => ih)
      · unfold behindIsImport
        exact .ite (.pure _) (.ite (.pure _) (.bind (tame_field _ _) fun _ => .pure _))
      · unfold keptBack
        split
        · exact .ite (.pure _) (.bind (.bind (.stack fun l => .pure l) fun _ => .pure _) fun _ => .pure _)
        · exact .pure _
    · exact .no _
theorem tame_note (e : Value) (env : Env) : Tame (noteFrame e env) := by
  unfold noteFrame
  split
  next f hf =>
    have rest : ∀ head b, Tame (do setField e 1 (← EntryCells.newEntry head (← frameOf env) .none (rawInt f) .none (← entryPlaceOf f b))) := fun head b => by
      refine .bind ?_ fun a => .bind ?_ fun pl => .bind ?_ fun n => tame_setField _ _ _
      · unfold frameOf
        refine .bind (.bind (.stack fun l => .pure l) fun _ => .pure _) fun l => .bind ?_ fun o => ?_
        · unfold frameObject
          split
          · exact .pure _
          · exact .bind (tame_ready _) fun _ => .pure _
        · split
          · exact .pure _
          · exact .no _
      · unfold entryPlaceOf
        refine .bind (.stack fun l => .pure l) fun l => ?_
        split <;> exact .pure _
      · unfold EntryCells.newEntry newFields newObj
        exact .ite (.bind (.no _) fun _ => .bind (.new fun a => .pure a) fun a => .pure _) (.bind (.new fun a => .pure a) fun a => .pure _)
    refine .bind (tame_field _ _) fun head => .ite (.bind (tame_field _ _) fun y => .ite (.pure _) (.bind (tame_setField _ _ _) fun _ => rest _ _)) (rest _ _)
  · exact .no _
theorem tame_flight (e : Value) (o : Option Addr) : Tame (setFlight e o) := .bind (tame_field _ _) fun _ => .ite (tame_setField _ _ _) (.pure _)
theorem tame_leaving (env : Env) (e : Value) : Tame (leaving env e) := .bind (tame_note _ _) fun _ => tame_flight _ _
def Heap.Dx (h : Heap) (e : Addr) (d : Option Addr) : Prop := ∃ o, h.get? e = some o ∧ o.dict = d
theorem Heap.Dx.kept {h h' : Heap} {e : Addr} {d : Option Addr} (x : h.Dx e d) (k : Kph h h') : h'.Dx e d := by
  obtain ⟨o, h1, h3⟩ := x
  obtain ⟨u, h5, q⟩ := k e o h1
  exact ⟨u, h5, q.di.trans h3⟩
def Heap.TracedAtD (h base : Heap) (e : Addr) (cls : Value) (a0 : Value × Option Addr) (fl : Value) : Prop := h.TracedAtW base e cls a0.1 fl ∧ h.Dx e a0.2
abbrev Heap.TracedD (h base : Heap) (e : Addr) (cls : Value) (a0 : Value × Option Addr) : Prop := h.TracedAtD base e cls a0 .none
abbrev Heap.FlyD (base : Heap) (l : List Env) (e : Addr) (cls : Value) (a0 : Value × Option Addr) (fl : Value) (h : Heap) : Prop := base.StaysIn h ∧ base.get? e = none ∧ h.FunFrames base l ∧ h.TracedAtD base e cls a0 fl
abbrev Heap.FlyingD (base : Heap) (l : List Env) (e : Addr) (cls : Value) (a0 : Value × Option Addr) (h : Heap) : Prop := Heap.FlyD base l e cls a0 .none h
abbrev Heap.HeldD (base : Heap) (l : List Env) (e : Addr) (cls : Value) (a0 : Value × Option Addr) (L : Addr) (h : Heap) : Prop := Heap.FlyD base l e cls a0 (rawInt L) h
theorem Heap.FlyingD.thereD {base h : Heap} {l : List Env} {e : Addr} {cls : Value} {a0 : Value × Option Addr} (x : Heap.FlyingD base l e cls a0 h) : ∃ ob, h.get? e = some ob ∧ ob.cls = cls ∧ ob.dict = a0.2 ∧ ∃ vs, ob.data = .fields vs := by
  obtain ⟨_, _, _, ⟨oe, vs, _, _, _, he, hc, hd, _⟩, o, h1, h2⟩ := x
  rw [he] at h1
  cases h1
  exact ⟨oe, he, hc.1, h2, vs, hd⟩
theorem Heap.FlyingD.there {base h : Heap} {l : List Env} {e : Addr} {cls : Value} {a0 : Value × Option Addr} (x : Heap.FlyingD base l e cls a0 h) : ∃ ob, h.get? e = some ob ∧ ob.cls = cls :=
  let ⟨ob, h1, h2, _⟩ := Heap.FlyingD.thereD x
  ⟨ob, h1, h2⟩
variable {base : Heap} {env : Env} {l outer : List Env} {L e : Addr} {cls : Value} {a0 : Value × Option Addr} {Q : Unit → Shared → Prop}
theorem Tame.go {t : Sem Unit} (T : Tame t) {P : Heap → Prop} (w : wpAny M A t (fun _ z => ∃ h', z = { s with heap := h' } ∧ P h') E s) (hQ : ∀ h', P h' → Kph s.heap h' → Q () { s with heap := h' }) : wpAny M A t Q E s :=
  wpAny_mono (T.any w) (fun _ _ z => by
    obtain ⟨⟨h', rfl, p⟩, k⟩ := z
    exact hQ h' p k) fun _ _ z => z
theorem wpAny_leaves_onD (hfr : A.frames = some (env :: outer)) (hf : env.frame = some L) (x : Heap.FlyingD base (env :: outer) e cls a0 s.heap) (hQ : ∀ h', Heap.FlyingD base outer e cls a0 h' → s.heap.UpToSlots h' → Q () { s with heap := h' }) : wpAny M A (leaving env (.ref e)) Q E s := by
  obtain ⟨f1, f2, f3, f4, d⟩ := x
  refine (tame_leaving _ _).go (P := fun h' => Heap.FlyingW base outer e cls a0.1 h' ∧ s.heap.UpToSlots h') (wpAny_leaves_onW hfr hf ⟨f1, f2, f3, f4⟩ fun h' y u => ⟨h', rfl, y, u⟩) fun h' ⟨⟨y1, y2, y3, y4⟩, u⟩ k => hQ h' ⟨y1, y2, y3, y4, d.kept k⟩ u
theorem wpAny_looks_onD (hfr : A.frames = some (env :: outer)) (hf : env.frame = some L) (x : Heap.FlyingD base (env :: outer) e cls a0 s.heap) (hQ : ∀ h', Heap.HeldD base (env :: outer) e cls a0 L h' → s.heap.UpToSlots h' → Q () { s with heap := h' }) : wpAny M A (noteFrame (.ref e) env) Q E s := by
  obtain ⟨f1, f2, f3, f4, d⟩ := x
  refine (tame_note _ _).go (P := fun h' => Heap.HeldW base (env :: outer) e cls a0.1 L h' ∧ s.heap.UpToSlots h') (wpAny_looks_onW hfr hf ⟨f1, f2, f3, f4⟩ fun h' y u => ⟨h', rfl, y, u⟩) fun h' ⟨⟨y1, y2, y3, y4⟩, u⟩ k => hQ h' ⟨y1, y2, y3, y4, d.kept k⟩ u
theorem wpAny_noteFrame_againD (hf : env.frame = some L) (x : s.heap.TracedAtD base e cls a0 (rawInt L)) (h : Q () s) : wpAny M A (noteFrame (.ref e) env) Q E s := wpAny_noteFrame_againW hf x.1 h
theorem flightD_ {fl : Value} (o : Option Addr) (f1 : base.StaysIn s.heap) (f3 : s.heap.FunFrames base l) (f4 : s.heap.TracedAtD base e cls a0 fl)
    (hQ : ∀ h', base.StaysIn h' → h'.FunFrames base l → h'.TracedAtD base e cls a0 (o.elim .none fun f => rawInt f) → (∀ b o, s.heap.get? b = some o → (∀ vs, o.data ≠ .fields vs) → h'.get? b = some o) → Q () { s with heap := h' }) : wpAny M A (setFlight (.ref e) o) Q E s := by
  obtain ⟨⟨oe, vs, T, oT, ts, he, hc, hd, h1, hnT, hTe, hT, hdT, h3⟩, d⟩ := f4
  refine (tame_flight _ _).go (P := fun h' => h' = s.heap.update T (Obj.mapFields (·.setIfInBounds 3 (o.elim .none fun f => rawInt f)))) ?_ fun h' z k => ?_
  · refine wpAny_bind (wpAny_field he hd h1 ?_)
    show wpAny M A (setField (.ref T) 3 _) _ E s
    exact wpAny_setField hT hdT (Array.getElem?_eq_some_iff.mp h3).1 ⟨_, rfl, rfl⟩
  · subst z
    have ot : ∀ b u, s.heap.get? b = some u → b ≠ T → (s.heap.update T (Obj.mapFields (·.setIfInBounds 3 (o.elim .none fun f => rawInt f)))).get? b = some u := fun b u h n => (Heap.get?_update_other _ _ (Ne.symm n)).trans h
    have nt : ∀ b u, s.heap.get? b = some u → (∀ vs, u.data ≠ .fields vs) → b ≠ T := fun b u h n z => by
      subst z
      rw [hT] at h
      cases h
      exact n ts hdT
    exact hQ _ (fun b u h => ot b u (f1 b u h) (fun z => by subst z; rw [hnT] at h; cases h)) (f3.of_keeps fun b u h n => ⟨u, ot b u h (nt b u h n), rfl⟩)
      ⟨⟨oe, vs, T, _, _, ot e oe he (Ne.symm hTe), hc, hd, h1, hnT, hTe, Heap.get?_update_self _ hT (Obj.isFreed_of_fields (Obj.data_mapFields hdT _)), Obj.data_mapFields hdT _, by
        have := (Array.getElem?_eq_some_iff.mp h3).1
        simp [this]⟩, d.kept k⟩ fun b u h n => ot b u h (nt b u h n)
theorem wpAny_landsD (hh : Heap.HeldD base l e cls a0 L s.heap) (hQ : ∀ h', Heap.FlyingD base l e cls a0 h' → s.heap.UpToSlots h' → Q () { s with heap := h' }) : wpAny M A (setFlight (.ref e) none) Q E s :=
  flightD_ none hh.1 hh.2.2.1 hh.2.2.2 fun h' k1 k2 k3 k4 => hQ h' ⟨k1, hh.2.1, k2, k3⟩ fun b o y n => ⟨o.slots, k4 b o y n⟩
theorem LANDS2_ (hh : Heap.FlyingD base l e cls a0 s.heap) (hQ : ∀ h', Heap.FlyingD base l e cls a0 h' → s.heap.UpToSlots h' → Q () { s with heap := h' }) : wpAny M A (setFlight (.ref e) none) Q E s :=
  flightD_ none hh.1 hh.2.2.1 hh.2.2.2 fun h' k1 k2 k3 k4 => hQ h' ⟨k1, hh.2.1, k2, k3⟩ fun b o y n => ⟨o.slots, k4 b o y n⟩
theorem wpAny_setFlight_someD {fl : Value} (hkb : base.StaysIn s.heap) (hl : s.heap.FunFrames base l) (ht : s.heap.TracedAtD base e cls a0 fl)
    (h : ∀ h', base.StaysIn h' → h'.FunFrames base l → h'.TracedAtD base e cls a0 (rawInt L) → (∀ b o, s.heap.get? b = some o → (∀ vs, o.data ≠ .fields vs) → h'.get? b = some o) → Q () { s with heap := h' }) : wpAny M A (setFlight (.ref e) (some L)) Q E s := flightD_ (some L) hkb hl ht h
theorem wpAny_leaving_firstD {oe : Obj} {vs : Array Value} (hfr : A.frames = some (env :: outer)) (hl : s.heap.FunFrames base (env :: outer)) (hf : env.frame = some L) (he : s.heap.get? e = some oe) (hkb : base.StaysIn s.heap) (hen : base.get? e = none) (hd : oe.data = .fields vs) (h1 : vs[1]? = some .none)
    (h0 : vs[0]? = some a0.1 ∧ oe.dict = a0.2) (hQ : ∀ h', (base.StaysIn h' ∧ h'.FunFrames base (env :: outer) ∧ h'.TracedD base e oe.cls a0 ∧ s.heap.UpToSlots h') → Q () { s with heap := h' }) : wpAny M A (leaving env (.ref e)) Q E s :=
  (tame_leaving _ _).go (P := fun h' => Heap.LeftW base (env :: outer) e oe.cls a0.1 s.heap h') (wpAny_leaving_firstW hfr hl hf he hkb hen hd h1 h0.1 fun h' y => ⟨h', rfl, y⟩) fun h' ⟨y1, y2, y3, y4⟩ k => hQ h' ⟨y1, y2, ⟨y3, Heap.Dx.kept ⟨oe, he, h0.2⟩ k⟩, y4⟩
theorem wpAny_looks_firstD {oe : Obj} {vs : Array Value} (hfr : A.frames = some (env :: outer)) (hl : s.heap.FunFrames base (env :: outer)) (hf : env.frame = some L) (he : s.heap.get? e = some oe) (hkb : base.StaysIn s.heap) (hen : base.get? e = none) (hd : oe.data = .fields vs) (h1 : vs[1]? = some .none)
    (h0 : vs[0]? = some a0.1 ∧ oe.dict = a0.2) (hQ : ∀ h', Heap.HeldD base (env :: outer) e oe.cls a0 L h' → s.heap.UpToSlots h' → Q () { s with heap := h' }) : wpAny M A (noteFrame (.ref e) env) Q E s := by
  refine (tame_note _ _).go (P := fun h' => Heap.NotedW base (env :: outer) e oe.cls a0.1 (rawInt L) s.heap h') ?_ fun h' ⟨y1, y2, y3, y4⟩ k => hQ h' ⟨y1, hen, y2, y3, Heap.Dx.kept ⟨oe, he, h0.2⟩ k⟩ y4
  unfold noteFrame
  rw [hf]
  exact wpAny_bind (wpAny_field he hd h1 (wpAny_entryW hfr hl hf he hkb hen hd (Array.getElem?_eq_some_iff.mp h1).1 h0.1 fun h' y => ⟨h', rfl, y⟩))
end
end PySem
namespace L2
open PySem PySem.Spec PyProof.Rows
noncomputable def Fly (l:List Env) (H:Hp) (h0:Heap) (e:Addr) (cls:Value) (dd:Option Addr) (h:Heap):Prop :=
 ∃ B a0,Heap.FlyingD B l e cls (a0,dd) h /\ H e=none /\ h0.get? e=none /\ ∀ b o,h.get? b=some o->b∉frs l->(H b≠none∨∃ o0,h0.get? b=some o0)->B.get? b=some o
noncomputable def CXE (P:Program) (w:World):CXT:=fun outer H s E e s'=>
 ∃ ea cls dd H',e=.ref ea /\ s'.os=s.os /\ AllBare s'.gens /\ Un (frs outer) [] H H' s.heap s'.heap /\ HOk P w H' s'.heap /\ Fly outer H' s.heap ea cls dd s'.heap /\ E cls dd H'
theorem ZCs {P:Program} {w:World} {X:Cx}:ZBW (CXE P w) X E0:=fun _ _ _ _ _ _ _ z=>by
 obtain ⟨_,_,_,_,_,_,_,_,_,_,h⟩:=z
 exact h.elim
section
variable {P:Program} {w:World} {l:List Env} {H H':Hp} {h h1 h2 B base:Heap}
theorem Un.fly (u:Un (frs l) [] H H' h h1) (Y:∀ b o,h1.get? b=some o->b∉frs l->(H' b≠none∨∃ o0,h.get? b=some o0)->B.get? b=some o) (st:B.StaysIn h2) (up:h1.UpToSlots h2) (Z:h1.FunFrames base l):Un (frs l) [] H H' h h2 where
 keep b o e n hb hx:=st b o (Y b o (u.keep b o e n hb hx) hb (.inr ⟨o,e⟩))
 slot b o e n hb hx:=by
  obtain ⟨sl,z⟩:=u.slot b o e n hb hx
  obtain ⟨_,o',J,hd⟩:=Z.mem hb
  rw [z] at J
  cases J
  obtain ⟨U,O⟩:=up b _ z hd
  exact ⟨U,O⟩
 free:=u.free
 there b o e hx:=by
  obtain ⟨o',z⟩:=u.there b o e hx
  by_cases hb:b∈frs l
  .obtain ⟨_,o2,L,hd⟩:=Z.mem hb
   rw [z] at L
   cases L
   obtain ⟨sl,O⟩:=up b _ z hd
   exact ⟨_,O⟩
  .exact ⟨o',st b o' (Y b o' z hb (.inr ⟨o,e⟩))⟩
 tups:=u.tups
 frzs:=u.frzs
 tbls:=u.tbls
theorem HOk.fly (x:HOk P w H' h1) (J:∀ b o,h1.get? b=some o->b∉frs l->(H' b≠none∨∃ L,h.get? b=some L)->B.get? b=some o) (st:B.StaysIn h2) (hn:∀ b∈frs l,H' b=none):HOk P w H' h2:=fun a o e=>by
 have k:∀ b o,H' b=some o->b∉frs l:=fun b o z m=>by rw [hn b m] at z;cases z
 refine (x a o e).stay (fun b v hc q=>?_) (fun _ q=>q) fun _ _ q=>q
 rcases hc with z | z
 .exact st b v (J b v q (by rw [z];exact k _ _ e) (.inl (by rw [z,e];exact fun y=>nomatch y)))
 .exact st b v (J b v q (k _ _ z) (.inl (by rw [z];exact fun y=>nomatch y)))
theorem Inv.stkFree2 {X:Cx} {pins:List (Addr×Obj)} {σ:St} {s:Shared} (I:Inv X pins σ H s) (u:Un (frs X.stack) [] H H' s.heap h1):∀ b∈frs X.stack,H' b=none:=fun b z=>by
 obtain ⟨_,o,J,_⟩:=I.stack.mem z
 exact u.free b o J (I.stkFree b z) List.not_mem_nil
end
section
variable {P:Program} {w:World} {K:W.Frag} {mg:Str->Option Value} {base:Heap} {N:List Str} {qual:Str} {scope:Scope} {f:Addr} {cd:Value} {A:Around} {outer:List Env} {s:Shared} {H:Hp} {E:XK}
theorem ZDQ {pins:List (Addr×Obj)} {σ:St} {H1 H':Hp} {s1 s2:Shared} {hm h' B B':Heap} {ea:Addr} {cls a0:Value} {dd:Option Addr} (I:Inv (cxOf (CXE P w) P w K mg base N qual scope f cd A outer s H E) pins σ H1 s1)
  (un:Un (frs (cxOf (CXE P w) P w K mg base N qual scope f cd A outer s H E).stack) [] H1 H' s1.heap hm) (U:HOk P w H' hm)
  (hB:∀ b o,hm.get? b=some o->b∉frs (cxOf (CXE P w) P w K mg base N qual scope f cd A outer s H E).stack->(H' b≠none∨∃ Y,s1.heap.get? b=some Y)->B.get? b=some o)
  (ff:hm.FunFrames B' (cxOf (CXE P w) P w K mg base N qual scope f cd A outer s H E).stack) (up:hm.UpToSlots h') (fl:Heap.FlyingD B outer ea cls (a0,dd) h') (a1:H' ea=none) (a3:s1.heap.get? ea=none) (os:s2.os=s1.os) (O:AllBare s2.gens) (hE:E cls dd H') :
  CXE P w outer H s E (.ref ea) { s2 with heap:=h' }:=by
 have fr:=I.stkFree2 un
 have a5:=un.fly hB fl.1 up ff
 have L:=U.fly hB fl.1 fr
 have I2:=I.call' (s':={ s2 with heap:=h' }) os a5 L O fun b z=>nomatch z
 have a2:∀ b o,s.heap.get? b=some o->∃ o1,s1.heap.get? b=some o1:=fun b o q=>I.base.there b o q (fun z=>nomatch z)
 refine ⟨ea,cls,dd,H',rfl,I2.os,O,I2.base,L,⟨B,a0,fl,a1,?_,fun b o ho hb Z=>?_⟩,hE⟩
 .cases q:s.heap.get? ea with
  | none=>rfl
  | some o=>
   obtain ⟨o1,h1⟩:=a2 ea o q
   rw [a3] at h1;cases h1
 .have a4:b∉frs (cxOf (CXE P w) P w K mg base N qual scope f cd A outer s H E).stack:=fun m=>by
   rcases yAH.mp (I2.stkSub b m) with z | z
   .rcases Z with y | ⟨Y,y⟩
    .exact y (by rw [z];exact I2.free)
    .exact absurd (yAC (Heap.lt_size y) I.ok.above) (by rw [z];exact yAV _)
   .exact hb z
  have:∃ o1,hm.get? b=some o1 /\ (H' b≠none∨∃ Y,s1.heap.get? b=some Y):=by
   rcases Z with y | ⟨Y,y⟩
   .obtain ⟨u,hu⟩:=Option.ne_none_iff_exists'.mp y
    have:=(U b u hu).lt
    cases z:hm.get? b with
    | some o1=>exact ⟨o1,rfl,.inl y⟩
    | none=>
     exfalso
     have J:=U b u hu
     cases u with
     | lst xs=>obtain ⟨_,_,_,_,e⟩:=J;rw [z] at e;cases e
     | tup xs=>obtain ⟨_,_,_,ob,e,_⟩:=J;rw [z] at e;cases e
     | dK kvs=>obtain ⟨_,_,_,_,ob,es,ep,e,_⟩:=J;rw [z] at e;cases e
     | dT kvs=>obtain ⟨_,_,_,_,ob,es,ep,e,_⟩:=J;rw [z] at e;cases e
     | set S n=>obtain ⟨ob,es,ep,t,e,_⟩:=J;rw [z] at e;cases e
     | ins C dx fs=>obtain ⟨_,_,_,e,_⟩:=J;rw [z] at e;cases e
     | own y=>obtain ⟨_,e⟩:=J;rw [z] at e;cases e
     | xd fs=>obtain ⟨_,⟨_,_,_,e,_⟩,_⟩:=J;rw [z] at e;cases e
     | rng lo hi=>obtain ⟨_,_,_,e⟩:=J;rw [z] at e;cases e
     | frz ob u=>obtain ⟨e,_⟩:=J;rw [z] at e;cases e
     | tbl ps=>have e:hm.get? b=some _:=J;rw [z] at e;cases e
     | met f y=>have e:hm.get? b=some _:=J;rw [z] at e;cases e
     | ext φ=>obtain ⟨_,⟨_,e⟩,_⟩:=J;rw [z] at e;cases e
   .obtain ⟨o1,h1⟩:=a2 b Y y
    obtain ⟨o2,h2⟩:=un.there b o1 h1 (fun z=>nomatch z)
    exact ⟨o2,h2,.inr ⟨o1,h1⟩⟩
  obtain ⟨o1,q1,q2⟩:=this
  have q3:=hB b o1 q1 a4 q2
  have q4:=fl.1 b o1 q3
  rw [ho] at q4
  cases q4
  exact q3
theorem ZC1:ZBW (CXE P w) (cxOf (CXE P w) P w K mg base N qual scope f cd A outer s H E) E:=by
 intro pins σ H1 s1 e s2 I hc
 obtain ⟨ea,cls,dd,H',rfl,os,J,un,O,⟨B,a0,fl,z,L,Y⟩,U⟩:=hc
 refine wpAny_leaves_onD (base:=B) I.ok.frames rfl fl fun h' fl' up=>?_
 exact ZDQ I un O Y fl.2.2.1 up fl' z L os J U
theorem raisedD {pins:List (Addr×Obj)} {σ:St} {H1 H2:Hp} {s1 s2:Shared} {ea:Addr} {oe:Obj} {vs:Array Value} {cls a0:Value} {dd:Option Addr} (I:Inv (cxOf (CXE P w) P w K mg base N qual scope f cd A outer s H E) pins σ H1 s1)
  (un:Un (frs (cxOf (CXE P w) P w K mg base N qual scope f cd A outer s H E).stack) [] H1 H2 s1.heap s2.heap) (U:HOk P w H2 s2.heap) (os:s2.os=s1.os) (L:AllBare s2.gens) (O:s1.heap.get? ea=none) (J:H2 ea=none)
  (he:s2.heap.get? ea=some oe) (hc:oe.cls=cls) (hd:oe.dict=dd) (hv:oe.data=.fields vs) (h1:vs[1]?=some .none) (h0:vs[0]?=some a0) (hE:E cls dd H2) :
  (cxOf (CXE P w) P w K mg base N qual scope f cd A outer s H E).xe (.ref ea) s2:=by
 have I2:=I.call' (s':=s2) os un U L fun b z=>nomatch z
 have Z:∀ env∈(cxOf (CXE P w) P w K mg base N qual scope f cd A outer s H E).stack,∀ b,env.frame=some b->b∈ea::frs (cxOf (CXE P w) P w K mg base N qual scope f cd A outer s H E).stack:=fun env he b hb=>yAK _ (List.mem_filterMap.mpr ⟨env,he,hb⟩)
 subst hc
 have eh:∀ b∈ea::frs (cxOf (CXE P w) P w K mg base N qual scope f cd A outer s H E).stack,(PySem.W.hideAll s2.heap (ea::frs (cxOf (CXE P w) P w K mg base N qual scope f cd A outer s H E).stack)).get? b=none:=fun b hb=>by
  exact PySem.W.hideAll_none _ hb
 refine wpAny_leaving_firstD (a0:=(a0,dd)) (base:=PySem.W.hideAll s2.heap (ea::frs (cxOf (CXE P w) P w K mg base N qual scope f cd A outer s H E).stack)) I.ok.frames (PySem.W.funFrames_hide I2.stack Z) rfl he (fun b o q=>PySem.W.of_hideAll _ q) (eh ea yAL) hv h1 ⟨h0,hd⟩ fun h' hL=>?_
 obtain ⟨k1,⟨_,_,k2⟩,k3,k4⟩:=hL
 refine ZDQ (s2:=s2) (B:=PySem.W.hideAll s2.heap (ea::frs (cxOf (CXE P w) P w K mg base N qual scope f cd A outer s H E).stack)) I un U (fun b o q nb Y=>PySem.W.hideAll_get _ q fun z=>?_) I2.stack k4 ⟨k1,eh ea yAL,k2,k3⟩ J O os L hE
 rcases yAH.mp z with z | z
 .subst z
  rcases Y with y | ⟨o0,y⟩
  .exact y J
  .rw [O] at y;cases y
 .exact nb z
theorem raisedX {pins:List (Addr×Obj)} {σ:St} {H1:Hp} {s1:Shared} {h1:Heap} {ea:Addr} {cls:Value} (I:Inv (cxOf (CXE P w) P w K mg base N qual scope f cd A outer s H E) pins σ H1 s1) (hx:Heap.MadeExcOf s1.heap h1 ea cls []) (L:E cls none H1) :
  (cxOf (CXE P w) P w K mg base N qual scope f cd A outer s H E).xe (.ref ea) { s1 with heap:=h1 }:=by
 obtain ⟨t,O,_⟩:=hx.there
 refine raisedD (s2:={ s1 with heap:=h1 }) I (Un.kept hx.keeps) (I.hok.kept hx.keeps) rfl I.bare hx.new ?_ O rfl rfl rfl rfl rfl L
 cases q:H1 ea with
 | none=>rfl
 | some o=>
  exfalso
  have x:=I.hok ea o q
  have e:=hx.new
  cases o with
  | lst xs=>obtain ⟨_,_,_,_,z⟩:=x;rw [e] at z;cases z
  | tup xs=>obtain ⟨_,_,_,ob,z,_⟩:=x;rw [e] at z;cases z
  | dK kvs=>obtain ⟨_,_,_,_,ob,es,J,z,_⟩:=x;rw [e] at z;cases z
  | dT kvs=>obtain ⟨_,_,_,_,ob,es,J,z,_⟩:=x;rw [e] at z;cases z
  | set S n=>obtain ⟨ob,es,J,t,z,_⟩:=x;rw [e] at z;cases z
  | ins C dx fs=>obtain ⟨_,_,_,z,_⟩:=x;rw [e] at z;cases z
  | own y=>obtain ⟨_,z⟩:=x;rw [e] at z;cases z
  | xd fs=>obtain ⟨_,⟨_,_,_,z,_⟩,_⟩:=x;rw [e] at z;cases z
  | rng lo hi=>obtain ⟨_,_,_,z⟩:=x;rw [e] at z;cases z
  | frz ob u=>obtain ⟨z,_⟩:=x;rw [e] at z;cases z
  | tbl ps=>have z:s1.heap.get? ea=some _:=x;rw [e] at z;cases z
  | met f y=>have z:s1.heap.get? ea=some _:=x;rw [e] at z;cases z
  | ext φ=>obtain ⟨_,⟨_,z⟩,_⟩:=x;rw [e] at z;cases z
end
open PySem PySem.Spec PySem.W PySem.Calls PyProof.Rows Builtin.Getset_descriptor Builtin.ObjectAttr
structure ExcC (K:W.Frag) (C:Addr):Prop where
 ga:W.findIn K (.ref C) "__getattribute__"=some (some (.builtin "BaseException.__getattribute__"))
 gt:W.findIn K (.ref C) "__getattr__"=some none
 ca:W.findIn K (.ref C) "__class__"=some (some (.builtin "object.__class__"))
 sg:PySem.W.specialIn K (.builtin "object.__class__") "__get__"=some (some (.builtin "getset_descriptor.__get__"))
 tk:PySem.W.takesIn K (.builtin "object.__class__")=some true
 mo:PySem.W.mroIn K C (.type "object")=some true
 mb:PySem.W.mroIn K C (.type "BaseException")=some true
section
variable {prog:Program} {w:World} {A:Around} {E:Value->Shared->Prop} {K:W.Frag} {a C:Addr} {o:Obj} {h:Heap} {g:Array GenState} {d:Drawn} {t:Nat} {os:OsState}
theorem ZDP {M:Model} (hx:h.get? a=some o) (hc:o.cls=.ref C):Looks M h (typeOf (.ref a)) (.ref C):=hc ▸ (Looks.ld hx).andThen .now
theorem exc_get {R:Result->Shared->Prop} (X:K.In h) (F:ExcC K C) (hx:h.get? a=some o) (hc:o.cls=.ref C) (z:R (.ok (.ret (.ref C))) ⟨h,g,d,t,os⟩) :
  codeAny (model prog w) A (.call (.builtin "getset_descriptor.__get__") ⟨[.builtin "object.__class__",.ref a,.ref C],[]⟩) R ⟨h,g,d,t,os⟩:=by
 have L:=ZDP (M:=model prog w) hx hc
 have J:=looks_mroIn (M:=model prog w) X F.mo
 refine codeAny_call_builtin KF.slot_gs.plain KF.entry_gs (KF.slot_gs.check _ _ _ _ _ _ _ _ KF.type_class (KF.args_gs _ _ _) ?_)
 simp only [Builtin.«getset_descriptor.__get__»,descrGet]
 rw [dga_obj]
 refine wpAny_bind (wpAny_pure ?_)
 simp only [descrGetter,descrCheckInstance,descrNameAndClass,isInstance,KF.owner_class]
 repeat lk
 refine ⟨Code.quiet_builtin _ (by decide +kernel),codeAny_builtin KF.entry_class ?_⟩
 simp only [Builtin.«object.__class__»,shownTypeOf]
 repeat lk
 exact z
theorem exc_ga_check {M:Model} {z:Value} {Q:Unit->Shared->Prop} (X:K.In h) (F:ExcC K C) (hx:h.get? a=some o) (hc:o.cls=.ref C) (J:Q () ⟨h,g,d,t,os⟩) :
  wpAny M A (checkBuiltinCall "BaseException.__getattribute__" ⟨[.ref a,z],[]⟩) Q E ⟨h,g,d,t,os⟩:=by
 have O:=ZDP (M:=M) hx hc
 have L:=looks_mroIn (M:=M) X F.mb
 have k1:builtinKind "BaseException.__getattribute__"=some .slot:=by decide +kernel
 have k2:splitId "BaseException.__getattribute__"=some ("BaseException","__getattribute__"):=by decide +kernel
 have k3:=PySem.F.args_bexc_ga (.ref a) z
 simp only [checkBuiltinCall,k1,k2]
 refine wpAny_bind ?_
 unfold isInstance
 repeat lk
 exact J
theorem exc_class {Q:Option Value->Shared->Prop} (X:K.In h) (F:ExcC K C) (hx:h.get? a=some o) (hc:o.cls=.ref C) (hq:Q (some (.ref C)) ⟨h,g,d,t+1,os⟩) :
  wpAny (model prog w) A (getAttr? (.ref a) "__class__") Q E ⟨h,g,d,t,os⟩:=by
 have z:=ZDP (M:=model prog w) hx hc
 have J:=looks_findIn (M:=model prog w) X F.ga
 have Z:=looks_findIn (M:=model prog w) X F.gt
 have O:=looks_findIn (M:=model prog w) X F.ca
 have Y:=looks_specialIn (M:=model prog w) X F.sg
 have L:=looks_takesIn (M:=model prog w) X F.tk
 have U:=PySem.F.attr_ValueError.ga.bind (.ref a)
 simp only [getAttr?,getAttrBy?,getAttrBy]
 refine wpAny_bind (wpAny_mkText (wpAny_bind (wpAny_attempt (wpAny_holding (wpAny_bind (z.at (wpAny_bind (J.at ?_))))))))
 show wpAny _ _ (getAttrByItsOwn _ _ _ _ _ _) _ _ _
 unfold getAttrByItsOwn
 refine wpAny_bind ?_
 show wpAny _ _ (typeLookup (.ref C) "__getattr__") _ _ _
 refine Z.at (wpAny_bind (wpAny_attempt (wpAny_holding ?_)))
 show wpAny _ _ (boundAndCalled _ _ _) _ _ _
 unfold boundAndCalled
 rw [U]
 refine wpAny_bind (wpAny_pure (wpAny_call (codeAny_call_builtin PySem.F.attr_ValueError.ga.plain PySem.F.entry_bexc_ga (exc_ga_check X F hx hc ?_))))
 unfold Builtin.«object.__getattribute__»
 refine wpAny_bind (wpAny_pure (wpAny_bind (wpAny_pure (wpAny_bind (z.at (wpAny_bind ?_))))))
 unfold find
 refine wpAny_bind (O.at (wpAny_bind ?_))
 show wpAny _ _ (specialOf (.builtin "object.__class__") "__get__") _ _ _
 refine Y.at (wpAny_bind ?_)
 unfold dataDescriptor?
 refine wpAny_bind (L.at ?_)
 rw [if_pos rfl]
 refine wpAny_pure (wpAny_bind (wpAny_rule (wpAny_pure ?_)))
 show wpAny _ _ (holding [_] (call (.builtin "getset_descriptor.__get__") [.builtin "object.__class__",.ref a,.ref C]) >>= ret) _ _ _
 refine wpAny_bind (wpAny_holding (wpAny_call (exc_get X F hx hc ?_)))
 exact wpAny_pure (handed_on rfl (wpAny_pure hq))
theorem kitx_exc {D:Addr} (F:ExcC K D) (hdct:hasDictIn K D=true):KitX K (.ref a) (.ref D) (fun h=>∃ o,h.get? a=some o /\ o.cls=.ref D) where
 ty:=fun _ _ _ ⟨_,h1,h2⟩=>ZDP h1 h2
 it:=fun _ _ X _=>by
  obtain ⟨L,J,_⟩:=any_some hdct
  unfold clsIn at J
  split at J
  .rename_i z
   intro A1 Q1 E1 s1 k1 U
   simp only [isType,loadHead]
   exact wpAny_bind (wpAny_loadPart (k1 _ _ (X _ _ z)) (wpAny_pure U))
  .cases J
 ne:=fun h Z dd its n Y X O=>by
  obtain ⟨L,J,_⟩:=any_some hdct
  refine Bool.eq_false_iff.mpr fun q=>?_
  cases Value.ref.inj (beq_iff_eq.mp q)
  unfold clsIn at J
  split at J
  .rename_i z
   have y:=(X _ _ z).symm.trans O
   cases y
  .cases J
 ca:=fun {_ _ _ _ _ s} X ⟨_,h1,h2⟩ k=>by
  obtain ⟨hh,g,d,t,os⟩:=s
  exact exc_class X F h1 h2 k
end
noncomputable def excO (a:Addr) (cls:Value) (dd:Option Addr):HO:=.ext fun h=>∃ o,h.get? a=some o /\ o.cls=cls /\ o.dict=dd /\ ∃ vs,o.data=.fields vs
section
variable {X:Cx}
theorem call_isExc:ZC7 X (.builtin "isinstance") (fun xs H Q=>∃ a C c b dd,xs=[.ref a,c] /\ ZDk c=true /\ H a=some (excO a (.ref C) dd) /\ ExcC X.K C /\ PySem.W.hasDictIn X.K C=true /\ PySem.W.kitOne X.K (.ref C) (cval c)=some b /\ Q (.bl b) H):=by
 intro pins s σ H xs us Q I r h
 obtain ⟨a,C,c,b,dd,rfl,hc,ha,F,hd,e,q⟩:=h
 obtain ⟨u,w',rfl,O,J⟩:=vals2 r
 have Y:w'=cval c:=by
  cases c <;> first | (cases hc;done) | exact J
 subst Y
 cases (show u=Value.ref a from O)
 obtain ⟨⟨o,U,L,_⟩,_,_⟩:=(show ObjOk X.prog X.w H s.heap a (excO a (.ref C) dd) from I.hok a _ ha)
 have z:∃ o,s.heap.get? a=some o /\ o.cls=.ref C:=⟨o,U,L⟩
 exact kia_one (kitx_exc F hd) I.kIn z e (fun z=>nomatch z) fun tk=>⟨.bl b,H,I.tok tk,rfl,q⟩
end
open PySem PySem.Spec PySem.W PySem.Calls PyProof.Rows
theorem boot_ValueError:bootBuiltins "ValueError"=some (.type "ValueError"):=by decide +kernel
theorem ZAy {X:Cx} (K:W.Frag) (h:X.K=K:=by rfl):ZC7 X (.builtin "isinstance") (fun xs H Q=>∃ a C c b dd,xs=[.ref a,c] /\ ZDk c=true /\ H a=some (excO a (.ref C) dd) /\ ExcC K C /\ PySem.W.hasDictIn K C=true /\ PySem.W.kitOne K (.ref C) (cval c)=some b /\ Q (.bl b) H):=h ▸ call_isExc
section
variable {X:Cx}
end
abbrev bmV:List Value:=[.type "ValueError",.type "Exception",.type "BaseException",.type "object"]
theorem exc_obj {K:W.Frag} {h:Heap} {C:Addr} {bmB:List Value} {newId:String} (X:K.In h) (q:excIn K C bmB newId=true):∃ bm N nm J bs hdct sn sub ab col dd k0 k1 k2 k3 k5 mN,
  h.get? C=some (excClassObj nm J C N bs bm hdct sn sub ab col dd k0 k1 k2 k3 k5 newId) /\ h.Ns N mN /\ mN "__init__"=none /\ OwnTail h bmB bm:=by
 unfold excIn at q
 split at q
 next dd cd sl ho=>
  split at q
  next C1 bm k0 k1 k2 k3 n1 k5 hm hs=>
   simp only [Bool.and_eq_true,beq_iff_eq,Bool.not_eq_true'] at q
   obtain ⟨⟨⟨⟨⟨y1,y2⟩,U⟩,Z⟩,L⟩,O⟩:=q
   subst y1 y2
   obtain ⟨nm,bs,Y,ns,J,hd,sn,sub,ab,col,a0⟩:=cd
   dsimp only at hm U L O
   subst hm U
   have z:sl=#[k0,k1,k2,k3,some (.builtin n1),k5]:=by
    cases sl
    simp only at hs
    rw [hs]
   subst z
   exact ⟨bm,ns,nm,J,bs,hd,sn,sub,ab,col,dd,k0,k1,k2,k3,k5,_,X _ _ ho,.of_isNs (isNs_of_in X L),nsMap_none_of_in X L O,tail_of_in X Z⟩
  next=>cases q
 next=>cases q
noncomputable def ZDL (E:XK) (C:Addr):TS:=fun _ _ H=>E (.ref C) none H
section
variable {P:Program} {w:World} {K:W.Frag} {mg:Str->Option Value} {base:Heap} {N:List Str} {qual:Str} {scope:Scope} {f:Addr} {cd:Value} {A:Around} {outer:List Env} {s:Shared} {H:Hp} {E:XK}
theorem ZCA {x:Str} {C:Addr} {np cpos pos:Pos} (Y:excIn K C bmV "ValueError.__new__"=true) (hm:mg x=some (.ref C)) (U:Gl (cxOf (CXE P w) P w K mg base N qual scope f cd A outer s H E) x) (J:(x == ("__debug__":Str))=false:=by decide) :
  PS (cxOf (CXE P w) P w K mg base N qual scope f cd A outer s H E) (.Raise (some (.Call (.Name x np) [] [] cpos)) none pos) (ZDL E C):=by
 intro pins s1 σ H1 D I O
 obtain ⟨bm,N',nm,L,bs,hdct,sn,sub,ab,col,dd,k0,k1,k2,k3,k5,mN,hC,Z,z,T⟩:=exc_obj I.kIn Y
 refine wpAny_Raise_call_subU (C:=C) (N:=N') (nm:=nm) (q:=L) (bs:=bs) (bm:=bm) (hdct:=hdct) (sn:=sn) (sub:=sub) (ab:=ab) (col:=col) (dd:=dd) (k0:=k0) (k1:=k1) (k2:=k2) (k3:=k3) (k5:=k5) (mN:=mN)
  PySem.F.excBase_ValueError PySem.F.excBase_ValueError.hasB PySem.F.excBase_ValueError (T.hasType PySem.F.excBase_ValueError.hasBase) (I.ok.hd rfl) rfl z (ZBo I U hm ⟨rfl,?_⟩ J)
 exact evalArgs_empty ⟨rfl,yAO _,hC,Z,T,fun h' e hx=>raisedX I hx O⟩
theorem Fun.okX {x:Str} {st:Stmt} {fd:FuncData} {ps:List Str} {k:Nat} {sp:Sp} (F:Fun K x qual st f fd) (S:FnScope N ps (ZAC st)) (U:∀ vs H Q E,sp vs H Q E->vs.length=ps.length)
  (J:∀ (z:Value) (A:Around) (outer:List Env) (s:Shared) (H:Hp) (vs:List V) (Q:VK) (E:XK),Room k (A.deeper (envOfC qual (ZAC st) s.heap.objs.size f z))->sp vs H Q E ->
   ∃ t,PSs (cxOf (CXE P w) P w K mg base N qual (ZAC st) f z A outer s H E) (ZAJ st) t /\ t { nx:=fun _ H'=>Q .non H',rt:=Q } (start N vs) H):FnOk P w K mg base (CXE P w) (k+1) f fd ps sp:=by
 obtain ⟨oc,od,kV,a0,pm,an,z,ct,Y,rfl,lk,O⟩:=F.ex
 exact ZD5 lk O S U fun A outer s H vs Q E Z L=>J z A outer s H vs Q E Z L
end
theorem PS.nox {X:Cx} {st:Stmt} {t:TS} (h:PS X.nox st t):PS X st t:=fun pins s σ H D I hw=>
 wpAny_mono (h pins s σ H D (I.wish _) hw) (fun _ _ q=>q.unwish) fun _ _ z=>False.elim z
noncomputable def PassesS (CX:CXT) (X:Cx) (E:St->XK):Prop:=∀ (pins:List (Addr×Obj)) (σ:St) (H:Hp) (s:Shared) (e:Value) (s':Shared),Inv X pins σ H s->CX X.stack H s (E σ) e s'->X.xe e s'
noncomputable def ZDZ (sp:Sp) (dvs:List V) (E:St->XK) (t:TA):TE:=fun σ H Q=>t σ H fun vs H1=>sp (vs++dvs) H1 Q (E σ)
section
variable {X:Cx} {CX:CXT} {k:Nat} {f:Addr} {fd:FuncData} {ps:List Str} {sp:Sp} {dvs:List V} {ds:List Value} {E:St->XK} {x:Str} {p pos:Pos} {e:Expr} {es:List Expr} {t:TA}
theorem run_fnS {pins:List (Addr×Obj)} {σ:St} {H:Hp} {s:Shared} {Q:VK} {E:XK} {us:List Value} {vs:List V} (F:FnOk X.prog X.w X.K X.mg X.base CX k f fd ps sp) (O:Room k X.A) (L:Binds X.K fd ps ds) (hd:Vals dvs ds) (hx:∀ e s',CX X.stack H s E e s'->X.xe e s')
  (I:Inv X pins σ H s) (r:Vals vs us) (h:sp (vs++dvs) H Q E):wpAny (model X.prog X.w) X.A (call (.ref f) us) (EP X pins σ Q) X.xe s:=by
 have J:Vals (vs++dvs) (us++ds):=r.append hd
 have hl:(us++ds).length=ps.length:=by rw [<- J.length];exact F.len _ _ _ _ h
 refine wpAny_call (codeAny_mono (F.run X.A X.stack s H ⟨us,[]⟩ (us++ds) (vs++dvs) Q E O I.env0 (L s us I.kIn hl) J h) fun r s' z=>?_)
 cases r with
 | error e=>exact hx e s' z
 | ok fl=>
  cases fl with
  | ret u=>exact I.after z
  | next=>exact False.elim z
  | brk=>exact False.elim z
  | cont=>exact False.elim z
theorem pe_fnS (F:Fn X.prog X.w X.K X.mg X.base CX x k ps sp) (Z:Room k X.A) (U:Gl X x) (hx:PassesS CX X E)
  (ha:PA X (e::es) t) (L:(x == ("__debug__":Str))=false:=by decide) (he:starEach (e::es) X.env=(false,eval e X.env)::starEach es X.env:=by rfl) (J:(backTo pos (starEach es X.env)).any (·.1)=false:=by rfl) :
  PE X (.Call (.Name x p) (e::es) [] pos) (ZDZ sp [] E t):=by
 obtain ⟨f,fd,h1,h2,h3,Y⟩:=F.ex
 intro pins s σ H Q I h
 refine wpAny_Call_Name_kw (ZBo I U Y ?_ L)
 refine PySem.W.callWith_K (h₀:=X.base) I.ok.mod.kin h3 (thn (ha pos pins s σ H _ I h) fun us s1 ⟨vs,H1,O,r,q⟩=>⟨O.kIn,?_⟩) he J
 exact run_fnS h1 Z h2 .nil (fun e s' z=>hx pins σ H1 s1 e s' O z) O r q
end
noncomputable abbrev Cx.tries (X:Cx) (pn:List (Addr×Obj)) (xe:Value->Shared->Prop):Cx:={ X with pn:=pn,xe:=xe }
noncomputable abbrev Cx.handles (X:Cx) (e:Addr):Cx:={ X with A:=X.A.mark (some (.ref e)),calm:=false,xe:=fun _ _=>False }
section
variable {X:Cx} {pins pins':List (Addr×Obj)} {σ:St} {H:Hp} {s:Shared} {xe:Value->Shared->Prop} {e:Addr}
theorem Inv.toTry (I:Inv X pins σ H s):Inv (X.tries (X.pn++pins) xe) [] σ H s :=
 ⟨⟨I.ok.mod,I.ok.kind,I.ok.glob,I.ok.blt,I.ok.above,I.ok.inj,I.ok.has,I.ok.cab,I.ok.hd,I.ok.frames,I.ok.stk,I.ok.exf,I.ok.bs,I.ok.bsz,I.ok.noex,I.ok.exfs,I.ok.funs,I.ok.frf⟩,I.os,I.bare,I.base,I.loc,I.cell,I.free,I.freeC,fun p z=>I.pin p (by simpa using z),I.hok,I.len⟩
theorem Inv.ofTry (I:Inv (X.tries (X.pn++pins) xe) pins' σ H s):Inv X pins σ H s :=
 ⟨⟨I.ok.mod,I.ok.kind,I.ok.glob,I.ok.blt,I.ok.above,I.ok.inj,I.ok.has,I.ok.cab,I.ok.hd,I.ok.frames,I.ok.stk,I.ok.exf,I.ok.bs,I.ok.bsz,I.ok.noex,I.ok.exfs,I.ok.funs,I.ok.frf⟩,I.os,I.bare,I.base,I.loc,I.cell,I.free,I.freeC,fun p z=>I.pin p (List.mem_append_left _ z),I.hok,I.len⟩
theorem Inv.toH (I:Inv X pins σ H s) (e:Addr):Inv (X.handles e) pins σ H s :=
 ⟨⟨I.ok.mod,I.ok.kind,I.ok.glob,I.ok.blt,I.ok.above,I.ok.inj,I.ok.has,I.ok.cab,(fun z=>nomatch z),I.ok.frames,I.ok.stk,I.ok.exf,I.ok.bs,I.ok.bsz,I.ok.noex,I.ok.exfs,I.ok.funs,I.ok.frf⟩,I.os,I.bare,I.base,I.loc,I.cell,I.free,I.freeC,I.pin,I.hok,I.len⟩
theorem Inv.ofH (I:Inv (X.handles e) pins σ H s) (ok:X.Ok):Inv X pins σ H s:=⟨ok,I.os,I.bare,I.base,I.loc,I.cell,I.free,I.freeC,I.pin,I.hok,I.len⟩
theorem SP.ofTry {D:Ends} {f:Flow} (h:SP (X.tries (X.pn++pins) xe) pins' D f s):SP X pins D f s:=by
 cases f with
 | next=>obtain ⟨z,H',I,q⟩:=h;exact ⟨z,H',I.ofTry,q⟩
 | brk=>obtain ⟨z,H',I,q⟩:=h;exact ⟨z,H',I.ofTry,q⟩
 | cont=>obtain ⟨z,H',I,q⟩:=h;exact ⟨z,H',I.ofTry,q⟩
 | ret u=>obtain ⟨v,z,H',I,r,q⟩:=h;exact ⟨v,z,H',I.ofTry,r,q⟩
theorem Inv.track {o:HO} (I:Inv X pins σ H s) (h0:X.s₀.heap.get? e=none) (Z:e≠X.env.locals) (hC:∀ x c,X.env.cells.lookup x=some c->c≠e) (O:∀ p∈X.pn++pins,p.1≠e) (hn:H e=none) (L:ObjOk X.prog X.w (upd H e o) s.heap e o):Inv X pins σ (upd H e o) s:=by
 have k:∀ b u,H b=some u->upd H e o b=some u:=fun b u q=>by rw [ZAH (ZAI q hn)];exact q
 refine ⟨I.ok,I.os,I.bare,⟨I.base.keep,I.base.slot,fun b ob q n hx=>?_,I.base.there,fun b xs q=>k _ _ (I.base.tups b xs q),fun b ob u q=>k _ _ (I.base.frzs b ob u q),fun b ps q=>?_⟩,I.loc,I.cell,?_,fun x c q=>?_,fun p J=>?_,fun b u q=>?_,I.len⟩
 .rw [ZAH (fun z=>by rw [z,h0] at q;cases q)]
  exact I.base.free b ob q n hx
 .obtain ⟨m,hm⟩:=I.base.tbls b ps q
  exact ⟨m,k _ _ hm⟩
 .rw [ZAH (Ne.symm Z)];exact I.free
 .rw [ZAH (hC x c q)];exact I.freeC x c q
 .obtain ⟨q1,q2,Y,q4,U⟩:=I.pin p J
  exact ⟨q1,by rw [ZAH (O p J)];exact q2,Y,q4,U⟩
 .by_cases z:b=e
  .subst z
   rw [ZAE] at q
   cases q
   exact L
  .rw [ZAH z] at q
   exact (I.hok b u q).stay (fun _ _ _ y=>y) (fun c y=>k _ _ y) fun c xs y=>k _ _ y
theorem Inv.gone {i t':Nat} {x:Str} {m:Str->Option Value} {v:Option Value} {h':Heap} (I:Inv X pins σ H s) (hN:X.N.Nodup) (hi:X.N[i]?=some x) (hn:s.heap.Ns X.env.locals m) (Z:h'.Ns X.env.locals (fun y=>if y=x then v else m y)) (J:Heap.SameBut X.env.locals s.heap h') :
  Inv X pins (σ.set i none) H { s with heap:=h',toks:=t' }:=by
 obtain ⟨m0,a3,hl⟩:=I.loc
 obtain ⟨oL,_,_,a9,_⟩:=id hn
 have hm:m0=m:=by
  obtain ⟨o1,a6,a5,a2,a1,_,a0⟩:=a3
  obtain ⟨o2,a8,a7,Y,U,_,a4⟩:=hn
  rw [a2] at Y
  cases Y
  rw [a1] at U
  cases U
  funext y
  rw [<- a0 y,<- a4 y]
 subst hm
 have nL:∀ b ob,X.s₀.heap.get? b=some ob->b≠X.env.locals:=fun b ob q=>yAB (yAC (Heap.lt_size q) I.ok.above)
 refine ⟨I.ok,I.os,I.bare,⟨fun b o q n hb hx=>(J.2 b (nL b o q)).trans (I.base.keep b o q n hb hx),fun b o q n hb hx=>?_,I.base.free,fun b o q hx=>?_,I.base.tups,I.base.frzs,I.base.tbls⟩,⟨_,Z,fun j y v' O L q3=>?_⟩,fun y c q=>?_,I.free,I.freeC,fun p hp=>?_,fun b u q=>?_,by simpa using I.len⟩
 .obtain ⟨sl,O⟩:=I.base.slot b o q n hb hx
  exact ⟨sl,(J.2 b (nL b o q)).trans O⟩
 .obtain ⟨o',O⟩:=I.base.there b o q hx
  exact ⟨o',(J.2 b (nL b o q)).trans O⟩
 .by_cases hj:j=i
  .subst hj
   by_cases hlen:j < σ.length
   .rw [List.getElem?_set_self hlen] at L;cases L
   .rw [List.getElem?_eq_none (by rw [List.length_set];omega)] at L;cases L
  .rw [List.getElem?_set_ne (Ne.symm hj)] at L
   obtain ⟨u',r',q⟩:=hl j y v' O L q3
   refine ⟨u',r',?_⟩
   rcases q with ⟨k,q⟩ | ⟨k,c,q,z⟩
   .have:y≠x:=fun z=>hj (ZCt hN O (z ▸ hi))
    exact .inl ⟨k,by simp [this,q]⟩
   .exact .inr ⟨k,c,q,z.sameBut J (I.cne y c q)⟩
 .obtain ⟨w',z⟩:=I.cell y c q
  exact ⟨w',z.sameBut J (I.cne y c q)⟩
 .obtain ⟨q,n,ne,nf,d⟩:=I.pin p hp
  exact ⟨(J.2 p.1 ne).trans q,n,ne,nf,d⟩
 .refine (I.hok b u q).stay (fun c w' hc z=>(J.2 c ?_).trans z) (fun _ z=>z) fun _ _ z=>z
  rintro rfl
  rcases hc with y | y
  .rw [<- y,I.free] at q;cases q
  .rw [I.free] at y;cases y
end
noncomputable def Ehit (K:W.Frag) (HC:Addr) (i:Nat) (ts:TS) (D:Ends):St->XK:=fun σ cls dd H'=>exmOne K cls (.ref HC)=some true /\ ∀ ea,H' ea=none ->
 ts { nx:=fun σ' H''=>D.nx (σ'.set i none) H'',rt:=D.rt,bk:=fun σ' H''=>D.bk (σ'.set i none) H'',ct:=fun σ' H''=>D.ct (σ'.set i none) H'' } (σ.set i (some (.ref ea))) (upd H' ea (excO ea cls dd))
noncomputable def tTry (K:W.Frag) (HC:Addr) (i:Nat) (tb:(St->XK)->TS) (ts:TS):TS:=fun D σ H=>tb (Ehit K HC i ts D) D σ H
theorem ps_try {X:Cx} {body Z:List Stmt} {a1:Stmt} {x n:Str} {i:Nat} {HC:Addr} {np ag pos:Pos} {tb:(St->XK)->TS} {ts:TS} (ah:X.stack=X.env::X.outer /\ X.env.frame=some X.env.locals) (aq:X.ex=[]) (hg:Gl X x) (hm:X.mg x=some (.ref HC))
  (hN:X.N.Nodup) (hi:X.N[i]?=some n) (hl:X.env.scope.names.lookup n=some .local)
  (hb:∀ (pn:List (Addr×Obj)) (xe:Value->Shared->Prop) (E:St->XK),PassesS (CXE X.prog X.w) (X.tries pn xe) E->PSs (X.tries pn xe) body (tb E)) (hs:∀ e,PSs (X.handles e) (a1::Z) ts) (ao:(x == ("__debug__":Str))=false:=by decide) :
  PS X (.Try body [.ExceptHandler (some (.Name x np)) (some n) (a1::Z) ag] [] [] pos) (tTry X.K HC i tb ts):=by
 intro pins s σ H D I hw
 refine wpAny_Try_except ?_
 refine wpAny_mono (hb (X.pn++pins) _ (Ehit X.K HC i ts D) ?_ [] s σ H D I.toTry hw) (fun f s1 q=>?_) fun e s1 q=>q
 .intro pins' aa H1 s1 e s2 I1 hc
  obtain ⟨ea,cls,dd,H',rfl,os,ae,un,ap,⟨B,a0,fl,a3,Y,hB⟩,ak,hE⟩:=hc
  have J:Inv X pins aa H1 s1:=I1.ofTry
  obtain ⟨e1,e2⟩:=ah
  have un:Un (frs X.stack) [] H1 H' s1.heap s2.heap:=un
  have fr:=J.stkFree2 un
  have af:X.A.frames=some (X.env::X.outer):=by rw [<- e1];exact J.ok.frames
  have fl:Heap.FlyingD B (X.env::X.outer) ea cls (a0,dd) s2.heap:=by rw [<- e1];exact fl
  have ff:s2.heap.FunFrames B X.stack:=by rw [e1];exact fl.2.2.1
  have nx:∀ h5,Heap.FlyingD B (X.env::X.outer) ea cls (a0,dd) h5->s2.heap.UpToSlots h5->Inv X pins aa H' { s2 with heap:=h5 }:=fun h5 f5 u5=>J.call' os (un.fly hB f5.1 u5 ff) (ap.fly hB f5.1 fr) ae fun b z=>nomatch z
  refine wpAny_looks_onD af e2 fl fun h3 ad a7=>?_
  refine wpAny_landsD ad fun h4 a6 ai=>?_
  have I4:=nx h4 a6 (a7.trans ai)
  obtain ⟨ob,ar,am⟩:=a6.there
  refine wpAny_handleBy_cons (codeAny_handlers_test ?_) (by intro q;cases q)
  refine ZBo (X:=X.handles ea) (I4.toH ea) hg hm ?_ ao
  refine (exm_one I4.kIn (am ▸ (Looks.ld ar).andThen .now) ak).here ?_
  refine codeAny_handlers_suite_as ?_
  refine PySem.LANDS2_ a6 fun h6 a8 an=>?_
  have I6:=nx h6 a8 ((a7.trans ai).trans an)
  obtain ⟨ob6,aj,a9,ac⟩:=a8.thereD
  refine store_ok2 I6 hN hi (.inl hl) (show RelV (.ref ea) (.ref ea) from rfl) (fun s7 I7 al=>?_) (.inr hl)
  have nL:ea≠X.env.locals:=fun z=>by
   obtain ⟨m,⟨o,_,_,ho,_⟩,_⟩:=J.loc
   rw [<- z,Y] at ho;cases ho
  have nC:∀ x c,X.env.cells.lookup x=some c->c≠ea:=fun x c q z=>by
   obtain ⟨v,o,ho,_⟩:=J.cell x c q
   rw [z,Y] at ho;cases ho
  have a2:s7.heap.get? ea=some ob6:=by
   obtain ⟨a,sb,z⟩:=al
   refine (sb.2 ea ?_).trans aj
   rcases z with z | z
   .rw [z];exact nL
   .exact Ne.symm (nC _ _ z)
  have I8:=(I7.track (e:=ea) (o:=excO ea cls dd) (by
   cases q:X.s₀.heap.get? ea with
   | none=>rfl
   | some o=>
    obtain ⟨o1,z⟩:=J.base.there ea o q (by rw [aq];exact List.not_mem_nil)
    rw [Y] at z;cases z) nL nC (fun p hp z=>by
   have:=(J.pin p hp).1
   rw [z,Y] at this;cases this) a3 ⟨⟨ob6,a2,a9,ac⟩,⟨ob6,a2⟩,fun g1 g2 ⟨o,z1,z2⟩ k=>⟨o,k o z1,z2⟩⟩).toH ea
  refine wpAny_mono (hs ea pins s7 _ _ _ I8 (hE ea a3)) (fun f s8 q8=>?_) fun _ _ z=>z.elim
  have kd:(X.env.scope.kind == .class || (X.env.scope.kind == .module && X.env.locals != X.env.globals))=false:=by rw [J.ok.kind];rfl
  cases f with
  | next=>
   obtain ⟨a5,a4,L,q⟩:=q8
   have L:=L.ofH J.ok
   obtain ⟨m,hn,_⟩:=L.loc
   exact wpAny_nameGoes_keeps hl hn kd fun h9 v O U=>⟨_,_,L.gone hN hi hn O U,q⟩
  | brk=>
   obtain ⟨a5,a4,L,q⟩:=q8
   have L:=L.ofH J.ok
   obtain ⟨m,hn,_⟩:=L.loc
   exact wpAny_nameGoes_keeps hl hn kd fun h9 v O U=>⟨_,_,L.gone hN hi hn O U,q⟩
  | cont=>
   obtain ⟨a5,a4,L,q⟩:=q8
   have L:=L.ofH J.ok
   obtain ⟨m,hn,_⟩:=L.loc
   exact wpAny_nameGoes_keeps hl hn kd fun h9 v O U=>⟨_,_,L.gone hN hi hn O U,q⟩
  | ret u=>
   obtain ⟨v',a5,a4,L,r,q⟩:=q8
   have L:=L.ofH J.ok
   obtain ⟨m,hn,_⟩:=L.loc
   exact wpAny_nameGoes_keeps hl hn kd fun h9 v O U=>⟨_,_,_,L.gone hN hi hn O U,r,q⟩
 .have q':SP X pins D f s1:=q.ofTry
  cases f with
  | next=>exact wpAny_execs_nil q'
  | brk=>exact q'
  | cont=>exact q'
  | ret u=>exact q'
open PySem PySem.Spec PySem.W PySem.Calls PyProof.Rows Builtin.Getset_descriptor Builtin.ObjectAttr
section
variable {prog:Program} {w:World} {A:Around} {E:Value->Shared->Prop} {K:W.Frag} {a C:Addr} {o:Obj} {h:Heap} {g:Array GenState} {d:Drawn} {t:Nat} {os:OsState}
end
open PySem PySem.Spec PySem.W PySem.Calls PyProof.Rows
section
variable {prog:Program} {w:World} {A:Around} {E:Value->Shared->Prop} {h:Heap} {g:Array GenState} {d:Drawn} {t:Nat} {os:OsState}
variable {nm q:Str} {C N:Addr} {bs bm bmB:List Value} {hdct:Bool} {sn:List Str} {sub:List Value} {ab:Bool} {col:Option Bool} {dd:Option Addr} {k0 k1 k2 k3 k5:Option Value} {B Bn newId nid initId inN:String} {bmN:List Value}
end
section
variable {M:Model} {A:Around} {E:Value->Shared->Prop} {env:Env}
variable {nm q:Str} {C N:Addr} {bs bm:List Value} {hdct:Bool} {sn:List Str} {sub:List Value} {ab:Bool} {col:Option Bool} {dd:Option Addr} {k0 k1 k2 k3 k5:Option Value} {newId:String}
end
open PySem PySem.Spec PySem.W PySem.Calls PyProof.Rows Builtin.Getset_descriptor Builtin.ObjectAttr
noncomputable def excM (a:Addr) (cls:Value) (dd:Option Addr):HO:=.ext fun h=>∃ o,h.get? a=some o /\ o.cls=cls /\ o.dict=dd /\ ∃ vs,o.data=.fields vs /\ vs[1]?=some .none /\ ∃ a0,vs[0]?=some a0
section
variable {X:Cx}
end
section
variable {X:Cx} {x name:Str} {C:Addr} {np apos pos:Pos} {e:Expr} {es:List Expr} {t:TA} {r:List V->Hp->VK->Prop} {id:String}
end
noncomputable def tFS (te:TE):TE:=fun σ H Q=>te σ H fun x H1=>∃ i:Int,x=.int i /\ i.natAbs.log2 < 1920 /\ ∀ y,Q (.str y) H1
section
variable {X:Cx} {v c1 c2:Expr} {s1 s2:Str} {te:TE} {p pos:Pos}
end
noncomputable def overTail:List Value->Bool
 | .ref c::r=>overTail r
 | l=>l == bmV
noncomputable def excOver (K:Frag) (C:Addr):Bool:=(clsIn K C).any fun cd=>overTail cd.mro
section
variable {prog:Program} {w:World} {A:Around} {R:Result->Shared->Prop} {s:Shared} {K:Frag} {x C:Addr}
end
noncomputable def xdM (d:Addr) (fs:List (Str×V)):HO:=.ext fun h=>∃ mA,h.Ns1 d mA /\ ∀ f,RelO (fs.lookup f) (mA f)
structure XCls (K:Frag) (C:Addr):Prop where
 hd:hasDictIn K C=true
 ov:excOver K C=true
 sa:findIn K (.ref C) "__setattr__"=some (some (.builtin "object.__setattr__"))
section
variable {X:Cx} {pins:List (Addr×Obj)} {σ:St} {H:Hp} {s:Shared} {A:Around} {E:Value->Shared->Prop} {a C:Addr} {f:Str}
end
noncomputable def sXFld (K:Frag) (ta tv:TE) (f:Str):TS:=fun D σ H=>tv σ H fun y H1=>ta σ H1 fun x H2=>∃ a C dd,x=.ref a /\ H2 a=some (excM a (.ref C) dd) /\ XCls K C /\ NoAttr K C f /\
 ((dd=none /\ ∀ d,H2 d=none->d≠a->D.nx σ (upd (upd H2 d (xdM d [(f,y)])) a (excM a (.ref C) (some d))))∨∃ d fs,dd=some d /\ d≠a /\ H2 d=some (xdM d fs) /\ fs.length < 1000 /\ D.nx σ (upd H2 d (xdM d (putF f y fs))))
section
variable {X:Cx} {CX:CXT} {k:Nat} {f C:Addr} {fd:FuncData} {ps:List Str} {sp:Sp} {x:Str} {p pos:Pos} {e:Expr} {es:List Expr} {t:TA} {E:XK}
noncomputable def tXMk (C:Addr) (sp:Sp) (E:XK) (t:TA):TE:=fun σ H Q=>t σ H fun vs H1=>vs.length <= 1000 /\ ∀ x,H1 x=none->sp (.ref x::vs) (upd H1 x (excM x (.ref C) none)) (fun v H2=>v=.non /\ Q (.ref x) H2) E
end
noncomputable def forget (H:Hp) (a:Addr):Hp:=fun b=>if b=a then none else H b
noncomputable def tRaiseX (E:XK) (C:Addr) (sp:Sp) (t:TA):TS:=fun _ σ H=>t σ H fun vs H1=>vs.length <= 1000 /\ ∀ x,H1 x=none->sp (.ref x::vs) (upd H1 x (excM x (.ref C) none)) (fun v H2=>v=.non /\ ∃ dd,H2 x=some (excM x (.ref C) dd) /\ E (.ref C) dd (forget H2 x)) E0
section
variable {P:Program} {w:World} {K:W.Frag} {mg:Str->Option Value} {base:Heap} {N:List Str} {qual:Str} {scope:Scope} {f:Addr} {cd:Value} {A:Around} {outer:List Env} {s:Shared} {H:Hp} {E:XK}
variable {CX:CXT} {k:Nat} {fI C:Addr} {fd:FuncData} {ps:List Str} {sp:Sp} {x:Str} {np cpos pos:Pos} {e:Expr} {es:List Expr} {t:TA}
end
section
variable {X:Cx}
end
end L2
namespace PySem
namespace F
end F
section
variable {prog:Program} {w:World} {A:Around} {s:Shared} {R:Result->Shared->Prop}
variable {I:Addr} {fp wr:List Addr} {G:Array GenState->Array GenState->Prop} {n:Nat} {P:Nat->Value->Prop} {St:Nat->Shared->Prop}
end
section
variable {prog:Program} {w:World} {A:Around} {E:Value->Shared->Prop} {s:Shared}
variable {I:Addr} {fp wr:List Addr} {G:Array GenState->Array GenState->Prop} {n:Nat} {P:Nat->Value->Prop} {St:Nat->Shared->Prop}
end
end PySem
namespace L2
open PySem PySem.Spec PyProof.Rows
noncomputable def tRevL (K:W.Frag) (t:TA):TE:=fun σ H Q=>t σ H fun vs H1=>∃ (l:Addr) (ys:List V),vs=[.ref l] /\ SqL K H1 l ys /\ ∀ r,H1 r=none->Q (.ref r) (upd H1 r (.lst ys.reverse))
section
variable {X:Cx} {e:Expr} {ta:TA} {p p2 pos pos2:Pos}
end
theorem eqD_refl {K:W.Frag} {H:Hp} {x y:V} {d:PyData} {Q:VK} (hx:Dp K H d x) (z:Dp K H d y) (hc:d.canLay0=true) (hd:d.depth <= 64) (q:Q (.bl true) H):rEqD K x y H Q :=
 ⟨d,d,hx,z,hc,hc,hd,by rw [PySem.SeqAt.eqv_refl d hc];exact q⟩
noncomputable def compR2 (g:TG) (tt:TT) (te:TE) (σ0:St) (Q:VK) (x y:V) (H1:Hp):Prop:=∃ i j:Int,[x,y]=[.int i,.int j] /\ (-(2 ^ 62) <= i /\ i < 2 ^ 62 /\ -(2 ^ 62) <= j /\ j < 2 ^ 62) /\ compR i g tt te σ0 Q (j-i).toNat H1
theorem tCompR2_eq {k:Nat} {js:List Nat} {t u:TE} {g:TG} {tt:TT} {te:TE} {σ:St} {H:Hp} {Q:VK}:ZDA k js (iRng2 (ZBz t (ZBz u tNil))) g tt te σ H Q=t σ H (fun x H1=>u σ H1 fun y H2=>compR2 g tt te (up k js σ) Q x y H2):=rfl
section
variable {X:Cx}
end
noncomputable def Itz (K:W.Frag) (a b:Addr):It :=
 ⟨fun i H=>∃ xs x ys y,SqL K H a xs /\ xs[i]?=some x /\ SqL K H b ys /\ ys[i]?=some y,fun i H v H'=>∃ p x y,H p=none /\ (∀ xs,SqL K H a xs->xs[i]?=some x) /\ (∀ ys,SqL K H b ys->ys[i]?=some y) /\ H'=upd H p (.tup [x,y]) /\ v=.ref p,fun i H=>∃ xs ys,SqL K H a xs /\ SqL K H b ys /\ (xs.length <= i∨ys.length <= i)⟩
section
variable {X:Cx}
noncomputable def iZip (K:W.Frag) (ta:TA):TI:=fun σ H R=>ta σ H fun vs H1=>∃ a b,vs=[.ref a,.ref b] /\ (∃ xs,SqL K H1 a xs) /\ (∃ xs,SqL K H1 b xs) /\ R (Itz K a b) H1
end
section
variable {K:W.Frag} {a b:Addr} {xs ys:List V} {g:TG} {tb:TS} {D:Ends} {σ:St} {H:Hp}
noncomputable def forZ (K:W.Frag) (g:TG) (tb:TS) (D:Ends) (σ:St) (x y:V) (H1:Hp):Prop:=∃ a b,[x,y]=[.ref a,.ref b] /\ (∃ xs,SqL K H1 a xs) /\ (∃ xs,SqL K H1 b xs) /\ ∃ W:Nat->Nat->St->Hp->Prop,(∃ m,W 0 m σ H1) /\ ∀ i m σ H,W i m σ H ->
 ((Itz K a b).stop i H /\ D.nx σ H)∨((Itz K a b).go i H /\ ∃ N:St->Hp->Prop,(∀ σ' H',N σ' H'->∃ m',m' < m /\ W (i+1) m' σ' H') /\ ∀ x H',(Itz K a b).yld i H x H'->g x σ H' fun σ2 H2=>tb { D with nx:=N,ct:=N,bk:=D.nx } σ2 H2)
theorem tForZ_eq {t u:TE}:tFor (iZip K (ZBz t (ZBz u tNil))) g tb D σ H=t σ H (fun x H1=>u σ H1 fun y H2=>forZ K g tb D σ x y H2):=rfl
end
section
open PySem.SeqAt
open PySem.AutoSeq1 (wpAny_loadPart')
open PySem.MeetsSeq PySem.MeetsSeq2 PySem.MeetsSeq3 HT
end
section
variable {prog:Program} {w:World} {A:Around} {E:Value->Shared->Prop} {s:Shared}
end
section
variable {X:Cx}
end
section
variable {κ:Type} [DecidableEq κ]
end
section
variable {P:Program} {w:World} {H:Hp} {h:Heap} {a:Addr}
end
section
variable {X:Cx} {pins:List (Addr×Obj)} {σ:St} {H:Hp} {s:Shared} {a:Addr} {y v:V} {u r:Value} {o:Option V} {A:Around} {E:Value->Shared->Prop}
end
section
variable {X:Cx} {pins:List (Addr×Obj)} {σ:St} {H:Hp} {s:Shared} {a:Addr} {kvs:List (Key×V)} {k:Key} {u:Value} {A:Around} {E:Value->Shared->Prop}
end
section
variable {X:Cx} {o i e value:Expr} {pos pos' tpos:Pos} {td ty tv:TE}
end
section
variable {X:Cx} {pos:Pos}
end
end L2
namespace PySem
open Sem (wp)
namespace F
end F
section
variable {α:Type} {prog:Program} {w:World} {A:Around} {E:Value->Shared->Prop} {s:Shared}
end
section
variable {prog:Program} {w:World} {A:Around} {E:Value->Shared->Prop} {h:Heap} {g:Array GenState} {d:Drawn} {t:Nat} {os:OsState} {a:Addr} {its:Array Value} {n:Nat}
end
end PySem
namespace PySem
namespace F
end F
end PySem
namespace L2
open PySem PySem.Spec PyProof.Rows
section
variable {X:Cx} {pins:List (Addr×Obj)} {σ:St} {H:Hp} {s1:Shared} {A:Around}
end
end L2
namespace PySem
section
variable {prog:Program} {w:World} {A:Around} {E:Value->Shared->Prop} {s:Shared} {zo ti to:Addr} {f0 f1:Value}
end
end PySem
namespace L2
open PySem PySem.Spec PyProof.Rows
section
variable {X:Cx}
end
section
variable {K:W.Frag} {a b:Addr} {xs ys:List V} {g:TG} {σ:St} {H:Hp} {tt:TT} {te:TE} {Q:VK} {σ0:St}
end
section
variable {X:Cx}
end
section
variable {X:Cx}
end
section
variable {X:Cx}
theorem op_notIn_seqK (K:W.Frag) (h:X.K=K:=by rfl):OpR X (compareOp .NotIn) (rIn K true):=h ▸ op_notIn_seq
end
open PySem PySem.Spec PySem.W PySem.Calls PyProof.Rows Builtin.Getset_descriptor Builtin.ObjectAttr
section
variable {X:Cx} {CX:CXT} {k:Nat} {ps:List Str} {sp:Sp} {E:XK} {x m:Str} {C:Addr} {p np pos apos:Pos} {e o:Expr} {es:List Expr} {ta:TE} {t:TA}
end
section
variable {P:Program} {w:World} {K:W.Frag} {mg:Str->Option Value} {base:Heap} {N:List Str} {qual:Str} {scope:Scope} {f:Addr} {cd:Value} {A:Around} {outer:List Env} {s:Shared} {H:Hp} {E:XK}
variable {CX:CXT} {k:Nat} {C:Addr} {ps:List Str} {sp:Sp} {x:Str} {np cpos pos:Pos} {e:Expr} {es:List Expr} {t:TA}
end
noncomputable def tMethS (C:Addr) (m:Str) (sp:Sp) (E:St->XK) (ta:TE) (t:TA):TE:=fun σ H Q=>ta σ H fun x H1=>∃ a dx fs,x=.ref a /\ H1 a=some (.ins C dx fs) /\ fs.lookup m=none /\ t σ H1 fun vs H2=>sp (x::vs) H2 Q (E σ)
section
variable {X:Cx} {CX:CXT} {k:Nat} {ps:List Str} {sp:Sp} {E:St->XK} {x m:Str} {C:Addr} {p pos apos:Pos} {e o:Expr} {es:List Expr} {ta:TE} {t:TA}
end
section
variable {P:Program} {w:World} {K:W.Frag} {mg:Str->Option Value} {base:Heap} {N ps:List Str} {qual:Str} {scope:Scope} {f:Addr} {cd:Value} {A:Around} {outer:List Env} {s s1:Shared} {H:Hp} {E:XK} {us:List Value} {vs:List V}
end
section
variable {X:Cx} {k:Nat} {ps:List Str} {sp:Sp} {x:Str} {p pos:Pos} {e:Expr} {es:List Expr} {t:TA}
end
noncomputable def tXFldM (K:W.Frag) (ta:TE) (f:Str):TE:=fun σ H Q=>ta σ H fun x H1=>∃ a C d fs v,x=.ref a /\ (H1 a=some (excO a (.ref C) (some d))∨H1 a=some (excM a (.ref C) (some d))) /\ H1 d=some (xdM d fs) /\ ExcC K C /\ PySem.W.hasDictIn K C=true /\ W.findIn K (.ref C) f=some none /\ fs.lookup f=some v /\ Q v H1
end L2
namespace PySem
section
variable {M:Model} {A:Around} {E:Value->Shared->Prop} {s:Shared}
end
end PySem
namespace L2
open PySem PySem.Spec PySem.W PySem.Calls PyProof.Rows
theorem ObjOk.ex {P:Program} {w:World} {H:Hp} {h:Heap} {a:Addr} {o:HO} (x:ObjOk P w H h a o):∃ ob,h.get? a=some ob:=by
 cases o with
 | lst xs=>obtain ⟨_,_,_,_,e⟩:=x;exact ⟨_,e⟩
 | tup xs=>obtain ⟨_,_,_,ob,e,_⟩:=x;exact ⟨_,e⟩
 | dK kvs=>obtain ⟨_,_,_,_,ob,es,z,e,_⟩:=x;exact ⟨_,e⟩
 | dT kvs=>obtain ⟨_,_,_,_,ob,es,z,e,_⟩:=x;exact ⟨_,e⟩
 | set S n=>obtain ⟨ob,es,z,t,e,_⟩:=x;exact ⟨_,e⟩
 | ins C dx fs=>obtain ⟨_,_,_,e,_⟩:=x;exact ⟨_,e⟩
 | own y=>obtain ⟨_,e⟩:=x;exact ⟨_,e⟩
 | xd fs=>obtain ⟨_,⟨_,_,_,e,_⟩,_⟩:=x;exact ⟨_,e⟩
 | rng lo hi=>obtain ⟨_,_,_,e⟩:=x;exact ⟨_,e⟩
 | frz ob u=>obtain ⟨e,_⟩:=x;exact ⟨_,e⟩
 | tbl ps=>exact ⟨_,(show h.get? a=some _ from x)⟩
 | met f y=>exact ⟨_,(show h.get? a=some _ from x)⟩
 | ext φ=>obtain ⟨_,⟨_,e⟩,_⟩:=x;exact ⟨_,e⟩
noncomputable def XF (X:Cx) (E:XK):Value->Shared->Prop:=fun e s'=>∃ (pins:List (Addr×Obj)) (σ:St) (H1:Hp) (s1:Shared) (ea:Addr) (cls:Value) (dd:Option Addr) (H':Hp) (B:Heap) (a0:Value) (fl:Value),
 e=.ref ea /\ Inv X pins σ H1 s1 /\ s'.os=s1.os /\ AllBare s'.gens /\ Un (frs X.stack) [] H1 H' s1.heap s'.heap /\ HOk X.prog X.w H' s'.heap /\ H' ea=none /\ s1.heap.get? ea=none /\
 (fl=.none∨fl=rawInt X.env.locals) /\ B.StaysIn s'.heap /\ B.get? ea=none /\ s'.heap.FunFrames B X.stack /\ s'.heap.TracedAtD B ea cls (a0,dd) fl /\
 (∀ b o,s'.heap.get? b=some o->b∉frs X.stack->(H' b≠none∨∃ o0,s1.heap.get? b=some o0)->B.get? b=some o) /\ E cls dd H'
section
variable {X:Cx} {E:XK}
theorem passL {P:Program} {w:World} (h1:X.prog=P:=by rfl) (h2:X.w=w:=by rfl):ZBW (CXE P w) (X.wish (XF X E)) E:=by
 subst h1 h2
 intro pins σ H s e s' I hc
 obtain ⟨ea,cls,dd,H',rfl,os,J,un,O,⟨B,a0,⟨f1,f2,f3,U⟩,z,L,Z⟩,Y⟩:=hc
 exact ⟨pins,σ,H,s,ea,cls,dd,H',B,a0,.none,rfl,I.unwish,os,J,un,O,z,L,.inl rfl,f1,f2,f3,U,Z,Y⟩
theorem XF.next {pins:List (Addr×Obj)} {σ:St} {H1 H':Hp} {s1 s':Shared} {h2:Heap} {ea:Addr} {cls:Value} {dd:Option Addr} {B:Heap} {a0 fl:Value} (I:Inv X pins σ H1 s1) (os:s'.os=s1.os) (U:AllBare s'.gens) (un:Un (frs X.stack) [] H1 H' s1.heap s'.heap) (O:HOk X.prog X.w H' s'.heap) (L:H' ea=none) (Y:s1.heap.get? ea=none)
  (ff:s'.heap.FunFrames B X.stack) (Z:∀ b o,s'.heap.get? b=some o->b∉frs X.stack->(H' b≠none∨∃ o0,s1.heap.get? b=some o0)->B.get? b=some o) (hE:E cls dd H') (a1:fl=.none∨fl=rawInt X.env.locals)
  (up:s'.heap.UpToSlots h2) (k1:B.StaysIn h2) (k2:B.get? ea=none) (k3:h2.FunFrames B X.stack) (k4:h2.TracedAtD B ea cls (a0,dd) fl):XF X E (.ref ea) { s' with heap:=h2 }:=by
 refine ⟨pins,σ,H1,s1,ea,cls,dd,H',B,a0,fl,rfl,I,os,U,un.fly Z k1 up ff,O.fly Z k1 (I.stkFree2 un),L,Y,a1,k1,k2,k3,k4,fun b o ho nb J=>?_,hE⟩
 have:∃ o1,s'.heap.get? b=some o1:=by
  rcases J with y | ⟨o0,y⟩
  .obtain ⟨u,hu⟩:=Option.ne_none_iff_exists'.mp y
   exact (O b u hu).ex
  .exact un.there b o0 y (fun z=>nomatch z)
 obtain ⟨o1,h1⟩:=this
 have h3:=Z b o1 h1 nb J
 have h4:=k1 b o1 h3
 rw [ho] at h4
 cases h4
 exact h3
theorem passO (z:X.stack=X.env::X.outer /\ X.env.frame=some X.env.locals):PassesOwn (model X.prog X.w) X.A X.env (XF X E):=by
 intro e s' hx
 obtain ⟨pins,σ,H1,s1,ea,cls,dd,H',B,a0,fl,rfl,I,os,L,un,a2,J,O,a1,f1,f2,f3,Y,hB,hE⟩:=hx
 have af:X.A.frames=some (X.env::X.outer):=by rw [<- z.1];exact I.ok.frames
 have back:∀ h2,s'.heap.UpToSlots h2->B.StaysIn h2->h2.FunFrames B X.stack->h2.TracedAtD B ea cls (a0,dd) (rawInt X.env.locals)->cameBackBy (model X.prog X.w) X.A X.env (XF X E) (.ref ea) { s' with heap:=h2 }:=fun h2 up k1 k3 U=>by
  obtain ⟨⟨oe,vs,T,oT,ts,he,a3,hd,h1,a6,a4,hT,a5,h3⟩,_⟩:=id U
  show wpAny _ _ (do
   if (<- field (.ref ea) 1) == .none then unsupported "frame.own-activation:exception-without-traceback"
   setFlight (.ref ea) X.env.frame) _ _ _
  refine wpAny_bind (wpAny_field he hd h1 ?_)
  rw [if_neg (show ¬ ((Value.ref T == Value.none)=true) from by simp),z.2]
  refine wpAny_setFlight_someD k1 k3 U fun hh m1 m2 m3 m4=>?_
  have Z:s'.heap.UpToSlots hh:=up.trans fun b o hb hn=>⟨o.slots,m4 b o hb hn⟩
  have:=XF.next (s':=s') (h2:=hh) I os L un a2 J O f3 hB hE (.inr rfl) Z m1 f2 m2 m3
  exact this
 rcases a1 with rfl | rfl
 .have ff:Heap.FlyingD B (X.env::X.outer) ea cls (a0,dd) s'.heap:=⟨f1,f2,by rw [<- z.1];exact f3,Y⟩
  refine wpAny_looks_onD af z.2 ff fun h2 hH up=>?_
  obtain ⟨k1,_,k3,U⟩:=hH
  exact back h2 up k1 (by rw [z.1];exact k3) U
 .refine wpAny_noteFrame_againD z.2 Y ?_
  exact back s'.heap (fun b o hb hn=>⟨o.slots,hb⟩) f1 f3 Y
end
section
variable {P:Program} {w:World} {K:W.Frag} {mg:Str->Option Value} {base:Heap} {N:List Str} {qual:Str} {scope:Scope} {f:Addr} {cd:Value} {A:Around} {outer:List Env} {s:Shared} {H:Hp} {E:XK}
theorem XF.xe {e:Value} {s':Shared} (hx:XF (cxOf (CXE P w) P w K mg base N qual scope f cd A outer s H E) E e s'):(cxOf (CXE P w) P w K mg base N qual scope f cd A outer s H E).xe e s':=by
 obtain ⟨pins,σ,H1,s1,ea,cls,dd,H',B,a0,fl,rfl,I,os,J,un,Y,z,O,U,f1,f2,Z,f4,hB,hE⟩:=hx
 rcases U with rfl | rfl
 .exact wpAny_leaves_onD (base:=B) I.ok.frames rfl ⟨f1,f2,Z,f4⟩ fun h' fl' up=>ZDQ I un Y hB Z up fl' z O os J hE
 .show wpAny _ _ (leaving _ _) _ _ _
  unfold leaving
  refine wpAny_bind (wpAny_noteFrame_againD rfl f4 ?_)
  refine wpAny_landsD (L:=(cxOf (CXE P w) P w K mg base N qual scope f cd A outer s H E).env.locals) ⟨f1,f2,Z,f4⟩ fun h' U up=>?_
  obtain ⟨k1,k2,⟨_,_,k3⟩,k4⟩:=U
  exact ZDQ I un Y hB Z up ⟨k1,k2,k3,k4⟩ z O os J hE
theorem PS.inX {st:Stmt} {t:TS} (h:PS ((cxOf (CXE P w) P w K mg base N qual scope f cd A outer s H E).wish (XF (cxOf (CXE P w) P w K mg base N qual scope f cd A outer s H E) E)) st t):PS (cxOf (CXE P w) P w K mg base N qual scope f cd A outer s H E) st t:=fun pins s1 σ H1 D I hw=>
 wpAny_mono (h pins s1 σ H1 D (I.wish _) hw) (fun _ _ q=>q.unwish) fun _ _ z=>z.xe
end
noncomputable def Ehit0 (K:W.Frag) (HC:Addr) (ts:TS) (D:Ends):St->XK:=fun σ cls dd H'=>exmOne K cls (.ref HC)=some true /\ ts D σ H'
noncomputable def tTry0 (K:W.Frag) (HC:Addr) (tb:(St->XK)->TS) (ts:TS):TS:=fun D σ H=>tb (Ehit0 K HC ts D) D σ H
section
variable {X:Cx} {CX:CXT} {k:Nat} {ps:List Str} {sp:Sp} {E:St->XK} {m:Str} {C:Addr} {pos apos:Pos} {o:Expr} {ta:TE}
end
end L2
namespace PySem
section
variable {M:Model} {A:Around} {E:Value->Shared->Prop} {s:Shared}
end
end PySem
namespace L2
open PySem PySem.Spec PySem.W PySem.Calls PyProof.Rows
noncomputable def XN (X:Cx) (E:XK):Value->Shared->Prop:=fun e s'=>∃ (pins:List (Addr×Obj)) (σ:St) (H1:Hp) (s1:Shared) (ea:Addr) (oe:Obj) (vs:Array Value) (a0:Value) (H':Hp),
 e=.ref ea /\ Inv X pins σ H1 s1 /\ s'.os=s1.os /\ AllBare s'.gens /\ Un (frs X.stack) [] H1 H' s1.heap s'.heap /\ HOk X.prog X.w H' s'.heap /\ H' ea=none /\ s1.heap.get? ea=none /\
 s'.heap.get? ea=some oe /\ oe.data=.fields vs /\ vs[1]?=some .none /\ vs[0]?=some a0 /\ E oe.cls oe.dict H'
noncomputable def XG (X:Cx) (E:XK):Value->Shared->Prop:=fun e s'=>XF X E e s'∨XN X E e s'
section
variable {X:Cx} {E:XK}
theorem passOG (J:X.stack=X.env::X.outer /\ X.env.frame=some X.env.locals):PassesOwn (model X.prog X.w) X.A X.env (XG X E):=by
 intro e s' hx
 have wk:∀ e s',cameBackBy (model X.prog X.w) X.A X.env (XF X E) e s'->cameBackBy (model X.prog X.w) X.A X.env (XG X E) e s':=fun e s' h=>
  wpAny_mono h (fun _ _ z=>.inl z) fun _ _ z=>.inl z
 rcases hx with hx | hx
 .exact wpAny_mono (passO J e s' hx) (fun _ s2 z=>wk _ _ z) fun _ _ z=>wk _ _ z
 obtain ⟨pins,σ,H1,s1,ea,oe,vs,a0,H',rfl,I,os,O,un,Z,L,U,he,hv,h1,h0,hE⟩:=hx
 have af:X.A.frames=some (X.env::X.outer):=by rw [<- J.1];exact I.ok.frames
 have I2:=I.call' (s':=s') os un Z O fun b z=>nomatch z
 have a2:∀ env∈X.stack,∀ b,env.frame=some b->b∈ea::frs X.stack:=fun env he b Y=>yAK _ (List.mem_filterMap.mpr ⟨env,he,Y⟩)
 have eh:∀ b∈ea::frs X.stack,(PySem.W.hideAll s'.heap (ea::frs X.stack)).get? b=none:=fun b Y=>PySem.W.hideAll_none _ Y
 have ff:=PySem.W.funFrames_hide I2.stack a2
 have hB:∀ b o,s'.heap.get? b=some o->b∉frs X.stack->(H' b≠none∨∃ o0,s1.heap.get? b=some o0)->(PySem.W.hideAll s'.heap (ea::frs X.stack)).get? b=some o:=fun b o q nb a1=>PySem.W.hideAll_get _ q fun z=>by
  rcases yAH.mp z with z | z
  .subst z
   rcases a1 with y | ⟨o0,y⟩
   .exact y L
   .rw [U] at y;cases y
  .exact nb z
 refine wpAny_looks_firstD (a0:=(a0,oe.dict)) (base:=PySem.W.hideAll s'.heap (ea::frs X.stack)) af (by rw [<- J.1];exact ff) J.2 he (fun b o q=>PySem.W.of_hideAll _ q) (eh ea yAL) hv h1 ⟨h0,rfl⟩ fun h2 hH up=>?_
 obtain ⟨k1,k2,k3,k4⟩:=hH
 refine wk _ _ ?_
 obtain ⟨⟨aa,ad,T,oT,ts,a6,a8,a5,a7,ae,a9,hT,ac,h3⟩,_⟩:=id k4
 show wpAny _ _ (do
  if (<- field (.ref ea) 1) == .none then unsupported "frame.own-activation:exception-without-traceback"
  setFlight (.ref ea) X.env.frame) _ _ _
 refine wpAny_bind (wpAny_field a6 a5 a7 ?_)
 rw [if_neg (show ¬ ((Value.ref T == Value.none)=true) from by simp),J.2]
 have a4:h2.FunFrames (PySem.W.hideAll s'.heap (ea::frs X.stack)) X.stack:=by
  have z:=k3
  rw [<- J.1] at z
  exact z
 refine wpAny_setFlight_someD k1 a4 k4 fun hh m1 m2 m3 m4=>?_
 have a3:s'.heap.UpToSlots hh:=up.trans fun b o Y hn=>⟨o.slots,m4 b o Y hn⟩
 exact XF.next (s':=s') (h2:=hh) I os O un Z L U ff hB hE (.inr rfl) a3 m1 k2 m2 m3
end
section
variable {P:Program} {w:World} {K:W.Frag} {mg:Str->Option Value} {base:Heap} {N:List Str} {qual:Str} {scope:Scope} {f:Addr} {cd:Value} {A:Around} {outer:List Env} {s:Shared} {H:Hp} {E:XK}
theorem XG.xe {e:Value} {s':Shared} (hx:XG (cxOf (CXE P w) P w K mg base N qual scope f cd A outer s H E) E e s'):(cxOf (CXE P w) P w K mg base N qual scope f cd A outer s H E).xe e s':=by
 rcases hx with hx | hx
 .exact hx.xe
 obtain ⟨pins,σ,H1,s1,ea,oe,vs,a0,H',rfl,I,os,J,un,O,z,L,Z,Y,h1,h0,U⟩:=hx
 exact raisedD I un O os J L z Z rfl rfl Y h1 h0 U
theorem PS.inG {st:Stmt} {t:TS} (h:PS ((cxOf (CXE P w) P w K mg base N qual scope f cd A outer s H E).wish (XG (cxOf (CXE P w) P w K mg base N qual scope f cd A outer s H E) E)) st t):PS (cxOf (CXE P w) P w K mg base N qual scope f cd A outer s H E) st t:=fun pins s1 σ H1 D I hw=>
 wpAny_mono (h pins s1 σ H1 D (I.wish _) hw) (fun _ _ q=>q.unwish) fun _ _ z=>z.xe
end
section
variable {X:Cx} {E:XK} {CX:CXT} {k:Nat} {C:Addr} {ps:List Str} {sp:Sp} {x:Str} {np cpos pos:Pos} {e:Expr} {es:List Expr} {t:TA}
end
open PySem PySem.Spec PySem.W PySem.Calls PyProof.Rows
theorem hok_new {P:Program} {w:World} {H:Hp} {h:Heap} {ea:Addr} (L:HOk P w H h) (e:h.get? ea=none):H ea=none:=by
 cases q:H ea with
 | none=>rfl
 | some o=>
  exfalso
  have x:=L ea o q
  cases o with
  | lst xs=>obtain ⟨_,_,_,_,z⟩:=x;rw [e] at z;cases z
  | tup xs=>obtain ⟨_,_,_,ob,z,_⟩:=x;rw [e] at z;cases z
  | dK kvs=>obtain ⟨_,_,_,_,ob,es,J,z,_⟩:=x;rw [e] at z;cases z
  | dT kvs=>obtain ⟨_,_,_,_,ob,es,J,z,_⟩:=x;rw [e] at z;cases z
  | set S n=>obtain ⟨ob,es,J,t,z,_⟩:=x;rw [e] at z;cases z
  | ins C dx fs=>obtain ⟨_,_,_,z,_⟩:=x;rw [e] at z;cases z
  | own y=>obtain ⟨_,z⟩:=x;rw [e] at z;cases z
  | xd fs=>obtain ⟨_,⟨_,_,_,z,_⟩,_⟩:=x;rw [e] at z;cases z
  | rng lo hi=>obtain ⟨_,_,_,z⟩:=x;rw [e] at z;cases z
  | frz ob u=>obtain ⟨z,_⟩:=x;rw [e] at z;cases z
  | tbl ps=>have z:h.get? ea=some _:=x;rw [e] at z;cases z
  | met f y=>have z:h.get? ea=some _:=x;rw [e] at z;cases z
  | ext φ=>obtain ⟨_,⟨_,z⟩,_⟩:=x;rw [e] at z;cases z
theorem ps_raise0G {X:Cx} {E:XK} {x:Str} {C:Addr} {np cpos pos:Pos} (hc:X.calm=true) (Y:excIn X.K C bmV "ValueError.__new__"=true) (hm:X.mg x=some (.ref C)) (U:Gl X x) (J:(x == ("__debug__":Str))=false:=by decide) :
  PS (X.wish (XG X E)) (.Raise (some (.Call (.Name x np) [] [] cpos)) none pos) (ZDL E C):=by
 intro pins s1 σ H1 D I O
 obtain ⟨bm,N',nm,L,bs,hdct,sn,sub,ab,col,dd,k0,k1,k2,k3,k5,mN,hC,hN,z,T⟩:=exc_obj I.kIn Y
 refine wpAny_Raise_call_subU (C:=C) (N:=N') (nm:=nm) (q:=L) (bs:=bs) (bm:=bm) (hdct:=hdct) (sn:=sn) (sub:=sub) (ab:=ab) (col:=col) (dd:=dd) (k0:=k0) (k1:=k1) (k2:=k2) (k3:=k3) (k5:=k5) (mN:=mN)
  PySem.F.excBase_ValueError PySem.F.excBase_ValueError.hasB PySem.F.excBase_ValueError (T.hasType PySem.F.excBase_ValueError.hasBase) (I.ok.hd hc) rfl z (ZBo (X:=X.wish (XG X E)) I U hm ⟨rfl,?_⟩ J)
 refine evalArgs_empty ⟨rfl,yAO _,hC,hN,T,fun h' e hx=>?_⟩
 obtain ⟨t,Z,_⟩:=hx.there
 exact .inr ⟨pins,σ,H1,s1,e,_,_,_,H1,rfl,I.unwish,rfl,I.bare,Un.kept hx.keeps,I.hok.kept hx.keeps,hok_new I.hok hx.new,hx.new,Z,rfl,rfl,rfl,O⟩
open PySem PySem.Spec PyProof.Rows
noncomputable def CloM (H:Hp) (g:Addr) (iname iq:Str) (ip:Arguments) (ib:List Stmt) (isc:Scope) (cl:List (Str×Addr)):Prop :=
 ∃ (doc pm ctv:Value) (c':Addr),H g=some (FZ (PySem.W.fnMade iname iq ip ib isc cl doc pm c' ctv)) /\ CodeAt H c' iq
noncomputable def Hd (H H':Hp):Prop:=∀ b o,H b=some o->(∀ ob u,o=FZ ob->ob.data≠.cell u)->H' b=some o
theorem Hd.get {H H':Hp} {b:Addr} {o:HO} (h:Hd H H') (e:H b=some o) (n:∀ ob,o≠FZ ob:=by intro ob z;cases z):H' b=some o:=h b o e fun ob _ z=>absurd z (n ob)
theorem CodeAt.hd {H H':Hp} {c:Addr} {q:Str} (h:Hd H H') (k:CodeAt H c q):CodeAt H' c q :=
 let ⟨oc,vs,t,e,d,v⟩:=k;⟨oc,vs,t,h _ _ e (fun ob u z=>by cases z;rw [d];exact fun z=>by cases z),d,v⟩
theorem CloM.hd {H H':Hp} {g:Addr} {iname iq:Str} {ip:Arguments} {ib:List Stmt} {isc:Scope} {cl:List (Str×Addr)} (h:Hd H H') (k:CloM H g iname iq ip ib isc cl):CloM H' g iname iq ip ib isc cl :=
 let ⟨doc,pm,ctv,c',e,d⟩:=k;⟨doc,pm,ctv,c',h _ _ e (fun ob u z=>by cases z;exact fun z=>by cases z),d.hd h⟩
theorem CloM.mono {H H':Hp} {g:Addr} {iname iq:Str} {ip:Arguments} {ib:List Stmt} {isc:Scope} {cl:List (Str×Addr)} (h:ZDn H H') (k:CloM H g iname iq ip ib isc cl):CloM H' g iname iq ip ib isc cl :=
 let ⟨doc,pm,ctv,c',e,d⟩:=k;⟨doc,pm,ctv,c',h _ _ e,d.mono h⟩
section
variable {X:Cx} {pins:List (Addr×Obj)} {σ:St} {H:Hp} {s:Shared} {k:Nat} {f g:Addr} {fd:FuncData} {ps fr:List Str} {sp:Sp} {Q:VK} {E:XK} {us:List Value} {vs cs:List V} {iname iq:Str} {ip:Arguments} {ib:List Stmt} {isc:Scope} {ix:List Nat}
structure CelL (X:Cx) (isc:Scope) (fr:List Str) (ix:List Nat):Prop where
 fn:∀ y,X.fn y=true
 free:∀ y∈isc.names,y.2=.free->y.1∈fr
 has:∀ y∈fr,(y,NameKind.free)∈isc.names
 fc:∀ y∈fr,X.env.scope.names.lookup y=some .cell
 at_:∀ (j:Nat) (y:Str),fr[j]?=some y->∃ i,ix[j]?=some i /\ X.N[i]?=some y
 len:ix.length=fr.length
theorem run_fnC (F:FnOk X.prog X.w X.K X.mg X.base CX0 k f fd ps sp) (hr:Room k X.A) (hb:Binds X.K fd ps []) (I:Inv X pins σ H s) (r:Vals vs us) (L:CelL X isc fr ix)
  (hg:CloM H g iname iq ip ib isc (closFrom X.env.cells isc.names [])) (aa:ix.map (fun i=>(σ[i]?).join)=cs.map some)
  (h:∀ H3,Same H H3->Clo H3 g iname iq ip ib isc fr cs->sp vs H3 (fun v H4=>∀ H5,Hd H4 H5->Q v H5) E) :
  wpAny (model X.prog X.w) X.A (call (.ref f) us) (EP X pins σ Q) X.xe s:=by
 have inj:=I.ok.inj
 have Y:∀ y cc,(closFrom X.env.cells isc.names []).lookup y=some cc->y∈fr /\ X.env.cells.lookup y=some cc:=fun y cc h=>by
  rcases ZBT _ _ y cc (PySem.mem_of_lookup h) with z | ⟨z1,z2⟩
  .cases z
  .have hy:=L.free _ z1 rfl
   obtain ⟨c3,h3⟩:=I.ok.has y (.inl (L.fc y hy))
   rw [h3] at z2
   exact ⟨hy,by rw [h3];exact congrArg some z2.symm⟩
 have a9:∀ y cc,y∈fr->X.env.cells.lookup y=some cc->(closFrom X.env.cells isc.names []).lookup y=some cc:=fun y cc hy h=>by
  obtain ⟨c3,h3⟩:=ZBJ (ZBU (cells:=X.env.cells) isc.names [] y (L.has y hy))
  have:=(Y y c3 h3).2
  rw [h] at this
  rw [h3,Option.some.inj this]
 have ae:∀ (j:Nat) (y:Str),fr[j]?=some y->∃ v cc uu,cs[j]?=some v /\ X.env.cells.lookup y=some cc /\ RelV v uu /\ s.heap.IsCell cc (some uu):=fun j y hj=>by
  obtain ⟨i,h1,h2⟩:=L.at_ j y hj
  have Z:(ix.map (fun i=>(σ[i]?).join))[j]?=some ((σ[i]?).join):=by rw [yAS,h1];rfl
  rw [aa,yAS] at Z
  obtain ⟨v,hv⟩:∃ v,cs[j]?=some v:=by
   cases q:cs[j]? with
   | none=>rw [q] at Z;cases Z
   | some v=>exact ⟨v,rfl⟩
  rw [hv] at Z
  have U:(σ[i]?).join=some v:=(Option.some.inj Z).symm
  have e3:σ[i]?=some (some v):=by
   cases q:σ[i]? with
   | none=>rw [q] at U;cases U
   | some w=>rw [q] at U;exact congrArg some U
  obtain ⟨m,_,hm⟩:=I.loc
  obtain ⟨uu,ru,af⟩:=hm i y v h2 e3 (.inr (.inl (L.fc y (yAQ hj))))
  refine ⟨v,?_⟩
  rcases af with ⟨k1,_⟩ | ⟨_,cc,Z,U⟩
  .have k2:X.env.scope.names.lookup y=some .local:=k1
   rw [L.fc y (yAQ hj)] at k2
   cases k2
  .exact ⟨cc,uu,hv,Z,ru,U⟩
 have O:∀ y cc,(closFrom X.env.cells isc.names []).lookup y=some cc->X.s₀.heap.objs.size <= cc /\ H cc=none /\ ∃ o u,s.heap.get? cc=some o /\ o.data=.cell u:=fun y cc h=>by
  obtain ⟨hy,h2⟩:=Y y cc h
  obtain ⟨u,o,Z,U⟩:=I.cell y cc h2
  exact ⟨I.ok.cab y cc (L.fn y) h2,I.freeC y cc h2,o,u,Z,U⟩
 generalize closFrom X.env.cells isc.names []=cl at hg Y a9 O
 have tr:∀ b,¬ (∃ y,cl.lookup y=some b)->back cl (fun b=>(s.heap.get? b).map FZ) H b=H b:=fun b n=>ZBy n
 have tc:∀ y b o,cl.lookup y=some b->s.heap.get? b=some o->back cl (fun b=>(s.heap.get? b).map FZ) H b=some (FZ o):=fun y b o h e=>by rw [ZCi h,e];rfl
 have up:∀ b o,H b=some o->back cl (fun b=>(s.heap.get? b).map FZ) H b=some o:=fun b o e=>by
  rw [tr b fun ⟨y,z⟩=>by rw [(O y b z).2.1] at e;cases e];exact e
 have hC:Clo (back cl (fun b=>(s.heap.get? b).map FZ) H) g iname iq ip ib isc fr cs:=by
  refine ⟨cl,?_,fun y cc h=>(Y y cc h).1,fun y z cc h1 h2=>inj y z cc (Y y cc h1).2 (Y z cc h2).2,fun j y hj=>?_,?_⟩
  .obtain ⟨d1,d2,d3,c3,Z,U⟩:=hg
   exact ⟨d1,d2,d3,c3,up _ _ Z,U.mono fun b o e=>up b _ e⟩
  .obtain ⟨v,cc,uu,a1,a2,a3,o,a4,a5⟩:=ae j y hj
   have a0:=a9 y cc (yAQ hj) a2
   exact ⟨v,cc,uu,o,a1,a0,a3,tc y cc o a0 a4,a5⟩
  .have:=congrArg List.length aa
   rw [yAF,yAF] at this
   rw [<- this,L.len]
 have cells:ZDo cl (back cl (fun b=>(s.heap.get? b).map FZ) H):=fun y c h=>by
  obtain ⟨_,_,o,u,e,d⟩:=O y c h
  exact ⟨u,o,tc y c o h e,d⟩
 have ad:∀ y c,cl.lookup y=some c->c∉frs X.stack:=fun y c h hb=>by
  obtain ⟨h1,_,o,u,e,d⟩:=O y c h
  rcases yAH.mp (I.stkSub c hb) with z | z
  .obtain ⟨m,hn,_⟩:=I.loc
   obtain ⟨o2,es,ep,a1,a2,a3⟩:=hn
   rw [z,a1] at e
   cases e
   rw [a2] at d
   cases d
  .obtain ⟨_,o2,ho,_⟩:=I.ok.funs.mem z
   exact absurd (Heap.lt_size ho) (Nat.not_lt.mpr h1)
 have e0:Env0 X.prog X.w X.K X.mg X.base X.A X.stack s (back cl (fun b=>(s.heap.get? b).map FZ) H):=by
  refine ⟨I.ok.frames,I.ok.mod,fun b o e=>⟨(I.bs b o e).1,?_⟩,yAD I.ok.bsz I.sz,I.stack,fun b hb=>?_,fun b o e=>?_,I.bare⟩
  .rw [tr b fun ⟨y,z⟩=>absurd (Heap.lt_size e) (Nat.not_lt.mpr (yAD I.ok.bsz (O y b z).1))]
   exact (I.bs b o e).2
  .rw [tr b fun ⟨y,z⟩=>ad y b z hb];exact I.stkFree b hb
  .by_cases q:∃ y,cl.lookup y=some b
   .obtain ⟨y,q⟩:=q
    obtain ⟨_,_,o2,u2,U,_⟩:=O y b q
    rw [tc y b o2 q U] at e
    cases e
    exact ZDm U
   .rw [tr b q] at e
    exact (I.hok b o e).stay (fun c v _ q=>q) (fun c q=>up c _ q) fun c xs q=>up c _ q
 have a7:=h _ (fun b o e=>up b o e) hC
 have hl:us.length=ps.length:=by rw [<- r.length];exact F.len _ _ _ _ a7
 have ac:=hb s us I.kIn (by rw [List.append_nil];exact hl)
 rw [List.append_nil] at ac
 refine wpAny_call (codeAny_mono (F.run X.A X.stack s _ ⟨us,[]⟩ us vs _ E hr e0 ac r a7) fun r s' hq=>?_)
 cases r with
 | error e=>exact False.elim hq
 | ok fl=>
  cases fl with
  | ret u=>
   refine I.after ?_
   obtain ⟨v,H4,os,bare,un,hok,rv,q⟩:=hq
   have ag:∀ b:Addr,b∉([]:List Addr):=fun b=>by simp
   have a8:∀ y c o,cl.lookup y=some c->s.heap.get? c=some o->H4 c=some (FZ o) /\ s'.heap.get? c=some o:=fun y c o h e=>by
    have:=un.frzs c o _ (tc y c o h e)
    exact ⟨this,ZCZ hok this⟩
   have J:ZDo cl H4:=fun y c h=>by
    obtain ⟨_,_,o,u,e,d⟩:=O y c h
    exact ⟨u,o,(a8 y c o h e).1,d⟩
   refine ⟨v,hid cl H4,os,bare,⟨fun b o e n hb hx=>?_,fun b o e n hb hx=>?_,fun b o e n hx=>?_,un.there,fun b xs e=>?_,fun b o u' e=>?_,fun b qs e=>?_⟩,fun b o e=>?_,rv,q _ fun b o e n=>?_⟩
   .by_cases z:∃ y,cl.lookup y=some b
    .obtain ⟨y,z⟩:=z;exact (a8 y b o z e).2
    .exact un.keep b o e (by rw [tr b z];exact n) hb hx
   .refine un.slot b o e ?_ hb hx
    rw [tr b fun ⟨y,z⟩=>ad y b z hb];exact n
   .by_cases z:∃ y,cl.lookup y=some b
    .obtain ⟨y,z⟩:=z;exact ZC4 z
    .rw [ZCC z];exact un.free b o e (by rw [tr b z];exact n) hx
   .exact ZBK J (un.tups b xs (up _ _ e)) fun ob z=>by cases z
   .have z:¬ ∃ y,cl.lookup y=some b:=fun ⟨y,z⟩=>by rw [(O y b z).2.1] at e;cases e
    rw [ZCC z];exact un.frzs b o u' (up _ _ e)
   .obtain ⟨a6,U⟩:=un.tbls b qs (up _ _ e)
    exact ⟨a6,ZBK J U fun ob z=>by cases z⟩
   .refine (hok b o (hid_le e)).stay (fun c v _ q=>q) (fun c q=>?_) fun c xs q=>?_
    .exact ZBK J q (fun ob z=>by cases z)
    .exact ZBK J q (fun ob z=>by cases z)
   .have z:¬ ∃ y,cl.lookup y=some b:=fun ⟨y,z⟩=>by
     obtain ⟨u,o2,U,d⟩:=J y b z
     rw [e] at U
     cases U
     exact n _ u rfl d
    rw [ZCC z];exact e
  | next=>exact False.elim hq
  | brk=>exact False.elim hq
  | cont=>exact False.elim hq
end
noncomputable def ZDW (C:Addr) (m:Str) (sp:Sp) (E:XK) (iname iq:Str) (ip:Arguments) (ib:List Stmt) (isc:Scope) (fr:List Str) (ix:List Nat) (cl:List (Str×Addr)) (ta:TE) (t:TA):TE:=fun σ H Q=>ta σ H fun x H1=>∃ a dx fs,x=.ref a /\ H1 a=some (.ins C dx fs) /\ fs.lookup m=none /\
 t σ H1 fun vs H2=>∃ g cs,CloM H2 g iname iq ip ib isc cl /\ ix.map (fun i=>(σ[i]?).join)=cs.map some /\ ∀ H3,Same H2 H3->Clo H3 g iname iq ip ib isc fr cs->sp (x::vs) H3 (fun v H4=>∀ H5,Hd H4 H5->Q v H5) E
section
variable {X:Cx} {k:Nat} {ps:List Str} {sp:Sp} {E:XK} {m:Str} {C:Addr} {pos apos:Pos} {e o:Expr} {es:List Expr} {ta:TE} {t:TA} {iname iq:Str} {ip:Arguments} {ib:List Stmt} {isc:Scope} {fr:List Str} {ix:List Nat}
theorem pe_mtC {pl:Sem Bool} (L:CelL X isc fr ix) (F:Mt X.prog X.w X.K X.mg X.base CX0 C m k ps sp) (hr:Room k X.A) (he:PE X o ta) (ha:PA X (e::es) t)
  (J:starEach (e::es) X.env=(false,eval e X.env)::starEach es X.env:=by rfl) (z:(backTo pos (starEach es X.env)).any (·.1)=false:=by rfl)
  (ht:eval (.Call (.Attribute o m apos) (e::es) [] pos) X.env=(do
   let ov <- eval o X.env
   standAt apos.atName
   let (f,first) <- holding [ov] (getMethod ov m pl)
   callWith pos f first (backTo pos (starEach (e::es) X.env)) (backToKw pos (keywordEach [] X.env))):=by rfl) :
  PE X (.Call (.Attribute o m apos) (e::es) [] pos) (ZDW C m sp E0 iname iq ip ib isc fr ix (closFrom X.env.cells isc.names []) ta t):=by
 obtain ⟨f,fd,h1,h2,h3⟩:=F.ex
 intro pins s σ H Q I h
 refine PySem.W.methodCall_KW (pl:=pl) (thn (he pins s σ H _ I h) fun u s1 zz=>?_) ht
 obtain ⟨x,H1,U,Y,a,dx,fs,ex,ea,l,q⟩:=zz
 subst ex
 obtain rfl:u=Value.ref a:=Y
 refine ZCG U ea F.cl h3 l ?_
 refine PySem.W.callWith_K (first:=[.ref a]) (h₀:=X.base) I.ok.mod.kin h3.kp (thn (ha pos pins s1 σ H1 _ U q) fun us s2 ⟨vs,H2,O,r,g,cs,q1,q2,Z⟩=>⟨O.kIn,?_⟩) J z
 exact run_fnC (us:=.ref a::us) (vs:=.ref a::vs) h1 hr h2 O (.cons rfl r) L q1 q2 Z
end
structure LScope (fr:List Str) (sc isc:Scope):Prop where
 free:∀ y∈isc.names,y.2=.free->y.1∈fr
 has:∀ y∈fr,(y,NameKind.free)∈isc.names
 fc:∀ y∈fr,sc.names.lookup y=some .cell
theorem LScope.cell {fr:List Str} {sc isc:Scope} (L:LScope fr sc isc) (y:Str) (h:(y,NameKind.free)∈isc.names):sc.names.lookup y=some .cell:=L.fc y (L.free _ h rfl)
theorem LScope.cel {X:Cx} {fr:List Str} {sc isc:Scope} {ix:List Nat} (L:LScope fr sc isc) (h:∀ y,X.fn y=true) (e:X.env.scope=sc) (hi:∀ (j:Nat) (y:Str),fr[j]?=some y->∃ i,ix[j]?=some i /\ X.N[i]?=some y) (hl:ix.length=fr.length):CelL X isc fr ix :=
 ⟨h,L.free,L.has,by rw [e];exact L.fc,hi,hl⟩
theorem Fun.okC {P:Program} {w:World} {K:W.Frag} {mg:Str->Option Value} {base:Heap} {x qual:Str} {st:Stmt} {f c:Addr} {fd:FuncData} {N ps:List Str} {k:Nat} {sp:Sp} (F:Fun K x qual st f fd) (hc:fd.code=.ref c) (S:FnScope N ps (ZAC st)) (U:∀ vs H Q E,sp vs H Q E->vs.length=ps.length)
  (z:∀ (A:Around) (outer:List Env) (s:Shared) (H:Hp) (vs:List V) (Q:VK) (E:XK),Room k (A.deeper (envOfC qual (ZAC st) s.heap.objs.size f (.ref c)))->sp vs H Q E ->
   ∃ t,PSs (cxOf CX0 P w K mg base N qual (ZAC st) f (.ref c) A outer s H E).nox (ZAJ st) t /\ t { nx:=fun _ H'=>Q .non H',rt:=Q } (start N vs) H):FnOk P w K mg base CX0 (k+1) f fd ps sp:=by
 obtain ⟨oc,od,kV,a0,pm,an,L,ct,Y,rfl,lk,O⟩:=F.ex
 obtain rfl:L=.ref c:=hc
 refine ZD5 lk O S U fun A outer s H vs Q E Z J=>?_
 obtain ⟨t,h,q⟩:=z A outer s H vs Q E Z J
 exact ⟨t,h.nox,q⟩
end L2
namespace L2S
open PySem PyProof.Rows
section
variable {M:Model} {A:Around} {E:Value->Shared->Prop} {s:Shared} {κ:SortKind} {a₀:Array Keyed} {f:Keyed->Int}
end
end L2S
namespace L2S
open PySem PyProof.Rows
section
variable {M:Model} {A:Around} {E:Value->Shared->Prop} {s:Shared}
end
end L2S
namespace L2S
open PySem PyProof.Rows
section
variable {f:Keyed->Int} {as bs o:List Keyed} {i j:Nat}
end
section
variable {M:Model} {A:Around} {E:Value->Shared->Prop} {s:Shared} {κ:SortKind} {a₀:Array Keyed} {f:Keyed->Int}
end
end L2S
namespace L2S
open PySem PyProof.Rows
end L2S
namespace L2S
open PySem PyProof.Rows
section
variable {M:Model} {A:Around} {E:Value->Shared->Prop} {s:Shared} {κ:SortKind} {a₀:Array Keyed} {f:Keyed->Int} {a b o:Array Keyed} {i j:Nat}
end
end L2S
namespace L2S
open PySem PyProof.Rows
end L2S
namespace L2S
open PySem PyProof.Rows
section
variable {M:Model} {A:Around} {E:Value->Shared->Prop} {s:Shared} {κ:SortKind} {a₀:Array Keyed} {f:Keyed->Int} {a b o:Array Keyed} {i j:Nat}
end
end L2S
namespace L2S
open PySem PyProof.Rows
section
variable {M:Model} {A:Around} {E:Value->Shared->Prop} {s:Shared} {κ:SortKind} {a₀:Array Keyed} {f:Keyed->Int}
end
end L2S
namespace L2S
open PySem PyProof.Rows
section
variable {M:Model} {A:Around} {E:Value->Shared->Prop} {s:Shared} {κ:SortKind} {a₀:Array Keyed} {f:Keyed->Int}
end
end L2S
namespace L2S
open PySem PyProof.Rows
section
variable {prog:Program} {w:World} {A:Around} {E:Value->Shared->Prop} {s:Shared}
end
end L2S
namespace L2
open PySem PySem.Spec PyProof.Rows L2S
section
variable {prog:Program} {w:World} {A:Around} {E:Value->Shared->Prop} {s:Shared}
end
section
variable {X:Cx}
theorem op_notB:OpR X (compareOp .IsNot) (fun x y H Q=>∃ b c,x=.bl b /\ y=.bl c /\ Q (.bl (b != c)) H):=by
 intro pins s σ H x y v u Q I J z h
 obtain ⟨b,c,rfl,rfl,q⟩:=h
 cases J
 cases z
 exact isnot_bool (ZAe I q rfl)
end
end L2
namespace Law
open PySem L2
local macro_rules | `(tactic| walk_at "o")=>`(tactic| first | exact Or.inl rfl | exact Or.inr rfl)
set_option hygiene false in
local macro_rules | `(tactic| walk_at "rd")=>`(tactic| ((try dsimp only [cx_K,tChain,tForZ_eq,tRevL,tCompR2_eq,sFldAug_eq,cx_cloK,ZDY,ZB6,tForE_eq,tCompE_eq,ZDw,tAug_eq,ipI_int,gSub,gCons_eq,gNil_eq,tSeq,tIfS,ZDt,tB,tOr,tAnd,tNot,tOp,tUn,tC,ZAY,tTry,ZDZ,ZDL,tMethS,tRaiseX,tXMk,tFS,sXFld,tXFldM,tTry0,tDef,ZDW,ZC9,ZDX,tVar_1,tVar_2,tVar_3,tVar_4,tVar_5,tVar_6,tVar_7,tVar_8,tVar_9,tVar_10,tVar_11,tVar_12,tVar_13,tVar_14,tVar_15,tVar_16,tVar_17,tVar_18,tVar_19,tVar_20,tVar_21,tVar_22,tVar_23,tVar_24,tVar_25,tVar_26,tVar_27,tVar_28,tVar_29,tVar_30,rI0_int,rI_int,rU_int,rEq_int,rNe_int,rEq_bl,rNe_bl,rEq_str,rNe_str,ex_bl,ex_int,tAsg,ZDl,tRet,tRetN,ZDx,ZDv,tNever,ZDy,tOrV,tNotV,tIf,List.set_cons_zero,List.set_cons_succ,ZDr,ZDS,ZBz,tNil,List.cons_append,List.nil_append,List.append_nil,tCB,tFld_eq,sFld_eq,tForL_eq,tForR1_eq,tForR2_eq,tCompL_eq,tCompR1_eq,tYes,tBM,tBM0,tLst,tTup,ZDq,true_and,tSl,ZDu,ZC8,decide_eq_true_eq,Bool.not_eq_true',decide_eq_false_iff_not,L2.start,yAU,List.map_nil,yAT,List.length_nil,Nat.reduceAdd,Nat.reduceSub,Nat.zero_add,Nat.sub_self,List.replicate_zero,yAZ,if_true,if_false,yBJ,Bool.true_eq_false,Bool.not_true,Bool.not_false]);(try simp only [cx_K,tChain,tForZ_eq,tRevL,tCompR2_eq,sFldAug_eq,cx_cloK,ZDY,ZB6,tForE_eq,tCompE_eq,ZDw,tAug_eq,ipI_int,gSub,gCons_eq,gNil_eq,tSeq,tIfS,ZDt,tB,tOr,tAnd,tNot,tOp,tUn,tC,ZAY,tTry,ZDZ,ZDL,tMethS,tRaiseX,tXMk,tFS,sXFld,tXFldM,tTry0,tDef,ZDW,ZC9,ZDX,tVar_1,tVar_2,tVar_3,tVar_4,tVar_5,tVar_6,tVar_7,tVar_8,tVar_9,tVar_10,tVar_11,tVar_12,tVar_13,tVar_14,tVar_15,tVar_16,tVar_17,tVar_18,tVar_19,tVar_20,tVar_21,tVar_22,tVar_23,tVar_24,tVar_25,tVar_26,tVar_27,tVar_28,tVar_29,tVar_30,rI0_int,rI_int,rU_int,rEq_int,rNe_int,rEq_bl,rNe_bl,rEq_str,rNe_str,ex_bl,ex_int,tAsg,ZDl,tRet,tRetN,ZDx,ZDv,tNever,ZDy,tOrV,tNotV,tIf,List.set_cons_zero,List.set_cons_succ,ZDr,ZDS,ZBz,tNil,List.cons_append,List.nil_append,List.append_nil,tCB,tFld_eq,sFld_eq,tForL_eq,tForR1_eq,tForR2_eq,tCompL_eq,tCompR1_eq,tYes,tBM,tBM0,tLst,tTup,ZDq,true_and,tSl,ZDu,ZC8,decide_eq_true_eq,Bool.not_eq_true',decide_eq_false_iff_not,L2.start,yAU,List.map_nil,yAT,List.length_nil,Nat.reduceAdd,Nat.reduceSub,Nat.zero_add,Nat.sub_self,List.replicate_zero,yAZ,if_true,if_false,yBJ,Bool.true_eq_false,Bool.not_true,Bool.not_false])))
local macro_rules | `(tactic| walk_at "up")=>`(tactic| first | assumption | (refine Same.get (by assumption) ?_;walk_at "up"))
local macro_rules | `(tactic| walk_at "lk")=>`(tactic| ((repeat (first | rw [lkc,if_pos rfl] | rw [lkc,if_neg (by decide +kernel)]));first | done | rfl))
noncomputable def top (i:Nat):Stmt:=PySem.Challenge.pw_sorthall_k14_no_rule.main.body.getD i (.Pass ⟨0,0,0,0⟩)
noncomputable abbrev ZBL:Stmt:=top 14
noncomputable abbrev ZA0:Stmt:=top 15
noncomputable abbrev ZBD:Stmt:=top 16
noncomputable abbrev ZA4:Stmt:=ZAx (top 17) 0
noncomputable abbrev ZA3:Stmt:=ZAx (top 17) 1
noncomputable abbrev ZA1:Stmt:=ZAx (top 18) 0
noncomputable abbrev ZAk:Stmt:=ZAx (top 18) 1
noncomputable abbrev ZAj:Stmt:=ZAx (top 18) 2
noncomputable abbrev ZAs:Stmt:=ZAx (top 19) 0
noncomputable abbrev ZAc:Stmt:=ZAx (top 19) 2
noncomputable abbrev ZAr:Stmt:=ZAx (top 20) 0
noncomputable abbrev ZAb:Stmt:=ZAx (top 20) 2
noncomputable abbrev ZAi:Stmt:=ZAx (top 21) 0
noncomputable abbrev ZAQ:Stmt:=ZAx (top 21) 2
noncomputable abbrev ZAq:Stmt:=ZAx (top 22) 0
noncomputable abbrev ZAa:Stmt:=ZAx (top 22) 1
noncomputable abbrev ZAZ:Stmt:=ZAx (top 22) 2
noncomputable abbrev ZAl:Stmt:=ZAx (top 23) 0
noncomputable abbrev ZAS:Stmt:=ZAx (top 23) 1
noncomputable abbrev ZAR:Stmt:=ZAx (top 23) 2
noncomputable abbrev ZAm:Stmt:=ZAx (top 24) 0
noncomputable abbrev ZAT:Stmt:=ZAx (top 24) 1
noncomputable abbrev ZBa:Stmt:=top 26
noncomputable abbrev ZCc:Stmt:=top 27
noncomputable abbrev ZBY:Stmt:=top 28
noncomputable abbrev ZBZ:Stmt:=top 29
noncomputable abbrev ZCD:Stmt:=top 30
noncomputable abbrev ZCE:Stmt:=top 31
noncomputable abbrev ZBh:Stmt:=top 32
noncomputable abbrev ZCo:Stmt:=top 33
theorem sc_check_at:FnScope ["at"] ["at"] (ZAC ZBL):=⟨rfl,rfl,rfl,by decide +kernel,rfl,by decide +kernel,by decide +kernel⟩
theorem sc_check_column:FnScope ["at","way"] ["at","way"] (ZAC ZA0):=⟨rfl,rfl,rfl,by decide +kernel,rfl,by decide +kernel,by decide +kernel⟩
theorem sc_widest_of:FnScope ["rules"] ["rules"] (ZAC ZBD):=⟨rfl,rfl,rfl,by decide +kernel,rfl,by decide +kernel,by decide +kernel⟩
theorem sc_Rule_before:FnScope ["self","x","y"] ["self","x","y"] (ZAC ZA4):=⟨rfl,rfl,rfl,by decide +kernel,rfl,by decide +kernel,by decide +kernel⟩
theorem sc_Rule_widest:FnScope ["self"] ["self"] (ZAC ZA3):=⟨rfl,rfl,rfl,by decide +kernel,rfl,by decide +kernel,by decide +kernel⟩
theorem sc_KeyRule_init:FnScope ["self","columns","at","way"] ["self","columns"] (ZAC ZA1):=⟨rfl,rfl,rfl,by decide +kernel,rfl,by decide +kernel,by decide +kernel⟩
theorem sc_KeyRule_before:FnScope ["self","x","y","at","way"] ["self","x","y"] (ZAC ZAk):=⟨rfl,rfl,rfl,by decide +kernel,rfl,by decide +kernel,by decide +kernel⟩
theorem sc_KeyRule_widest:FnScope ["self"] ["self"] (ZAC ZAj):=⟨rfl,rfl,rfl,by decide +kernel,rfl,by decide +kernel,by decide +kernel⟩
theorem sc_NearRule_init:FnScope ["self","at","gap"] ["self","at","gap"] (ZAC ZAs):=⟨rfl,rfl,rfl,by decide +kernel,rfl,by decide +kernel,by decide +kernel⟩
theorem sc_NearRule_widest:FnScope ["self"] ["self"] (ZAC ZAc):=⟨rfl,rfl,rfl,by decide +kernel,rfl,by decide +kernel,by decide +kernel⟩
theorem sc_RingRule_init:FnScope ["self","at","size"] ["self","at","size"] (ZAC ZAr):=⟨rfl,rfl,rfl,by decide +kernel,rfl,by decide +kernel,by decide +kernel⟩
theorem sc_RingRule_widest:FnScope ["self"] ["self"] (ZAC ZAb):=⟨rfl,rfl,rfl,by decide +kernel,rfl,by decide +kernel,by decide +kernel⟩
theorem sc_TableRule_init:FnScope ["self","at","table","truths"] ["self","at","table"] (ZAC ZAi):=⟨rfl,rfl,rfl,by decide +kernel,rfl,by decide +kernel,by decide +kernel⟩
theorem sc_TableRule_widest:FnScope ["self"] ["self"] (ZAC ZAQ):=⟨rfl,rfl,rfl,by decide +kernel,rfl,by decide +kernel,by decide +kernel⟩
theorem sc_VoteRule_init:FnScope ["self","rules"] ["self","rules"] (ZAC ZAq):=⟨rfl,rfl,rfl,by decide +kernel,rfl,by decide +kernel,by decide +kernel⟩
theorem sc_VoteRule_before:FnScope ["self","x","y","for_x","for_y"] ["self","x","y"] (ZAC ZAa):=⟨rfl,rfl,rfl,by decide +kernel,rfl,by decide +kernel,by decide +kernel⟩
theorem sc_VoteRule_widest:FnScope ["self"] ["self"] (ZAC ZAZ):=⟨rfl,rfl,rfl,by decide +kernel,rfl,by decide +kernel,by decide +kernel⟩
theorem sc_ChainRule_init:FnScope ["self","rules"] ["self","rules"] (ZAC ZAl):=⟨rfl,rfl,rfl,by decide +kernel,rfl,by decide +kernel,by decide +kernel⟩
theorem sc_ChainRule_before:FnScope ["self","x","y","rule"] ["self","x","y"] (ZAC ZAS):=⟨rfl,rfl,rfl,by decide +kernel,rfl,by decide +kernel,by decide +kernel⟩
theorem sc_ChainRule_widest:FnScope ["self"] ["self"] (ZAC ZAR):=⟨rfl,rfl,rfl,by decide +kernel,rfl,by decide +kernel,by decide +kernel⟩
theorem sc_AskedRule_init:FnScope ["self","teller"] ["self","teller"] (ZAC ZAm):=⟨rfl,rfl,rfl,by decide +kernel,rfl,by decide +kernel,by decide +kernel⟩
theorem sc_AskedRule_before:FnScope ["self","x","y","teller"] ["self","x","y"] (ZAC ZAT):=⟨rfl,rfl,rfl,by decide +kernel,rfl,by decide +kernel,by decide +kernel⟩
theorem sc_cell_at:FnScope ["_law_script","_law_k"] ["_law_script","_law_k"] (ZAC ZBa):=⟨rfl,rfl,rfl,by decide +kernel,rfl,by decide +kernel,by decide +kernel⟩
theorem sc_make:FnScope ["_law_kind","_law_first","_law_second"] ["_law_kind","_law_first","_law_second"] (ZAC ZCc):=⟨rfl,rfl,rfl,by decide +kernel,rfl,by decide +kernel,by decide +kernel⟩
theorem sc_refused:FnScope ["_law_kind","_law_first","_law_second","e","_law_others"] ["_law_kind","_law_first","_law_second"] (ZAC ZBY):=⟨rfl,rfl,rfl,by decide +kernel,rfl,by decide +kernel,by decide +kernel⟩
theorem sc_columns:FnScope ["_law_cell","_law_columns_here","_law_k"] ["_law_cell"] (ZAC ZBZ):=⟨rfl,rfl,rfl,by decide +kernel,rfl,by decide +kernel,by decide +kernel⟩
theorem sc_table:FnScope ["_law_cell","_law_many"] ["_law_cell","_law_many"] (ZAC ZCD):=⟨rfl,rfl,rfl,by decide +kernel,rfl,by decide +kernel,by decide +kernel⟩
theorem sc_empty:FnScope ["_law_rule","_law_found"] ["_law_rule"] (ZAC ZCE):=⟨rfl,rfl,rfl,by decide +kernel,rfl,by decide +kernel,by decide +kernel⟩
theorem sc_asked:FnScope ["_law_cell","_law_things","_law_seen","_law_told","_law_teller","_law_rule","_law_x","_law_y","_law_found"] ["_law_cell"] (ZAC ZBh):=⟨rfl,rfl,rfl,by decide +kernel,rfl,by decide +kernel,by decide +kernel⟩
theorem sc_law:FnScope ["_law_script","_law_columns_here","_law_at","_law_far","_law_no_at","_law_no_way","_law_bad","_law_good_at","_law_table_here","_law_spoiled","_law_row","_law_rule"] ["_law_script"] (ZAC ZCo):=⟨rfl,rfl,rfl,by decide +kernel,rfl,by decide +kernel,by decide +kernel⟩
noncomputable abbrev ZAM:Stmt:=inBody ZBh 3
theorem lsc_asked:LScope ["_law_told","_law_seen"] (ZAC ZBh) (ZAC ZAM):=⟨by decide +kernel,by decide +kernel,by decide +kernel⟩
theorem csc_asked:CloScope ["_law_one","_law_other","_law_told","_law_seen"] ["_law_one","_law_other"] ["_law_told","_law_seen"] (ZAC ZAM):=⟨rfl,rfl,rfl,by decide +kernel,rfl,rfl,by decide,by decide +kernel,by decide +kernel,by decide +kernel,fun x h=>(show ∀ y∈(ZAC ZAM).names,y.2=.free->y.1∈(["_law_told","_law_seen"]:List Str) by decide +kernel) _ (PySem.mem_of_lookup h) rfl⟩
structure Bt (K:W.Frag) (mg:Str->Option Value) (C_Rule C_KeyRule C_NearRule C_RingRule C_TableRule C_VoteRule C_ChainRule C_AskedRule C_HallError C_NoRule C_NoPaper C_NoPlace C_NoKey C_NoRow C_NoOrder C_TooFar C_Spent:Addr):Prop where
 b_len:mg "len"=none
 b_range:mg "range"=none
 b_list:mg "list"=none
 b_isinstance:mg "isinstance"=none
 b_bool:mg "bool"=none
 b_int:mg "int"=none
 b_max:mg "max"=none
 b_ValueError:mg "ValueError"=none
 c_GREATEST_AT:∃ t,mg "GREATEST_AT"=some (.int 7 t)
 c_UP:∃ t,mg "UP"=some (.str "up" t)
 c_DOWN:∃ t,mg "DOWN"=some (.str "down" t)
 m_Rule:mg "Rule"=some (.ref C_Rule)
 cl_Rule:Cls K C_Rule
 m_KeyRule:mg "KeyRule"=some (.ref C_KeyRule)
 cl_KeyRule:Cls K C_KeyRule
 n_KeyRule_columns:NoAttr K C_KeyRule "columns"
 m_NearRule:mg "NearRule"=some (.ref C_NearRule)
 cl_NearRule:Cls K C_NearRule
 n_NearRule_at:NoAttr K C_NearRule "at"
 n_NearRule_gap:NoAttr K C_NearRule "gap"
 m_RingRule:mg "RingRule"=some (.ref C_RingRule)
 cl_RingRule:Cls K C_RingRule
 n_RingRule_at:NoAttr K C_RingRule "at"
 n_RingRule_size:NoAttr K C_RingRule "size"
 m_TableRule:mg "TableRule"=some (.ref C_TableRule)
 cl_TableRule:Cls K C_TableRule
 n_TableRule_at:NoAttr K C_TableRule "at"
 n_TableRule_table:NoAttr K C_TableRule "table"
 m_VoteRule:mg "VoteRule"=some (.ref C_VoteRule)
 cl_VoteRule:Cls K C_VoteRule
 n_VoteRule_rules:NoAttr K C_VoteRule "rules"
 m_ChainRule:mg "ChainRule"=some (.ref C_ChainRule)
 cl_ChainRule:Cls K C_ChainRule
 n_ChainRule_rules:NoAttr K C_ChainRule "rules"
 m_AskedRule:mg "AskedRule"=some (.ref C_AskedRule)
 cl_AskedRule:Cls K C_AskedRule
 n_AskedRule_teller:NoAttr K C_AskedRule "teller"
 m_HallError:mg "HallError"=some (.ref C_HallError)
 m_NoRule:mg "NoRule"=some (.ref C_NoRule)
 m_NoPaper:mg "NoPaper"=some (.ref C_NoPaper)
 m_NoPlace:mg "NoPlace"=some (.ref C_NoPlace)
 m_NoKey:mg "NoKey"=some (.ref C_NoKey)
 m_NoRow:mg "NoRow"=some (.ref C_NoRow)
 m_NoOrder:mg "NoOrder"=some (.ref C_NoOrder)
 m_TooFar:mg "TooFar"=some (.ref C_TooFar)
 m_Spent:mg "Spent"=some (.ref C_Spent)
 xq_NoRule:PySem.W.excIn K C_NoRule bmV "ValueError.__new__"=true
 xc_NoRule:ExcC K C_NoRule
 xd_NoRule:PySem.W.hasDictIn K C_NoRule=true
 xm_NoRule_HallError:PySem.W.exmOne K (.ref C_NoRule) (.ref C_HallError)=some true
 kit_int_bool:PySem.W.kitOne K (.type "int") (.type "bool")=some false
 kit_bool_bool:PySem.W.kitOne K (.type "bool") (.type "bool")=some true
 kit_int_int:PySem.W.kitOne K (.type "int") (.type "int")=some true
 kit_NoRule_NoRule:PySem.W.kitOne K (.ref C_NoRule) (.ref C_NoRule)=some true
 kit_NoRule_ValueError:PySem.W.kitOne K (.ref C_NoRule) (.type "ValueError")=some true
 kit_NoRule_NoPaper:PySem.W.kitOne K (.ref C_NoRule) (.ref C_NoPaper)=some false
 kit_NoRule_NoPlace:PySem.W.kitOne K (.ref C_NoRule) (.ref C_NoPlace)=some false
 kit_NoRule_NoKey:PySem.W.kitOne K (.ref C_NoRule) (.ref C_NoKey)=some false
 kit_NoRule_NoRow:PySem.W.kitOne K (.ref C_NoRule) (.ref C_NoRow)=some false
 kit_NoRule_NoOrder:PySem.W.kitOne K (.ref C_NoRule) (.ref C_NoOrder)=some false
 kit_NoRule_TooFar:PySem.W.kitOne K (.ref C_NoRule) (.ref C_TooFar)=some false
 kit_NoRule_Spent:PySem.W.kitOne K (.ref C_NoRule) (.ref C_Spent)=some false
 kit_Rule_Rule:PySem.W.kitOne K (.ref C_Rule) (.ref C_Rule)=some true
 kit_KeyRule_Rule:PySem.W.kitOne K (.ref C_KeyRule) (.ref C_Rule)=some true
 kit_VoteRule_Rule:PySem.W.kitOne K (.ref C_VoteRule) (.ref C_Rule)=some true
 kit_ChainRule_Rule:PySem.W.kitOne K (.ref C_ChainRule) (.ref C_Rule)=some true
 kit_NearRule_Rule:PySem.W.kitOne K (.ref C_NearRule) (.ref C_Rule)=some true
 kit_RingRule_Rule:PySem.W.kitOne K (.ref C_RingRule) (.ref C_Rule)=some true
 kit_TableRule_Rule:PySem.W.kitOne K (.ref C_TableRule) (.ref C_Rule)=some true
 kit_AskedRule_Rule:PySem.W.kitOne K (.ref C_AskedRule) (.ref C_Rule)=some true
 ty_Rule:∀ (H:Hp) (p d:Addr) (fs:List (Str×V)),H p=some (.ins C_Rule d fs)->TyOf K H (.ref p) (.ref C_Rule)
 ty_KeyRule:∀ (H:Hp) (p d:Addr) (fs:List (Str×V)),H p=some (.ins C_KeyRule d fs)->TyOf K H (.ref p) (.ref C_KeyRule)
 ty_VoteRule:∀ (H:Hp) (p d:Addr) (fs:List (Str×V)),H p=some (.ins C_VoteRule d fs)->TyOf K H (.ref p) (.ref C_VoteRule)
 ty_ChainRule:∀ (H:Hp) (p d:Addr) (fs:List (Str×V)),H p=some (.ins C_ChainRule d fs)->TyOf K H (.ref p) (.ref C_ChainRule)
 ty_NearRule:∀ (H:Hp) (p d:Addr) (fs:List (Str×V)),H p=some (.ins C_NearRule d fs)->TyOf K H (.ref p) (.ref C_NearRule)
 ty_RingRule:∀ (H:Hp) (p d:Addr) (fs:List (Str×V)),H p=some (.ins C_RingRule d fs)->TyOf K H (.ref p) (.ref C_RingRule)
 ty_TableRule:∀ (H:Hp) (p d:Addr) (fs:List (Str×V)),H p=some (.ins C_TableRule d fs)->TyOf K H (.ref p) (.ref C_TableRule)
 ty_AskedRule:∀ (H:Hp) (p d:Addr) (fs:List (Str×V)),H p=some (.ins C_AskedRule d fs)->TyOf K H (.ref p) (.ref C_AskedRule)
noncomputable def cellOf (ns:List Int) (k:Int):Int:=if k < (ns.length:Int) then (ns[k.toNat]?).getD 0 else 0
noncomputable def ZDb (K:W.Frag):Sp:=fun vs H Q _=>∃ (a:Addr) (ns:List Int) (k:Int),vs=[.ref a,.int k] /\ SqL K H a (ns.map V.int) /\ 0 <= k /\ Q (.int (cellOf ns k)) H
noncomputable abbrev fN (a gp:Int):List (Str×V):=[("gap",.int gp),("at",.int a)]
noncomputable abbrev fRg (a sz:Int):List (Str×V):=[("size",.int sz),("at",.int a)]
noncomputable abbrev fV (l:Addr):List (Str×V):=[("rules",.ref l)]
noncomputable abbrev fT (a:Int) (l:Addr):List (Str×V):=[("table",.ref l),("at",.int a)]
noncomputable abbrev fG (g:Addr):List (Str×V):=[("teller",.ref g)]
noncomputable abbrev MtO (C r:Addr) (m:Str) (H:Hp) (R:Prop):Prop:=∃ b dx fs,V.ref r=.ref b /\ H b=some (.ins C dx fs) /\ fs.lookup m=none /\ R
noncomputable def good (a:Int) (w:Str):Prop:=(0 <= a /\ a <= 7) /\ (w=("up":Str)∨w=("down":Str))
noncomputable def colS (c:Int×Str):PyData:=.tuple [.int c.1,.str c.2]
theorem putF1 {f:Str} {v:V}:(putF f v []).lookup f=some v:=by rw [ZAp,if_pos rfl]
theorem ZDM {f g:Str} {v:V} (h:¬ g=f):(putF f v []).lookup g=none:=by
 rw [ZAp,if_neg h]
 rfl
theorem dp_colS {K:W.Frag} {H:Hp} {c:Int×Str} {v:V} (h:Dp K H (colS c) v):∃ t,v=.ref t /\ SqT K H t [.int c.1,.str c.2]:=by
 unfold colS at h
 obtain ⟨t,xs,rfl,z,hd⟩:=h.asT
 unfold DpAll at hd
 obtain ⟨v1,Y,rfl,L,hd⟩:=hd
 unfold DpAll at hd
 obtain ⟨O,U,rfl,J,hd⟩:=hd
 unfold DpAll at hd
 subst hd
 rw [L.asI,J.asS] at z
 exact ⟨t,rfl,z⟩
theorem colS_at {K:W.Frag} {H:Hp} {cols:List (Int×Str)} {xs:List V} {i:Nat} {v:V} (h:DpAll K H (cols.map colS) xs) (e:xs[i]?=some v):∃ c t,cols[i]?=some c /\ v=.ref t /\ SqT K H t [.int c.1,.str c.2]:=by
 obtain ⟨d,hd,dd⟩:=h.of_get e
 rw [yAS] at hd
 cases ec:cols[i]? with
 | none=>rw [ec] at hd;cases hd
 | some c=>
  rw [ec] at hd
  have z:colS c=d:=Option.some.inj hd
  subst z
  obtain ⟨t,rfl,J⟩:=dp_colS dd
  exact ⟨c,t,rfl,rfl,J⟩
noncomputable def RowsAt (H:Hp) (l:Addr) (ns:List Nat):Prop:=∃ rs:List V,H l=some (.lst rs) /\ rs.length=ns.length /\ ∀ (i:Nat) v,rs[i]?=some v->∃ r vs,v=.ref r /\ H r=some (.lst vs) /\ ns[i]?=some vs.length
theorem RowsAt.mono {H H':Hp} {l:Addr} {ns:List Nat} (s:∀ b xs,H b=some (.lst xs)->H' b=some (.lst xs)) (h:RowsAt H l ns):RowsAt H' l ns:=by
 obtain ⟨z,a,b,c⟩:=h
 refine ⟨z,s _ _ a,b,fun i v J=>?_⟩
 obtain ⟨r,vs,e,d,f⟩:=c i v J
 exact ⟨r,vs,e,s _ _ d,f⟩
noncomputable def okT (a:Int) (ns:List Nat):Prop:=(0 <= a /\ a <= 7) /\ ∀ m∈ns,m=ns.length
noncomputable def ZBq (CE:Addr):Sp:=fun vs H Q E=>∃ i:Int,vs=[.int i] /\ (0 <= i /\ i <= 7->Q .non H) /\ (¬ (0 <= i /\ i <= 7)->E (.ref CE) none H)
noncomputable def ZB2 (CE:Addr):Sp:=fun vs H Q E=>∃ (i:Int) (w:Str),vs=[.int i,.str w] /\ (good i w->Q .non H) /\ (¬ good i w->E (.ref CE) none H)
noncomputable def ZCy (K:W.Frag) (C CE:Addr):Sp:=fun vs H Q E=>∃ (p dx c:Addr) (xs:List V) (cols:List (Int×Str)),vs=[.ref p,.ref c] /\ H p=some (.ins C dx []) /\ H c=some (.lst xs) /\ DpAll K H (cols.map colS) xs /\
 ((∀ c∈cols,good c.1 c.2)->∀ l,H l=none->Q .non (upd (upd H l (.lst xs)) p (.ins C dx (putF "columns" (.ref l) [])))) /\ ((∃ c∈cols,¬ good c.1 c.2)->E (.ref CE) none H)
noncomputable def ZB8 (C CE:Addr):Sp:=fun vs H Q E=>∃ (x dx:Addr) (a gp:Int),vs=[.ref x,.int a,.int gp] /\ H x=some (.ins C dx []) /\ ((0 <= a /\ a <= 7) /\ 0 <= gp->∀ H',(∀ b o,b≠x->H b=some o->H' b=some o)->Ins H' x C (fN a gp)->Q .non H') /\ (¬ ((0 <= a /\ a <= 7) /\ 0 <= gp)->E (.ref CE) none H)
noncomputable def ZB7 (C CE:Addr):Sp:=fun vs H Q E=>∃ (x dx:Addr) (a gp:Int),vs=[.ref x,.int a,.int gp] /\ H x=some (.ins C dx []) /\ ((0 <= a /\ a <= 7) /\ 1 <= gp->∀ H',(∀ b o,b≠x->H b=some o->H' b=some o)->Ins H' x C (fRg a gp)->Q .non H') /\ (¬ ((0 <= a /\ a <= 7) /\ 1 <= gp)->E (.ref CE) none H)
noncomputable def ZCK (C CE:Addr):Sp:=fun vs H Q E=>∃ (x dx l:Addr) (a:Int) (ns:List Nat),vs=[.ref x,.int a,.ref l] /\ H x=some (.ins C dx []) /\ RowsAt H l ns /\ ns.length <= 10 /\ (okT a ns->∀ l2 H',(∀ b o,b≠x->H b=some o->H' b=some o)->Ins H' x C (fT a l2)->Q .non H') /\ (¬ okT a ns->E (.ref CE) none H)
noncomputable def ZCQ (C:Addr):Sp:=fun vs H Q _=>∃ (p:Addr) (a gp:Int),vs=[.ref p] /\ Ins H p C (fN a gp) /\ Q (.int a) H
noncomputable def ZCP (C:Addr):Sp:=fun vs H Q _=>∃ (p:Addr) (a gp:Int),vs=[.ref p] /\ Ins H p C (fRg a gp) /\ Q (.int a) H
noncomputable def ZCk (C:Addr):Sp:=fun vs H Q _=>∃ (p l:Addr) (a:Int),vs=[.ref p] /\ Ins H p C (fT a l) /\ Q (.int a) H
noncomputable def ZBG:Sp:=fun vs H Q _=>∃ p:Addr,vs=[.ref p] /\ Q (.int (-1)) H
noncomputable def ZBM:Sp:=fun vs H Q _=>∃ (p:Addr) (x y:V),vs=[.ref p,x,y] /\ Q (.bl false) H
noncomputable def ZBC (C:Addr):Sp:=fun vs H Q _=>∃ (p dx c:Addr) (x y:V),vs=[.ref p,x,y] /\ H p=some (.ins C dx (putF "columns" (.ref c) [])) /\ H c=some (.lst []) /\ Q (.bl false) H
noncomputable def ZBB (K:W.Frag) (C:Addr):Sp:=fun vs H Q _=>∃ (p dx c:Addr) (xs:List V) (cols:List (Int×Str)),vs=[.ref p] /\ H p=some (.ins C dx (putF "columns" (.ref c) [])) /\ H c=some (.lst xs) /\ DpAll K H (cols.map colS) xs /\ cols.length <= 8 /\ ∀ H',Same H H'->Q (.int (maxD (-1) (cols.map (·.1)))) H'
noncomputable def Mu0 (CU CK:Addr) (H:Hp) (r:Addr):Prop:=(∃ dx,H r=some (.ins CU dx []))∨∃ dx c,H r=some (.ins CK dx (putF "columns" (.ref c) [])) /\ H c=some (.lst [])
noncomputable def MuL (CU CK:Addr) (H:Hp) (xs:List V):Prop:=∀ v∈xs,∃ b,v=.ref b /\ Mu0 CU CK H b
noncomputable def Mu1 (CU CK CV:Addr) (H:Hp) (r:Addr):Prop:=∃ l xs,Ins H r CV (fV l) /\ H l=some (.lst xs) /\ xs.length <= 5 /\ MuL CU CK H xs
noncomputable def Mu (CU CK CV CC:Addr) (H:Hp) (r:Addr):Prop:=Mu0 CU CK H r∨Mu1 CU CK CV H r∨Mu1 CU CK CC H r
section mu
variable {K:W.Frag} {CU CK CV CC:Addr} {H H':Hp} {r:Addr} {x y:V} {xs:List V} {Q:VK} {E:XK}
theorem Mu0.mono (s:Same H H') (h:Mu0 CU CK H r):Mu0 CU CK H' r:=by
 rcases h with ⟨dx,a⟩ | ⟨dx,c,a,b⟩
 .exact .inl ⟨dx,s _ _ a⟩
 .exact .inr ⟨dx,c,s _ _ a,s _ _ b⟩
theorem MuL.mono (s:Same H H') (h:MuL CU CK H xs):MuL CU CK H' xs:=fun v z=>let ⟨b,e,m⟩:=h v z;⟨b,e,m.mono s⟩
theorem Mu1.mono (s:Same H H') (h:Mu1 CU CK CV H r):Mu1 CU CK CV H' r:=let ⟨l,xs,a,b,c,d⟩:=h;⟨l,xs,a.mono s,s _ _ b,c,d.mono s⟩
theorem Mu.mono (s:Same H H') (h:Mu CU CK CV CC H r):Mu CU CK CV CC H' r:=by
 rcases h with h | h | h
 .exact .inl (h.mono s)
 .exact .inr (.inl (h.mono s))
 .exact .inr (.inr (h.mono s))
theorem ZBs (h:Mu0 CU CK H r) (q:Q (.bl false) H):MtO CU r (Str.ofString "before") H (ZBM [.ref r,x,y] H Q E)∨MtO CK r (Str.ofString "before") H (ZBC CK [.ref r,x,y] H Q E):=by
 rcases h with ⟨dx,a⟩ | ⟨dx,c,a,b⟩
 .exact .inl ⟨r,dx,_,rfl,a,rfl,r,x,y,rfl,q⟩
 .exact .inr ⟨r,dx,_,rfl,a,ZDM (by decide +kernel),r,dx,c,x,y,rfl,a,b,q⟩
theorem mu0_wid (h:Mu0 CU CK H r) (q:∀ H',Same H H'->Q (.int (-1)) H'):MtO CU r (Str.ofString "widest") H (ZBG [.ref r] H Q E)∨MtO CK r (Str.ofString "widest") H (ZBB K CK [.ref r] H Q E):=by
 rcases h with ⟨dx,a⟩ | ⟨dx,c,a,b⟩
 .exact .inl ⟨r,dx,_,rfl,a,rfl,r,rfl,q _ (.refl _)⟩
 .exact .inr ⟨r,dx,_,rfl,a,ZDM (by decide +kernel),r,dx,c,[],[],rfl,a,b,.nil,by decide,fun H' s=>q H' s⟩
end mu
noncomputable def ZB0 (C:Addr):Sp:=fun vs H Q _=>∃ (p dx c:Addr) (xs:List V),vs=[.ref p,.ref c] /\ H p=some (.ins C dx []) /\ H c=some (.lst xs) /\ ∀ l H',H l=none->l≠p->(∀ b o,b≠p->H b=some o->H' b=some o)->H' l=some (.lst xs)->Ins H' p C (fV l)->Q .non H'
noncomputable def ZBP (CU CK CV:Addr):Sp:=fun vs H Q _=>∃ (r:Addr) (x y:V),vs=[.ref r,x,y] /\ Mu1 CU CK CV H r /\ ∀ H',Same H H'->Q (.bl false) H'
noncomputable def ZCj (CU CK:Addr):Sp:=fun vs H Q _=>∃ (l:Addr) (xs:List V),vs=[.ref l] /\ H l=some (.lst xs) /\ xs.length <= 5 /\ MuL CU CK H xs /\ ∀ H',Same H H'->Q (.int (-1)) H'
noncomputable def ZBO (CU CK CV:Addr):Sp:=fun vs H Q _=>∃ r:Addr,vs=[.ref r] /\ Mu1 CU CK CV H r /\ ∀ H',Same H H'->Q (.int (-1)) H'
noncomputable def ZCR (CU CK CV CC:Addr):Sp:=fun vs H Q _=>∃ r:Addr,vs=[.ref r] /\ Mu CU CK CV CC H r /\ ∀ H',Same H H'->Q (.bl true) H'
section mu
variable {K:W.Frag} {CU CK CV CC:Addr} {H H':Hp} {r:Addr} {x y:V} {xs:List V} {Q:VK} {E:XK}
theorem Mu1.meth {m:Str} {R:Prop} (h:Mu1 CU CK CV H r) (hm:m=Str.ofString "before"∨m=Str.ofString "widest") (q:R):MtO CV r m H R:=by
 obtain ⟨l,xs,a,b,c⟩:=h
 rcases hm with rfl | rfl
 .exact a.meth (by walk_at "lk") q
 .exact a.meth (by walk_at "lk") q
theorem mu_wid (h:Mu CU CK CV CC H r) (q:∀ H',Same H H'->Q (.int (-1)) H'):MtO CU r (Str.ofString "widest") H (ZBG [.ref r] H Q E)∨MtO CK r (Str.ofString "widest") H (ZBB K CK [.ref r] H Q E)∨MtO CV r (Str.ofString "widest") H (ZBO CU CK CV [.ref r] H Q E)∨MtO CC r (Str.ofString "widest") H (ZBO CU CK CC [.ref r] H Q E):=by
 rcases h with h | h | h
 .rcases mu0_wid (K:=K) (E:=E) h q with z | z
  .exact .inl z
  .exact .inr (.inl z)
 .exact .inr (.inr (.inl (h.meth (.inr rfl) ⟨r,rfl,h,q⟩)))
 .exact .inr (.inr (.inr (h.meth (.inr rfl) ⟨r,rfl,h,q⟩)))
end mu
noncomputable def Bad (K:W.Frag) (H:Hp) (k:Int) (f s:V):Prop :=
 (k=0 /\ ∃ (l:Addr) (xs:List V) (cols:List (Int×Str)),f=.ref l /\ H l=some (.lst xs) /\ DpAll K H (cols.map colS) xs /\ ∃ c∈cols,¬ good c.1 c.2) ∨
 (k=1 /\ ∃ a g:Int,f=.int a /\ s=.int g /\ ¬ ((0 <= a /\ a <= 7) /\ 0 <= g)) ∨
 (k=2 /\ ∃ a g:Int,f=.int a /\ s=.int g /\ ¬ ((0 <= a /\ a <= 7) /\ 1 <= g)) ∨
 (k=3 /\ ∃ (a:Int) (l:Addr) (ns:List Nat),f=.int a /\ s=.ref l /\ RowsAt H l ns /\ ns.length <= 10 /\ ¬ okT a ns)
noncomputable def ZCl (K:W.Frag) (CE:Addr):Sp:=fun vs H Q E=>∃ (k:Int) (f s:V),vs=[.int k,f,s] /\ Bad K H k f s /\ ∀ H',Same H H'->E (.ref CE) none H'
noncomputable def ZB1 (K:W.Frag):Sp:=fun vs H Q E=>∃ (k:Int) (f s:V),vs=[.int k,f,s] /\ Bad K H k f s /\ ∀ H',Same H H'->Q (.bl true) H'
noncomputable def ZCm (K:W.Frag):Sp:=fun vs H Q E=>∃ c:Int,vs=[.int c] /\ ∀ (l:Addr) (xs:List V) (cols:List (Int×Str)) (H':Hp),Same H H'->H' l=some (.lst xs)->DpAll K H' (cols.map colS) xs->(∀ c∈cols,good c.1 c.2)->cols.length <= 4->Q (.ref l) H'
noncomputable def ZCO:Sp:=fun vs H Q E=>∃ (c:Int) (n:Nat),vs=[.int c,.int n] /\ n <= 4 /\ ∀ l H',Same H H'->RowsAt H' l (List.replicate n n)->Q (.ref l) H'
theorem ZAd {G:Hp} {x dx C:Addr} (hx:G x=none) (z:G dx=none):Same G (upd (upd G dx (.own x)) x (.ins C dx [])):=fun b o e=>by
 rw [ZAH (ZAI e hx),ZAH (ZAI e z)];exact e
theorem ZDp {C:Addr} {G:Hp} {p2 x dx:Addr} {ys:List V} {R:Hp->Prop} {E:XK} (h:G p2=some (.lst ys)) (hx:G x=none) (z:G dx=none) (q:∀ l H',Same G H'->H' l=some (.lst ys)->Ins H' x C (fV l)->R H'):ZB0 C [.ref x,.ref p2] (upd (upd G dx (.own x)) x (.ins C dx [])) (fun v H2=>v=.non /\ R H2) E :=
 ⟨x,dx,p2,ys,rfl,ZAE,ZAd hx z _ _ h,fun l H' hl L k J O=>⟨rfl,q l H' (fun b o e=>k b o (ZAI e hx) (ZAd hx z _ _ e)) J O⟩⟩
theorem ZCv {R:Bool->Prop} {K:W.Frag} {H:Hp} {ea C:Addr} {c:V} {b:Bool} {dd:Option Addr} (h:H ea=some (excO ea (.ref C) dd)) (x:ExcC K C) (hd:PySem.W.hasDictIn K C=true) (k:PySem.W.kitOne K (.ref C) (cval c)=some b) (hc:ZDk c=true) (q:R b) :
  ∃ a z c' b' J,[V.ref ea,c]=[.ref a,c'] /\ ZDk c'=true /\ H a=some (excO a (.ref z) J) /\ ExcC K z /\ PySem.W.hasDictIn K z=true /\ PySem.W.kitOne K (.ref z) (cval c')=some b' /\ R b':=⟨ea,C,c,b,dd,rfl,hc,h,x,hd,k,q⟩
theorem fold_m1:∀ k:Nat,(List.replicate k (-1:Int)).foldl (fun m y=>if m < y then y else m) (-1)=-1
 | 0=>rfl
 | k+1=>by
  rw [yAZ,List.foldl_cons,if_neg (by decide)]
  exact fold_m1 k
theorem max_m1 (k:Nat):maxD (-1) (List.replicate k (-1:Int))=-1:=by
 cases k with
 | zero=>rfl
 | succ k=>rw [yAZ];exact fold_m1 k
noncomputable abbrev CloT (H:Hp) (g lg:Addr) (b:Bool):Prop:=Clo H g "_law_teller" "_law_asked.<locals>._law_teller" (ZAK ZAM) (ZAJ ZAM) (ZAC ZAM) ["_law_told","_law_seen"] [.bl b,.ref lg]
noncomputable abbrev TabT (H:Hp) (Pt:Addr):Prop:=ZD6 H Pt (defPos ZAM) "_law_asked.<locals>._law_teller"
noncomputable abbrev rT14:V->List V->Hp->VK->Prop:=fun f vs H Q=>∃ (g lg:Addr) (x y:V) (b:Bool) (ws:List V),f=.ref g /\ vs=[x,y] /\ CloT H g lg b /\ H lg=some (.lst ws) /\ ws.length <= 5 /\ ∀ t,H t=none->Q (.bl b) (upd (upd H t (.tup [x,y])) lg (.lst (ws++[.ref t])))
noncomputable def ZCT (CR:Addr):Sp:=fun vs H Q _=>∃ (x dx g:Addr),vs=[.ref x,.ref g] /\ H x=some (.ins CR dx []) /\ ∀ H',(∀ b o,b≠x->H b=some o->H' b=some o)->Ins H' x CR (fG g)->Q .non H'
noncomputable def ZCn (CR:Addr):Sp:=fun vs H Q _=>∃ (ru g:Addr) (x y:V),vs=[.ref ru,x,y] /\ Ins H ru CR (fG g) /\ (∃ o,H g=some (FZ o) /\ ∃ fd,o.data=.func fd) /\ rT14 (.ref g) [x,y] H Q
noncomputable def ZCS (Pt:Addr):Sp:=fun vs H Q _=>∃ c:Int,vs=[.int c] /\ TabT H Pt /\ ∀ H',Q (.bl true) H'
theorem mu_befT {CU CK CV CC:Addr} {H:Hp} {r:Addr} {O U:List V} {Q:VK} (h:Mu CU CK CV CC H r) (q:∀ H',Same H H'->Q (.bl false) H') :
  (∃ b dx fs,V.ref r=.ref b /\ H b=some (.ins CU dx fs) /\ fs.lookup (Str.ofString "before")=none /\ 2 <= sizeLine /\ ∀ p,H p=none->2 <= sizeLine /\ ∀ J,upd H p (.tup O) J=none->ZBM [.ref r,.ref p,.ref J] (upd (upd H p (.tup O)) J (.tup U)) Q E0) ∨
  (∃ b dx fs,V.ref r=.ref b /\ H b=some (.ins CK dx fs) /\ fs.lookup (Str.ofString "before")=none /\ 2 <= sizeLine /\ ∀ p,H p=none->2 <= sizeLine /\ ∀ J,upd H p (.tup O) J=none->ZBC CK [.ref r,.ref p,.ref J] (upd (upd H p (.tup O)) J (.tup U)) Q E0) ∨
  (∃ b dx fs,V.ref r=.ref b /\ H b=some (.ins CV dx fs) /\ fs.lookup (Str.ofString "before")=none /\ 2 <= sizeLine /\ ∀ p,H p=none->2 <= sizeLine /\ ∀ J,upd H p (.tup O) J=none->ZBP CU CK CV [.ref r,.ref p,.ref J] (upd (upd H p (.tup O)) J (.tup U)) Q E0) ∨
  (∃ b dx fs,V.ref r=.ref b /\ H b=some (.ins CC dx fs) /\ fs.lookup (Str.ofString "before")=none /\ 2 <= sizeLine /\ ∀ p,H p=none->2 <= sizeLine /\ ∀ J,upd H p (.tup O) J=none->ZBP CU CK CC [.ref r,.ref p,.ref J] (upd (upd H p (.tup O)) J (.tup U)) Q E0):=by
 have two:2 <= sizeLine:=ZAL (by decide)
 have S:∀ {p J:Addr},H p=none->upd H p (.tup O) J=none->Same H (upd (upd H p (.tup O)) J (.tup U)):=fun L z=>(ZAW L _).trans (ZAW z _)
 rcases h with (⟨dx,a⟩ | ⟨dx,c,a,b⟩) | h | h
 .exact .inl ⟨r,dx,_,rfl,a,rfl,two,fun p L=>⟨two,fun J z=>⟨r,_,_,rfl,q _ (S L z)⟩⟩⟩
 .exact .inr (.inl ⟨r,dx,_,rfl,a,ZDM (by decide +kernel),two,fun p L=>⟨two,fun J z=>⟨r,dx,c,_,_,rfl,S L z _ _ a,S L z _ _ b,q _ (S L z)⟩⟩⟩)
 .exact .inr (.inr (.inl (h.meth (.inl rfl) ⟨two,fun p L=>⟨two,fun J z=>⟨r,_,_,rfl,h.mono (S L z),fun H' s'=>q _ ((S L z).trans s')⟩⟩⟩)))
 .exact .inr (.inr (.inr (h.meth (.inl rfl) ⟨two,fun p L=>⟨two,fun J z=>⟨r,_,_,rfl,h.mono (S L z),fun H' s'=>q _ ((S L z).trans s')⟩⟩⟩)))
theorem colS_no:∀ cols:List (Int×Str),ZCe (cols.map colS)=true
 | []=>rfl
 | c::r=>by
  rw [yAU]
  unfold ZCe
  rw [colS_no r]
  rfl
theorem ZB4 {X J L:Hp} {lg t b:Addr} {o o1 O:HO} (s:Same X J) (U:J t=none) (h:Hd (upd (upd J t o1) lg O) L) (e:X b=some o) (n:b≠lg) (Y:∀ ob,o≠FZ ob:=by intro ob z;cases z):L b=some o :=
 h.get (by rw [ZAH n,ZAH (ZAI (s _ _ e) U)];exact s _ _ e) Y
theorem hd_clo {X J O:Hp} {lg t g:Addr} {ws:List V} {o1 L:HO} {iname iq:Str} {ip:Arguments} {ib:List Stmt} {isc:Scope} {cl:List (Str×Addr)} (s:Same X J) (U:J t=none) (hl:J lg=some (.lst ws)) (h:Hd (upd (upd J t o1) lg L) O) (e:CloM X g iname iq ip ib isc cl):CloM O g iname iq ip ib isc cl :=
 ((e.mono s.fz).mono (H':=upd (upd J t o1) lg L) fun b o e=>by
  rw [ZAH (fun z=>by rw [z,hl] at e;cases e),ZAH (ZAI e U)];exact e).hd h
theorem hd_ins {X J L:Hp} {lg t x C:Addr} {ws:List V} {o1 U:HO} {fl:List (Str×V)} (s:Same X J) (O:J t=none) (hl:X lg=some (.lst ws)) (h:Hd (upd (upd J t o1) lg U) L) (e:Ins X x C fl):Ins L x C fl:=by
 obtain ⟨dx,fs,h1,h2,h3⟩:=e.ex
 exact ⟨dx,fs,ZB4 s O h h1 (fun z=>by rw [z,hl] at h1;cases h1),h2,h3⟩
structure A14 (X:Hp) (p p4 lg g x L t1 t2:Addr) (z:Int) (v0 v1:V) (rest:List V) (CA:Addr) (cl:List (Str×Addr)) (i:Nat):Prop where
 hp:X p=some (.tup [.int z])
 h4:X p4=some (.lst (v0::v1::rest))
 hI:Ins X x CA (fG g)
 hC:CloM X g "_law_teller" "_law_asked.<locals>._law_teller" (ZAK ZAM) (ZAJ ZAM) (ZAC ZAM) cl
 hL:X L=some (.lst [.ref t1,.ref t2])
 h1:X t1=some (.tup [v0,v1])
 h2:X t2=some (.tup [v1,v0])
 n4:p4≠lg
 nL:L≠lg
 hw:∃ ws:List V,X lg=some (.lst ws) /\ ws.length=i /\ ∀ (j:Nat) v,ws[j]?=some v->∃ a,v=.ref a /\ X a=some (.tup (if j=0 then [v0,v1] else [v1,v0]))
theorem A14.step {X H3 H5:Hp} {p p4 lg g x L t1 t2 t:Addr} {z:Int} {v0 v1:V} {rest ws:List V} {CA:Addr} {cl:List (Str×Addr)} {i:Nat} {o1:List V} (h:A14 X p p4 lg g x L t1 t2 z v0 v1 rest CA cl i) (hl:X lg=some (.lst ws)) (s:Same X H3) (J:H3 t=none) (ho:o1=if i=0 then [v0,v1] else [v1,v0])
  (d:Hd (upd (upd H3 t (.tup o1)) lg (.lst (ws++[.ref t]))) H5):A14 H5 p p4 lg g x L t1 t2 z v0 v1 rest CA cl (i+1):=by
 have U:∀ b xs,X b=some (.tup xs)->b≠lg:=fun b xs e z=>by rw [z,hl] at e;cases e
 have Z:t≠lg:=fun z=>by rw [z,s _ _ hl] at J;cases J
 refine ⟨ZB4 s J d h.hp (U _ _ h.hp),ZB4 s J d h.h4 h.n4,hd_ins s J hl d h.hI,hd_clo s J (s _ _ hl) d h.hC,ZB4 s J d h.hL h.nL,ZB4 s J d h.h1 (U _ _ h.h1),ZB4 s J d h.h2 (U _ _ h.h2),h.n4,h.nL,?_⟩
 obtain ⟨a0,e1,e2,e3⟩:=h.hw
 rw [hl] at e1
 cases e1
 refine ⟨ws++[.ref t],d.get ZAE,by rw [yAI,e2];rfl,fun j v O=>?_⟩
 by_cases hj:j < ws.length
 .rw [yAY hj] at O
  obtain ⟨a,f1,f2⟩:=e3 j v O
  exact ⟨a,f1,ZB4 s J d f2 (U _ _ f2)⟩
 .rw [yAX (by omega)] at O
  have Y:=(yAP.mp O).1
  rw [yAM] at Y
  rw [show j-ws.length=0 by omega] at O
  cases O
  refine ⟨t,rfl,?_⟩
  rw [show j=i by omega,<- ho]
  exact d.get (by rw [ZAH Z,ZAE])
theorem cutV_to {xs:List V} {n:Nat} (h:n <= xs.length):cutV xs none (some (n:Int))=xs.take n:=by
 unfold cutV
 rw [HT.sIx_none,HT.sIx_nat,Nat.min_eq_left h,Nat.sub_zero]
 rfl
theorem cutV_fr {xs:List V} {n:Nat} (h:n <= xs.length):cutV xs (some (n:Int)) none=xs.drop n:=by
 unfold cutV
 rw [HT.sIx_none,HT.sIx_nat,Nat.min_eq_left h]
 exact List.take_of_length_le (by rw [List.length_drop];exact yAA _)
theorem dp_take {K:W.Frag} {H:Hp}:∀ (k:Nat) {ds:List PyData} {vs:List V},DpAll K H ds vs->DpAll K H (ds.take k) (vs.take k)
 | 0,ds,vs,_=>by rw [List.take_zero,List.take_zero];exact .nil
 | k+1,[],vs,h=>by unfold DpAll at h;subst h;exact .nil
 | k+1,d::ds,vs,h=>by
  unfold DpAll at h
  obtain ⟨v,ys,rfl,z,J⟩:=h
  exact .cons z (dp_take k J)
theorem dp_drop {K:W.Frag} {H:Hp}:∀ (k:Nat) {ds:List PyData} {vs:List V},DpAll K H ds vs->DpAll K H (ds.drop k) (vs.drop k)
 | 0,ds,vs,h=>h
 | k+1,[],vs,h=>by unfold DpAll at h;subst h;exact .nil
 | k+1,d::ds,vs,h=>by
  unfold DpAll at h
  obtain ⟨v,ys,rfl,J,z⟩:=h
  exact dp_drop k z
theorem no_at14 (f c:Int) (h:0 <= f):∃ w,atI [V.int (-1),V.int 8,V.int (8+f),V.int (-1-f)] (c % 4)=some (.int w) /\ ¬ (0 <= w /\ w <= 7):=by
 have z:=Int.emod_nonneg c (show (4:Int)≠0 by decide)
 have h1:=Int.emod_lt_of_pos c (show (0:Int) < 4 by decide)
 generalize c % 4=k at z h1 ⊢
 obtain rfl | rfl | rfl | rfl:k=0∨k=1∨k=2∨k=3:=by omega
 .exact ⟨_,rfl,by omega⟩
 .exact ⟨_,rfl,by omega⟩
 .exact ⟨_,rfl,by omega⟩
 .exact ⟨_,rfl,by omega⟩
theorem no_way14 (c:Int):∃ w:Str,atI [V.str (Str.ofString ""),V.str (Str.ofString "Up"),V.str (Str.ofString "downs"),V.str (Str.ofString "left"),V.str (Str.ofString "up ")] (c % 5)=some (.str w) /\ ¬ (w=("up":Str)∨w=("down":Str)):=by
 have z:=Int.emod_nonneg c (show (5:Int)≠0 by decide)
 have h1:=Int.emod_lt_of_pos c (show (0:Int) < 5 by decide)
 generalize c % 5=k at z h1 ⊢
 obtain rfl | rfl | rfl | rfl | rfl:k=0∨k=1∨k=2∨k=3∨k=4:=by omega
 .exact ⟨_,rfl,by decide +kernel⟩
 .exact ⟨_,rfl,by decide +kernel⟩
 .exact ⟨_,rfl,by decide +kernel⟩
 .exact ⟨_,rfl,by decide +kernel⟩
 .exact ⟨_,rfl,by decide +kernel⟩
structure F14 (K:W.Frag) (X:Hp) (a:Addr) (ns:List Int) (l:Addr) (xs:List V) (cols:List (Int×Str)) (Pt:Addr):Prop where
 S:SqL K X a (ns.map V.int)
 l:X l=some (.lst xs)
 d:DpAll K X (cols.map colS) xs
 pt:X Pt=some (.tbl #[])
theorem F14.mono {K:W.Frag} {X Y:Hp} {a l Pt:Addr} {ns:List Int} {xs:List V} {cols:List (Int×Str)} (s:Same X Y) (h:F14 K X a ns l xs cols Pt):F14 K Y a ns l xs cols Pt:=⟨s.seq h.S,s _ _ h.l,h.d.mono s,s _ _ h.pt⟩
theorem once14 {M:Hp->Prop} (P:Hp->Prop) {G:Prop} (h:(∀ x,P x->M x)->G) (t:∀ x,P x->M x):G:=h t
theorem rows_put {X G:Hp} {l r:Addr} {n:Nat} {ms:List Nat} {L vs:List V} {i:Nat} (hl:X l=some (.lst L)) (U:L.length=ms.length) (hm:∀ (i:Nat) v,L[i]?=some v->∃ r vs,v=.ref r /\ X r=some (.lst vs) /\ ms[i]?=some vs.length)
  (hi:L[i]?=some (.ref r)) (nl:l≠r) (O:G=upd X r (.lst vs)) (Z:vs.length≠n):∃ J,RowsAt G l J /\ J.length=ms.length /\ ∃ m∈J,m≠n:=by
 let f:V->Nat:=fun v=>match v with | .ref b=>(match G b with | some (.lst us)=>us.length | _=>0) | _=>0
 refine ⟨L.map f,⟨L,by rw [O,ZAH nl];exact hl,by rw [yAF],fun j v Y=>?_⟩,by rw [yAF,U],vs.length,?_,Z⟩
 .obtain ⟨b,us,rfl,hb,_⟩:=hm j v Y
  by_cases z:b=r
  .refine ⟨b,vs,rfl,by rw [O,z,ZAE],?_⟩
   rw [yAS,Y]
   show some (f (.ref b))=_
   have:G b=some (.lst vs):=by rw [O,z,ZAE]
   simp only [f,this]
  .refine ⟨b,us,rfl,by rw [O,ZAH z];exact hb,?_⟩
   rw [yAS,Y]
   show some (f (.ref b))=_
   have:G b=some (.lst us):=by rw [O,ZAH z];exact hb
   simp only [f,this]
 .refine yBG.mpr ⟨.ref r,yAQ hi,?_⟩
  have:G r=some (.lst vs):=by rw [O,ZAE]
  simp only [f,this]
theorem max7 {xs:List Int} (h:∀ x∈xs,x <= 7):maxD (-1) (xs++[7])=7:=by
 cases xs with
 | nil=>rfl
 | cons x r=>
  show ((r++[7]).foldl (fun m y=>if m < y then y else m) x)=7
  obtain ⟨h1,h2,h3⟩:=ZCB (r++[7]) x
  have J:=h3 7 (by simp)
  rcases h1 with z | z
  .have:=h x yAL
   omega
  .rcases yAW.mp z with w | w
   .have:=h _ (yAK _ w)
    omega
   .have:=yBH.mp w
    omega
theorem ZDG {K:W.Frag} {C CE:Addr} {G:Hp} {c x dx:Addr} {xs:List V} {cols:List (Int×Str)} {R:Hp->Prop} {E:XK} (h:G c=some (.lst xs)) (hd:DpAll K G (cols.map colS) xs) (O:∀ c∈cols,good c.1 c.2) (hx:G x=none) (L:G dx=none)
  (q:∀ l H',Same G H'->H' l=some (.lst xs)->H' x=some (.ins C dx (putF "columns" (.ref l) []))->R H'):ZCy K C CE [.ref x,.ref c] (upd (upd G dx (.own x)) x (.ins C dx [])) (fun v H2=>v=.non /\ R H2) E:=by
 have S:=ZAd (C:=C) hx L
 refine ⟨x,dx,c,xs,cols,rfl,ZAE,S _ _ h,hd.mono S,fun _ l hl=>⟨rfl,?_⟩,fun ⟨c,h1,h2⟩=>absurd (O c h1) h2⟩
 have J:l≠x:=fun z=>by rw [z,ZAE] at hl;cases hl
 refine q l _ (fun b o e=>?_) (by rw [ZAH J,ZAE]) ZAE
 rw [ZAH (ZAI e hx),ZAH (ZAI (S _ _ e) hl)]
 exact S _ _ e
structure Mo (K:W.Frag) (CU CK CV CC:Addr) (X:Hp) (r:Addr):Prop where
 mu:Mu CU CK CV CC X r
 ty:∃ C dx fs,X r=some (.ins C dx fs) /\ (∀ (H:Hp) p d fs,H p=some (.ins C d fs)->TyOf K H (.ref p) (.ref C)) /\ PySem.W.kitOne K (.ref C) (.ref CU)=some true
theorem Mo.mono {K:W.Frag} {CU CK CV CC:Addr} {X Y:Hp} {r:Addr} (s:Same X Y) (h:Mo K CU CK CV CC X r):Mo K CU CK CV CC Y r:=⟨h.mu.mono s,let ⟨C,dx,fs,a,b⟩:=h.ty;⟨C,dx,fs,s _ _ a,b⟩⟩
theorem Mo.ins {K:W.Frag} {CU CK CV CC C:Addr} {X:Hp} {r:Addr} {fl:List (Str×V)} (m:Mu CU CK CV CC X r) (i:Ins X r C fl) (t:∀ (H:Hp) p d fs,H p=some (.ins C d fs)->TyOf K H (.ref p) (.ref C)) (k:PySem.W.kitOne K (.ref C) (.ref CU)=some true):Mo K CU CK CV CC X r :=
 ⟨m,let ⟨dx,fs,a,_⟩:=i.ex;⟨C,dx,fs,a,t,k⟩⟩
theorem madeH {G:Hp} {x dx C:Addr} (hx:G x=none) (z:G dx=none):∃ V,upd (upd G dx (.own x)) x (.ins C dx [])=V /\ Same G V /\ V x=some (.ins C dx []):=⟨_,rfl,ZAd hx z,ZAE⟩
section
variable {P:Program} {w:World} {K:W.Frag} {mg:Str->Option Value} {base:Heap} {C_Rule C_KeyRule C_NearRule C_RingRule C_TableRule C_VoteRule C_ChainRule C_AskedRule C_HallError C_NoRule C_NoPaper C_NoPlace C_NoKey C_NoRow C_NoOrder C_TooFar C_Spent:Addr} {cc_asked Pt_asked:Addr}
theorem clo_asked (T:Bt K mg C_Rule C_KeyRule C_NearRule C_RingRule C_TableRule C_VoteRule C_ChainRule C_AskedRule C_HallError C_NoRule C_NoPaper C_NoPlace C_NoKey C_NoRow C_NoOrder C_TooFar C_Spent):CloOk P w K mg base 1 (rT14):=by
 refine clo_of (k:=0) (iname:="_law_teller") (iq:="_law_asked.<locals>._law_teller") (ip:=ZAK ZAM) (ib:=ZAJ ZAM) (isc:=ZAC ZAM) csc_asked (fun f vs H Q h=>?_) (fun f vs H Q h=>?_) (fun cl a2 pm a0 c' us hl=>match us,hl with | [_,_],_=>rfl) (fun g cs cl cd A outer s H vs Q hr C h=>?_)
 .obtain ⟨g,lg,x,y,b,ws,rfl,rfl,J,O,U,q⟩:=h
  exact ⟨_,_,rfl,J⟩
 .obtain ⟨g,lg,x,y,b,ws,rfl,rfl,J,O,U,q⟩:=h
  rfl
 obtain ⟨g,lg,x,y,b,ws,eg,rfl,J,O,U,q⟩:=h
 cases eg
 obtain ⟨a1,C2⟩:=J
 obtain rfl:=C.inj' C2
 refine ⟨_,(ZAF (ZBX (ZD0 PySem.F.plainAttrs_list PySem.F.slot_list_append PySem.F.type_list_append ZCX (pv 3) (ZAA (ZAu (ZAA (pv 0) (ZAA (pv 1) ZAB))) ZAB)))
  (ZAG (ZAN (pv 2)))),?_⟩
 walk_at "rd"
 have cells:=C.cells
 have L:hid cl H lg=some (.lst ws):=ZBK cells O (by intro ob z;cases z)
 refine ⟨.inl ⟨rfl,_,SqL.of L⟩,ZAL (by decide),fun t Y=>?_⟩
 have Z:t≠lg:=fun z=>by rw [z,L] at Y;cases Y
 refine ⟨lg,ws,_,rfl,rfl,ZAW Y _ _ _ L,ZB9 (by omega),fun hn=>?_⟩
 have nt:=hn.ne (b:=t) (by rw [ZAH Z,ZAE])
 have nl:=hn.ne (b:=lg) ZAE
 rw [back_upd nl,back_upd nt,back_hid]
 exact q t (hid_none cells Y nt)
theorem ok_check_at {f:Addr} {fd:FuncData} (F:Fun K "check_at" "check_at" ZBL f fd) (T:Bt K mg C_Rule C_KeyRule C_NearRule C_RingRule C_TableRule C_VoteRule C_ChainRule C_AskedRule C_HallError C_NoRule C_NoPaper C_NoPlace C_NoKey C_NoRow C_NoOrder C_TooFar C_Spent)
 :FnOk P w K mg base (CXE P w) 1 f fd ["at"] (ZBq C_NoRule):=by
 refine F.okX sc_check_at (fun vs H Q E h=>?_) (fun L A outer s H vs Q E O h=>?_)
 .obtain ⟨i,rfl,J,z⟩:=h
  rfl
 obtain ⟨i,rfl,J,z⟩:=h
 refine ⟨_,(ZAG (ZBI (PW.pt (ZCU (ZAh ZDi (pv 0) ZAD (ZAo _)) (ZBi (ZAh ZD1 (pv 0) (pe_gint rfl T.c_GREATEST_AT) (ZAo _)))))
  (ZAG (ZCA T.xq_NoRule T.m_NoRule rfl)) ZAX)),?_⟩
 walk_at "rd"
 by_cases h:0 <= i /\ i <= 7
 .rw [if_neg (by omega),if_neg (by omega)]
  exact J h
 .by_cases h2:i < 0
  .rw [if_pos h2]
   exact z h
  .rw [if_neg h2,if_pos (by omega)]
   exact z h
theorem ok_check_column {f:Addr} {fd:FuncData} (F:Fun K "check_column" "check_column" ZA0 f fd) (T:Bt K mg C_Rule C_KeyRule C_NearRule C_RingRule C_TableRule C_VoteRule C_ChainRule C_AskedRule C_HallError C_NoRule C_NoPaper C_NoPlace C_NoKey C_NoRow C_NoOrder C_TooFar C_Spent)
  (J:Fn P w K mg base (CXE P w) "check_at" 1 ["at"] (ZBq C_NoRule))
 :FnOk P w K mg base (CXE P w) 2 f fd ["at","way"] (ZB2 C_NoRule):=by
 refine F.okX sc_check_column (fun vs H Q E h=>?_) (fun Y A outer s H vs Q E U h=>?_)
 .obtain ⟨i,w,rfl,L,O⟩:=h
  rfl
 obtain ⟨i,w,rfl,L,O⟩:=h
 refine ⟨_,(ZAF (ZBX (ZA6 J (U.mono (by decide)) rfl ZC1 (ZAA (pv 0) ZAB)))
  (ZAG (ZBI (PW.pt (pw_and (ZAh ZCa (pv 1) (ZDE rfl T.c_UP) (ZAo _)) (pw_and1 (ZAh ZCa (pv 1) (ZDE rfl T.c_DOWN) (ZAo _)))))
  (ZAG (ZCA T.xq_NoRule T.m_NoRule rfl)) ZAX))),?_⟩
 walk_at "rd"
 refine ⟨i,rfl,fun h=>?_,fun h=>O (fun z=>h z.1)⟩
 walk_at "rd"
 by_cases h1:w=("up":Str)
 .rw [if_neg (fun z=>z h1)]
  exact L ⟨h,.inl h1⟩
 .rw [if_pos h1]
  by_cases h2:w=("down":Str)
  .rw [if_neg (fun z=>z h2)]
   exact L ⟨h,.inr h2⟩
  .rw [if_pos h2]
   exact O (fun z=>z.2.elim h1 h2)
theorem ok_Rule_before {f:Addr} {fd:FuncData} (F:Fun K "before" "Rule.before" ZA4 f fd) (T:Bt K mg C_Rule C_KeyRule C_NearRule C_RingRule C_TableRule C_VoteRule C_ChainRule C_AskedRule C_HallError C_NoRule C_NoPaper C_NoPlace C_NoKey C_NoRow C_NoOrder C_TooFar C_Spent)
 :FnOk P w K mg base CX0 1 f fd ["self","x","y"] (ZBM):=by
 refine F.ok sc_Rule_before (fun vs H Q E h=>?_) (fun z A outer s H vs Q E J h=>?_)
 .obtain ⟨p,x,y,rfl,q⟩:=h
  rfl
 obtain ⟨p,x,y,rfl,q⟩:=h
 refine ⟨_,(ZAG (ZAN ZBN)),?_⟩
 walk_at "rd"
 exact q
theorem ok_Rule_widest {f:Addr} {fd:FuncData} (F:Fun K "widest" "Rule.widest" ZA3 f fd) (T:Bt K mg C_Rule C_KeyRule C_NearRule C_RingRule C_TableRule C_VoteRule C_ChainRule C_AskedRule C_HallError C_NoRule C_NoPaper C_NoPlace C_NoKey C_NoRow C_NoOrder C_TooFar C_Spent)
 :FnOk P w K mg base CX0 1 f fd ["self"] (ZBG):=by
 refine F.ok sc_Rule_widest (fun vs H Q E h=>?_) (fun z A outer s H vs Q E J h=>?_)
 .obtain ⟨p,rfl,q⟩:=h
  rfl
 obtain ⟨p,rfl,q⟩:=h
 refine ⟨_,(ZAG (ZAN (ZC0 ZCH ZAD))),?_⟩
 walk_at "rd"
 exact q
theorem ok_KeyRule_init {f:Addr} {fd:FuncData} (F:Fun K "__init__" "KeyRule.__init__" ZA1 f fd) (T:Bt K mg C_Rule C_KeyRule C_NearRule C_RingRule C_TableRule C_VoteRule C_ChainRule C_AskedRule C_HallError C_NoRule C_NoPaper C_NoPlace C_NoKey C_NoRow C_NoOrder C_TooFar C_Spent)
  (J:Fn P w K mg base (CXE P w) "check_column" 2 ["at","way"] (ZB2 C_NoRule))
 :FnOk P w K mg base (CXE P w) 3 f fd ["self","columns"] (ZCy K C_KeyRule C_NoRule):=by
 refine F.okX sc_KeyRule_init (fun vs H Q E h=>?_) (fun a0 A outer s H vs Q E hr h=>?_)
 .obtain ⟨p,dx,c,xs,cols,rfl,hp,hc,hd,q1,q2⟩:=h
  rfl
 obtain ⟨p,dx,c,xs,cols,rfl,hp,hc,hd,q1,q2⟩:=h
 refine ⟨_,(ZAF (PS.inX (ZCI (passO ⟨rfl,rfl⟩) rfl (ZBE (pv 1)) (ZDN (n:=2) rfl (ZBR (ZAt (i:=2) sc_KeyRule_init.nd rfl (by walk_at "o")) (ZBR (ZAt (i:=3) sc_KeyRule_init.nd rfl (by walk_at "o")) ZCq)))
  (ZAG (ZBX (ZA6 J (hr.mono (by decide)) rfl passL (ZAA (pv 2) (ZAA (pv 3) ZAB)))))))
  (ZAG (PS.nox (ZBw (pv 0) (ZBn ZBV rfl T.b_list PyProof.Rows.boot_list (ZAA (pv 1) ZAB)) rfl)))),?_⟩
 walk_at "rd"
 refine ZB5 (SqL.of hc) (fun i σ H'=>H'=H /\ (∀ c∈cols.take i,good c.1 c.2) /\ ∃ Y U,σ=[some (.ref p),some (.ref c),Y,U]) ⟨rfl,fun c hc=>by simp at hc,_,_,rfl⟩ (fun i σ H' _ h=>by rw [h.1];exact SqL.of hc) ?_ ?_
 .rintro i x σ H' hx ⟨rfl,L,Y,U,rfl⟩
  obtain ⟨c',t,ec,rfl,ht⟩:=colS_at hd hx
  refine ZDI ht rfl ?_
  walk_at "rd"
  refine ⟨c'.1,c'.2,rfl,fun Z=>⟨rfl,fun c2 h2=>?_,_,_,rfl⟩,fun Z=>q2 ⟨c',yAQ ec,Z⟩⟩
  rw [List.take_add_one,ec] at h2
  rcases yAW.mp h2 with z | z
  .exact L c2 z
  .rw [Option.toList_some,yBH] at z
   rw [z];exact Z
 .rintro σ H' ⟨rfl,L,Y,U,rfl⟩
  walk_at "rd"
  refine ⟨c,xs,rfl,.inl (SqL.of hc),fun l hl=>?_⟩
  have O:xs.length=cols.length:=by rw [hd.length,yAF]
  rw [O,List.take_of_length_le (yAA _)] at L
  exact setF_of (ZCN hl hp) T.cl_KeyRule T.n_KeyRule_columns (by decide) (q1 L l hl)
theorem ok_KeyRule_before {f:Addr} {fd:FuncData} (F:Fun K "before" "KeyRule.before" ZAk f fd) (T:Bt K mg C_Rule C_KeyRule C_NearRule C_RingRule C_TableRule C_VoteRule C_ChainRule C_AskedRule C_HallError C_NoRule C_NoPaper C_NoPlace C_NoKey C_NoRow C_NoOrder C_TooFar C_Spent)
 :FnOk P w K mg base CX0 1 f fd ["self","x","y"] (ZBC C_KeyRule):=by
 refine F.ok sc_KeyRule_before (fun vs H Q E h=>?_) (fun U A outer s H vs Q E Y h=>?_)
 .obtain ⟨p,dx,c,x,y,rfl,L,hc,q⟩:=h
  rfl
 obtain ⟨p,dx,c,x,y,rfl,L,hc,q⟩:=h
 refine ⟨_,(ZAF (ZCI PassesOwn.never rfl (ZBE (ZBl (pv 0) rfl)) (ZDN (n:=2) rfl (ZBR (ZAt (i:=3) sc_KeyRule_before.nd rfl (by walk_at "o")) (ZBR (ZAt (i:=4) sc_KeyRule_before.nd rfl (by walk_at "o")) ZCq)))
  (ZAG (ZBI (ZAh ZCa (ZBb ZCf (pv 1) (pv 3) (fun _ _=>rfl)) (ZBb ZCf (pv 2) (pv 3) (fun _ _=>rfl)) (ZAo _))
  (ZAG (ZAN (pe_ifExp (ZAh ZC2 (pv 4) (ZDE rfl T.c_UP) (ZAo _)) (ZBm ZDi (ZBb ZCf (pv 1) (pv 3) (fun _ _=>rfl)) (ZBb ZCf (pv 2) (pv 3) (fun _ _=>rfl)) (ZAo _)) (ZBm ZD1 (ZBb ZCf (pv 1) (pv 3) (fun _ _=>rfl)) (ZBb ZCf (pv 2) (pv 3) (fun _ _=>rfl)) (ZAo _))))) ZAX)))
  (ZAG (ZAN ZBN))),?_⟩
 walk_at "rd"
 refine ZDH L T.cl_KeyRule T.n_KeyRule_columns putF1 ?_
 refine ZB5 (SqL.of hc) (fun i σ H'=>H'=H /\ ∃ z J,σ=[some (.ref p),some x,some y,z,J]) ⟨rfl,_,_,rfl⟩ (fun i σ H' _ h=>by rw [h.1];exact SqL.of hc) ?_ ?_
 .rintro i v σ H' O ⟨rfl,z,J,rfl⟩
  simp at O
 .rintro σ H' ⟨rfl,z,J,rfl⟩
  walk_at "rd"
  exact q
theorem ok_KeyRule_widest {f:Addr} {fd:FuncData} (F:Fun K "widest" "KeyRule.widest" ZAj f fd) (T:Bt K mg C_Rule C_KeyRule C_NearRule C_RingRule C_TableRule C_VoteRule C_ChainRule C_AskedRule C_HallError C_NoRule C_NoPaper C_NoPlace C_NoKey C_NoRow C_NoOrder C_TooFar C_Spent)
 :FnOk P w K mg base CX0 1 f fd ["self"] (ZBB K C_KeyRule):=by
 refine F.ok sc_KeyRule_widest (fun vs H Q E h=>?_) (fun Z A outer s H vs Q E hr h=>?_)
 .obtain ⟨p,dx,c,xs,cols,rfl,U,hc,hd,O,q⟩:=h
  rfl
 obtain ⟨p,dx,c,xs,cols,rfl,U,hc,hd,O,q⟩:=h
 refine ⟨_,(ZAG (ZAN (pe_maxd rfl (ZCW rfl (k:=2) (js:=[]) (N':=["at","way"]) (by rfl) (ZBE (ZBl (pv 0) rfl)) (fun _ _ _ _=>pg_tupK (n:=2) K rfl (ZBR (ZAt (i:=0) (show (["at","way"]:List Str).Nodup by decide +kernel) rfl (by walk_at "o")) (ZBR (ZAt (i:=1) (show (["at","way"]:List Str).Nodup by decide +kernel) rfl (by walk_at "o")) ZCq))) (fun _ _ _ _=>ZBr) (fun _ _ _ _=>(pv 0))) (ZC0 ZCH ZAD) rfl T.b_max))),?_⟩
 walk_at "rd"
 refine ZDH U T.cl_KeyRule T.n_KeyRule_columns putF1 ?_
 have J:xs.length=cols.length:=by rw [hd.length,yAF]
 refine ZBu (SqL.of hc) (by omega) (fun i ys σ X=>∃ v w,σ=[v,w] /\ X=H /\ ys=((cols.take i).map (·.1)).map V.int) ⟨_,_,rfl,rfl,rfl⟩ (fun i ys σ X _ z=>?_) (fun i ys x σ X hi hx z=>?_) fun ys σ X z p2 L=>?_
 .obtain ⟨v,w,_,e,e2⟩:=z
  rw [e,e2,yAF,yAF,List.length_take]
  exact ⟨SqL.of hc,by omega⟩
 .obtain ⟨v,w,rfl,rfl,rfl⟩:=z
  obtain ⟨c',t,ec,rfl,Y⟩:=colS_at hd hx
  refine ZDI Y rfl ?_
  walk_at "rd"
  exact .of hi ⟨_,_,rfl,rfl,by rw [List.take_add_one,ec,yBD,yBD];rfl⟩
 .obtain ⟨v,w,rfl,rfl,rfl⟩:=z
  rw [J,List.take_of_length_le (yAA _)]
  exact ⟨p2,cols.map (·.1),_,rfl,rfl,SqL.of ZAE,q _ (ZAW L _)⟩
theorem ok_NearRule_init {f:Addr} {fd:FuncData} (F:Fun K "__init__" "NearRule.__init__" ZAs f fd) (T:Bt K mg C_Rule C_KeyRule C_NearRule C_RingRule C_TableRule C_VoteRule C_ChainRule C_AskedRule C_HallError C_NoRule C_NoPaper C_NoPlace C_NoKey C_NoRow C_NoOrder C_TooFar C_Spent)
  (J:Fn P w K mg base (CXE P w) "check_at" 1 ["at"] (ZBq C_NoRule))
 :FnOk P w K mg base (CXE P w) 2 f fd ["self","at","gap"] (ZB8 C_NearRule C_NoRule):=by
 refine F.okX sc_NearRule_init (fun vs H Q E h=>?_) (fun a0 A outer s H vs Q E Z h=>?_)
 .obtain ⟨x,dx,a,O,rfl,hx,U,L⟩:=h
  rfl
 obtain ⟨x,dx,a,O,rfl,hx,U,L⟩:=h
 refine ⟨_,(ZAF (ZBX (ZA6 J (Z.mono (by decide)) rfl ZC1 (ZAA (pv 1) ZAB)))
  (ZAF (ZBI (ZAh ZDi (pv 2) ZAD (ZAo _))
  (ZAG (ZCA T.xq_NoRule T.m_NoRule rfl)) ZAX)
  (ZAF (PS.nox (ZBw (pv 0) (pv 1) rfl))
  (ZAG (PS.nox (ZBw (pv 0) (pv 2) rfl)))))),?_⟩
 walk_at "rd"
 refine ⟨a,rfl,fun h=>?_,fun h=>L (fun z=>h z.1)⟩
 walk_at "rd"
 by_cases hg:0 <= O
 .rw [if_neg (by omega)]
  refine setX hx T.cl_NearRule T.n_NearRule_at (by decide) fun H2 Y k2=>?_
  walk_at "rd"
  refine setX Y T.cl_NearRule T.n_NearRule_gap ZDT fun H3 x3 k3=>?_
  exact U ⟨h,hg⟩ H3 (fun b o n e=>by rw [k3 b n,k2 b n];exact e) ((Ins.of x3 (yAD ZDz (by decide))).congr fun f=>by simp only [ZAp,lkc])
 .rw [if_pos (by omega)]
  exact L (fun z=>hg z.2)
theorem ok_NearRule_widest {f:Addr} {fd:FuncData} (F:Fun K "widest" "NearRule.widest" ZAc f fd) (T:Bt K mg C_Rule C_KeyRule C_NearRule C_RingRule C_TableRule C_VoteRule C_ChainRule C_AskedRule C_HallError C_NoRule C_NoPaper C_NoPlace C_NoKey C_NoRow C_NoOrder C_TooFar C_Spent)
 :FnOk P w K mg base CX0 1 f fd ["self"] (ZCQ C_NearRule):=by
 refine F.ok sc_NearRule_widest (fun vs H Q E h=>?_) (fun L A outer s H vs Q E O h=>?_)
 .obtain ⟨p,a,J,rfl,z,q⟩:=h
  rfl
 obtain ⟨p,a,J,rfl,z,q⟩:=h
 refine ⟨_,(ZAG (ZAN (ZBl (pv 0) rfl))),?_⟩
 walk_at "rd"
 exact z.get T.cl_NearRule T.n_NearRule_at (by walk_at "lk") q
theorem ok_RingRule_init {f:Addr} {fd:FuncData} (F:Fun K "__init__" "RingRule.__init__" ZAr f fd) (T:Bt K mg C_Rule C_KeyRule C_NearRule C_RingRule C_TableRule C_VoteRule C_ChainRule C_AskedRule C_HallError C_NoRule C_NoPaper C_NoPlace C_NoKey C_NoRow C_NoOrder C_TooFar C_Spent)
  (J:Fn P w K mg base (CXE P w) "check_at" 1 ["at"] (ZBq C_NoRule))
 :FnOk P w K mg base (CXE P w) 2 f fd ["self","at","size"] (ZB7 C_RingRule C_NoRule):=by
 refine F.okX sc_RingRule_init (fun vs H Q E h=>?_) (fun a0 A outer s H vs Q E Z h=>?_)
 .obtain ⟨x,dx,a,O,rfl,hx,U,L⟩:=h
  rfl
 obtain ⟨x,dx,a,O,rfl,hx,U,L⟩:=h
 refine ⟨_,(ZAF (ZBX (ZA6 J (Z.mono (by decide)) rfl ZC1 (ZAA (pv 1) ZAB)))
  (ZAF (ZBI (ZAh ZDi (pv 2) ZAD (ZAo _))
  (ZAG (ZCA T.xq_NoRule T.m_NoRule rfl)) ZAX)
  (ZAF (PS.nox (ZBw (pv 0) (pv 1) rfl))
  (ZAG (PS.nox (ZBw (pv 0) (pv 2) rfl)))))),?_⟩
 walk_at "rd"
 refine ⟨a,rfl,fun h=>?_,fun h=>L (fun z=>h z.1)⟩
 walk_at "rd"
 by_cases hg:1 <= O
 .rw [if_neg (by omega)]
  refine setX hx T.cl_RingRule T.n_RingRule_at (by decide) fun H2 Y k2=>?_
  walk_at "rd"
  refine setX Y T.cl_RingRule T.n_RingRule_size ZDT fun H3 x3 k3=>?_
  exact U ⟨h,hg⟩ H3 (fun b o n e=>by rw [k3 b n,k2 b n];exact e) ((Ins.of x3 (yAD ZDz (by decide))).congr fun f=>by simp only [ZAp,lkc])
 .rw [if_pos (by omega)]
  exact L (fun z=>hg z.2)
theorem ok_RingRule_widest {f:Addr} {fd:FuncData} (F:Fun K "widest" "RingRule.widest" ZAb f fd) (T:Bt K mg C_Rule C_KeyRule C_NearRule C_RingRule C_TableRule C_VoteRule C_ChainRule C_AskedRule C_HallError C_NoRule C_NoPaper C_NoPlace C_NoKey C_NoRow C_NoOrder C_TooFar C_Spent)
 :FnOk P w K mg base CX0 1 f fd ["self"] (ZCP C_RingRule):=by
 refine F.ok sc_RingRule_widest (fun vs H Q E h=>?_) (fun L A outer s H vs Q E O h=>?_)
 .obtain ⟨p,a,J,rfl,z,q⟩:=h
  rfl
 obtain ⟨p,a,J,rfl,z,q⟩:=h
 refine ⟨_,(ZAG (ZAN (ZBl (pv 0) rfl))),?_⟩
 walk_at "rd"
 exact z.get T.cl_RingRule T.n_RingRule_at (by walk_at "lk") q
theorem ok_TableRule_init {f:Addr} {fd:FuncData} (F:Fun K "__init__" "TableRule.__init__" ZAi f fd) (T:Bt K mg C_Rule C_KeyRule C_NearRule C_RingRule C_TableRule C_VoteRule C_ChainRule C_AskedRule C_HallError C_NoRule C_NoPaper C_NoPlace C_NoKey C_NoRow C_NoOrder C_TooFar C_Spent)
  (J:Fn P w K mg base (CXE P w) "check_at" 1 ["at"] (ZBq C_NoRule))
 :FnOk P w K mg base (CXE P w) 2 f fd ["self","at","table"] (ZCK C_TableRule C_NoRule):=by
 refine F.okX sc_TableRule_init (fun vs H Q E h=>?_) (fun a6 A outer s H vs Q E hr h=>?_)
 .obtain ⟨x,dx,l,a,ns,rfl,hx,hM,hn,q1,q2⟩:=h
  rfl
 obtain ⟨x,dx,l,a,ns,rfl,hx,hM,hn,q1,q2⟩:=h
 refine ⟨_,(ZAF (ZBX (ZA6 J (hr.mono (by decide)) rfl ZC1 (ZAA (pv 1) ZAB)))
  (ZAF (PS.inG (ZCI (passOG ⟨rfl,rfl⟩) rfl (ZBE (pv 2)) (ZAt (i:=3) sc_TableRule_init.nd rfl (by walk_at "o"))
  (ZAG (ZBI (ZAh ZCa (ZAO ZAv rfl T.b_len PySem.boot_len (ZAA (pv 3) ZAB)) (ZAO ZAv rfl T.b_len PySem.boot_len (ZAA (pv 2) ZAB)) (ZAo _))
  (ZAG (ps_raise0G rfl T.xq_NoRule T.m_NoRule rfl)) ZAX))))
  (ZAF (PS.nox (ZBw (pv 0) (pv 1) rfl))
  (ZAG (PS.nox (ZBw (pv 0) (ZCW rfl (k:=1) (js:=[]) (N':=["truths"]) (by rfl) (ZBE (pv 2)) (fun _ _ _ _=>ZAt (i:=0) (show (["truths"]:List Str).Nodup by decide +kernel) rfl (by walk_at "o")) (fun _ _ _ _=>ZBr) (fun _ _ _ _=>(ZBn (call_list_ofK K) rfl T.b_list PyProof.Rows.boot_list (ZAA (pv 0) ZAB)))) rfl)))))),?_⟩
 walk_at "rd"
 refine ⟨a,rfl,fun h=>?_,fun h=>q2 (fun z=>h z.1)⟩
 obtain ⟨rs,hl,a4,hm⟩:=id hM
 have a7:l≠x:=fun z=>by rw [z,hx] at hl;cases hl
 walk_at "rd"
 refine ZB5 (SqL.of hl) (fun i σ X=>∃ v,σ=[some (.ref x),some (.int a),some (.ref l),v] /\ X=H /\ ∀ m∈ns.take i,m=ns.length) ⟨_,rfl,rfl,fun m hm=>by simp at hm⟩ (fun i σ X _ z=>?_) (fun i u σ X hu z=>?_) fun σ X z=>?_
 .obtain ⟨_,_,e,_⟩:=z
  rw [e];exact SqL.of hl
 .obtain ⟨v,rfl,rfl,L⟩:=z
  obtain ⟨r,vs,rfl,Y,U⟩:=hm i u hu
  walk_at "rd"
  refine ⟨r,vs,rfl,.inl (SqL.of Y),l,rs,rfl,.inl (SqL.of hl),?_⟩
  by_cases hne:vs.length=ns.length
  .rw [if_neg (by omega)]
   refine ⟨_,rfl,?_⟩
   intro m O
   rw [List.take_add_one,U] at O
   rcases yAW.mp O with z | z
   .exact L m z
   .rw [Option.toList_some,yBH] at z
    rw [z];exact hne
  .rw [if_pos (by omega)]
   exact q2 (fun z=>hne (z.2 _ (yAQ U)))
 obtain ⟨v,rfl,eX,L⟩:=z
 rw [eX]
 clear eX
 rw [a4,List.take_of_length_le (yAA _)] at L
 walk_at "rd"
 refine setX hx T.cl_TableRule T.n_TableRule_at (by decide) fun H2 x2 k2=>?_
 walk_at "rd"
 have a3:RowsAt H2 l ns:=hM.mono fun b xs e=>by rw [k2 b (fun z=>by rw [z,hx] at e;cases e)];exact e
 obtain ⟨a8,a0,a5,O⟩:=id a3
 refine ZBu (SqL.of a0) (by omega) (fun i ys σ X=>∃ v,σ=[v] /\ Same H2 X /\ ys.length=i) ⟨_,rfl,.refl _,rfl⟩ (fun i ys σ X _ z=>?_) (fun i ys u σ X hi hu z=>?_) fun ys σ X z p2 a2=>?_
 .obtain ⟨_,_,e,e2⟩:=z
  exact ⟨SqL.of (e _ _ a0),Nat.le_of_eq e2⟩
 .obtain ⟨v,rfl,sX,a1⟩:=z
  obtain ⟨r,vs,rfl,Y,U⟩:=O i u hu
  walk_at "rd"
  exact ⟨r,vs,rfl,.inl (SqL.of (sX _ _ Y)),fun r2 Z=>.of hi ⟨_,rfl,sX.trans (ZAW Z _),by rw [yAI,a1];rfl⟩⟩
 obtain ⟨v,rfl,sX,a1⟩:=z
 have sY:=sX.trans (ZAW a2 (.lst ys))
 have x3:=sY _ _ x2
 refine setX x3 T.cl_TableRule T.n_TableRule_table ZDT fun H3 x4 k3=>?_
 refine q1 ⟨h,L⟩ p2 H3 (fun b o nb e=>?_) ((Ins.of x4 (yAD ZDz (by decide))).congr fun f=>by simp only [ZAp,lkc])
 rw [k3 b nb]
 exact sY _ _ (by rw [k2 b nb];exact e)
theorem ok_TableRule_widest {f:Addr} {fd:FuncData} (F:Fun K "widest" "TableRule.widest" ZAQ f fd) (T:Bt K mg C_Rule C_KeyRule C_NearRule C_RingRule C_TableRule C_VoteRule C_ChainRule C_AskedRule C_HallError C_NoRule C_NoPaper C_NoPlace C_NoKey C_NoRow C_NoOrder C_TooFar C_Spent)
 :FnOk P w K mg base CX0 1 f fd ["self"] (ZCk C_TableRule):=by
 refine F.ok sc_TableRule_widest (fun vs H Q E h=>?_) (fun J A outer s H vs Q E L h=>?_)
 .obtain ⟨p,l,a,rfl,z,q⟩:=h
  rfl
 obtain ⟨p,l,a,rfl,z,q⟩:=h
 refine ⟨_,(ZAG (ZAN (ZBl (pv 0) rfl))),?_⟩
 walk_at "rd"
 exact z.get T.cl_TableRule T.n_TableRule_at (by walk_at "lk") q
theorem ok_VoteRule_init {f:Addr} {fd:FuncData} (F:Fun K "__init__" "VoteRule.__init__" ZAq f fd) (T:Bt K mg C_Rule C_KeyRule C_NearRule C_RingRule C_TableRule C_VoteRule C_ChainRule C_AskedRule C_HallError C_NoRule C_NoPaper C_NoPlace C_NoKey C_NoRow C_NoOrder C_TooFar C_Spent)
 :FnOk P w K mg base CX0 1 f fd ["self","rules"] (ZB0 C_VoteRule):=by
 refine F.ok sc_VoteRule_init (fun vs H Q E h=>?_) (fun U A outer s H vs Q E Y h=>?_)
 .obtain ⟨p,dx,c,xs,rfl,L,hc,q⟩:=h
  rfl
 obtain ⟨p,dx,c,xs,rfl,L,hc,q⟩:=h
 refine ⟨_,(ZAG (ZBw (pv 0) (ZBn ZBV rfl T.b_list PyProof.Rows.boot_list (ZAA (pv 1) ZAB)) rfl)),?_⟩
 walk_at "rd"
 refine ⟨c,xs,rfl,.inl (SqL.of hc),fun l hl=>?_⟩
 refine setX (ZCN hl L) T.cl_VoteRule T.n_VoteRule_rules (by decide) fun H2 O k2=>?_
 have J:l≠p:=fun z=>by rw [z,L] at hl;cases hl
 exact q l H2 hl J (fun b o n e=>by rw [k2 b n,ZAH (ZAI e hl)];exact e) (by rw [k2 l J,ZAE]) ((Ins.of O (yAD ZDT (by decide))).congr fun f=>by simp only [ZAp,lkc])
theorem ok_VoteRule_before {f:Addr} {fd:FuncData} (F:Fun K "before" "VoteRule.before" ZAa f fd) (T:Bt K mg C_Rule C_KeyRule C_NearRule C_RingRule C_TableRule C_VoteRule C_ChainRule C_AskedRule C_HallError C_NoRule C_NoPaper C_NoPlace C_NoKey C_NoRow C_NoOrder C_TooFar C_Spent)
  (L:Mt P w K mg base CX0 C_Rule "before" 1 ["self","x","y"] (ZBM))
  (J:Mt P w K mg base CX0 C_KeyRule "before" 1 ["self","x","y"] (ZBC C_KeyRule))
 :FnOk P w K mg base CX0 2 f fd ["self","x","y"] (ZBP C_Rule C_KeyRule C_VoteRule):=by
 refine F.ok sc_VoteRule_before (fun vs H Q E h=>?_) (fun a1 A outer s H vs Q E U h=>?_)
 .obtain ⟨r,x,y,rfl,hv,q⟩:=h
  rfl
 obtain ⟨r,x,y,rfl,hv,q⟩:=h
 refine ⟨_,(ZAF (ZCF (i:=3) sc_VoteRule_before.nd rfl (Or.inl rfl) rfl (k:=1) (js:=[1,2]) (N':=["rule","x","y"]) (by rfl) (ZBE (ZBl (pv 0) rfl)) (fun _ _ _ _=>ZAt (i:=0) (show (["rule","x","y"]:List Str).Nodup by decide +kernel) rfl (by walk_at "o")) (fun _ _ _ _=>(pifs_one (ZA9 (ZAn (ZBv L (U.mono (by decide)) ZAP (pv 0) (ZAA (pv 1) (ZAA (pv 2) ZAB))) (ZBv J (U.mono (by decide)) ZAP (pv 0) (ZAA (pv 1) (ZAA (pv 2) ZAB))))))) (fun _ _ _ _=>(pv 0)))
  (ZAF (ZCF (i:=4) sc_VoteRule_before.nd rfl (Or.inl rfl) rfl (k:=1) (js:=[2,1]) (N':=["rule","y","x"]) (by rfl) (ZBE (ZBl (pv 0) rfl)) (fun _ _ _ _=>ZAt (i:=0) (show (["rule","y","x"]:List Str).Nodup by decide +kernel) rfl (by walk_at "o")) (fun _ _ _ _=>(pifs_one (ZA9 (ZAn (ZBv L (U.mono (by decide)) ZAP (pv 0) (ZAA (pv 1) (ZAA (pv 2) ZAB))) (ZBv J (U.mono (by decide)) ZAP (pv 0) (ZAA (pv 1) (ZAA (pv 2) ZAB))))))) (fun _ _ _ _=>(pv 0)))
  (ZAG (ZAN (ZBm ZD1 (ZAO ZAv rfl T.b_len PySem.boot_len (ZAA (pv 3) ZAB)) (ZAO ZAv rfl T.b_len PySem.boot_len (ZAA (pv 4) ZAB)) (ZAo _)))))),?_⟩
 walk_at "rd"
 obtain ⟨l,xs,hI,hl,a2,hs⟩:=hv
 refine hI.get T.cl_VoteRule T.n_VoteRule_rules (by walk_at "lk") ?_
 refine ZBu (SqL.of hl) (by omega) (fun i ys σ X=>∃ v,σ=[v,some x,some y] /\ X=H /\ ys=[]) ⟨_,rfl,rfl,rfl⟩ (fun i ys σ X _ z=>?_) (fun i ys u σ X hi Z z=>?_) fun ys σ X z p hp=>?_
 .obtain ⟨v,_,e,e2⟩:=z
  rw [e,e2]
  exact ⟨SqL.of hl,yAO _⟩
 .obtain ⟨v,rfl,rfl,rfl⟩:=z
  obtain ⟨a,rfl,ha⟩:=hs _ (yAQ Z)
  walk_at "rd"
  refine ZBs ha ⟨_,rfl,?_⟩
  rw [if_neg (by decide)]
  exact .of hi ⟨_,rfl,rfl,rfl⟩
 obtain ⟨v,rfl,rfl,rfl⟩:=z
 obtain ⟨X1,e1,s1,h1⟩:=newH hp (.lst [])
 rw [e1];clear e1
 have a0:=hs.mono s1
 have O:=s1 _ _ hl
 refine (hI.mono s1).get T.cl_VoteRule T.n_VoteRule_rules (by walk_at "lk") ?_
 refine ZBu (SqL.of O) (by omega) (fun i zs σ X=>∃ v,σ=[v,some y,some x] /\ X=X1 /\ zs=[]) ⟨_,rfl,rfl,rfl⟩ (fun i zs σ X _ z=>?_) (fun i zs u σ X hi Z z=>?_) fun zs σ X z p2 Y=>?_
 .obtain ⟨v,_,e,e2⟩:=z
  rw [e,e2]
  exact ⟨SqL.of O,yAO _⟩
 .obtain ⟨v,rfl,rfl,rfl⟩:=z
  obtain ⟨a,rfl,ha⟩:=a0 _ (yAQ Z)
  walk_at "rd"
  refine ZBs ha ⟨_,rfl,?_⟩
  rw [if_neg (by decide)]
  exact .of hi ⟨_,rfl,rfl,rfl⟩
 obtain ⟨v,rfl,rfl,rfl⟩:=z
 have s2:=ZAW Y (.lst [])
 refine ⟨p,[],rfl,.inl (SqL.of (s2 _ _ h1)),p2,[],rfl,.inl (SqL.of ZAE),?_⟩
 exact q _ (s1.trans s2)
theorem ok_widest_of {f:Addr} {fd:FuncData} (F:Fun K "widest_of" "widest_of" ZBD f fd) (T:Bt K mg C_Rule C_KeyRule C_NearRule C_RingRule C_TableRule C_VoteRule C_ChainRule C_AskedRule C_HallError C_NoRule C_NoPaper C_NoPlace C_NoKey C_NoRow C_NoOrder C_TooFar C_Spent)
  (L:Mt P w K mg base CX0 C_Rule "widest" 1 ["self"] (ZBG))
  (J:Mt P w K mg base CX0 C_KeyRule "widest" 1 ["self"] (ZBB K C_KeyRule))
 :FnOk P w K mg base CX0 2 f fd ["rules"] (ZCj C_Rule C_KeyRule):=by
 refine F.ok sc_widest_of (fun vs H Q E h=>?_) (fun a0 A outer s H vs Q E Z h=>?_)
 .obtain ⟨l,xs,rfl,hl,U,Y,q⟩:=h
  rfl
 obtain ⟨l,xs,rfl,hl,U,Y,q⟩:=h
 refine ⟨_,(ZAG (ZAN (pe_maxd rfl (ZCW rfl (k:=1) (js:=[]) (N':=["rule"]) (by rfl) (ZBE (pv 0)) (fun _ _ _ _=>ZAt (i:=0) (show (["rule"]:List Str).Nodup by decide +kernel) rfl (by walk_at "o")) (fun _ _ _ _=>ZBr) (fun _ _ _ _=>(ZAn (ZBk L (Z.mono (by decide)) ZAP (pv 0)) (ZBk J (Z.mono (by decide)) ZAP (pv 0))))) (ZC0 ZCH ZAD) rfl T.b_max))),?_⟩
 walk_at "rd"
 refine ZBu (SqL.of hl) (by omega) (fun i ys σ X=>∃ v,σ=[v] /\ Same H X /\ ys=(List.replicate i (-1:Int)).map V.int) ⟨_,rfl,.refl _,rfl⟩ (fun i ys σ X _ z=>?_) (fun i ys u σ X hi hu z=>?_) fun ys σ X z p hp=>?_
 .obtain ⟨v,_,e,e2⟩:=z
  rw [e2,yAF,yAG]
  exact ⟨SqL.of (e _ _ hl),yAA _⟩
 .obtain ⟨v,rfl,O,rfl⟩:=z
  obtain ⟨a,rfl,ha⟩:=(Y.mono O) _ (yAQ hu)
  walk_at "rd"
  refine mu0_wid ha fun X2 s2=>.of hi ⟨_,rfl,O.trans s2,?_⟩
  rw [List.replicate_succ',yBD];rfl
 obtain ⟨v,rfl,O,rfl⟩:=z
 refine ⟨p,_,_,rfl,rfl,SqL.of ZAE,?_⟩
 rw [max_m1]
 exact q _ (O.trans (ZAW hp _))
theorem ok_VoteRule_widest {f:Addr} {fd:FuncData} (F:Fun K "widest" "VoteRule.widest" ZAZ f fd) (T:Bt K mg C_Rule C_KeyRule C_NearRule C_RingRule C_TableRule C_VoteRule C_ChainRule C_AskedRule C_HallError C_NoRule C_NoPaper C_NoPlace C_NoKey C_NoRow C_NoOrder C_TooFar C_Spent)
  (z:Fn P w K mg base CX0 "widest_of" 2 ["rules"] (ZCj C_Rule C_KeyRule))
 :FnOk P w K mg base CX0 3 f fd ["self"] (ZBO C_Rule C_KeyRule C_VoteRule):=by
 refine F.ok sc_VoteRule_widest (fun vs H Q E h=>?_) (fun Y A outer s H vs Q E U h=>?_)
 .obtain ⟨r,rfl,L,q⟩:=h
  rfl
 obtain ⟨r,rfl,L,q⟩:=h
 refine ⟨_,(ZAG (ZAN (ZA6 z (U.mono (by decide)) rfl ZAP (ZAA (ZBl (pv 0) rfl) ZAB)))),?_⟩
 walk_at "rd"
 obtain ⟨l,xs,Z,hl,J,O⟩:=L
 refine Z.get T.cl_VoteRule T.n_VoteRule_rules (by walk_at "lk") ?_
 exact ⟨l,xs,rfl,hl,J,O,q⟩
theorem ok_ChainRule_init {f:Addr} {fd:FuncData} (F:Fun K "__init__" "ChainRule.__init__" ZAl f fd) (T:Bt K mg C_Rule C_KeyRule C_NearRule C_RingRule C_TableRule C_VoteRule C_ChainRule C_AskedRule C_HallError C_NoRule C_NoPaper C_NoPlace C_NoKey C_NoRow C_NoOrder C_TooFar C_Spent)
 :FnOk P w K mg base CX0 1 f fd ["self","rules"] (ZB0 C_ChainRule):=by
 refine F.ok sc_ChainRule_init (fun vs H Q E h=>?_) (fun U A outer s H vs Q E Y h=>?_)
 .obtain ⟨p,dx,c,xs,rfl,L,hc,q⟩:=h
  rfl
 obtain ⟨p,dx,c,xs,rfl,L,hc,q⟩:=h
 refine ⟨_,(ZAG (ZBw (pv 0) (ZBn ZBV rfl T.b_list PyProof.Rows.boot_list (ZAA (pv 1) ZAB)) rfl)),?_⟩
 walk_at "rd"
 refine ⟨c,xs,rfl,.inl (SqL.of hc),fun l hl=>?_⟩
 refine setX (ZCN hl L) T.cl_ChainRule T.n_ChainRule_rules (by decide) fun H2 O k2=>?_
 have J:l≠p:=fun z=>by rw [z,L] at hl;cases hl
 exact q l H2 hl J (fun b o n e=>by rw [k2 b n,ZAH (ZAI e hl)];exact e) (by rw [k2 l J,ZAE]) ((Ins.of O (yAD ZDT (by decide))).congr fun f=>by simp only [ZAp,lkc])
theorem ok_ChainRule_before {f:Addr} {fd:FuncData} (F:Fun K "before" "ChainRule.before" ZAS f fd) (T:Bt K mg C_Rule C_KeyRule C_NearRule C_RingRule C_TableRule C_VoteRule C_ChainRule C_AskedRule C_HallError C_NoRule C_NoPaper C_NoPlace C_NoKey C_NoRow C_NoOrder C_TooFar C_Spent)
  (L:Mt P w K mg base CX0 C_Rule "before" 1 ["self","x","y"] (ZBM))
  (J:Mt P w K mg base CX0 C_KeyRule "before" 1 ["self","x","y"] (ZBC C_KeyRule))
 :FnOk P w K mg base CX0 2 f fd ["self","x","y"] (ZBP C_Rule C_KeyRule C_ChainRule):=by
 refine F.ok sc_ChainRule_before (fun vs H Q E h=>?_) (fun a0 A outer s H vs Q E O h=>?_)
 .obtain ⟨r,x,y,rfl,U,q⟩:=h
  rfl
 obtain ⟨r,x,y,rfl,U,q⟩:=h
 refine ⟨_,(ZAF (ZCI PassesOwn.never rfl (ZBE (ZBl (pv 0) rfl)) (ZAt (i:=3) sc_ChainRule_before.nd rfl (by walk_at "o"))
  (ZAF (ZBI (ZA9 (ZAn (ZBv L (O.mono (by decide)) ZAP (pv 3) (ZAA (pv 1) (ZAA (pv 2) ZAB))) (ZBv J (O.mono (by decide)) ZAP (pv 3) (ZAA (pv 1) (ZAA (pv 2) ZAB)))))
  (ZAG (ZAN ZBN)) ZAX)
  (ZAG (ZBI (ZA9 (ZAn (ZBv L (O.mono (by decide)) ZAP (pv 3) (ZAA (pv 2) (ZAA (pv 1) ZAB))) (ZBv J (O.mono (by decide)) ZAP (pv 3) (ZAA (pv 2) (ZAA (pv 1) ZAB)))))
  (ZAG (ZAN ZBN)) ZAX))))
  (ZAG (ZAN ZBN))),?_⟩
 walk_at "rd"
 obtain ⟨l,xs,hI,hl,a1,Y⟩:=U
 refine hI.get T.cl_ChainRule T.n_ChainRule_rules (by walk_at "lk") ?_
 refine ZB5 (SqL.of hl) (fun i σ X=>∃ v,σ=[some (.ref r),some x,some y,v] /\ X=H) ⟨_,rfl,rfl⟩ (fun i σ X _ z=>?_) (fun i u σ X Z z=>?_) fun σ X z=>?_
 .obtain ⟨v,_,e⟩:=z
  rw [e];exact SqL.of hl
 .obtain ⟨v,rfl,rfl⟩:=z
  obtain ⟨a,rfl,ha⟩:=Y _ (yAQ Z)
  walk_at "rd"
  refine ZBs ha ⟨_,rfl,?_⟩
  rw [if_neg (by decide)]
  refine ZBs ha ⟨_,rfl,?_⟩
  rw [if_neg (by decide)]
  exact ⟨_,rfl,rfl⟩
 .obtain ⟨v,rfl,rfl⟩:=z
  walk_at "rd"
  exact q _ (.refl _)
theorem ok_ChainRule_widest {f:Addr} {fd:FuncData} (F:Fun K "widest" "ChainRule.widest" ZAR f fd) (T:Bt K mg C_Rule C_KeyRule C_NearRule C_RingRule C_TableRule C_VoteRule C_ChainRule C_AskedRule C_HallError C_NoRule C_NoPaper C_NoPlace C_NoKey C_NoRow C_NoOrder C_TooFar C_Spent)
  (z:Fn P w K mg base CX0 "widest_of" 2 ["rules"] (ZCj C_Rule C_KeyRule))
 :FnOk P w K mg base CX0 3 f fd ["self"] (ZBO C_Rule C_KeyRule C_ChainRule):=by
 refine F.ok sc_ChainRule_widest (fun vs H Q E h=>?_) (fun Y A outer s H vs Q E U h=>?_)
 .obtain ⟨r,rfl,L,q⟩:=h
  rfl
 obtain ⟨r,rfl,L,q⟩:=h
 refine ⟨_,(ZAG (ZAN (ZA6 z (U.mono (by decide)) rfl ZAP (ZAA (ZBl (pv 0) rfl) ZAB)))),?_⟩
 walk_at "rd"
 obtain ⟨l,xs,Z,hl,J,O⟩:=L
 refine Z.get T.cl_ChainRule T.n_ChainRule_rules (by walk_at "lk") ?_
 exact ⟨l,xs,rfl,hl,J,O,q⟩
theorem ok_AskedRule_init {f:Addr} {fd:FuncData} (F:Fun K "__init__" "AskedRule.__init__" ZAm f fd) (T:Bt K mg C_Rule C_KeyRule C_NearRule C_RingRule C_TableRule C_VoteRule C_ChainRule C_AskedRule C_HallError C_NoRule C_NoPaper C_NoPlace C_NoKey C_NoRow C_NoOrder C_TooFar C_Spent)
 :FnOk P w K mg base CX0 1 f fd ["self","teller"] (ZCT C_AskedRule):=by
 refine F.ok sc_AskedRule_init (fun vs H Q E h=>?_) (fun J A outer s H vs Q E L h=>?_)
 .obtain ⟨x,dx,g,rfl,hx,q⟩:=h
  rfl
 obtain ⟨x,dx,g,rfl,hx,q⟩:=h
 refine ⟨_,(ZAG (ZBw (pv 0) (pv 1) rfl)),?_⟩
 walk_at "rd"
 refine setX hx T.cl_AskedRule T.n_AskedRule_teller (by decide) fun H2 z k2=>?_
 exact q H2 (fun b o n e=>by rw [k2 b n];exact e) ((Ins.of z (yAD ZDT (by decide))).congr fun f=>by simp only [ZAp,lkc])
theorem ok_AskedRule_before {f:Addr} {fd:FuncData} (F:Fun K "before" "AskedRule.before" ZAT f fd) (T:Bt K mg C_Rule C_KeyRule C_NearRule C_RingRule C_TableRule C_VoteRule C_ChainRule C_AskedRule C_HallError C_NoRule C_NoPaper C_NoPlace C_NoKey C_NoRow C_NoOrder C_TooFar C_Spent)
  (clo_asked:CloOk P w K mg base 1 (rT14))
 :FnOk P w K mg base CX0 2 f fd ["self","x","y"] (ZCn C_AskedRule):=by
 refine F.ok sc_AskedRule_before (fun vs H Q E h=>?_) (fun Y A outer s H vs Q E U h=>?_)
 .obtain ⟨O,g,x,y,rfl,z,⟨o,L,J⟩,q⟩:=h
  rfl
 obtain ⟨O,g,x,y,rfl,z,⟨o,L,J⟩,q⟩:=h
 refine ⟨_,(ZAF (ZBA (i:=3) sc_AskedRule_before.nd rfl (by walk_at "o") (ZBl (pv 0) rfl))
  (ZAG (ZAN (pe_callV (clo_asked.at (U.mono (by decide))) (pv 3) (ZAA (pv 1) (ZAA (pv 2) ZAB)))))),?_⟩
 walk_at "rd"
 refine z.get T.cl_AskedRule T.n_AskedRule_teller (by walk_at "lk") ⟨⟨g,o,rfl,L,J⟩,?_⟩
 exact q
theorem ok_cell_at {f:Addr} {fd:FuncData} (F:Fun K "_law_cell_at" "_law_cell_at" ZBa f fd) (T:Bt K mg C_Rule C_KeyRule C_NearRule C_RingRule C_TableRule C_VoteRule C_ChainRule C_AskedRule C_HallError C_NoRule C_NoPaper C_NoPlace C_NoKey C_NoRow C_NoOrder C_TooFar C_Spent)
 :FnOk P w K mg base CX0 1 f fd ["_law_script","_law_k"] (ZDb K):=by
 refine F.ok sc_cell_at (fun vs H Q E h=>?_) (fun O A outer s H vs Q E U h=>?_)
 .obtain ⟨a,ns,k,rfl,J,L,q⟩:=h
  rfl
 obtain ⟨a,ns,k,rfl,J,L,q⟩:=h
 refine ⟨_,(ZAF (ZBI (ZAh ZDi (pv 1) (ZAO ZAv rfl T.b_len PySem.boot_len (ZAA (pv 0) ZAB)) (ZAo _))
  (ZAG (ZAN (ZBb ZA8 (pv 0) (pv 1) (fun _ _=>rfl)))) ZAX)
  (ZAG (ZAN ZAD))),?_⟩
 walk_at "rd"
 refine ⟨a,_,rfl,.inl J,?_⟩
 walk_at "rd"
 rw [yAF]
 unfold cellOf at q
 split
 .rename_i hk
  rw [if_pos hk] at q
  have z:k.toNat < ns.length:=by omega
  refine ZBS J (atI_ints L (yBB z)) ?_
  rw [yBB z] at q
  exact q
 .rename_i hk
  rw [if_neg hk] at q
  exact q
theorem ok_make {f:Addr} {fd:FuncData} (F:Fun K "_law_make" "_law_make" ZCc f fd) (T:Bt K mg C_Rule C_KeyRule C_NearRule C_RingRule C_TableRule C_VoteRule C_ChainRule C_AskedRule C_HallError C_NoRule C_NoPaper C_NoPlace C_NoKey C_NoRow C_NoOrder C_TooFar C_Spent)
  (z:Kl P w K mg base (CXE P w) "TableRule" C_TableRule 2 ["self","at","table"] (ZCK C_TableRule C_NoRule))
  (O:Kl P w K mg base (CXE P w) "KeyRule" C_KeyRule 3 ["self","columns"] (ZCy K C_KeyRule C_NoRule))
  (J:Kl P w K mg base (CXE P w) "NearRule" C_NearRule 2 ["self","at","gap"] (ZB8 C_NearRule C_NoRule))
  (L:Kl P w K mg base (CXE P w) "RingRule" C_RingRule 2 ["self","at","size"] (ZB7 C_RingRule C_NoRule))
 :FnOk P w K mg base (CXE P w) 5 f fd ["_law_kind","_law_first","_law_second"] (ZCl K C_NoRule):=by
 refine F.okX sc_make (fun vs H Q E h=>?_) (fun a1 A outer s H vs Q E Z h=>?_)
 .obtain ⟨k,fv,sv,rfl,hB,q⟩:=h
  rfl
 obtain ⟨k,fv,sv,rfl,hB,q⟩:=h
 refine ⟨_,(ZAF (ZBI (ZAh ZC2 (pv 0) ZAD (ZAo _))
  (ZAG (ZAN (ZBg O (Z.mono (by decide)) rfl ZC1 (ZAA (pv 1) ZAB)))) ZAX)
  (ZAF (ZBI (ZAh ZC2 (pv 0) ZAD (ZAo _))
  (ZAG (ZAN (ZBg J (Z.mono (by decide)) rfl ZC1 (ZAA (pv 1) (ZAA (pv 2) ZAB))))) ZAX)
  (ZAF (ZBI (ZAh ZC2 (pv 0) ZAD (ZAo _))
  (ZAG (ZAN (ZBg L (Z.mono (by decide)) rfl ZC1 (ZAA (pv 1) (ZAA (pv 2) ZAB))))) ZAX)
  (ZAG (ZAN (ZBg z (Z.mono (by decide)) rfl ZC1 (ZAA (pv 1) (ZAA (pv 2) ZAB)))))))),?_⟩
 walk_at "rd"
 rcases hB with ⟨rfl,l,xs,cols,rfl,hl,hd,Y⟩ | ⟨rfl,a,g,rfl,rfl,Y⟩ | ⟨rfl,a,g,rfl,rfl,Y⟩ | ⟨rfl,a,l,ns,rfl,rfl,hM,hn,Y⟩
 .rw [if_pos rfl]
  intro x dx hx U _
  have S:=ZAd (C:=C_KeyRule) hx U
  obtain ⟨c,hc,a0⟩:=id Y
  exact ⟨x,dx,l,xs,cols,rfl,ZAE,S _ _ hl,hd.mono S,fun h=>absurd (h c hc) a0,fun _=>q _ S⟩
 .rw [if_neg (by decide),if_pos rfl]
  intro x dx hx U _
  exact ⟨x,dx,a,g,rfl,ZAE,fun h=>absurd h Y,fun _=>q _ (ZAd hx U)⟩
 .rw [if_neg (by decide),if_neg (by decide),if_pos rfl]
  intro x dx hx U _
  exact ⟨x,dx,a,g,rfl,ZAE,fun h=>absurd h Y,fun _=>q _ (ZAd hx U)⟩
 .rw [if_neg (by decide),if_neg (by decide),if_neg (by decide)]
  intro x dx hx U _
  have S:=ZAd (C:=C_TableRule) hx U
  exact ⟨x,dx,l,a,ns,rfl,ZAE,hM.mono fun b xs e=>S _ _ e,hn,fun h=>absurd h Y,fun _=>q _ S⟩
theorem ok_refused {f:Addr} {fd:FuncData} (F:Fun K "_law_refused" "_law_refused" ZBY f fd) (T:Bt K mg C_Rule C_KeyRule C_NearRule C_RingRule C_TableRule C_VoteRule C_ChainRule C_AskedRule C_HallError C_NoRule C_NoPaper C_NoPlace C_NoKey C_NoRow C_NoOrder C_TooFar C_Spent)
  (z:Fn P w K mg base (CXE P w) "_law_make" 5 ["_law_kind","_law_first","_law_second"] (ZCl K C_NoRule))
 :FnOk P w K mg base CX0 6 f fd ["_law_kind","_law_first","_law_second"] (ZB1 K):=by
 refine F.ok sc_refused (fun vs H Q E h=>?_) (fun a0 A outer s H vs Q E hr h=>?_)
 .obtain ⟨k,Y,sv,rfl,Z,q⟩:=h
  rfl
 obtain ⟨k,Y,sv,rfl,Z,q⟩:=h
 refine ⟨_,(ZAF (ps_try (i:=3) ⟨rfl,rfl⟩ rfl rfl T.m_HallError sc_refused.nd rfl rfl (fun pn xe E hp=>
  (ZAG (ZBX (pe_fnS z (hr.mono (by decide)) rfl hp (ZAA (pv 0) (ZAA (pv 1) (ZAA (pv 2) ZAB))))))) (fun e=>
  (ZAF (ZBA (i:=4) sc_refused.nd rfl (by walk_at "o") (ZA2 (ZAA (ZAO (ZAy K) rfl T.b_isinstance PyProof.Rows.boot_isinstance (ZAA (pv 3) (ZAA (ZBF rfl T.m_NoPaper) ZAB))) (ZAA (ZAO (ZAy K) rfl T.b_isinstance PyProof.Rows.boot_isinstance (ZAA (pv 3) (ZAA (ZBF rfl T.m_NoPlace) ZAB))) (ZAA (ZAO (ZAy K) rfl T.b_isinstance PyProof.Rows.boot_isinstance (ZAA (pv 3) (ZAA (ZBF rfl T.m_NoKey) ZAB))) (ZAA (ZAO (ZAy K) rfl T.b_isinstance PyProof.Rows.boot_isinstance (ZAA (pv 3) (ZAA (ZBF rfl T.m_NoRow) ZAB))) ZAB))))))
  (ZAF (ZBA (i:=4) sc_refused.nd rfl (by walk_at "o") (ZAV ZCd (pv 4) (ZA2 (ZAA (ZAO (ZAy K) rfl T.b_isinstance PyProof.Rows.boot_isinstance (ZAA (pv 3) (ZAA (ZBF rfl T.m_NoOrder) ZAB))) (ZAA (ZAO (ZAy K) rfl T.b_isinstance PyProof.Rows.boot_isinstance (ZAA (pv 3) (ZAA (ZBF rfl T.m_TooFar) ZAB))) (ZAA (ZAO (ZAy K) rfl T.b_isinstance PyProof.Rows.boot_isinstance (ZAA (pv 3) (ZAA (ZBF rfl T.m_Spent) ZAB))) ZAB))))))
  (ZAG (ZAN (ZDO (ZAO (ZAy K) rfl T.b_isinstance PyProof.Rows.boot_isinstance (ZAA (pv 3) (ZAA (ZBF rfl T.m_NoRule) ZAB))) (ZDO (ZAO (ZAy K) rfl T.b_isinstance PyProof.Rows.boot_isinstance (ZAA (pv 3) (ZAA (ZDf rfl T.b_ValueError L2.boot_ValueError) ZAB))) (ZDe (ZBm (op_notIn_seqK K) ZBN (pv 4) rfl))))))))))
  (ZAG (ZAN ZBN))),?_⟩
 walk_at "rd"
 refine ⟨k,Y,sv,rfl,Z,fun H1 s1=>?_⟩
 refine ⟨T.xm_NoRule_HallError,fun ea U=>?_⟩
 obtain ⟨H2,e2,s2,h2⟩:=newH U (excO ea (.ref C_NoRule) none)
 rw [e2];clear e2
 walk_at "rd"
 refine ZCv h2 T.xc_NoRule T.xd_NoRule T.kit_NoRule_NoPaper rfl ?_
 refine ZCv h2 T.xc_NoRule T.xd_NoRule T.kit_NoRule_NoPlace rfl ?_
 refine ZCv h2 T.xc_NoRule T.xd_NoRule T.kit_NoRule_NoKey rfl ?_
 refine ZCv h2 T.xc_NoRule T.xd_NoRule T.kit_NoRule_NoRow rfl ?_
 refine ⟨ZAL (by decide),fun p1 O=>?_⟩
 obtain ⟨H3,e3,s3,h3⟩:=newH O (.lst [.bl false,.bl false,.bl false,.bl false])
 rw [e3];clear e3
 have h2:=s3 _ _ h2
 refine ZCv h2 T.xc_NoRule T.xd_NoRule T.kit_NoRule_NoOrder rfl ?_
 refine ZCv h2 T.xc_NoRule T.xd_NoRule T.kit_NoRule_TooFar rfl ?_
 refine ZCv h2 T.xc_NoRule T.xd_NoRule T.kit_NoRule_Spent rfl ?_
 refine ⟨ZAL (by decide),fun p2 J=>?_⟩
 obtain ⟨H4,e4,s4,h4⟩:=newH J (.lst [.bl false,.bl false,.bl false])
 rw [e4];clear e4
 refine ⟨p1,p2,_,_,rfl,rfl,s4 _ _ h3,h4,ZAL (by decide),fun p3 L=>?_⟩
 obtain ⟨H5,e5,s5,h5⟩:=newH L (.lst [.bl false,.bl false,.bl false,.bl false,.bl false,.bl false,.bl false])
 rw [show upd H4 p3 (HO.lst ([V.bl false,V.bl false,V.bl false,V.bl false]++[V.bl false,V.bl false,V.bl false]))=H5 from e5];clear e5
 have h2:=s5 _ _ (s4 _ _ h2)
 refine ZCv h2 T.xc_NoRule T.xd_NoRule T.kit_NoRule_NoRule rfl ?_
 rw [if_pos rfl]
 refine ZCv h2 T.xc_NoRule T.xd_NoRule T.kit_NoRule_ValueError rfl ?_
 rw [if_pos rfl]
 exact ⟨p3,_,rfl,.inl (SqL.of h5),rfl,rfl,q _ (s1.trans (s2.trans (s3.trans (s4.trans s5))))⟩
theorem ok_columns {f:Addr} {fd:FuncData} (F:Fun K "_law_columns" "_law_columns" ZBZ f fd) (T:Bt K mg C_Rule C_KeyRule C_NearRule C_RingRule C_TableRule C_VoteRule C_ChainRule C_AskedRule C_HallError C_NoRule C_NoPaper C_NoPlace C_NoKey C_NoRow C_NoOrder C_TooFar C_Spent)
 :FnOk P w K mg base CX0 1 f fd ["_law_cell"] (ZCm K):=by
 refine F.ok sc_columns (fun vs H Q E h=>?_) (fun a2 A outer s H vs Q E hr h=>?_)
 .obtain ⟨c,rfl,q⟩:=h
  rfl
 obtain ⟨c,rfl,q⟩:=h
 refine ⟨_,(ZAF (ZBA (i:=1) sc_columns.nd rfl (by walk_at "o") (ZA2 ZAB))
  (ZAF (ZCI PassesOwn.never rfl (ZCV rfl T.b_range (ZAA (ZAV ZBH (pv 0) ZAD) ZAB)) (ZAt (i:=2) sc_columns.nd rfl (by walk_at "o"))
  (ZAG (ZBX (ZD0 PySem.F.plainAttrs_list PySem.F.slot_list_append PySem.F.type_list_append ZCX (pv 1) (ZAA (ZAu (ZAA (ZAV ZBH (ZAV ZBd (pv 0) (ZAV ZBx (ZAV ZDh ZAD (pv 2)) ZAD)) ZAD) (ZAA (ZBb ZA8 (ZA2 (ZAA ZBj (ZAA ZBj ZAB))) (ZAV ZBH (ZAV ZBd (pv 0) (ZAV ZBx (ZAV ZDh ZAD (pv 2)) ZAD)) ZAD) (fun _ _=>rfl)) ZAB))) ZAB)))))
  (ZAG (ZAN (pv 1))))),?_⟩
 walk_at "rd"
 refine ⟨yAO _,fun p hp=>⟨by decide,?_⟩⟩
 have c0:=Int.emod_nonneg c (show (5:Int)≠0 by decide)
 have c1:=Int.emod_lt_of_pos c (show (0:Int) < 5 by decide)
 refine forR1_of (by omega) (forR_of (fun i σ H'=>∃ (xs:List V) (cols:List (Int×Str)) (v2:Option V),σ=[some (.int c),some (.ref p),v2] /\ Same H H' /\ H' p=some (.lst xs) /\ DpAll K H' (cols.map colS) xs /\ (∀ c∈cols,good c.1 c.2) /\ cols.length=i) ⟨[],[],_,rfl,ZAW hp _,ZAE,.nil,fun _ h=>(nomatch h),rfl⟩ ?_ ?_)
 .rintro i σ H' hi ⟨xs,cols,v2,rfl,s,h1,h2,h3,h4⟩
  walk_at "rd"
  have a1:(i:Int) < 5:=by omega
  refine ⟨.inl ⟨rfl,_,SqL.of h1⟩,.inl ⟨by decide,by decide⟩,⟨by omega,by omega⟩,by decide,ZAL (by decide),fun p1 U=>⟨.inl ⟨by decide,by decide⟩,⟨by omega,by omega⟩,by decide,ZBS (SqL.of ZAE) (atI2 _) ⟨ZAL (by decide),fun p2 O=>?_⟩⟩⟩
  generalize c / (3 * (0+(i:Int))+11)=cc
  have g0:=Int.emod_nonneg (c / (7 * (0+(i:Int))+5)) (show (8:Int)≠0 by decide)
  have g1:=Int.emod_lt_of_pos (c / (7 * (0+(i:Int))+5)) (show (0:Int) < 8 by decide)
  generalize c / (7 * (0+(i:Int))+5) % 8=aa at g0 g1 ⊢
  obtain ⟨ws,Y,hg⟩:∃ ws:Str,(if cc % 2=0 then V.str (Str.ofString "up") else V.str (Str.ofString "down"))=V.str ws /\ good aa ws:=by
   by_cases z:cc % 2=0
   .exact ⟨_,by rw [if_pos z],⟨by omega,by omega⟩,.inl rfl⟩
   .exact ⟨_,by rw [if_neg z],⟨by omega,by omega⟩,.inr rfl⟩
  rw [Y]
  have J:=(ZAW U (.lst [V.str (Str.ofString "up"),V.str (Str.ofString "down")])).trans (ZAW O (.tup [V.int aa,V.str ws]))
  have L:upd (upd H' p1 (.lst [V.str (Str.ofString "up"),V.str (Str.ofString "down")])) p2 (.tup [V.int aa,V.str ws]) p2=some (.tup [V.int aa,V.str ws]):=ZAE
  generalize upd (upd H' p1 (.lst [V.str (Str.ofString "up"),V.str (Str.ofString "down")])) p2 (.tup [V.int aa,V.str ws])=G at J L ⊢
  have a0:xs.length=cols.length:=by rw [h2.length,yAF]
  have hG:=J _ _ h1
  refine ⟨p,xs,_,rfl,rfl,hG,ZB9 (by omega),?_⟩
  have np:p2≠p:=fun z=>by rw [z,hG] at L;cases L
  have ts:TSame G (upd G p (.lst (xs++[V.ref p2]))):=.updL hG
  refine ⟨xs++[V.ref p2],cols++[(aa,ws)],_,rfl,fun b o e=>?_,ZAE,?_,fun c' Z=>?_,by rw [yAI,h4];rfl⟩
  .rw [ZAH (ZAI e hp)]
   exact J _ _ (s _ _ e)
  .rw [yBD]
   exact (DpAll.ts ts (colS_no cols) (h2.mono J)).snoc (ZCg (SqT.of (by rw [ZAH np];exact L)) (.two (ZC6 _) (ZCh _)))
  .rcases yAW.mp Z with z | z
   .exact h3 c' z
   .rw [yBH.mp z];exact hg
 .rintro σ H' ⟨xs,cols,v2,rfl,s,h1,h2,h3,h4⟩
  walk_at "rd"
  exact q p xs cols H' s h1 h2 h3 (by omega)
theorem ok_table {f:Addr} {fd:FuncData} (F:Fun K "_law_table" "_law_table" ZCD f fd) (T:Bt K mg C_Rule C_KeyRule C_NearRule C_RingRule C_TableRule C_VoteRule C_ChainRule C_AskedRule C_HallError C_NoRule C_NoPaper C_NoPlace C_NoKey C_NoRow C_NoOrder C_TooFar C_Spent)
 :FnOk P w K mg base CX0 1 f fd ["_law_cell","_law_many"] (ZCO):=by
 refine F.ok sc_table (fun vs H Q E h=>?_) (fun a1 A outer s H vs Q E hr h=>?_)
 .obtain ⟨c,n,rfl,hn,q⟩:=h
  rfl
 obtain ⟨c,n,rfl,hn,q⟩:=h
 refine ⟨_,(ZAG (ZAN (ZCW rfl (k:=1) (js:=[1,0]) (N':=["_law_k","_law_many","_law_cell"]) (by rfl) (ZCV rfl T.b_range (ZAA (pv 1) ZAB)) (fun _ _ _ _=>ZAt (i:=0) (show (["_law_k","_law_many","_law_cell"]:List Str).Nodup by decide +kernel) rfl (by walk_at "o")) (fun _ _ _ _=>ZBr) (fun _ _ _ _=>(ZCW rfl (k:=1) (js:=[2,0]) (N':=["_law_j","_law_cell","_law_k"]) (by rfl) (ZCV rfl T.b_range (ZAA (pv 1) ZAB)) (fun _ _ _ _=>ZAt (i:=0) (show (["_law_j","_law_cell","_law_k"]:List Str).Nodup by decide +kernel) rfl (by walk_at "o")) (fun _ _ _ _=>ZBr) (fun _ _ _ _=>(ZBm ZC2 (ZAV ZBH (ZAV ZBd (pv 1) (ZAV ZBx (ZAV ZBx (ZAV ZDh ZAD (pv 2)) (pv 0)) ZAD)) ZAD) ZAD (ZAo _)))))))),?_⟩
 walk_at "rd"
 refine compR1_of (by omega) (fun i ys σ X=>∃ v,σ=[v,some (.int n),some (.int c)] /\ Same H X /\ ys.length=i /\ ∀ (j:Nat) u,ys[j]?=some u->∃ r vs,u=.ref r /\ X r=some (.lst vs) /\ vs.length=n) ⟨_,rfl,.refl _,rfl,fun j u h=>by simp at h⟩ (fun i ys σ X ⟨_,_,_,e,_⟩=>Nat.le_of_eq e) (fun i ys σ X hi z=>?_) fun ys σ X z p U=>?_
 .obtain ⟨v,rfl,s1,e1,J⟩:=z
  walk_at "rd"
  have a0:(i:Int) < 4:=by omega
  refine compR1_of (by omega) (fun j zs σ Y=>∃ v,σ=[v,some (.int c),some (.int (0+(i:Int)))] /\ Y=X /\ zs.length=j) ⟨_,rfl,rfl,rfl⟩ (fun j zs σ Y ⟨_,_,_,e⟩=>Nat.le_of_eq e) (fun j zs σ Y O z=>?_) fun zs σ Y z p U=>?_
  .obtain ⟨v2,rfl,rfl,e2⟩:=z
   walk_at "rd"
   refine ⟨.inl ⟨by decide,by decide⟩,⟨by omega,by omega⟩,by decide,?_⟩
   exact .of O ⟨_,rfl,rfl,by rw [yAI,e2];rfl⟩
  .obtain ⟨v2,rfl,rfl,e2⟩:=z
   have s2:=ZAW U (.lst zs)
   refine .of hi ⟨_,rfl,s1.trans s2,by rw [yAI,e1];rfl,fun j u L=>?_⟩
   by_cases O:j < ys.length
   .rw [yAY O] at L
    obtain ⟨r,vs,d1,d2,d3⟩:=J j u L
    exact ⟨r,vs,d1,s2 _ _ d2,d3⟩
   .rw [yAX (by omega)] at L
    have Z:=(yAP.mp L).1
    rw [yAM] at Z
    rw [show j-ys.length=0 by omega] at L
    cases L
    exact ⟨p,zs,rfl,ZAE,by rw [e2];omega⟩
 .obtain ⟨v,rfl,s1,e1,J⟩:=z
  have s2:=ZAW U (.lst ys)
  refine q p _ (s1.trans s2) ⟨ys,ZAE,by rw [yAG,e1];omega,fun j u L=>?_⟩
  obtain ⟨r,vs,d1,d2,d3⟩:=J j u L
  have O:=(yAP.mp L).1
  exact ⟨r,vs,d1,s2 _ _ d2,by rw [d3,yBI,if_pos (by omega)]⟩
theorem ok_empty {f:Addr} {fd:FuncData} (F:Fun K "_law_empty" "_law_empty" ZCE f fd) (T:Bt K mg C_Rule C_KeyRule C_NearRule C_RingRule C_TableRule C_VoteRule C_ChainRule C_AskedRule C_HallError C_NoRule C_NoPaper C_NoPlace C_NoKey C_NoRow C_NoOrder C_TooFar C_Spent)
  (a0:Mt P w K mg base CX0 C_Rule "widest" 1 ["self"] (ZBG))
  (Z:Mt P w K mg base CX0 C_KeyRule "widest" 1 ["self"] (ZBB K C_KeyRule))
  (Y:Mt P w K mg base CX0 C_VoteRule "widest" 3 ["self"] (ZBO C_Rule C_KeyRule C_VoteRule))
  (U:Mt P w K mg base CX0 C_ChainRule "widest" 3 ["self"] (ZBO C_Rule C_KeyRule C_ChainRule))
  (O:Mt P w K mg base CX0 C_Rule "before" 1 ["self","x","y"] (ZBM))
  (L:Mt P w K mg base CX0 C_KeyRule "before" 1 ["self","x","y"] (ZBC C_KeyRule))
  (J:Mt P w K mg base CX0 C_VoteRule "before" 2 ["self","x","y"] (ZBP C_Rule C_KeyRule C_VoteRule))
  (z:Mt P w K mg base CX0 C_ChainRule "before" 2 ["self","x","y"] (ZBP C_Rule C_KeyRule C_ChainRule))
 :FnOk P w K mg base CX0 4 f fd ["_law_rule"] (ZCR C_Rule C_KeyRule C_VoteRule C_ChainRule):=by
 refine F.ok sc_empty (fun vs H Q E h=>?_) (fun a1 A outer s H vs Q E hr h=>?_)
 .obtain ⟨r,rfl,hM,q⟩:=h
  rfl
 obtain ⟨r,rfl,hM,q⟩:=h
 refine ⟨_,(ZAF (ZBI (PW.pt (ZCU (ZAh op_notB (ZAn (ZBv O (hr.mono (by decide)) ZAP (pv 0) (ZAA (ZAu (ZAA ZAD (ZAA ZAD ZAB))) (ZAA (ZAu (ZAA ZAD (ZAA ZAD ZAB))) ZAB))) (ZAn (ZBv L (hr.mono (by decide)) ZAP (pv 0) (ZAA (ZAu (ZAA ZAD (ZAA ZAD ZAB))) (ZAA (ZAu (ZAA ZAD (ZAA ZAD ZAB))) ZAB))) (ZAn (ZBv J (hr.mono (by decide)) ZAP (pv 0) (ZAA (ZAu (ZAA ZAD (ZAA ZAD ZAB))) (ZAA (ZAu (ZAA ZAD (ZAA ZAD ZAB))) ZAB))) (ZBv z (hr.mono (by decide)) ZAP (pv 0) (ZAA (ZAu (ZAA ZAD (ZAA ZAD ZAB))) (ZAA (ZAu (ZAA ZAD (ZAA ZAD ZAB))) ZAB)))))) ZBN (ZAo _)) (ZBi (ZAh op_notB (ZAn (ZBv O (hr.mono (by decide)) ZAP (pv 0) (ZAA (ZAu (ZAA ZAD (ZAA ZAD ZAB))) (ZAA (ZAu (ZAA ZAD (ZAA ZAD ZAB))) ZAB))) (ZAn (ZBv L (hr.mono (by decide)) ZAP (pv 0) (ZAA (ZAu (ZAA ZAD (ZAA ZAD ZAB))) (ZAA (ZAu (ZAA ZAD (ZAA ZAD ZAB))) ZAB))) (ZAn (ZBv J (hr.mono (by decide)) ZAP (pv 0) (ZAA (ZAu (ZAA ZAD (ZAA ZAD ZAB))) (ZAA (ZAu (ZAA ZAD (ZAA ZAD ZAB))) ZAB))) (ZBv z (hr.mono (by decide)) ZAP (pv 0) (ZAA (ZAu (ZAA ZAD (ZAA ZAD ZAB))) (ZAA (ZAu (ZAA ZAD (ZAA ZAD ZAB))) ZAB)))))) ZBN (ZAo _)))))
  (ZAG (ZAN ZBN)) ZAX)
  (ZAF (ZBA (i:=1) sc_empty.nd rfl (by walk_at "o") (ZAn (ZBk a0 (hr.mono (by decide)) ZAP (pv 0)) (ZAn (ZBk Z (hr.mono (by decide)) ZAP (pv 0)) (ZAn (ZBk Y (hr.mono (by decide)) ZAP (pv 0)) (ZBk U (hr.mono (by decide)) ZAP (pv 0))))))
  (ZAG (ZAN (ZDO (ZAO ZA7 rfl T.b_isinstance PyProof.Rows.boot_isinstance (ZAA (pv 1) (ZAA (ZDf rfl T.b_int PyProof.Rows.boot_int) ZAB))) (ZDe (ZBm ZC2 (pv 1) (ZC0 ZCH ZAD) (ZAo _)))))))),?_⟩
 walk_at "rd"
 refine mu_befT hM fun H1 s1=>⟨_,_,rfl,rfl,?_⟩
 rw [if_neg (by decide)]
 refine mu_befT (hM.mono s1) fun H2 s2=>⟨_,_,rfl,rfl,?_⟩
 rw [if_neg (by decide)]
 have S:=s1.trans s2
 refine mu_wid (hM.mono S) fun H3 s3=>?_
 refine ⟨_,_,_,_,rfl,rfl,.int _,T.kit_int_int,?_⟩
 rw [if_pos rfl]
 walk_at "rd"
 exact q _ (S.trans s3)
theorem ok_asked {f:Addr} {fd:FuncData} (F:Fun K "_law_asked" "_law_asked" ZBh f fd) (T:Bt K mg C_Rule C_KeyRule C_NearRule C_RingRule C_TableRule C_VoteRule C_ChainRule C_AskedRule C_HallError C_NoRule C_NoPaper C_NoPlace C_NoKey C_NoRow C_NoOrder C_TooFar C_Spent)
  (b2:fd.code=.ref cc_asked) (ax:PySem.W.CodeHd base cc_asked Pt_asked) (b4:ZDK mg base)
  (J:Mt P w K mg base CX0 C_AskedRule "before" 2 ["self","x","y"] (ZCn C_AskedRule))
  (O:Mt P w K mg base CX0 C_AskedRule "widest" 1 ["self"] (ZBG))
  (U:Kl P w K mg base CX0 "AskedRule" C_AskedRule 1 ["self","teller"] (ZCT C_AskedRule))
 :FnOk P w K mg base CX0 3 f fd ["_law_cell"] (ZCS Pt_asked):=by
 refine F.okC b2 sc_asked (fun vs H Q E h=>?_) (fun A outer s H vs Q E hr h=>?_)
 .obtain ⟨c,rfl,hT,q⟩:=h
  rfl
 obtain ⟨c,rfl,hT,q⟩:=h
 refine ⟨_,(ZAF (ZBA (i:=1) sc_asked.nd rfl (by walk_at "o") (ZAV ZCd (ZCr ZDB (ZA2 (ZAA (ZAV ZBH (pv 0) ZAD) (ZAA ZBj (ZAA (ZAu (ZAA (ZAV ZBH (pv 0) (ZAV op_pow ZAD ZAD)) ZAB)) (ZAA pe_non ZAB))))) (ZDC (ZAV ZBH (ZAV ZBd (pv 0) ZAD) ZAD)) ZDD) (ZA2 (ZAA ZBj ZAB))))
  (ZAU
  (ZAF (ZBA (i:=2) sc_asked.nd rfl (by walk_at "o") (ZA2 ZAB))
  (ZAU
  (ZAF (ZBA (i:=3) sc_asked.nd rfl (by walk_at "o") (ZBm ZC2 (ZAV ZBH (ZAV ZBd (pv 0) ZAD) ZAD) ZAD (ZAo _)))
  (ZAU
  (ZAF (ps_def (i:=4) (Pt:=Pt_asked) (c:=cc_asked) (pos:=defPos ZAM) (iname:="_law_teller") (iq:="_law_asked.<locals>._law_teller") (ip:=ZAK ZAM) (ib:=ZAJ ZAM) (isc:=ZAC ZAM) sc_asked.nd rfl (Or.inl rfl) (Or.inl rfl) rfl ax b4 rfl rfl rfl rfl (fun y hy=>ZCM (lsc_asked.cell y hy)))
  (ZAU
  (ZAF (ZBA (i:=5) sc_asked.nd rfl (by walk_at "o") (ZBg U (hr.mono (by decide)) rfl ZAP (ZAA (pv 4) ZAB)))
  (ZAU
  (ZAF (ZCI PassesOwn.never rfl (ZBE (ZA2 (ZAA (ZAu (ZAA (ZBb ZA8 (pv 1) ZAD (fun _ _=>rfl)) (ZAA (ZBb ZA8 (pv 1) ZAD (fun _ _=>rfl)) ZAB))) (ZAA (ZAu (ZAA (ZBb ZA8 (pv 1) ZAD (fun _ _=>rfl)) (ZAA (ZBb ZA8 (pv 1) ZAD (fun _ _=>rfl)) ZAB))) ZAB)))) (ZDN (n:=2) rfl (ZBR (ZAt (i:=6) sc_asked.nd rfl (by walk_at "o")) (ZBR (ZAt (i:=7) sc_asked.nd rfl (by walk_at "o")) ZCq)))
  (ZAF (ZBA (i:=8) sc_asked.nd rfl (by walk_at "o") (pe_mtC (iname:="_law_teller") (iq:="_law_asked.<locals>._law_teller") (ip:=ZAK ZAM) (ib:=ZAJ ZAM) (lsc_asked.cel (ix:=[3,2]) (fun _=>rfl) rfl (hix_of rfl) rfl) J (hr.mono (by decide)) (pv 5) (ZAA (pv 6) (ZAA (pv 7) ZAB))))
  (ZAG (ZBI (PW.pt (ZCU (ZBQ (ZA9 (ZAO ZA7 rfl T.b_isinstance PyProof.Rows.boot_isinstance (ZAA (pv 8) (ZAA (ZDf rfl T.b_bool PyProof.Rows.boot_bool) ZAB))))) (ZBi (ZAh ZCa (pv 8) (pv 3) (ZAo _)))))
  (ZAG (ZAN ZBN)) ZAX))))
  (ZAU
  (ZAF (ZBI (PW.pt (ZCU (ZBQ (ZA9 (ZAO ZA7 rfl T.b_isinstance PyProof.Rows.boot_isinstance (ZAA (pv 5) (ZAA (ZBF rfl T.m_Rule) ZAB))))) (ZBi (ZAh ZCa (ZBk O (hr.mono (by decide)) ZAP (pv 5)) (ZC0 ZCH ZAD) (ZAo _)))))
  (ZAG (ZAN ZBN)) ZAX)
  (ZAU
  (ZAG (ZAN (ZBm (op_eqD hr.units) (pv 2) (ZA2 (ZAA (ZAu (ZAA (ZBb ZA8 (pv 1) ZAD (fun _ _=>rfl)) (ZAA (ZBb ZA8 (pv 1) ZAD (fun _ _=>rfl)) ZAB))) (ZAA (ZAu (ZAA (ZBb ZA8 (pv 1) ZAD (fun _ _=>rfl)) (ZAA (ZBb ZA8 (pv 1) ZAD (fun _ _=>rfl)) ZAB))) ZAB))) (ZAo _)))))))))))))))))),?_⟩
 walk_at "rd"
 refine ⟨by decide,⟨by decide,by decide,by decide⟩,by decide,ZAL (by decide),fun p hp=>⟨ZAL (by decide),fun p1 a3=>⟨⟨by decide,by decide⟩,by decide,ZDc (SqL.of ZAE) fun p2 a2=>⟨ZAL (by decide),fun p3 Y=>?_⟩⟩⟩⟩
 have k0:=Int.emod_nonneg (c / 7) (show (4:Int)≠0 by decide)
 have k1:=Int.emod_lt_of_pos (c / 7) (show (0:Int) < 4 by decide)
 generalize c / 7 % 4=k at k0 k1 Y a2 ⊢
 generalize c % 10 ^ Int.toNat 60=z at a3 a2 Y ⊢
 generalize c % 7=z7 at a2 Y ⊢
 obtain ⟨G1,e1,s1,h1⟩:=newH hp (.tup [.int z])
 rw [e1] at a3 a2 Y ⊢
 clear e1
 obtain ⟨G2,e2,s2,h2⟩:=newH a3 (.lst [.int z7,.str (Str.ofString "b"),.ref p,.non])
 rw [e2] at a2 Y ⊢
 clear e2
 obtain ⟨G3,e3,s3,h3⟩:=newH a2 (.lst (cutV [.int z7,.str (Str.ofString "b"),.ref p,.non] (some k) none))
 rw [e3] at Y ⊢
 clear e3
 obtain ⟨G4,e4,s4,h4⟩:=newH Y (.lst [.str (Str.ofString "a")])
 rw [e4]
 clear e4
 refine ⟨p2,p3,_,_,rfl,rfl,s4 _ _ h3,h4,?_,fun p4 al=>ZAz ?_⟩
 .have:(cutV [V.int z7,.str (Str.ofString "b"),.ref p,.non] (some k) none).length <= 4:=by
   exact cutV_length _ _ _
  exact ZAL (by rw [yAM];omega)
 obtain ⟨v0,v1,rest,d0,d1,ev,D,b3,b7,hd0,ba,b8,bg⟩:∃ (v0 v1:V) (rest:List V) (d0 d1:PyData),cutV [V.int z7,.str (Str.ofString "b"),.ref p,.non] (some k) none++[.str (Str.ofString "a")]=v0::v1::rest /\ (∀ X:Hp,X p=some (.tup [.int z])->Dp K X d0 v0 /\ Dp K X d1 v1) /\ d0.canLay0=true /\ d1.canLay0=true /\ d0.depth <= 5 /\ d1.depth <= 5 /\ ZDU d0=true /\ ZDU d1=true:=by
  have T0:∀ X:Hp,X p=some (.tup [.int z])->Dp K X (.tuple [.int z]) (.ref p):=fun X h=>ZCg (SqT.of h) (.one (ZC6 _))
  obtain rfl | rfl | rfl | rfl:k=0∨k=1∨k=2∨k=3:=by omega
  .exact ⟨_,_,_,.int z7,.str (Str.ofString "b"),rfl,fun X h=>⟨ZC6 _,ZCh _⟩,rfl,by decide +kernel,yBE rfl,yBE rfl,rfl,rfl⟩
  .exact ⟨_,_,_,.str (Str.ofString "b"),.tuple [.int z],rfl,fun X h=>⟨ZCh _,T0 X h⟩,by decide +kernel,rfl,yBE rfl,yBE rfl,rfl,rfl⟩
  .exact ⟨_,_,_,.tuple [.int z],.none,rfl,fun X h=>⟨T0 X h,dp_non⟩,rfl,rfl,yBE rfl,yBE rfl,rfl,rfl⟩
  .exact ⟨_,_,_,.none,.str (Str.ofString "a"),rfl,fun X h=>⟨dp_non,ZCh _⟩,rfl,by decide +kernel,yBE rfl,yBE rfl,rfl,rfl⟩
 rw [ev]
 obtain ⟨G5,e5,s5,h5⟩:=newH al (.lst (v0::v1::rest))
 rw [e5]
 clear e5
 have ah:G5 p=some (.tup [.int z]):=s5 _ _ (s4 _ _ (s3 _ _ (s2 _ _ h1)))
 have S5:=s1.trans (s2.trans (s3.trans (s4.trans s5)))
 have ac:TabT G5 Pt_asked:=by
  rcases hT with z | ⟨c',z,zc⟩
  .exact .inl (S5 _ _ z)
  .exact .inr ⟨c',S5 _ _ z,zc.mono S5.fz⟩
 clear S5 s1 s2 s3 s4 s5 h1 h2 h3 h4 hp a3 a2 Y al ev hT
 walk_at "rd"
 refine ⟨yAO _,fun lg ag=>ZAz ?_⟩
 walk_at "rd"
 refine ⟨⟨by decide,by decide⟩,by decide,?_⟩
 walk_at "rd"
 refine ZAz ?_
 walk_at "rd"
 generalize hbb:decide (c / 28 % 2=1)=bb
 obtain ⟨G6,e6,s6,h6⟩:=newH ag (.lst [])
 rw [e6]
 clear e6
 have a8:=s6 _ _ ah
 have a6:=s6 _ _ h5
 have a7:TabT G6 Pt_asked:=by
  rcases ac with z | ⟨c',z,zc⟩
  .exact .inl (s6 _ _ z)
  .exact .inr ⟨c',s6 _ _ z,zc.mono s6.fz⟩
 have a4:∀ b o,G6 b=some o->(∀ t,o≠.tbl t)->b≠Pt_asked:=fun b o e n z=>by
  rcases a7 with w | ⟨c',w,_⟩
  .rw [z,w] at e;cases e;exact n _ rfl
  .rw [z,w] at e;cases e;exact n _ rfl
 refine ⟨a7,fun g G7 M=>ZAz ?_⟩
 have ap:=M.same _ _ (a4 _ _ a8 fun _ z=>by cases z) a8
 have af:=M.same _ _ (a4 _ _ a6 fun _ z=>by cases z) a6
 have ar:=M.same _ _ (a4 _ _ h6 fun _ z=>by cases z) h6
 have ai:CloM G7 g _ _ _ _ _ _:=M.obj
 clear M a4 a7 s6 a8 a6 h6 ac ah h5 ag
 walk_at "rd"
 intro x dx hx ae b5
 refine ⟨x,dx,g,rfl,ZAE,fun G8 k8 hI=>⟨rfl,ZAz ?_⟩⟩
 have K8:∀ b o,G7 b=some o->G8 b=some o:=fun b o e=>k8 b o (ZAI e hx) (ZAd hx ae _ _ e)
 have au:=K8 _ _ ap
 have Z:=K8 _ _ af
 have a5:=K8 _ _ ar
 have am:=ai.mono (H':=G8) fun b o e=>K8 b _ e
 clear K8 k8 hx ae b5 ap af ar ai
 walk_at "rd"
 have aw:p4≠lg:=fun z=>by rw [z,a5] at Z;cases Z
 have a0:atI (v0::v1::rest) 0=some v0:=ZDR (by decide) rfl
 have a1:atI (v0::v1::rest) 1=some v1:=ZDR (by decide) rfl
 refine ZBS (SqL.of Z) a0 (ZBS (SqL.of Z) a1 ⟨ZAL (by decide),fun t1 ak=>?_⟩)
 have u1:=ZAW ak (.tup [v0,v1])
 refine ZBS (SqL.of (u1 _ _ Z)) a1 (ZBS (SqL.of (u1 _ _ Z)) a0 ⟨ZAL (by decide),fun t2 ao=>⟨ZAL (by decide),fun L hL=>?_⟩⟩)
 have u2:=ZAW ao (.tup [v1,v0])
 have u3:=ZAW hL (.lst [V.ref t1,V.ref t2])
 have S9:=u1.trans (u2.trans u3)
 have j0:upd G8 t1 (.tup [v0,v1]) t1=some (.tup [v0,v1]):=ZAE
 have j1:=u3 _ _ (u2 _ _ j0)
 have aa:upd (upd G8 t1 (.tup [v0,v1])) t2 (.tup [v1,v0]) t2=some (.tup [v1,v0]):=ZAE
 have j2:=u3 _ _ aa
 have j3:upd (upd (upd G8 t1 (.tup [v0,v1])) t2 (.tup [v1,v0])) L (.lst [V.ref t1,V.ref t2]) L=some (.lst [V.ref t1,V.ref t2]):=ZAE
 have nL:L≠lg:=fun z=>by rw [z,u2 _ _ (u1 _ _ a5)] at hL;cases hL
 generalize upd (upd (upd G8 t1 (.tup [v0,v1])) t2 (.tup [v1,v0])) L (.lst [V.ref t1,V.ref t2])=G9 at S9 j1 j2 j3 ⊢
 have A0:=A14.mk (S9 _ _ au) (S9 _ _ Z) (hI.mono S9) (am.mono S9.fz) j3 j1 j2 aw nL ⟨[],S9 _ _ a5,rfl,fun j v h=>by simp at h⟩
 clear S9 j0 aa j1 j2 u1 u2 u3 hL ak ao au Z hI am a5
 refine ZB5 (SqL.of j3) (fun i σ X=>(∃ v6 v7 v8,σ=[some (V.int c),some (V.ref p4),some (V.ref lg),some (V.bl bb),some (V.ref g),some (V.ref x),v6,v7,v8]) /\ A14 X p p4 lg g x L t1 t2 z v0 v1 rest C_AskedRule _ i) ⟨⟨_,_,_,rfl⟩,A0⟩ (fun i σ X _ z=>SqL.of z.2.hL) (fun i u σ X hu z=>?_) fun σ X z=>?_
 .obtain ⟨⟨v6,v7,v8,rfl⟩,A⟩:=z
  obtain ⟨t,a,b,rfl,ht,ay⟩:∃ t a b,u=.ref t /\ X t=some (.tup [a,b]) /\ [a,b]=(if i=0 then [v0,v1] else [v1,v0]):=by
   match i,hu with
   | 0,hu=>cases hu;exact ⟨t1,v0,v1,rfl,A.h1,rfl⟩
   | 1,hu=>cases hu;exact ⟨t2,v1,v0,rfl,A.h2,rfl⟩
  have bf:i < 2:=(yAP.mp hu).1
  walk_at "rd"
  refine ZDI (SqT.of ht) rfl ?_
  walk_at "rd"
  obtain ⟨ws,hl,aj,_⟩:=A.hw
  obtain ⟨be,pm,bc,c',hg,_⟩:=id A.hC
  refine A.hI.meth (by walk_at "lk") ⟨g,[.bl bb,.ref lg],A.hC,rfl,fun H3 s3 ad=>⟨x,g,a,b,rfl,A.hI.mono s3,⟨_,s3 _ _ hg,_,rfl⟩,g,lg,a,b,bb,ws,rfl,rfl,ad,s3 _ _ hl,by omega,fun tt av H5 hd=>?_⟩⟩
  have A':=A.step hl s3 av ay hd
  refine ⟨_,_,_,_,rfl,rfl,.bl _,T.kit_bool_bool,?_⟩
  rw [if_neg (by decide)]
  walk_at "rd"
  rw [if_neg (fun z=>z trivial)]
  exact ⟨⟨_,_,_,rfl⟩,A'⟩
 .obtain ⟨⟨v6,v7,v8,rfl⟩,A⟩:=z
  walk_at "rd"
  refine ZAz ?_
  walk_at "rd"
  obtain ⟨bd,b9,i1,i2,i3⟩:=A.hI.ex
  refine ⟨_,_,_,_,rfl,rfl,T.ty_AskedRule _ _ _ _ i1,T.kit_AskedRule_Rule,?_⟩
  rw [if_neg (by decide)]
  refine A.hI.meth (by walk_at "lk") ⟨x,rfl,?_⟩
  walk_at "rd"
  rw [if_neg (fun z=>z trivial)]
  refine ZAz ?_
  walk_at "rd"
  refine ZBS (SqL.of A.h4) a0 (ZBS (SqL.of A.h4) a1 ⟨ZAL (by decide),fun r1 az=>?_⟩)
  obtain ⟨X1,e1,s1,k1⟩:=newH az (.tup [v0,v1])
  rw [e1];clear e1
  refine ZBS (SqL.of (s1 _ _ A.h4)) a1 (ZBS (SqL.of (s1 _ _ A.h4)) a0 ⟨ZAL (by decide),fun r2 b6=>⟨ZAL (by decide),fun r3 a9=>?_⟩⟩)
  obtain ⟨X2,e2,s2,k2⟩:=newH b6 (.tup [v1,v0])
  rw [e2] at a9 ⊢;clear e2
  obtain ⟨X3,e3,s3,k3⟩:=newH a9 (.lst [V.ref r1,V.ref r2])
  rw [e3];clear e3
  obtain ⟨ws,hl,aj,hw⟩:=A.hw
  have S3:=s1.trans (s2.trans s3)
  obtain ⟨D0,D1⟩:=D X3 (S3 _ _ A.hp)
  obtain ⟨w0,w1,rfl⟩:∃ w0 w1,ws=[w0,w1]:=by
   match ws,aj with
   | [w0,w1],_=>exact ⟨w0,w1,rfl⟩
  obtain ⟨b0,rfl,m0⟩:=hw 0 w0 rfl
  obtain ⟨b1,rfl,m1⟩:=hw 1 w1 rfl
  have aq:∀ {b:Addr},X3 b=some (.tup [v0,v1])->Dp K X3 (.tuple [d0,d1]) (.ref b):=fun h=>ZCg (SqT.of h) (.two D0 D1)
  have an:∀ {b:Addr},X3 b=some (.tup [v1,v0])->Dp K X3 (.tuple [d1,d0]) (.ref b):=fun h=>ZCg (SqT.of h) (.two D1 D0)
  refine eqD_refl (d:=.list [.tuple [d0,d1],.tuple [d1,d0]]) (dp_lst (SqL.of (S3 _ _ hl)) (.two (aq (S3 _ _ m0)) (an (S3 _ _ m1)))) (dp_lst (SqL.of k3) (.two (aq (s3 _ _ (s2 _ _ k1))) (an (s3 _ _ k2)))) ?_ ?_ (q _)
  .simp [PyData.canLay0,PyData.canLayAll0,b3,b7]
  .simp only [PyData.depth,PyData.depthAll]
   omega
theorem ok_law {f:Addr} {fd:FuncData} (F:Fun K "law" "law" ZCo f fd) (T:Bt K mg C_Rule C_KeyRule C_NearRule C_RingRule C_TableRule C_VoteRule C_ChainRule C_AskedRule C_HallError C_NoRule C_NoPaper C_NoPlace C_NoKey C_NoRow C_NoOrder C_TooFar C_Spent)
  (al:Fn P w K mg base CX0 "_law_columns" 1 ["_law_cell"] (ZCm K))
  (au:Fn P w K mg base CX0 "_law_table" 1 ["_law_cell","_law_many"] (ZCO))
  (J:Fn P w K mg base CX0 "_law_cell_at" 1 ["_law_script","_law_k"] (ZDb K))
  (O:Fn P w K mg base CX0 "_law_refused" 6 ["_law_kind","_law_first","_law_second"] (ZB1 K))
  (ax:Fn P w K mg base CX0 "_law_asked" 3 ["_law_cell"] (ZCS Pt_asked))
  (ay:Fn P w K mg base CX0 "_law_empty" 4 ["_law_rule"] (ZCR C_Rule C_KeyRule C_VoteRule C_ChainRule))
  (a0:Mt P w K mg base CX0 C_TableRule "widest" 1 ["self"] (ZCk C_TableRule))
  (a2:Mt P w K mg base CX0 C_NearRule "widest" 1 ["self"] (ZCQ C_NearRule))
  (a1:Mt P w K mg base CX0 C_RingRule "widest" 1 ["self"] (ZCP C_RingRule))
  (a9:Mt P w K mg base CX0 C_KeyRule "widest" 1 ["self"] (ZBB K C_KeyRule))
  (ah:KlN K mg "Rule" C_Rule)
  (a4:Kl P w K mg base (CXE P w) "KeyRule" C_KeyRule 3 ["self","columns"] (ZCy K C_KeyRule C_NoRule))
  (ae:Kl P w K mg base CX0 "VoteRule" C_VoteRule 1 ["self","rules"] (ZB0 C_VoteRule))
  (a6:Kl P w K mg base CX0 "ChainRule" C_ChainRule 1 ["self","rules"] (ZB0 C_ChainRule))
  (a8:Kl P w K mg base (CXE P w) "TableRule" C_TableRule 2 ["self","at","table"] (ZCK C_TableRule C_NoRule))
  (af:Kl P w K mg base (CXE P w) "NearRule" C_NearRule 2 ["self","at","gap"] (ZB8 C_NearRule C_NoRule))
  (ad:Kl P w K mg base (CXE P w) "RingRule" C_RingRule 2 ["self","at","size"] (ZB7 C_RingRule C_NoRule))
 :FnOk P w K mg base CX0 7 f fd ["_law_script"] (ZDa K [(cc_asked,Pt_asked)]):=by
 refine F.ok sc_law (fun vs H Q E h=>?_) (fun fw A outer s H vs Q E U h=>?_)
 .obtain ⟨a,ns,rfl,hS,en,hT,q⟩:=h
  rfl
 obtain ⟨a,ns,rfl,hS,en,hT,q⟩:=h
 refine ⟨_,(ZAF (ZBA (i:=1) sc_law.nd rfl (by walk_at "o") (ZA6 al (U.mono (by decide)) rfl ZAP (ZAA (ZA6 J (U.mono (by decide)) rfl ZAP (ZAA (pv 0) (ZAA ZAD ZAB))) ZAB)))
  (ZAU
  (ZAF (ZBA (i:=2) sc_law.nd rfl (by walk_at "o") (ZAV ZBH (ZAV ZBd (ZA6 J (U.mono (by decide)) rfl ZAP (ZAA (pv 0) (ZAA ZAD ZAB))) ZAD) (ZAV ZBx (ZAO ZAv rfl T.b_len PySem.boot_len (ZAA (pv 1) ZAB)) ZAD)))
  (ZAU
  (ZAF (ZBA (i:=3) sc_law.nd rfl (by walk_at "o") (ZAV ZBH (ZA6 J (U.mono (by decide)) rfl ZAP (ZAA (pv 0) (ZAA ZAD ZAB))) (ZAV op_pow ZAD ZAD)))
  (ZAU
  (ZAF (ZBA (i:=4) sc_law.nd rfl (by walk_at "o") (ZBb ZA8 (ZA2 (ZAA (ZC0 ZCH ZAD) (ZAA ZAD (ZAA (ZAV ZBx ZAD (pv 3)) (ZAA (ZAV ZDg (ZC0 ZCH ZAD) (pv 3)) ZAB))))) (ZAV ZBH (ZA6 J (U.mono (by decide)) rfl ZAP (ZAA (pv 0) (ZAA ZAD ZAB))) ZAD) (fun _ _=>rfl)))
  (ZAU
  (ZAF (ZBA (i:=5) sc_law.nd rfl (by walk_at "o") (ZBb ZA8 (ZA2 (ZAA ZBj (ZAA ZBj (ZAA ZBj (ZAA ZBj (ZAA ZBj ZAB)))))) (ZAV ZBH (ZA6 J (U.mono (by decide)) rfl ZAP (ZAA (pv 0) (ZAA ZAD ZAB))) ZAD) (fun _ _=>rfl)))
  (ZAU
  (ZAF (ZCI PassesOwn.never rfl (ZBE (ZA2 (ZAA (ZAu (ZAA (pv 4) (ZAA ZBj ZAB))) (ZAA (ZAu (ZAA (ZAV ZBH (ZAV ZBd (ZA6 J (U.mono (by decide)) rfl ZAP (ZAA (pv 0) (ZAA ZAD ZAB))) ZAD) ZAD) (ZAA (pv 5) ZAB))) (ZAA (ZAu (ZAA (pv 4) (ZAA (pv 5) ZAB))) ZAB))))) (ZAt (i:=6) sc_law.nd rfl (by walk_at "o"))
  (ZAG (ZBI (ZBQ (ZA9 (ZA6 O (U.mono (by decide)) rfl ZAP (ZAA ZAD (ZAA (ZAV ZCd (ZAV ZCd (ZCr ZDB (pv 1) ZDD (ZDC (pv 2))) (ZA2 (ZAA (pv 6) ZAB))) (ZCr ZDB (pv 1) (ZDC (pv 2)) ZDD)) (ZAA ZAD ZAB))))))
  (ZAG (ZAN ZBN)) ZAX)))
  (ZAU
  (ZAF (ZBA (i:=7) sc_law.nd rfl (by walk_at "o") (ZAV ZBH (ZA6 J (U.mono (by decide)) rfl ZAP (ZAA (pv 0) (ZAA ZAD ZAB))) ZAD))
  (ZAU
  (ZAF (ZBA (i:=8) sc_law.nd rfl (by walk_at "o") (ZA6 au (U.mono (by decide)) rfl ZAP (ZAA (ZA6 J (U.mono (by decide)) rfl ZAP (ZAA (pv 0) (ZAA ZAD ZAB))) (ZAA (ZAV ZBx ZAD (ZAV ZBH (ZAV ZBd (ZA6 J (U.mono (by decide)) rfl ZAP (ZAA (pv 0) (ZAA ZAD ZAB))) ZAD) ZAD)) ZAB))))
  (ZAU
  (ZAF (ZBI (PW.pt (ZCU (ZBQ (ZA9 (ZA6 O (U.mono (by decide)) rfl ZAP (ZAA ZAD (ZAA (pv 4) (ZAA (pv 3) ZAB)))))) (ZBi (ZBQ (ZA9 (ZA6 O (U.mono (by decide)) rfl ZAP (ZAA ZAD (ZAA (pv 7) (ZAA (ZAV ZDg (ZC0 ZCH ZAD) (pv 3)) ZAB)))))))))
  (ZAG (ZAN ZBN)) ZAX)
  (ZAU
  (ZAF (ZBI (PW.pt (ZCU (ZBQ (ZA9 (ZA6 O (U.mono (by decide)) rfl ZAP (ZAA ZAD (ZAA (pv 4) (ZAA (ZAV ZBx ZAD (pv 3)) ZAB)))))) (ZBi (ZBQ (ZA9 (ZA6 O (U.mono (by decide)) rfl ZAP (ZAA ZAD (ZAA (pv 7) (ZAA (ZAV ZDg ZAD (pv 3)) ZAB)))))))))
  (ZAG (ZAN ZBN)) ZAX)
  (ZAU
  (ZAF (ZCF (i:=9) sc_law.nd rfl (Or.inl rfl) rfl (k:=1) (js:=[]) (N':=["_law_truths"]) (by rfl) (ZBE (pv 8)) (fun _ _ _ _=>ZAt (i:=0) (show (["_law_truths"]:List Str).Nodup by decide +kernel) rfl (by walk_at "o")) (fun _ _ _ _=>ZBr) (fun _ _ _ _=>(ZBn (call_list_ofK K) rfl T.b_list PyProof.Rows.boot_list (ZAA (pv 0) ZAB))))
  (ZAU
  (ZAF (ZBA (i:=10) sc_law.nd rfl (by walk_at "o") (ZAV ZBH (ZAV ZBd (ZA6 J (U.mono (by decide)) rfl ZAP (ZAA (pv 0) (ZAA ZAD ZAB))) ZAD) (ZAO ZAv rfl T.b_len PySem.boot_len (ZAA (pv 8) ZAB))))
  (ZAU
  (ZAF (ZBI (ZAh ZC2 (ZAV ZBH (ZA6 J (U.mono (by decide)) rfl ZAP (ZAA (pv 0) (ZAA ZAD ZAB))) ZAD) ZAD (ZAo _))
  (ZAG (ZBX (ZD0 PySem.F.plainAttrs_list PySem.F.slot_list_append PySem.F.type_list_append ZCX (ZBb ZA8 (pv 9) (pv 10) (fun _ _=>rfl)) (ZAA ZBN ZAB))))
  (ZAG (ZBX (pe_bm0 PySem.F.plainAttrs_list PySem.F.slot_list_pop PySem.F.type_list_pop mt_pop (ZBb ZA8 (pv 9) (pv 10) (fun _ _=>rfl))))))
  (ZAU
  (ZAF (ZBI (PW.pt (ZCU (ZBQ (ZA9 (ZA6 O (U.mono (by decide)) rfl ZAP (ZAA ZAD (ZAA (pv 7) (ZAA (pv 9) ZAB)))))) (ZBi (ZBQ (ZA9 (ZA6 O (U.mono (by decide)) rfl ZAP (ZAA ZAD (ZAA (pv 4) (ZAA (pv 8) ZAB)))))))))
  (ZAG (ZAN ZBN)) ZAX)
  (ZAU
  (ZAF (ZBI (ZBQ (ZA9 (ZA6 O (U.mono (by decide)) rfl ZAP (ZAA ZAD (ZAA (pv 7) (ZAA (ZAV ZCd (pv 8) (ZA2 (ZAA (ZAV op_rep (ZA2 (ZAA ZBN ZAB)) (ZAO ZAv rfl T.b_len PySem.boot_len (ZAA (pv 8) ZAB))) ZAB))) ZAB))))))
  (ZAG (ZAN ZBN)) ZAX)
  (ZAU
  (ZAF (ZBI (PW.pt (ZCU (ZAh ZCa (ZBk a0 (U.mono (by decide)) ZAP (ZBg a8 (U.mono (by decide)) rfl ZCs (ZAA (pv 7) (ZAA (pv 8) ZAB)))) (pv 7) (ZAo _)) (ZBi (ZAh ZCa (ZBk a2 (U.mono (by decide)) ZAP (ZBg af (U.mono (by decide)) rfl ZCs (ZAA (pv 7) (ZAA (pv 3) ZAB)))) (pv 7) (ZAo _)))))
  (ZAG (ZAN ZBN)) ZAX)
  (ZAU
  (ZAF (ZBI (PW.pt (ZCU (ZAh ZCa (ZBk a1 (U.mono (by decide)) ZAP (ZBg ad (U.mono (by decide)) rfl ZCs (ZAA (pv 7) (ZAA (ZAV ZBx ZAD (pv 3)) ZAB)))) (pv 7) (ZAo _)) (ZBi (ZAh ZCa (ZBk a9 (U.mono (by decide)) ZAP (ZBg a4 (U.mono (by decide)) rfl ZCs (ZAA (ZAV ZCd (pv 1) (ZA2 (ZAA (ZAu (ZAA ZAD (ZAA ZBj ZAB))) ZAB))) ZAB))) ZAD (ZAo _)))))
  (ZAG (ZAN ZBN)) ZAX)
  (ZAU
  (ZAF (ZCI PassesOwn.never rfl (ZBE (ZA2 (ZAA (pe_mkN ah rfl) (ZAA (ZBg a4 (U.mono (by decide)) rfl ZCs (ZAA (ZA2 ZAB) ZAB)) (ZAA (ZBg ae (U.mono (by decide)) rfl ZAP (ZAA (ZA2 ZAB) ZAB)) (ZAA (ZBg a6 (U.mono (by decide)) rfl ZAP (ZAA (ZA2 ZAB) ZAB)) (ZAA (ZBg ae (U.mono (by decide)) rfl ZAP (ZAA (ZA2 (ZAA (pe_mkN ah rfl) ZAB)) ZAB)) (ZAA (ZBg a6 (U.mono (by decide)) rfl ZAP (ZAA (ZA2 (ZAA (ZBg a4 (U.mono (by decide)) rfl ZCs (ZAA (ZA2 ZAB) ZAB)) ZAB)) ZAB)) ZAB)))))))) (ZAt (i:=11) sc_law.nd rfl (by walk_at "o"))
  (ZAG (ZBI (PW.pt (ZCU (ZBQ (ZA9 (ZA6 ay (U.mono (by decide)) rfl ZAP (ZAA (pv 11) ZAB)))) (ZBi (ZBQ (ZA9 (ZAO ZA7 rfl T.b_isinstance PyProof.Rows.boot_isinstance (ZAA (pv 11) (ZAA (ZBF rfl T.m_Rule) ZAB))))))))
  (ZAG (ZAN ZBN)) ZAX)))
  (ZAU
  (ZAF (ZBI (PW.pt (ZCU (ZBQ (ZA9 (ZAO ZA7 rfl T.b_isinstance PyProof.Rows.boot_isinstance (ZAA (ZBg af (U.mono (by decide)) rfl ZCs (ZAA (pv 7) (ZAA (pv 3) ZAB))) (ZAA (ZBF rfl T.m_Rule) ZAB))))) (ZBi (ZBQ (ZA9 (ZAO ZA7 rfl T.b_isinstance PyProof.Rows.boot_isinstance (ZAA (ZBg ad (U.mono (by decide)) rfl ZCs (ZAA (pv 7) (ZAA (ZAV ZBx ZAD (pv 3)) ZAB))) (ZAA (ZBF rfl T.m_Rule) ZAB))))))))
  (ZAG (ZAN ZBN)) ZAX)
  (ZAG (ZAN (ZDO (ZAO ZA7 rfl T.b_isinstance PyProof.Rows.boot_isinstance (ZAA (ZBg a8 (U.mono (by decide)) rfl ZCs (ZAA (pv 7) (ZAA (pv 8) ZAB))) (ZAA (ZBF rfl T.m_Rule) ZAB))) (ZDe (ZA6 ax (U.mono (by decide)) rfl ZAP (ZAA (ZA6 J (U.mono (by decide)) rfl ZAP (ZAA (pv 0) (ZAA ZAD ZAB))) ZAB))))))))))))))))))))))))))))))))))))))))))),?_⟩
 walk_at "rd"
 have dp:=hT (cc_asked,Pt_asked) yAL
 clear hT
 refine ⟨a,ns,0,rfl,hS,by decide,_,rfl,fun l xs cols H1 s1 hl hd hg fy=>ZAz ?_⟩
 have bf:=s1.seq hS
 have bi:=s1 _ _ dp
 clear hS dp s1
 have g5:xs.length=cols.length:=by rw [hd.length,yAF]
 walk_at "rd"
 refine ⟨a,ns,1,rfl,bf,by decide,?_⟩
 walk_at "rd"
 refine ⟨⟨by decide,by decide⟩,l,xs,rfl,.inl (SqL.of hl),?_⟩
 walk_at "rd"
 refine ⟨by omega,ZAz ?_⟩
 obtain ⟨ac,ao,bh⟩:∃ k:Nat,cellOf ns 1 / 12 % ((xs.length:Int)+1)=k /\ k <= xs.length:=by
  have h0:=Int.emod_nonneg (cellOf ns 1 / 12) (show ((xs.length:Int)+1)≠0 by omega)
  have h1:=Int.emod_lt_of_pos (cellOf ns 1 / 12) (show (0:Int) < (xs.length:Int)+1 by omega)
  exact ⟨(cellOf ns 1 / 12 % ((xs.length:Int)+1)).toNat,by omega,by omega⟩
 rw [ao]
 clear ao
 walk_at "rd"
 refine ⟨a,ns,2,rfl,bf,by decide,?_⟩
 walk_at "rd"
 refine ⟨⟨by decide,by decide,by decide⟩,by decide,ZAz ?_⟩
 have f0:=Int.emod_nonneg (cellOf ns 2) (show ((10:Int) ^ Int.toNat 60)≠0 by decide)
 generalize cellOf ns 2 % 10 ^ Int.toNat 60=far at f0 ⊢
 walk_at "rd"
 refine ⟨ZAL (by decide),fun p hp=>?_⟩
 have F1:F14 K H1 a ns l xs cols Pt_asked:=⟨bf,hl,hd,bi⟩
 clear bf hl hd bi
 obtain ⟨X2,e2,s2,h2⟩:=newH hp (.lst [V.int (-1),V.int 8,V.int (8+far),V.int (-1-far)])
 rw [e2]
 clear e2
 have F2:=F1.mono s2
 clear F1 s2 hp
 refine ⟨a,ns,1,rfl,F2.S,by decide,?_⟩
 walk_at "rd"
 refine ⟨by decide,?_⟩
 obtain ⟨na,ha,b8⟩:=no_at14 far (cellOf ns 1) f0
 refine ZBS (SqL.of h2) ha (ZAz ?_)
 clear ha h2
 walk_at "rd"
 refine ⟨ZAL (by decide),fun p3 aa=>?_⟩
 obtain ⟨X3,e3,s3,h3⟩:=newH aa (.lst [V.str (Str.ofString ""),V.str (Str.ofString "Up"),V.str (Str.ofString "downs"),V.str (Str.ofString "left"),V.str (Str.ofString "up ")])
 rw [e3]
 clear e3
 have F3:=F2.mono s3
 clear F2 s3 aa
 refine ⟨a,ns,3,rfl,F3.S,by decide,?_⟩
 walk_at "rd"
 refine ⟨by decide,?_⟩
 obtain ⟨nw,hw,ef⟩:=no_way14 (cellOf ns 3)
 refine ZBS (SqL.of h3) hw (ZAz ?_)
 clear hw h3
 walk_at "rd"
 refine ⟨ZAL (by decide),fun t1 cw=>?_⟩
 obtain ⟨X4,e4,s4,h4⟩:=newH cw (.tup [V.int na,V.str (Str.ofString "up")])
 rw [e4]
 clear e4
 have F4:=F3.mono s4
 clear F3 s4 cw
 refine ⟨a,ns,3,rfl,F4.S,by decide,?_⟩
 walk_at "rd"
 refine ⟨⟨by decide,by decide⟩,by decide,ZAL (by decide),fun t2 dq=>⟨ZAL (by decide),fun t3 bg=>⟨ZAL (by decide),fun L hL=>?_⟩⟩⟩
 generalize cellOf ns 3 / 5 % 8=z8 at bg hL ⊢
 obtain ⟨X5,e5,s5,h5⟩:=newH dq (.tup [V.int z8,V.str nw])
 rw [e5] at bg hL ⊢
 clear e5
 obtain ⟨X6,e6,s6,h6⟩:=newH bg (.tup [V.int na,V.str nw])
 rw [e6] at hL ⊢
 clear e6
 obtain ⟨G,e7,s7,cf⟩:=newH hL (.lst [V.ref t1,V.ref t2,V.ref t3])
 rw [e7]
 clear e7
 have FG:=F4.mono (s5.trans (s6.trans s7))
 have h4:=s7 _ _ (s6 _ _ (s5 _ _ h4))
 have h5:=s7 _ _ (s6 _ _ h5)
 have h6:=s7 _ _ h6
 clear s5 s6 s7 hL dq bg F4
 refine ZB5 (SqL.of cf) (fun i σ X=>(∃ v6,σ=[some (V.ref a),some (V.ref l),some (V.int ac),some (V.int far),some (V.int na),some (V.str nw),v6,none,none,none,none,none]) /\ Same G X) ⟨⟨_,rfl⟩,.refl _⟩ (fun i σ X _ z=>SqL.of (z.2 _ _ cf)) (fun i u σ X hu z=>?_) fun σ X z=>?_
 .obtain ⟨⟨v6,rfl⟩,sX⟩:=z
  obtain ⟨t,a',w',rfl,ht,hb⟩:∃ t a' w',u=.ref t /\ G t=some (.tup [.int a',.str w']) /\ ¬ good a' w':=by
   match i,hu with
   | 0,hu=>cases hu;exact ⟨t1,na,_,rfl,h4,fun z=>b8 z.1⟩
   | 1,hu=>cases hu;exact ⟨t2,z8,nw,rfl,h5,fun z=>ef z.2⟩
   | 2,hu=>cases hu;exact ⟨t3,na,nw,rfl,h6,fun z=>b8 z.1⟩
  have FX:=FG.mono sX
  have ff:=sX _ _ ht
  walk_at "rd"
  refine ZDc (SqL.of FX.l) fun p1 ak=>⟨ZAL (by decide),fun p2 ag=>?_⟩
  rw [cutV_to bh] at ag ⊢
  obtain ⟨Y1,e1,r1,k1⟩:=newH ak (.lst (xs.take ac))
  rw [e1] at ag ⊢
  clear e1
  obtain ⟨Y2,e2,r2,k2⟩:=newH ag (.lst [V.ref t])
  rw [e2]
  clear e2
  refine ⟨p1,p2,_,_,rfl,rfl,r2 _ _ k1,k2,ZAL (by rw [List.length_take,yAM];omega),fun p3 aa=>?_⟩
  obtain ⟨Y3,e3,r3,k3⟩:=newH aa (.lst (xs.take ac++[V.ref t]))
  rw [e3]
  clear e3
  have R3:=r1.trans (r2.trans r3)
  refine ZDc (SqL.of (R3 _ _ FX.l)) fun p4 an=>?_
  rw [cutV_fr bh]
  obtain ⟨Y4,e4,r4,k4⟩:=newH an (.lst (xs.drop ac))
  rw [e4]
  clear e4
  refine ⟨p3,p4,_,_,rfl,rfl,r4 _ _ k3,k4,ZAL (by rw [yAI,List.length_take,List.length_drop,yAM];omega),fun p5 cb=>?_⟩
  obtain ⟨Y5,e5,r5,k5⟩:=newH cb (.lst (xs.take ac++[V.ref t]++xs.drop ac))
  rw [e5]
  clear e5
  have R5:=R3.trans (r4.trans r5)
  have F5:=FX.mono R5
  have D5:DpAll K Y5 ((cols.take ac++[(a',w')]++cols.drop ac).map colS) (xs.take ac++[V.ref t]++xs.drop ac):=by
   rw [yBD,yBD,List.map_take,List.map_drop]
   exact ((dp_take ac F5.d).snoc (ZCg (SqT.of (R5 _ _ ff)) (.two (ZC6 _) (ZCh _)))).append (dp_drop ac F5.d)
  refine ⟨0,.ref p5,.int 0,rfl,.inl ⟨rfl,p5,_,_,rfl,k5,D5,(a',w'),by simp,hb⟩,fun Z sZ=>?_⟩
  walk_at "rd"
  exact ⟨⟨_,rfl⟩,sX.trans (R5.trans sZ)⟩
 obtain ⟨⟨v6,rfl⟩,sX⟩:=z
 have F8:=FG.mono sX
 clear FG sX cf h4 h5 h6
 walk_at "rd"
 refine ZAz ?_
 walk_at "rd"
 refine ⟨a,ns,4,rfl,F8.S,by decide,?_⟩
 walk_at "rd"
 refine ⟨by decide,ZAz ?_⟩
 have eh:=Int.emod_nonneg (cellOf ns 4) (show (8:Int)≠0 by decide)
 have em:=Int.emod_lt_of_pos (cellOf ns 4) (show (0:Int) < 8 by decide)
 generalize cellOf ns 4 % 8=gd at eh em ⊢
 walk_at "rd"
 refine ⟨a,ns,5,rfl,F8.S,by decide,a,ns,4,rfl,F8.S,by decide,?_⟩
 walk_at "rd"
 refine ⟨⟨by decide,by decide⟩,by decide,?_⟩
 obtain ⟨n,hn,g9,fb⟩:∃ n:Nat,1+cellOf ns 4 / 8 % 4=n /\ 1 <= n /\ n <= 4:=by
  have h0:=Int.emod_nonneg (cellOf ns 4 / 8) (show (4:Int)≠0 by decide)
  have h1:=Int.emod_lt_of_pos (cellOf ns 4 / 8) (show (0:Int) < 4 by decide)
  exact ⟨(1+cellOf ns 4 / 8 % 4).toNat,by omega,by omega,by omega⟩
 rw [hn]
 clear hn
 refine ⟨_,n,rfl,fb,fun tb X9 s9 da=>ZAz ?_⟩
 have F9:=F8.mono s9
 clear F8 s9
 walk_at "rd"
 refine ⟨1,_,_,rfl,.inr (.inl ⟨rfl,na,far,rfl,rfl,fun z=>b8 z.1⟩),fun Z sZ=>?_⟩
 walk_at "rd"
 refine ⟨1,_,_,rfl,.inr (.inl ⟨rfl,gd,-1-far,rfl,rfl,fun z=>by omega⟩),fun Z2 ai=>?_⟩
 walk_at "rd"
 have cq:=F9.mono (sZ.trans ai)
 have bt:=da.mono fun b xs e=>(sZ.trans ai) b _ e
 clear F9 sZ ai da
 refine ZAz ?_
 walk_at "rd"
 refine ⟨2,_,_,rfl,.inr (.inr (.inl ⟨rfl,na,1+far,rfl,rfl,fun z=>b8 z.1⟩)),fun Z sZ=>?_⟩
 walk_at "rd"
 refine ⟨2,_,_,rfl,.inr (.inr (.inl ⟨rfl,gd,0-far,rfl,rfl,fun z=>by omega⟩)),fun Z2 ai=>?_⟩
 walk_at "rd"
 have c0:=cq.mono (sZ.trans ai)
 have b0:=bt.mono fun b xs e=>(sZ.trans ai) b _ e
 clear cq sZ ai bt
 refine ZAz ?_
 walk_at "rd"
 obtain ⟨rs,bb,ca,hm⟩:=id b0
 rw [yAG] at ca
 refine ZBu (SqL.of bb) (by omega) (fun i ys σ X=>∃ v,σ=[v] /\ Same Z2 X /\ ys.length=i /\ ∀ (j:Nat) u,ys[j]?=some u->∃ r vs,u=.ref r /\ Z2 r=none /\ X r=some (.lst vs) /\ vs.length=n) ⟨_,rfl,.refl _,rfl,fun j u h=>by simp at h⟩ (fun i ys σ X _ z=>?_) (fun i ys u σ X hi hu z=>?_) fun ys σ X z sp bd=>?_
 .obtain ⟨_,_,e,e2,_⟩:=z
  exact ⟨SqL.of (e _ _ bb),Nat.le_of_eq e2⟩
 .obtain ⟨v,rfl,sX,b6,am⟩:=z
  obtain ⟨r,vs,rfl,et,cz⟩:=hm i u hu
  rw [yBI,if_pos (by omega)] at cz
  walk_at "rd"
  refine ⟨r,vs,rfl,.inl (SqL.of (sX _ _ et)),fun r2 az=>.of hi ⟨_,rfl,sX.trans (ZAW az _),by rw [yAI,b6];rfl,fun j u hu=>?_⟩⟩
  by_cases hj:j < ys.length
  .rw [yAY hj] at hu
   obtain ⟨r3,fn,d1,d2,d3,d4⟩:=am j u hu
   exact ⟨r3,fn,d1,d2,ZAW az _ _ _ d3,d4⟩
  .rw [yAX (by omega)] at hu
   have bw:=(yAP.mp hu).1
   rw [yAM] at bw
   rw [show j-ys.length=0 by omega] at hu
   cases hu
   exact ⟨r2,vs,rfl,sX.free az,ZAE,(Option.some.inj cz).symm⟩
 obtain ⟨v,rfl,sX,b6,am⟩:=z
 rw [ca] at b6
 refine ZAz ?_
 obtain ⟨Y,eY,sY,hY⟩:=newH bd (.lst ys)
 rw [eY]
 clear eY
 have SY:=sX.trans sY
 have F12:=c0.mono SY
 have aj:∀ (j:Nat) u,ys[j]?=some u->∃ r vs,u=.ref r /\ Z2 r=none /\ Y r=some (.lst vs) /\ vs.length=n /\ sp≠r:=fun j u hu=>by
  obtain ⟨r,vs,d1,d2,d3,d4⟩:=am j u hu
  exact ⟨r,vs,d1,d2,sY _ _ d3,d4,fun z=>by rw [z,d3] at bd;cases bd⟩
 clear am sX sY
 walk_at "rd"
 refine ⟨a,ns,5,rfl,F12.S,by decide,?_⟩
 walk_at "rd"
 refine ⟨⟨by decide,by decide⟩,tb,rs,rfl,.inl (SqL.of (SY _ _ bb)),?_⟩
 walk_at "rd"
 refine ⟨by omega,ZAz ?_⟩
 obtain ⟨c9,dc,fq⟩:∃ k:Nat,cellOf ns 5 / 64 % (rs.length:Int)=k /\ k < n:=by
  have h0:=Int.emod_nonneg (cellOf ns 5 / 64) (show (rs.length:Int)≠0 by omega)
  have h1:=Int.emod_lt_of_pos (cellOf ns 5 / 64) (show (0:Int) < (rs.length:Int) by omega)
  exact ⟨(cellOf ns 5 / 64 % (rs.length:Int)).toNat,by omega,by omega⟩
 rw [dc]
 clear dc
 walk_at "rd"
 refine ⟨a,ns,5,rfl,F12.S,by decide,?_⟩
 walk_at "rd"
 refine ⟨by decide,?_⟩
 obtain ⟨u,hu⟩:∃ u,ys[c9]?=some u:=⟨_,yBB (by omega)⟩
 obtain ⟨r,vs,rfl,ec,b2,cc,dz⟩:=aj _ _ hu
 have ao:atI ys (c9:Int)=some (.ref r):=ZDR (by omega) (by rw [Int.toNat_natCast];exact hu)
 have c4:∀ (bz:List V) (G:Hp),G=upd Y r (.lst bz)->bz.length≠n->Same Z2 G /\ ∃ ms,RowsAt G sp ms /\ ms.length=n /\ ∃ m∈ms,m≠n:=fun bz G eG fi=>by
  refine ⟨fun b o e=>?_,?_⟩
  .rw [eG,ZAH (ZAI e ec)]
   exact SY _ _ e
  .obtain ⟨ms,m1,m2,m3⟩:=rows_put (ms:=List.replicate n n) hY (by rw [b6,yAG]) (fun j v hv=>by
    obtain ⟨b,us,e1,_,e3,e4,_⟩:=aj j v hv
    exact ⟨b,us,e1,e3,by rw [e4,yBI,if_pos (by have:=(yAP.mp hv).1;omega)]⟩) hu dz eG fi
   exact ⟨ms,m1,by rw [m2,yAG],m3⟩
 apply once14 (fun G=>Same Z2 G /\ ∃ ms,RowsAt G sp ms /\ ms.length=n /\ ∃ m∈ms,m≠n)
 .intro b1
  by_cases hz:cellOf ns 5 % 2=1
  .rw [if_pos hz]
   refine ZBS (SqL.of hY) ao ⟨.inl ⟨rfl,_,SqL.of b2⟩,r,vs,_,rfl,rfl,b2,ZB9 (by omega),?_⟩
   generalize hG:upd Y r (.lst (vs++[V.bl true]))=G
   exact b1 G (c4 _ G hG.symm (by rw [yAI,cc];simp))
  .rw [if_neg hz]
   refine ZBS (SqL.of hY) ao ⟨.inl ⟨rfl,_,SqL.of b2⟩,r,vs,_,rfl,rfl,b2,yBB (by omega),?_⟩
   generalize hG:upd Y r (.lst vs.dropLast)=G
   exact b1 G (c4 _ G hG.symm (by rw [List.length_dropLast,cc];omega))
 rintro G ⟨sG,ms,df,cy,m0,di,ed⟩
 have d8:=c0.mono sG
 have b4:=b0.mono fun b xs e=>sG b _ e
 clear c4 ao hu ec b2 cc dz aj F12 c0 b0 SY hY b6 hm bb bd sG
 refine ZAz ?_
 walk_at "rd"
 refine ⟨3,_,_,rfl,.inr (.inr (.inr ⟨rfl,gd,sp,ms,rfl,rfl,df,by omega,fun z=>ed (by rw [z.2 m0 di,cy])⟩)),fun Z3 s3=>?_⟩
 walk_at "rd"
 refine ⟨3,_,_,rfl,.inr (.inr (.inr ⟨rfl,na,tb,_,rfl,rfl,b4.mono fun b xs e=>s3 b _ e,by rw [yAG];omega,fun z=>b8 z.1⟩)),fun Z4 s4=>?_⟩
 walk_at "rd"
 have bv:=d8.mono (s3.trans s4)
 have aq:=b4.mono fun b xs e=>(s3.trans s4) b _ e
 clear d8 b4 s3 s4 df cy di ed ca
 refine ZAz ?_
 walk_at "rd"
 refine ⟨ZAL (by decide),fun p1 ak=>?_⟩
 obtain ⟨Y1,e1,r1,k1⟩:=newH ak (.lst [V.bl true])
 rw [e1]
 clear e1
 obtain ⟨ar,q1,q2,q3⟩:=id aq
 rw [yAG] at q2
 refine ⟨tb,ar,rfl,.inl (SqL.of (r1 _ _ q1)),p1,_,_,rfl,rfl,k1,by omega,by omega,ZAL (by rw [yAM];omega),fun p2 ag=>⟨ZAL (by decide),fun p3 aa=>?_⟩⟩
 obtain ⟨Y2,e2,r2,k2⟩:=newH ag (.lst (List.replicate (ar.length:Int).toNat [V.bl true]).flatten)
 rw [e2] at aa ⊢
 clear e2
 obtain ⟨Y3,e3,r3,k3⟩:=newH aa (.lst [V.ref p2])
 rw [e3]
 clear e3
 have R3:=r1.trans (r2.trans r3)
 refine ⟨tb,p3,_,_,rfl,rfl,R3 _ _ q1,k3,ZAL (by rw [yAM];omega),fun p4 an=>?_⟩
 obtain ⟨Y4,e4,r4,k4⟩:=newH an (.lst (ar++[V.ref p2]))
 rw [e4]
 clear e4
 have R4:=R3.trans r4
 have ci:RowsAt Y4 p4 (List.replicate n n++[n]):=by
  refine ⟨_,k4,by rw [yAI,yAI,yAG,q2];rfl,fun i v hv=>?_⟩
  by_cases hi:i < ar.length
  .rw [yAY hi] at hv
   obtain ⟨r,vs,d1,d2,d3⟩:=q3 i v hv
   exact ⟨r,vs,d1,R4 _ _ d2,by rw [yAY (by rw [yAG];omega)];exact d3⟩
  .rw [yAX (by omega)] at hv
   have ew:=(yAP.mp hv).1
   rw [yAM] at ew
   rw [show i-ar.length=0 by omega] at hv
   cases hv
   refine ⟨p2,_,rfl,r4 _ _ (r3 _ _ k2),?_⟩
   rw [yAX (by rw [yAG];omega),yAG,show i-n=0 by omega,len_rep,yAM,Nat.mul_one,Int.toNat_natCast,q2]
   rfl
 refine ⟨3,_,_,rfl,.inr (.inr (.inr ⟨rfl,gd,p4,_,rfl,rfl,ci,by rw [yAI,yAG,yAM];omega,fun z=>?_⟩)),fun Z5 s5=>?_⟩
 .have:=z.2 n (by simp)
  rw [yAI,yAG,yAM] at this
  omega
 walk_at "rd"
 have dw:=bv.mono (R4.trans s5)
 have ap:=aq.mono fun b xs e=>(R4.trans s5) b _ e
 clear bv aq R4 R3 r1 r2 r3 r4 k1 k2 k3 k4 ak ag aa an s5 ci q1 q2 q3
 refine ZAz ?_
 walk_at "rd"
 intro x dx hx ct eu
 have S1:=ZAd (C:=C_TableRule) hx ct
 have co:okT gd (List.replicate n n):=⟨⟨by omega,by omega⟩,fun m hm=>by rw [yAG];exact (List.mem_replicate.mp hm).2⟩
 refine ⟨x,dx,tb,gd,_,rfl,ZAE,ap.mono fun b xs e=>S1 b _ e,by rw [yAG];omega,fun _ l2 W1 kw hI=>⟨rfl,?_⟩,fun z=>absurd co z⟩
 have T1:Same Z5 W1:=fun b o e=>kw b o (ZAI e hx) (S1 _ _ e)
 refine hI.meth (by walk_at "lk") ⟨x,l2,gd,rfl,hI,?_⟩
 walk_at "rd"
 rw [if_neg (fun z=>z trivial)]
 intro x1 f7 c6 bn dh
 refine ⟨x1,f7,gd,far,rfl,ZAE,fun _ W2 ba av=>⟨rfl,?_⟩,fun z=>absurd (show (0 <= gd /\ gd <= 7) /\ 0 <= far from ⟨⟨by omega,by omega⟩,by omega⟩) z⟩
 have T2:Same W1 W2:=fun b o e=>ba b o (ZAI e c6) (ZAd c6 bn _ _ e)
 refine av.meth (by walk_at "lk") ⟨x1,gd,far,rfl,av,?_⟩
 walk_at "rd"
 rw [if_neg (fun z=>z trivial)]
 have dk:=dw.mono (T1.trans T2)
 have br:=ap.mono fun b xs e=>(T1.trans T2) b _ e
 clear dw ap T1 T2 hI av kw ba S1 hx ct eu c6 bn dh
 refine ZAz ?_
 walk_at "rd"
 intro x2 ep c8 bj ea
 refine ⟨x2,ep,gd,1+far,rfl,ZAE,fun _ W3 b9 aw=>⟨rfl,?_⟩,fun z=>absurd (show (0 <= gd /\ gd <= 7) /\ 1 <= 1+far from ⟨⟨by omega,by omega⟩,by omega⟩) z⟩
 have T3:Same W2 W3:=fun b o e=>b9 b o (ZAI e c8) (ZAd c8 bj _ _ e)
 refine aw.meth (by walk_at "lk") ⟨x2,gd,1+far,rfl,aw,?_⟩
 walk_at "rd"
 rw [if_neg (fun z=>z trivial)]
 have ce:=dk.mono T3
 clear aw b9 c8 bj ea dk
 refine ⟨ZAL (by decide),fun p1 ak=>⟨ZAL (by decide),fun p2 ag=>?_⟩⟩
 obtain ⟨Y1,e1,r1,k1⟩:=newH ak (.tup [V.int 7,V.str (Str.ofString "down")])
 rw [e1] at ag ⊢
 clear e1
 obtain ⟨Y2,e2,r2,k2⟩:=newH ag (.lst [V.ref p1])
 rw [e2]
 clear e2
 have R2:=r1.trans r2
 refine ⟨l,p2,_,_,rfl,rfl,R2 _ _ ce.l,k2,ZAL (by rw [yAM];omega),fun p3 aa=>?_⟩
 obtain ⟨Y3,e3,r3,k3⟩:=newH aa (.lst (xs++[V.ref p1]))
 rw [e3]
 clear e3
 have R3:=R2.trans r3
 have c5:=ce.mono R3
 have bx:DpAll K Y3 ((cols++[(7,Str.ofString "down")]).map colS) (xs++[V.ref p1]):=by
  rw [yBD]
  exact c5.d.snoc (ZCg (SqT.of (r3 _ _ (r2 _ _ k1))) (.two (ZC6 _) (ZCh _)))
 have bo:∀ c∈cols++[((7:Int),Str.ofString "down")],good c.1 c.2:=fun c hc=>by
  rcases yAW.mp hc with z | z
  .exact hg c z
  .rw [yBH.mp z]
   exact ⟨⟨by decide,by decide⟩,.inr rfl⟩
 intro x3 d7 dt bq cj
 refine ZDG k3 bx bo dt bq fun l3 W4 T4 m1 m2=>?_
 refine ⟨x3,d7,_,rfl,m2,ZDM (by decide +kernel),x3,d7,l3,_,_,rfl,m2,m1,bx.mono T4,by rw [yAI,yAM];omega,fun W5 T5=>?_⟩
 rw [yBD,show List.map (fun c:Int×Str=>c.1) [((7:Int),Str.ofString "down")]=[7] from rfl,max7 (fun z hz=>by
  obtain ⟨c,hc,rfl⟩:=yBG.mp hz
  exact (hg c hc).1.2)]
 walk_at "rd"
 rw [if_neg (fun z=>z trivial)]
 have db:=c5.mono (T4.trans T5)
 have bu:=br.mono fun b xs e=>(T3.trans (R3.trans (T4.trans T5))) b _ e
 clear c5 ce br T3 R3 R2 r1 r2 r3 T4 T5 m1 m2 bx bo k1 k2 k3 ak ag aa dt bq cj
 refine ZAz ?_
 walk_at "rd"
 intro u1 g6 ez dg _
 obtain ⟨V1,e1,s1,m1⟩:=madeH (C:=C_Rule) ez dg
 rw [e1]
 clear e1
 have M1:Mo K C_Rule C_KeyRule C_VoteRule C_ChainRule V1 u1:=⟨.inl (.inl ⟨_,m1⟩),⟨C_Rule,_,_,m1,T.ty_Rule,T.kit_Rule_Rule⟩⟩
 refine ⟨yAO _,fun p2 ag=>?_⟩
 obtain ⟨V2,e2,s2,m2⟩:=newH ag (.lst [])
 rw [e2]
 clear e2
 intro u2 fv bw eb _
 refine ZDG (cols:=[]) m2 .nil (fun _ h=>nomatch h) bw eb fun l2 V3 s3 a3 b3=>?_
 have M2:Mo K C_Rule C_KeyRule C_VoteRule C_ChainRule V3 u2:=⟨.inl (.inr ⟨_,_,b3,a3⟩),⟨C_KeyRule,_,_,b3,T.ty_KeyRule,T.kit_KeyRule_Rule⟩⟩
 refine ⟨yAO _,fun p3 aa=>?_⟩
 obtain ⟨V4,e4,s4,m4⟩:=newH aa (.lst [])
 rw [e4]
 clear e4
 intro u3 fu eg dm _
 refine ZDp m4 eg dm fun l3 V5 s5 a5 b5=>?_
 have M3:Mo K C_Rule C_KeyRule C_VoteRule C_ChainRule V5 u3:=Mo.ins (.inr (.inl ⟨l3,[],b5,a5,by decide,fun v hv=>nomatch hv⟩)) b5 T.ty_VoteRule T.kit_VoteRule_Rule
 refine ⟨yAO _,fun p4 an=>?_⟩
 obtain ⟨V6,e6,s6,m6⟩:=newH an (.lst [])
 rw [e6]
 clear e6
 intro u4 ft fj cp _
 refine ZDp m6 fj cp fun l4 V7 s7 a7 b7=>?_
 have M4:Mo K C_Rule C_KeyRule C_VoteRule C_ChainRule V7 u4:=Mo.ins (.inr (.inr ⟨l4,[],b7,a7,by decide,fun v hv=>nomatch hv⟩)) b7 T.ty_ChainRule T.kit_ChainRule_Rule
 intro w5 g4 ey du _
 obtain ⟨V8,e8,s8,m8⟩:=madeH (C:=C_Rule) ey du
 rw [e8]
 clear e8
 refine ⟨ZAL (by decide),fun p5 cb=>?_⟩
 obtain ⟨V9,e9,s9,m9⟩:=newH cb (.lst [V.ref w5])
 rw [e9]
 clear e9
 intro u5 g8 f6 ch _
 refine ZDp m9 f6 ch fun l5 f9 s10 eq de=>?_
 have M5:Mo K C_Rule C_KeyRule C_VoteRule C_ChainRule f9 u5:=Mo.ins (.inr (.inl ⟨l5,[.ref w5],de,eq,by rw [yAM];decide,fun v hv=>by
  rw [yBH.mp hv]
  exact ⟨w5,rfl,.inl ⟨_,s10 _ _ (s9 _ _ m8)⟩⟩⟩)) de T.ty_VoteRule T.kit_VoteRule_Rule
 refine ⟨yAO _,fun p6 ek=>?_⟩
 obtain ⟨g3,ck,cm,el⟩:=newH ek (.lst [])
 rw [ck]
 clear ck
 intro w6 g7 fh dn _
 refine ZDG (cols:=[]) el .nil (fun _ h=>nomatch h) fh dn fun l6 g1 cv er ei=>?_
 refine ⟨ZAL (by decide),fun p7 fo=>?_⟩
 obtain ⟨fx,dr,be,ev⟩:=newH fo (.lst [V.ref w6])
 rw [dr]
 clear dr
 intro u6 g0 fa cr _
 refine ZDp ev fa cr fun l7 f5 bc ej cn=>?_
 have M6:Mo K C_Rule C_KeyRule C_VoteRule C_ChainRule f5 u6:=Mo.ins (.inr (.inr ⟨l7,[.ref w6],cn,ej,by rw [yAM];decide,fun v hv=>by
  rw [yBH.mp hv]
  exact ⟨w6,rfl,.inr ⟨_,_,bc _ _ (be _ _ ei),bc _ _ (be _ _ er)⟩⟩⟩)) cn T.ty_ChainRule T.kit_ChainRule_Rule
 refine ⟨ZAL (by decide),fun L hL=>?_⟩
 obtain ⟨G,eG,sG,c7⟩:=newH hL (.lst [V.ref u1,V.ref u2,V.ref u3,V.ref u4,V.ref u5,V.ref u6])
 rw [eG]
 clear eG
 have t5:=cm.trans (cv.trans (be.trans (bc.trans sG)))
 have t4:=s8.trans (s9.trans (s10.trans t5))
 have t3:=s6.trans (s7.trans t4)
 have t2:=s4.trans (s5.trans t3)
 have t1:=s2.trans (s3.trans t2)
 have cu:=db.mono (s1.trans t1)
 have bp:=bu.mono fun b xs e=>(s1.trans t1) b _ e
 have d0:∀ (i:Nat) u,[V.ref u1,V.ref u2,V.ref u3,V.ref u4,V.ref u5,V.ref u6][i]?=some u->∃ r,u=.ref r /\ Mo K C_Rule C_KeyRule C_VoteRule C_ChainRule G r:=fun i u hu=>by
  match i,hu with
  | 0,hu=>cases hu;exact ⟨u1,rfl,M1.mono t1⟩
  | 1,hu=>cases hu;exact ⟨u2,rfl,M2.mono t2⟩
  | 2,hu=>cases hu;exact ⟨u3,rfl,M3.mono t3⟩
  | 3,hu=>cases hu;exact ⟨u4,rfl,M4.mono t4⟩
  | 4,hu=>cases hu;exact ⟨u5,rfl,M5.mono t5⟩
  | 5,hu=>cases hu;exact ⟨u6,rfl,M6.mono sG⟩
 clear t1 t2 t3 t4 t5 s1 s2 s3 s4 s5 s6 s7 s8 s9 s10 cm cv be bc sG M1 M2 M3 M4 M5 M6 db bu hL
 refine ZB5 (SqL.of c7) (fun i σ X=>(∃ v6 cg,σ=[some (V.ref a),some (V.ref l),some (V.int ac),some (V.int far),some (V.int na),some (V.str nw),v6,some (V.int gd),some (V.ref tb),some (V.ref sp),some (V.int c9),cg]) /\ Same G X) ⟨⟨_,_,rfl⟩,.refl _⟩ (fun i σ X _ z=>SqL.of (z.2 _ _ c7)) (fun i u σ X hu z=>?_) fun σ X z=>?_
 .obtain ⟨⟨v6,cg,rfl⟩,sX⟩:=z
  obtain ⟨r,rfl,U⟩:=d0 i u hu
  have d9:=U.mono sX
  walk_at "rd"
  refine ⟨r,rfl,d9.mu,fun X2 ee=>?_⟩
  walk_at "rd"
  obtain ⟨C,dx,fs,c1,c2,c3⟩:=d9.ty
  refine ⟨_,_,_,_,rfl,rfl,c2 _ _ _ _ (ee _ _ c1),c3,?_⟩
  rw [if_neg (by decide)]
  exact ⟨⟨_,_,rfl⟩,sX.trans ee⟩
 obtain ⟨⟨g2,cg,rfl⟩,sX⟩:=z
 have fm:=cu.mono sX
 have dy:=bp.mono fun b xs e=>sX b _ e
 clear cu bp sX d0 c7
 walk_at "rd"
 refine ZAz ?_
 walk_at "rd"
 intro y1 fk cx e0 _
 refine ⟨y1,fk,gd,far,rfl,ZAE,fun _ W2 ba av=>⟨rfl,?_⟩,fun z=>absurd (show (0 <= gd /\ gd <= 7) /\ 0 <= far from ⟨⟨by omega,by omega⟩,by omega⟩) z⟩
 have T2:Same X W2:=fun b o e=>ba b o (ZAI e cx) (ZAd cx e0 _ _ e)
 obtain ⟨d2,f2,i2,_⟩:=av.ex
 refine ⟨_,_,_,_,rfl,rfl,T.ty_NearRule _ _ _ _ i2,T.kit_NearRule_Rule,?_⟩
 rw [if_neg (by decide)]
 intro y2 f8 dj d5 _
 refine ⟨y2,f8,gd,1+far,rfl,ZAE,fun _ W3 b9 aw=>⟨rfl,?_⟩,fun z=>absurd (show (0 <= gd /\ gd <= 7) /\ 1 <= 1+far from ⟨⟨by omega,by omega⟩,by omega⟩) z⟩
 have T3:Same W2 W3:=fun b o e=>b9 b o (ZAI e dj) (ZAd dj d5 _ _ e)
 obtain ⟨d3,f3,i3,_⟩:=aw.ex
 refine ⟨_,_,_,_,rfl,rfl,T.ty_RingRule _ _ _ _ i3,T.kit_RingRule_Rule,?_⟩
 rw [if_neg (by decide)]
 have eo:=fm.mono (T2.trans T3)
 have dl:=dy.mono fun b xs e=>(T2.trans T3) b _ e
 intro y3 fg d6 dv _
 have S4:=ZAd (C:=C_TableRule) d6 dv
 refine ⟨y3,fg,tb,gd,_,rfl,ZAE,dl.mono fun b xs e=>S4 b _ e,by rw [yAG];omega,fun _ l2 W4 fe fc=>⟨rfl,?_⟩,fun z=>absurd co z⟩
 have T4:Same W3 W4:=fun b o e=>fe b o (ZAI e d6) (S4 _ _ e)
 obtain ⟨d4,f4,i4,_⟩:=fc.ex
 refine ⟨_,_,_,_,rfl,rfl,T.ty_TableRule _ _ _ _ i4,T.kit_TableRule_Rule,?_⟩
 rw [if_pos rfl]
 have F23:=eo.mono T4
 refine ⟨a,ns,6,rfl,F23.S,by decide,?_⟩
 exact ⟨_,rfl,.inl F23.pt,fun X'=>q X'⟩
end
theorem all_mk {l:PySem.W.OpenLaw} {w:World} {K:W.Frag} {h:Heap} {mg:Str->Option Value} {fa C_zaL d1 ba C_zaK ci c7 cg C_zaJ cw cq C_zaI cv cf C_zaF cx co C_zaH ca cm cc C_zaG cp d0 c4 C_zaE cn cj C_HallError C_NoRule C_NoPaper C_NoPlace C_NoKey C_NoRow C_NoOrder C_TooFar C_Spent dg dp d4 dr dl d9 d5 df dh d7 ap ar dc:Addr} {b7 vx kl:Tok} (X:K.In h) (G:h.Ns mainGlobals mg) (vy:mg "law"=some (.ref fa))
  {q8 p9:Option Addr} {nx:Array (Option Value)} {ik pa k4 qp eg hz:Value}
  {lq k8:Option Addr} {q5:Array (Option Value)} {qg pl i9 j9 e0 i6:Value}
  {ig nu:Option Addr} {l8:Array (Option Value)} {ow qr ky k6 e4 pe:Value}
  {oh mc:Option Addr} {mw:Array (Option Value)} {q3 nr oy mz e2 qo:Value}
  {o4 hy:Option Addr} {ju:Array (Option Value)} {oi ja qd m8 ey qu:Value}
  {jw m3:Option Addr} {o2:Array (Option Value)} {ih i1 p8 m5 f4 pw:Value}
  {qw qs:Option Addr} {pu:Array (Option Value)} {pr iv nd nn eh ma:Value}
  {lx jr:Option Addr} {qc:Array (Option Value)} {qi l4 ni kx ei kb:Value}
  {qf jh:Option Addr} {qq:Array (Option Value)} {pp mk p5 ie f3 kz:Value}
  {qm i5:Option Addr} {l0:Array (Option Value)} {nk kr jk mf ea lh:Value}
  {pq ij:Option Addr} {hx:Array (Option Value)} {j3 hs kw q9 en nv:Value}
  {jm ol:Option Addr} {pz:Array (Option Value)} {kj od ov p4 ew jz:Value}
  {jd ny:Option Addr} {lb:Array (Option Value)} {i2 p7 mv ln el j8:Value}
  {on m9:Option Addr} {nz:Array (Option Value)} {iw kn l5 ot eu nc:Value}
  {ml ou:Option Addr} {kd:Array (Option Value)} {ic mh io py e8 o9:Value}
  {lf i3:Option Addr} {lj:Array (Option Value)} {q2 mm o1 jx eo pn:Value}
  {og pc:Option Addr} {lu:Array (Option Value)} {o5 m4 lp o3 et l2:Value}
  {jy j4:Option Addr} {ms:Array (Option Value)} {mq n9 pb nw ec n2:Value}
  {j0 o7:Option Addr} {oo:Array (Option Value)} {l7 o0 jo lr ej iz:Value}
  {kv i8:Option Addr} {jb:Array (Option Value)} {nb jl ii q1 ed ko:Value}
  {mt it:Option Addr} {p6:Array (Option Value)} {hv qb qz n1 ee ji:Value}
  {n3 il:Option Addr} {lc:Array (Option Value)} {j1 mj q6 nj e7 pk:Value}
  {pf pm:Option Addr} {kk:Array (Option Value)} {k7 lv oc qn dz ka:Value}
  {ia ht:Option Addr} {n6:Array (Option Value)} {j5 ke q4 ox em m7:Value}
  {n8 qe:Option Addr} {r1:Array (Option Value)} {n4 n0 ph kf ez ll:Value}
  {le la:Option Addr} {l3:Array (Option Value)} {m0 kc pj qy f2 p0:Value}
  {my jp:Option Addr} {na:Array (Option Value)} {n5 hu oj jj ef nf:Value}
  {ly ir:Option Addr} {qx:Array (Option Value)} {oa no op jn e9 i0:Value}
  {ft:Value} {fn:Option Addr} {ek:Array Value} {gq:Array (Option Value)}
  {p3 kq:Option Addr} {nl:Array (Option Value)} {jf qa jg m2 r2:Value}
  {pi ev:Option Addr} {ns:Array (Option Value)} {ng eq er e1 cr e6:Value}
  (fu:W.nsIn K mainGlobals "Rule"=some (some (.ref C_zaL)))
  (nh:PySem.W.plainGet K C_zaL Str.empty=true)
  (m1:PySem.W.hasDictIn K C_zaL=true)
  (oq:PySem.W.plainOver K C_zaL=true)
  (k9:W.findIn K (.ref C_zaL) "__setattr__"=some (some (.builtin "object.__setattr__")))
  (lm:PySem.W.makesIn K C_zaL=true)
  (j6:W.keepIn K (.ref C_zaL)=true)
  (nq:W.findIn K (.ref C_zaL) "__init__"=some (some (.builtin "object.__init__")))
  (ub:W.findIn K (.ref C_zaL) "before"=some (some (.ref d1)))
  (rv:PySem.W.isFn K (.ref d1)=true)
  (rb:K.lookup d1=some ⟨ik,q8,.func (W.fnOf "before" "Rule.before" (ZAK ZA4) (ZAJ ZA4) (ZAC ZA4) .none pa k4 qp p9 eg hz),nx⟩)
  (ue:W.codeIn K eg "Rule.before"=true)
  (ge:W.keepIn K (.ref d1)=true)
  (tf:W.findIn K (.ref C_zaL) "widest"=some (some (.ref ba)))
  (go:PySem.W.isFn K (.ref ba)=true)
  (r8:K.lookup ba=some ⟨qg,lq,.func (W.fnOf "widest" "Rule.widest" (ZAK ZA3) (ZAJ ZA3) (ZAC ZA3) .none pl i9 j9 k8 e0 i6),q5⟩)
  (vd:W.codeIn K e0 "Rule.widest"=true)
  (d6:W.keepIn K (.ref ba)=true)
  (ga:W.nsIn K mainGlobals "KeyRule"=some (some (.ref C_zaK)))
  (jv:PySem.W.plainGet K C_zaK Str.empty=true)
  (lg:PySem.W.hasDictIn K C_zaK=true)
  (lz:PySem.W.plainOver K C_zaK=true)
  (o8:W.findIn K (.ref C_zaK) "__setattr__"=some (some (.builtin "object.__setattr__")))
  (qv:PySem.W.makesIn K C_zaK=true)
  (n7:W.keepIn K (.ref C_zaK)=true)
  (bb:W.findIn K (.ref C_zaK) "columns"=some none)
  (s6:W.findIn K (.ref C_zaK) "__init__"=some (some (.ref ci)))
  (vu:PySem.W.isFn K (.ref ci)=true)
  (u6:K.lookup ci=some ⟨ow,ig,.func (W.fnOf "__init__" "KeyRule.__init__" (ZAK ZA1) (ZAJ ZA1) (ZAC ZA1) .none qr ky k6 nu e4 pe),l8⟩)
  (vk:W.codeIn K e4 "KeyRule.__init__"=true)
  (t7:W.keepIn K (.ref ci)=true)
  (rl:W.findIn K (.ref C_zaK) "before"=some (some (.ref c7)))
  (ri:PySem.W.isFn K (.ref c7)=true)
  (rh:K.lookup c7=some ⟨q3,oh,.func (W.fnOf "before" "KeyRule.before" (ZAK ZAk) (ZAJ ZAk) (ZAC ZAk) .none nr oy mz mc e2 qo),mw⟩)
  (v7:W.codeIn K e2 "KeyRule.before"=true)
  (g7:W.keepIn K (.ref c7)=true)
  (tn:W.findIn K (.ref C_zaK) "widest"=some (some (.ref cg)))
  (rz:PySem.W.isFn K (.ref cg)=true)
  (s3:K.lookup cg=some ⟨oi,o4,.func (W.fnOf "widest" "KeyRule.widest" (ZAK ZAj) (ZAJ ZAj) (ZAC ZAj) .none ja qd m8 hy ey qu),ju⟩)
  (r4:W.codeIn K ey "KeyRule.widest"=true)
  (gz:W.keepIn K (.ref cg)=true)
  (gp:W.nsIn K mainGlobals "NearRule"=some (some (.ref C_zaJ)))
  (pd:PySem.W.plainGet K C_zaJ Str.empty=true)
  (kg:PySem.W.hasDictIn K C_zaJ=true)
  (qj:PySem.W.plainOver K C_zaJ=true)
  (ld:W.findIn K (.ref C_zaJ) "__setattr__"=some (some (.builtin "object.__setattr__")))
  (jc:PySem.W.makesIn K C_zaJ=true)
  (mn:W.keepIn K (.ref C_zaJ)=true)
  (f9:W.findIn K (.ref C_zaJ) "at"=some none)
  (dw:W.findIn K (.ref C_zaJ) "gap"=some none)
  (vm:W.findIn K (.ref C_zaJ) "__init__"=some (some (.ref cw)))
  (r5:PySem.W.isFn K (.ref cw)=true)
  (re:K.lookup cw=some ⟨ih,jw,.func (W.fnOf "__init__" "NearRule.__init__" (ZAK ZAs) (ZAJ ZAs) (ZAC ZAs) .none i1 p8 m5 m3 f4 pw),o2⟩)
  (r7:W.codeIn K f4 "NearRule.__init__"=true)
  (sc:W.keepIn K (.ref cw)=true)
  (v9:W.findIn K (.ref C_zaJ) "widest"=some (some (.ref cq)))
  (sx:PySem.W.isFn K (.ref cq)=true)
  (vo:K.lookup cq=some ⟨pr,qw,.func (W.fnOf "widest" "NearRule.widest" (ZAK ZAc) (ZAJ ZAc) (ZAC ZAc) .none iv nd nn qs eh ma),pu⟩)
  (uc:W.codeIn K eh "NearRule.widest"=true)
  (hg:W.keepIn K (.ref cq)=true)
  (h3:W.nsIn K mainGlobals "RingRule"=some (some (.ref C_zaI)))
  (mo:PySem.W.plainGet K C_zaI Str.empty=true)
  (kp:PySem.W.hasDictIn K C_zaI=true)
  (qt:PySem.W.plainOver K C_zaI=true)
  (l9:W.findIn K (.ref C_zaI) "__setattr__"=some (some (.builtin "object.__setattr__")))
  (jq:PySem.W.makesIn K C_zaI=true)
  (pg:W.keepIn K (.ref C_zaI)=true)
  (fc:W.findIn K (.ref C_zaI) "at"=some none)
  (d2:W.findIn K (.ref C_zaI) "size"=some none)
  (u0:W.findIn K (.ref C_zaI) "__init__"=some (some (.ref cv)))
  (tz:PySem.W.isFn K (.ref cv)=true)
  (tx:K.lookup cv=some ⟨qi,lx,.func (W.fnOf "__init__" "RingRule.__init__" (ZAK ZAr) (ZAJ ZAr) (ZAC ZAr) .none l4 ni kx jr ei kb),qc⟩)
  (vn:W.codeIn K ei "RingRule.__init__"=true)
  (t4:W.keepIn K (.ref cv)=true)
  (vj:W.findIn K (.ref C_zaI) "widest"=some (some (.ref cf)))
  (u7:PySem.W.isFn K (.ref cf)=true)
  (uz:K.lookup cf=some ⟨pp,qf,.func (W.fnOf "widest" "RingRule.widest" (ZAK ZAb) (ZAJ ZAb) (ZAC ZAb) .none mk p5 ie jh f3 kz),qq⟩)
  (sj:W.codeIn K f3 "RingRule.widest"=true)
  (gn:W.keepIn K (.ref cf)=true)
  (hk:W.nsIn K mainGlobals "TableRule"=some (some (.ref C_zaF)))
  (ls:PySem.W.plainGet K C_zaF Str.empty=true)
  (j7:PySem.W.hasDictIn K C_zaF=true)
  (q0:PySem.W.plainOver K C_zaF=true)
  (je:W.findIn K (.ref C_zaF) "__setattr__"=some (some (.builtin "object.__setattr__")))
  (oe:PySem.W.makesIn K C_zaF=true)
  (om:W.keepIn K (.ref C_zaF)=true)
  (f6:W.findIn K (.ref C_zaF) "at"=some none)
  (ct:W.findIn K (.ref C_zaF) "table"=some none)
  (t8:W.findIn K (.ref C_zaF) "__init__"=some (some (.ref cx)))
  (r6:PySem.W.isFn K (.ref cx)=true)
  (vl:K.lookup cx=some ⟨nk,qm,.func (W.fnOf "__init__" "TableRule.__init__" (ZAK ZAi) (ZAJ ZAi) (ZAC ZAi) .none kr jk mf i5 ea lh),l0⟩)
  (uk:W.codeIn K ea "TableRule.__init__"=true)
  (tj:W.keepIn K (.ref cx)=true)
  (tp:W.findIn K (.ref C_zaF) "widest"=some (some (.ref co)))
  (t9:PySem.W.isFn K (.ref co)=true)
  (s8:K.lookup co=some ⟨j3,pq,.func (W.fnOf "widest" "TableRule.widest" (ZAK ZAQ) (ZAJ ZAQ) (ZAC ZAQ) .none hs kw q9 ij en nv),hx⟩)
  (uf:W.codeIn K en "TableRule.widest"=true)
  (g0:W.keepIn K (.ref co)=true)
  (h9:W.nsIn K mainGlobals "VoteRule"=some (some (.ref C_zaH)))
  (j2:PySem.W.plainGet K C_zaH Str.empty=true)
  (lw:PySem.W.hasDictIn K C_zaH=true)
  (p1:PySem.W.plainOver K C_zaH=true)
  (iy:W.findIn K (.ref C_zaH) "__setattr__"=some (some (.builtin "object.__setattr__")))
  (r0:PySem.W.makesIn K C_zaH=true)
  (qk:W.keepIn K (.ref C_zaH)=true)
  (cu:W.findIn K (.ref C_zaH) "rules"=some none)
  (r3:W.findIn K (.ref C_zaH) "__init__"=some (some (.ref ca)))
  (rx:PySem.W.isFn K (.ref ca)=true)
  (ro:K.lookup ca=some ⟨kj,jm,.func (W.fnOf "__init__" "VoteRule.__init__" (ZAK ZAq) (ZAJ ZAq) (ZAC ZAq) .none od ov p4 ol ew jz),pz⟩)
  (ut:W.codeIn K ew "VoteRule.__init__"=true)
  (v2:W.keepIn K (.ref ca)=true)
  (uu:W.findIn K (.ref C_zaH) "before"=some (some (.ref cm)))
  (sy:PySem.W.isFn K (.ref cm)=true)
  (ur:K.lookup cm=some ⟨i2,jd,.func (W.fnOf "before" "VoteRule.before" (ZAK ZAa) (ZAJ ZAa) (ZAC ZAa) .none p7 mv ln ny el j8),lb⟩)
  (rk:W.codeIn K el "VoteRule.before"=true)
  (hp:W.keepIn K (.ref cm)=true)
  (ug:W.findIn K (.ref C_zaH) "widest"=some (some (.ref cc)))
  (vc:PySem.W.isFn K (.ref cc)=true)
  (sf:K.lookup cc=some ⟨iw,on,.func (W.fnOf "widest" "VoteRule.widest" (ZAK ZAZ) (ZAJ ZAZ) (ZAC ZAZ) .none kn l5 ot m9 eu nc),nz⟩)
  (t2:W.codeIn K eu "VoteRule.widest"=true)
  (h8:W.keepIn K (.ref cc)=true)
  (gw:W.nsIn K mainGlobals "ChainRule"=some (some (.ref C_zaG)))
  (px:PySem.W.plainGet K C_zaG Str.empty=true)
  (ql:PySem.W.hasDictIn K C_zaG=true)
  (mi:PySem.W.plainOver K C_zaG=true)
  (jt:W.findIn K (.ref C_zaG) "__setattr__"=some (some (.builtin "object.__setattr__")))
  (oz:PySem.W.makesIn K C_zaG=true)
  (iu:W.keepIn K (.ref C_zaG)=true)
  (ce:W.findIn K (.ref C_zaG) "rules"=some none)
  (sk:W.findIn K (.ref C_zaG) "__init__"=some (some (.ref cp)))
  (rp:PySem.W.isFn K (.ref cp)=true)
  (ui:K.lookup cp=some ⟨ic,ml,.func (W.fnOf "__init__" "ChainRule.__init__" (ZAK ZAl) (ZAJ ZAl) (ZAC ZAl) .none mh io py ou e8 o9),kd⟩)
  (rm:W.codeIn K e8 "ChainRule.__init__"=true)
  (ss:W.keepIn K (.ref cp)=true)
  (v6:W.findIn K (.ref C_zaG) "before"=some (some (.ref d0)))
  (sg:PySem.W.isFn K (.ref d0)=true)
  (v5:K.lookup d0=some ⟨q2,lf,.func (W.fnOf "before" "ChainRule.before" (ZAK ZAS) (ZAJ ZAS) (ZAC ZAS) .none mm o1 jx i3 eo pn),lj⟩)
  (s5:W.codeIn K eo "ChainRule.before"=true)
  (hb:W.keepIn K (.ref d0)=true)
  (uv:W.findIn K (.ref C_zaG) "widest"=some (some (.ref c4)))
  (t3:PySem.W.isFn K (.ref c4)=true)
  (si:K.lookup c4=some ⟨o5,og,.func (W.fnOf "widest" "ChainRule.widest" (ZAK ZAR) (ZAJ ZAR) (ZAC ZAR) .none m4 lp o3 pc et l2),lu⟩)
  (tq:W.codeIn K et "ChainRule.widest"=true)
  (ho:W.keepIn K (.ref c4)=true)
  (gy:W.nsIn K mainGlobals "AskedRule"=some (some (.ref C_zaE)))
  (o6:PySem.W.plainGet K C_zaE Str.empty=true)
  (po:PySem.W.hasDictIn K C_zaE=true)
  (im:PySem.W.plainOver K C_zaE=true)
  (i4:W.findIn K (.ref C_zaE) "__setattr__"=some (some (.builtin "object.__setattr__")))
  (li:PySem.W.makesIn K C_zaE=true)
  (q7:W.keepIn K (.ref C_zaE)=true)
  (bp:W.findIn K (.ref C_zaE) "teller"=some none)
  (s0:W.findIn K (.ref C_zaE) "__init__"=some (some (.ref cn)))
  (u3:PySem.W.isFn K (.ref cn)=true)
  (v3:K.lookup cn=some ⟨mq,jy,.func (W.fnOf "__init__" "AskedRule.__init__" (ZAK ZAm) (ZAJ ZAm) (ZAC ZAm) .none n9 pb nw j4 ec n2),ms⟩)
  (vh:W.codeIn K ec "AskedRule.__init__"=true)
  (s4:W.keepIn K (.ref cn)=true)
  (v0:W.findIn K (.ref C_zaE) "before"=some (some (.ref cj)))
  (rc:PySem.W.isFn K (.ref cj)=true)
  (ul:K.lookup cj=some ⟨l7,j0,.func (W.fnOf "before" "AskedRule.before" (ZAK ZAT) (ZAJ ZAT) (ZAC ZAT) .none o0 jo lr o7 ej iz),oo⟩)
  (v8:W.codeIn K ej "AskedRule.before"=true)
  (g6:W.keepIn K (.ref cj)=true)
  (ac:W.findIn K (.ref C_zaE) "widest"=some (some (.ref ba)))
  (c8:W.nsIn K mainGlobals "HallError"=some (some (.ref C_HallError)))
  (f5:W.nsIn K mainGlobals "NoRule"=some (some (.ref C_NoRule)))
  (dq:W.nsIn K mainGlobals "NoPaper"=some (some (.ref C_NoPaper)))
  (dm:W.nsIn K mainGlobals "NoPlace"=some (some (.ref C_NoPlace)))
  (fq:W.nsIn K mainGlobals "NoKey"=some (some (.ref C_NoKey)))
  (h4:W.nsIn K mainGlobals "NoRow"=some (some (.ref C_NoRow)))
  (da:W.nsIn K mainGlobals "NoOrder"=some (some (.ref C_NoOrder)))
  (fb:W.nsIn K mainGlobals "TooFar"=some (some (.ref C_TooFar)))
  (gs:W.nsIn K mainGlobals "Spent"=some (some (.ref C_Spent)))
  (dk:PySem.W.excIn K C_NoRule bmV "ValueError.__new__"=true)
  (di:W.findIn K (.ref C_NoRule) "__getattribute__"=some (some (.builtin "BaseException.__getattribute__")))
  (dv:W.findIn K (.ref C_NoRule) "__getattr__"=some none)
  (dt:W.findIn K (.ref C_NoRule) "__class__"=some (some (.builtin "object.__class__")))
  (dj:PySem.W.specialIn K (.builtin "object.__class__") "__get__"=some (some (.builtin "getset_descriptor.__get__")))
  (de:PySem.W.takesIn K (.builtin "object.__class__")=some true)
  (db:PySem.W.mroIn K C_NoRule (.type "object")=some true)
  (du:PySem.W.mroIn K C_NoRule (.type "BaseException")=some true)
  (dn:PySem.W.hasDictIn K C_NoRule=true)
  (Z:PySem.W.exmOne K (.ref C_NoRule) (.ref C_HallError)=some true)
  (rs:W.nsIn K mainGlobals "check_at"=some (some (.ref dg)))
  (um:K.lookup dg=some ⟨nb,kv,.func (W.fnOf "check_at" "check_at" (ZAK ZBL) (ZAJ ZBL) (ZAC ZBL) .none jl ii q1 i8 ed ko),jb⟩)
  (tr:W.codeIn K ed "check_at"=true)
  (gf:W.keepIn K (.ref dg)=true)
  (uy:W.nsIn K mainGlobals "check_column"=some (some (.ref dp)))
  (uj:K.lookup dp=some ⟨hv,mt,.func (W.fnOf "check_column" "check_column" (ZAK ZA0) (ZAJ ZA0) (ZAC ZA0) .none qb qz n1 it ee ji),p6⟩)
  (s7:W.codeIn K ee "check_column"=true)
  (gl:W.keepIn K (.ref dp)=true)
  (sq:W.nsIn K mainGlobals "widest_of"=some (some (.ref d4)))
  (rn:K.lookup d4=some ⟨j1,n3,.func (W.fnOf "widest_of" "widest_of" (ZAK ZBD) (ZAJ ZBD) (ZAC ZBD) .none mj q6 nj il e7 pk),lc⟩)
  (vg:W.codeIn K e7 "widest_of"=true)
  (gr:W.keepIn K (.ref d4)=true)
  (t6:W.nsIn K mainGlobals "_law_cell_at"=some (some (.ref dr)))
  (vt:K.lookup dr=some ⟨k7,pf,.func (W.fnOf "_law_cell_at" "_law_cell_at" (ZAK ZBa) (ZAJ ZBa) (ZAC ZBa) .none lv oc qn pm dz ka),kk⟩)
  (tu:W.codeIn K dz "_law_cell_at"=true)
  (fy:W.keepIn K (.ref dr)=true)
  (u2:W.nsIn K mainGlobals "_law_make"=some (some (.ref dl)))
  (r9:K.lookup dl=some ⟨j5,ia,.func (W.fnOf "_law_make" "_law_make" (ZAK ZCc) (ZAJ ZCc) (ZAC ZCc) .none ke q4 ox ht em m7),n6⟩)
  (u5:W.codeIn K em "_law_make"=true)
  (hr:W.keepIn K (.ref dl)=true)
  (sv:W.nsIn K mainGlobals "_law_refused"=some (some (.ref d9)))
  (vb:K.lookup d9=some ⟨n4,n8,.func (W.fnOf "_law_refused" "_law_refused" (ZAK ZBY) (ZAJ ZBY) (ZAC ZBY) .none n0 ph kf qe ez ll),r1⟩)
  (su:W.codeIn K ez "_law_refused"=true)
  (gc:W.keepIn K (.ref d9)=true)
  (va:W.nsIn K mainGlobals "_law_columns"=some (some (.ref d5)))
  (ve:K.lookup d5=some ⟨m0,le,.func (W.fnOf "_law_columns" "_law_columns" (ZAK ZBZ) (ZAJ ZBZ) (ZAC ZBZ) .none kc pj qy la f2 p0),l3⟩)
  (uo:W.codeIn K f2 "_law_columns"=true)
  (h6:W.keepIn K (.ref d5)=true)
  (u8:W.nsIn K mainGlobals "_law_table"=some (some (.ref df)))
  (vf:K.lookup df=some ⟨n5,my,.func (W.fnOf "_law_table" "_law_table" (ZAK ZCD) (ZAJ ZCD) (ZAC ZCD) .none hu oj jj jp ef nf),na⟩)
  (t5:W.codeIn K ef "_law_table"=true)
  (g1:W.keepIn K (.ref df)=true)
  (rg:W.nsIn K mainGlobals "_law_empty"=some (some (.ref dh)))
  (vp:K.lookup dh=some ⟨oa,ly,.func (W.fnOf "_law_empty" "_law_empty" (ZAK ZCE) (ZAJ ZCE) (ZAC ZCE) .none no op jn ir e9 i0),qx⟩)
  (uq:W.codeIn K e9 "_law_empty"=true)
  (fk:W.keepIn K (.ref dh)=true)
  (fm:W.nsIn K mainGlobals "_law_asked"=some (some (.ref d7)))
  (g2:K.lookup d7=some ⟨jf,p3,.func (W.fnOf "_law_asked" "_law_asked" (ZAK ZBh) (ZAJ ZBh) (ZAC ZBh) .none qa jg m2 kq (.ref ap) r2),nl⟩)
  (t1:W.codeIn K (.ref ap) "_law_asked"=true)
  (l1:K.lookup ap=some ⟨ft,fn,.fields ek,gq⟩)
  (qh:ek[11]?=some (.ref ar))
  (gj:W.keepIn K (.ref d7)=true)
  (rf:W.nsIn K mainGlobals "law"=some (some (.ref dc)))
  (ry:K.lookup dc=some ⟨ng,pi,.func (W.fnOf "law" "law" (ZAK ZCo) (ZAJ ZCo) (ZAC ZCo) .none eq er e1 ev cr e6),ns⟩)
  (v1:W.codeIn K cr "law"=true)
  (v4:W.keepIn K (.ref dc)=true)
  (b8:W.nsIn K mainGlobals "GREATEST_AT"=some (some (.int 7 b7)))
  (vv:W.nsIn K mainGlobals "UP"=some (some (.str "up" vx)))
  (kt:W.nsIn K mainGlobals "DOWN"=some (some (.str "down" kl)))
  (uw:W.nsIn K mainGlobals "len"=some none)
  (g3:W.nsIn K mainGlobals "range"=some none)
  (l6:W.nsIn K mainGlobals "list"=some none)
  (bu:W.nsIn K mainGlobals "isinstance"=some none)
  (ki:W.nsIn K mainGlobals "bool"=some none)
  (vq:W.nsIn K mainGlobals "int"=some none)
  (ra:W.nsIn K mainGlobals "max"=some none)
  (bv:W.nsIn K mainGlobals "ValueError"=some none)
  (bx:PySem.W.kitOne K (.type "int") (.type "bool")=some false)
  (bd:PySem.W.kitOne K (.type "bool") (.type "bool")=some true)
  (cz:PySem.W.kitOne K (.type "int") (.type "int")=some true)
  (ak:PySem.W.kitOne K (.ref C_NoRule) (.ref C_NoRule)=some true)
  (O:PySem.W.kitOne K (.ref C_NoRule) (.type "ValueError")=some true)
  (ae:PySem.W.kitOne K (.ref C_NoRule) (.ref C_NoPaper)=some false)
  (af:PySem.W.kitOne K (.ref C_NoRule) (.ref C_NoPlace)=some false)
  (am:PySem.W.kitOne K (.ref C_NoRule) (.ref C_NoKey)=some false)
  (al:PySem.W.kitOne K (.ref C_NoRule) (.ref C_NoRow)=some false)
  (aa:PySem.W.kitOne K (.ref C_NoRule) (.ref C_NoOrder)=some false)
  (aj:PySem.W.kitOne K (.ref C_NoRule) (.ref C_TooFar)=some false)
  (an:PySem.W.kitOne K (.ref C_NoRule) (.ref C_Spent)=some false)
  (b1:PySem.W.kitOne K (.ref C_zaL) (.ref C_zaL)=some true)
  (ao:PySem.W.kitOne K (.ref C_zaK) (.ref C_zaL)=some true)
  (ag:PySem.W.kitOne K (.ref C_zaH) (.ref C_zaL)=some true)
  (ad:PySem.W.kitOne K (.ref C_zaG) (.ref C_zaL)=some true)
  (ah:PySem.W.kitOne K (.ref C_zaJ) (.ref C_zaL)=some true)
  (ai:PySem.W.kitOne K (.ref C_zaI) (.ref C_zaL)=some true)
  (a9:PySem.W.kitOne K (.ref C_zaF) (.ref C_zaL)=some true)
  (a5:PySem.W.kitOne K (.ref C_zaE) (.ref C_zaL)=some true)
  (ff:W.findIn K (.ref C_zaL) "__class__"=some (some (.builtin "object.__class__")))
  (fe:PySem.W.specialIn K (.builtin "object.__class__") "__get__"=some (some (.builtin "getset_descriptor.__get__")))
  (fg:PySem.W.takesIn K (.builtin "object.__class__")=some true)
  (f7:PySem.W.mroIn K C_zaL (.type "object")=some true)
  (cb:W.findIn K (.ref C_zaK) "__class__"=some (some (.builtin "object.__class__")))
  (c9:PySem.W.specialIn K (.builtin "object.__class__") "__get__"=some (some (.builtin "getset_descriptor.__get__")))
  (cy:PySem.W.takesIn K (.builtin "object.__class__")=some true)
  (ck:PySem.W.mroIn K C_zaK (.type "object")=some true)
  (bi:W.findIn K (.ref C_zaH) "__class__"=some (some (.builtin "object.__class__")))
  (c3:PySem.W.specialIn K (.builtin "object.__class__") "__get__"=some (some (.builtin "getset_descriptor.__get__")))
  (bw:PySem.W.takesIn K (.builtin "object.__class__")=some true)
  (bz:PySem.W.mroIn K C_zaH (.type "object")=some true)
  (b9:W.findIn K (.ref C_zaG) "__class__"=some (some (.builtin "object.__class__")))
  (az:PySem.W.specialIn K (.builtin "object.__class__") "__get__"=some (some (.builtin "getset_descriptor.__get__")))
  (b3:PySem.W.takesIn K (.builtin "object.__class__")=some true)
  (b6:PySem.W.mroIn K C_zaG (.type "object")=some true)
  (bh:W.findIn K (.ref C_zaJ) "__class__"=some (some (.builtin "object.__class__")))
  (bq:PySem.W.specialIn K (.builtin "object.__class__") "__get__"=some (some (.builtin "getset_descriptor.__get__")))
  (bn:PySem.W.takesIn K (.builtin "object.__class__")=some true)
  (bt:PySem.W.mroIn K C_zaJ (.type "object")=some true)
  (bo:W.findIn K (.ref C_zaI) "__class__"=some (some (.builtin "object.__class__")))
  (c0:PySem.W.specialIn K (.builtin "object.__class__") "__get__"=some (some (.builtin "getset_descriptor.__get__")))
  (bj:PySem.W.takesIn K (.builtin "object.__class__")=some true)
  (br:PySem.W.mroIn K C_zaI (.type "object")=some true)
  (b5:W.findIn K (.ref C_zaF) "__class__"=some (some (.builtin "object.__class__")))
  (b4:PySem.W.specialIn K (.builtin "object.__class__") "__get__"=some (some (.builtin "getset_descriptor.__get__")))
  (bf:PySem.W.takesIn K (.builtin "object.__class__")=some true)
  (b0:PySem.W.mroIn K C_zaF (.type "object")=some true)
  (bg:W.findIn K (.ref C_zaE) "__class__"=some (some (.builtin "object.__class__")))
  (be:PySem.W.specialIn K (.builtin "object.__class__") "__get__"=some (some (.builtin "getset_descriptor.__get__")))
  (bc:PySem.W.takesIn K (.builtin "object.__class__")=some true)
  (b2:PySem.W.mroIn K C_zaE (.type "object")=some true)
  (nt:PySem.W.noTabs K=true) :
  ∃ (tabs:List (Addr×Addr)) (fd:FuncData),PySem.W.noTabs K=true /\ (∀ t∈tabs,∃ y∈(["_law_asked"]:List Str),PySem.W.tabIn K y=some t) /\ (∀ (s:Shared) (v:Value),BindsTo s fd ⟨[v],[]⟩ [("_law_script",v)]) /\ ∀ base:Heap,K.In base->base.Ns mainGlobals mg->(∀ t∈tabs,PySem.W.CodeHd base t.1 t.2)->ZDK mg base->FnOk l.prog w K mg base CX0 7 fa fd ["_law_script"] (ZDa K tabs):=by
 have e:=vy.symm.trans (PySem.W.mg_of X G rf)
 cases e
 have ay:Cls K C_zaL:=⟨nh,m1,oq,k9⟩
 have fj:=ZAg (st:=ZA4) rb ue ge
 have sl:=fj.binds (ps:=["self","x","y"]) fun _ _ _ _ _ _ us hl=>by obtain ⟨_,_,_,rfl⟩:=us3 hl;rfl
 have d8:=ZAg (st:=ZA3) r8 vd d6
 have gt:=d8.binds (ps:=["self"]) fun _ _ _ _ _ _ us hl=>by obtain ⟨_,rfl⟩:=us1 hl;rfl
 have au:Cls K C_zaK:=⟨jv,lg,lz,o8⟩
 have g8:=ZAg (st:=ZA1) u6 vk t7
 have sa:=g8.binds (ps:=["self","columns"]) fun _ _ _ _ _ _ us hl=>by obtain ⟨_,_,rfl⟩:=us2 hl;rfl
 have fh:=ZAg (st:=ZAk) rh v7 g7
 have sm:=fh.binds (ps:=["self","x","y"]) fun _ _ _ _ _ _ us hl=>by obtain ⟨_,_,_,rfl⟩:=us3 hl;rfl
 have gb:=ZAg (st:=ZAj) s3 r4 gz
 have u4:=gb.binds (ps:=["self"]) fun _ _ _ _ _ _ us hl=>by obtain ⟨_,rfl⟩:=us1 hl;rfl
 have c6:Cls K C_zaJ:=⟨pd,kg,qj,ld⟩
 have fi:=ZAg (st:=ZAs) re r7 sc
 have tw:=fi.binds (ps:=["self","at","gap"]) fun _ _ _ _ _ _ us hl=>by obtain ⟨_,_,_,rfl⟩:=us3 hl;rfl
 have fx:=ZAg (st:=ZAc) vo uc hg
 have u1:=fx.binds (ps:=["self"]) fun _ _ _ _ _ _ us hl=>by obtain ⟨_,rfl⟩:=us1 hl;rfl
 have c5:Cls K C_zaI:=⟨mo,kp,qt,l9⟩
 have gv:=ZAg (st:=ZAr) tx vn t4
 have u9:=gv.binds (ps:=["self","at","size"]) fun _ _ _ _ _ _ us hl=>by obtain ⟨_,_,_,rfl⟩:=us3 hl;rfl
 have fo:=ZAg (st:=ZAb) uz sj gn
 have sd:=fo.binds (ps:=["self"]) fun _ _ _ _ _ _ us hl=>by obtain ⟨_,rfl⟩:=us1 hl;rfl
 have ch:Cls K C_zaF:=⟨ls,j7,q0,je⟩
 have gh:=ZAg (st:=ZAi) vl uk tj
 have uh:=gh.binds (ps:=["self","at","table"]) fun _ _ _ _ _ _ us hl=>by obtain ⟨_,_,_,rfl⟩:=us3 hl;rfl
 have h7:=ZAg (st:=ZAQ) s8 uf g0
 have ux:=h7.binds (ps:=["self"]) fun _ _ _ _ _ _ us hl=>by obtain ⟨_,rfl⟩:=us1 hl;rfl
 have aw:Cls K C_zaH:=⟨j2,lw,p1,iy⟩
 have h0:=ZAg (st:=ZAq) ro ut v2
 have rj:=h0.binds (ps:=["self","rules"]) fun _ _ _ _ _ _ us hl=>by obtain ⟨_,_,rfl⟩:=us2 hl;rfl
 have g4:=ZAg (st:=ZAa) ur rk hp
 have rr:=g4.binds (ps:=["self","x","y"]) fun _ _ _ _ _ _ us hl=>by obtain ⟨_,_,_,rfl⟩:=us3 hl;rfl
 have g5:=ZAg (st:=ZAZ) sf t2 h8
 have tm:=g5.binds (ps:=["self"]) fun _ _ _ _ _ _ us hl=>by obtain ⟨_,rfl⟩:=us1 hl;rfl
 have av:Cls K C_zaG:=⟨px,ql,mi,jt⟩
 have he:=ZAg (st:=ZAl) ui rm ss
 have sb:=he.binds (ps:=["self","rules"]) fun _ _ _ _ _ _ us hl=>by obtain ⟨_,_,rfl⟩:=us2 hl;rfl
 have hf:=ZAg (st:=ZAS) v5 s5 hb
 have ru:=hf.binds (ps:=["self","x","y"]) fun _ _ _ _ _ _ us hl=>by obtain ⟨_,_,_,rfl⟩:=us3 hl;rfl
 have gk:=ZAg (st:=ZAR) si tq ho
 have rq:=gk.binds (ps:=["self"]) fun _ _ _ _ _ _ us hl=>by obtain ⟨_,rfl⟩:=us1 hl;rfl
 have ax:Cls K C_zaE:=⟨o6,po,im,i4⟩
 have hj:=ZAg (st:=ZAm) v3 vh s4
 have so:=hj.binds (ps:=["self","teller"]) fun _ _ _ _ _ _ us hl=>by obtain ⟨_,_,rfl⟩:=us2 hl;rfl
 have h5:=ZAg (st:=ZAT) ul v8 g6
 have se:=h5.binds (ps:=["self","x","y"]) fun _ _ _ _ _ _ us hl=>by obtain ⟨_,_,_,rfl⟩:=us3 hl;rfl
 have hq:=ZAg (st:=ZBL) um tr gf
 have sw:=hq.binds (ps:=["at"]) fun _ _ _ _ _ _ us hl=>by obtain ⟨_,rfl⟩:=us1 hl;rfl
 have gi:=ZAg (st:=ZA0) uj s7 gl
 have sh:=gi.binds (ps:=["at","way"]) fun _ _ _ _ _ _ us hl=>by obtain ⟨_,_,rfl⟩:=us2 hl;rfl
 have gd:=ZAg (st:=ZBD) rn vg gr
 have s9:=gd.binds (ps:=["rules"]) fun _ _ _ _ _ _ us hl=>by obtain ⟨_,rfl⟩:=us1 hl;rfl
 have gm:=ZAg (st:=ZBa) vt tu fy
 have vi:=gm.binds (ps:=["_law_script","_law_k"]) fun _ _ _ _ _ _ us hl=>by obtain ⟨_,_,rfl⟩:=us2 hl;rfl
 have fv:=ZAg (st:=ZCc) r9 u5 hr
 have ua:=fv.binds (ps:=["_law_kind","_law_first","_law_second"]) fun _ _ _ _ _ _ us hl=>by obtain ⟨_,_,_,rfl⟩:=us3 hl;rfl
 have fw:=ZAg (st:=ZBY) vb su gc
 have ud:=fw.binds (ps:=["_law_kind","_law_first","_law_second"]) fun _ _ _ _ _ _ us hl=>by obtain ⟨_,_,_,rfl⟩:=us3 hl;rfl
 have gg:=ZAg (st:=ZBZ) ve uo h6
 have rt:=gg.binds (ps:=["_law_cell"]) fun _ _ _ _ _ _ us hl=>by obtain ⟨_,rfl⟩:=us1 hl;rfl
 have gx:=ZAg (st:=ZCD) vf t5 g1
 have vr:=gx.binds (ps:=["_law_cell","_law_many"]) fun _ _ _ _ _ _ us hl=>by obtain ⟨_,_,rfl⟩:=us2 hl;rfl
 have hh:=ZAg (st:=ZCE) vp uq fk
 have sr:=hh.binds (ps:=["_law_rule"]) fun _ _ _ _ _ _ us hl=>by obtain ⟨_,rfl⟩:=us1 hl;rfl
 have gu:=ZAg (st:=ZBh) g2 t1 gj
 have t0:=gu.binds (ps:=["_law_cell"]) fun _ _ _ _ _ _ us hl=>by obtain ⟨_,rfl⟩:=us1 hl;rfl
 have g9:=ZAg (st:=ZCo) ry v1 v4
 have vz:=g9.binds (ps:=["_law_script"]) fun _ _ _ _ _ _ us hl=>by obtain ⟨_,rfl⟩:=us1 hl;rfl
 have T:Bt K mg C_zaL C_zaK C_zaJ C_zaI C_zaF C_zaH C_zaG C_zaE C_HallError C_NoRule C_NoPaper C_NoPlace C_NoKey C_NoRow C_NoOrder C_TooFar C_Spent:=⟨PySem.W.mg_none_of X G uw,PySem.W.mg_none_of X G g3,PySem.W.mg_none_of X G l6,PySem.W.mg_none_of X G bu,PySem.W.mg_none_of X G ki,PySem.W.mg_none_of X G vq,PySem.W.mg_none_of X G ra,PySem.W.mg_none_of X G bv,⟨_,PySem.W.mg_of X G b8⟩,⟨_,PySem.W.mg_of X G vv⟩,⟨_,PySem.W.mg_of X G kt⟩,PySem.W.mg_of X G fu,ay,PySem.W.mg_of X G ga,au,bb,PySem.W.mg_of X G gp,c6,f9,dw,PySem.W.mg_of X G h3,c5,fc,d2,PySem.W.mg_of X G hk,ch,f6,ct,PySem.W.mg_of X G h9,aw,cu,PySem.W.mg_of X G gw,av,ce,PySem.W.mg_of X G gy,ax,bp,PySem.W.mg_of X G c8,PySem.W.mg_of X G f5,PySem.W.mg_of X G dq,PySem.W.mg_of X G dm,PySem.W.mg_of X G fq,PySem.W.mg_of X G h4,PySem.W.mg_of X G da,PySem.W.mg_of X G fb,PySem.W.mg_of X G gs,dk,⟨di,dv,dt,dj,de,db,du⟩,dn,Z,bx,bd,cz,ak,O,ae,af,am,al,aa,aj,an,b1,ao,ag,ad,ah,ai,a9,a5,fun H p d fs e=>.ins e ay ff fe fg f7,fun H p d fs e=>.ins e au cb c9 cy ck,fun H p d fs e=>.ins e aw bi c3 bw bz,fun H p d fs e=>.ins e av b9 az b3 b6,fun H p d fs e=>.ins e c6 bh bq bn bt,fun H p d fs e=>.ins e c5 bo c0 bj br,fun H p d fs e=>.ins e ch b5 b4 bf b0,fun H p d fs e=>.ins e ax bg be bc b2⟩
 refine ⟨[(ap,ar)],W.fnOf "law" "law" (ZAK ZCo) (ZAJ ZCo) (ZAC ZCo) .none eq er e1 ev cr e6,nt,List.forall_mem_cons.mpr ⟨⟨"_law_asked",by simp,tabIn_of fm g2 rfl l1 qh⟩,fun _ h=>nomatch h⟩,fun s v=>.of_eq rfl,fun base _ _ hC hB=>?_⟩
 have me:Fn l.prog w K mg base CX0 "_law_columns" 1 ["_law_cell"] (ZCm K):=⟨_,_,ok_columns gg T ,rt,h6,PySem.W.mg_of X G va⟩
 have ob:Fn l.prog w K mg base CX0 "_law_table" 1 ["_law_cell","_law_many"] (ZCO):=⟨_,_,ok_table gx T ,vr,g1,PySem.W.mg_of X G u8⟩
 have m6:Fn l.prog w K mg base CX0 "_law_cell_at" 1 ["_law_script","_law_k"] (ZDb K):=⟨_,_,ok_cell_at gm T ,vi,fy,PySem.W.mg_of X G t6⟩
 have aq:Fn l.prog w K mg base (CXE l.prog w) "check_at" 1 ["at"] (ZBq C_NoRule):=⟨_,_,ok_check_at hq T ,sw,gf,PySem.W.mg_of X G rs⟩
 have eb:Kl l.prog w K mg base (CXE l.prog w) "TableRule" C_zaF 2 ["self","at","table"] (ZCK C_zaF C_NoRule):=⟨PySem.W.mg_of X G hk,_,_,ok_TableRule_init gh T aq,uh,oe,t8,r6,om⟩
 have i7:Fn l.prog w K mg base (CXE l.prog w) "check_column" 2 ["at","way"] (ZB2 C_NoRule):=⟨_,_,ok_check_column gi T aq,sh,gl,PySem.W.mg_of X G uy⟩
 have ep:Kl l.prog w K mg base (CXE l.prog w) "KeyRule" C_zaK 3 ["self","columns"] (ZCy K C_zaK C_NoRule):=⟨PySem.W.mg_of X G ga,_,_,ok_KeyRule_init g8 T i7,sa,qv,s6,vu,n7⟩
 have dy:Kl l.prog w K mg base (CXE l.prog w) "NearRule" C_zaJ 2 ["self","at","gap"] (ZB8 C_zaJ C_NoRule):=⟨PySem.W.mg_of X G gp,_,_,ok_NearRule_init fi T aq,tw,jc,vm,r5,mn⟩
 have e3:Kl l.prog w K mg base (CXE l.prog w) "RingRule" C_zaI 2 ["self","at","size"] (ZB7 C_zaI C_NoRule):=⟨PySem.W.mg_of X G h3,_,_,ok_RingRule_init gv T aq,u9,jq,u0,tz,pg⟩
 have mx:Fn l.prog w K mg base (CXE l.prog w) "_law_make" 5 ["_law_kind","_law_first","_law_second"] (ZCl K C_NoRule):=⟨_,_,ok_make fv T eb ep dy e3,ua,hr,PySem.W.mg_of X G u2⟩
 have km:Fn l.prog w K mg base CX0 "_law_refused" 6 ["_law_kind","_law_first","_law_second"] (ZB1 K):=⟨_,_,ok_refused fw T mx,ud,gc,PySem.W.mg_of X G sv⟩
 have d3:CloOk l.prog w K mg base 1 (rT14):=clo_asked T
 have Y:Mt l.prog w K mg base CX0 C_zaE "before" 2 ["self","x","y"] (ZCn C_zaE):=⟨ax,_,_,ok_AskedRule_before h5 T d3,se,v0,rc,g6⟩
 have a0:Mt l.prog w K mg base CX0 C_zaE "widest" 1 ["self"] (ZBG):=⟨ax,_,_,ok_Rule_widest d8 T ,gt,ac,go,d6⟩
 have kh:Kl l.prog w K mg base CX0 "AskedRule" C_zaE 1 ["self","teller"] (ZCT C_zaE):=⟨PySem.W.mg_of X G gy,_,_,ok_AskedRule_init hj T ,so,li,s0,u3,q7⟩
 have mb:Fn l.prog w K mg base CX0 "_law_asked" 3 ["_law_cell"] (ZCS ar):=⟨_,_,ok_asked gu T rfl (hC (ap,ar) (by simp)) hB Y a0 kh,t0,gj,PySem.W.mg_of X G fm⟩
 have U:Mt l.prog w K mg base CX0 C_zaL "widest" 1 ["self"] (ZBG):=⟨ay,_,_,ok_Rule_widest d8 T ,gt,tf,go,d6⟩
 have J:Mt l.prog w K mg base CX0 C_zaK "widest" 1 ["self"] (ZBB K C_zaK):=⟨au,_,_,ok_KeyRule_widest gb T ,u4,tn,rz,gz⟩
 have e5:Fn l.prog w K mg base CX0 "widest_of" 2 ["rules"] (ZCj C_zaL C_zaK):=⟨_,_,ok_widest_of gd T U J,s9,gr,PySem.W.mg_of X G sq⟩
 have a4:Mt l.prog w K mg base CX0 C_zaH "widest" 3 ["self"] (ZBO C_zaL C_zaK C_zaH):=⟨aw,_,_,ok_VoteRule_widest g5 T e5,tm,ug,vc,h8⟩
 have a3:Mt l.prog w K mg base CX0 C_zaG "widest" 3 ["self"] (ZBO C_zaL C_zaK C_zaG):=⟨av,_,_,ok_ChainRule_widest gk T e5,rq,uv,t3,ho⟩
 have L:Mt l.prog w K mg base CX0 C_zaL "before" 1 ["self","x","y"] (ZBM):=⟨ay,_,_,ok_Rule_before fj T ,sl,ub,rv,ge⟩
 have z:Mt l.prog w K mg base CX0 C_zaK "before" 1 ["self","x","y"] (ZBC C_zaK):=⟨au,_,_,ok_KeyRule_before fh T ,sm,rl,ri,g7⟩
 have a7:Mt l.prog w K mg base CX0 C_zaH "before" 2 ["self","x","y"] (ZBP C_zaL C_zaK C_zaH):=⟨aw,_,_,ok_VoteRule_before g4 T L z,rr,uu,sy,hp⟩
 have a1:Mt l.prog w K mg base CX0 C_zaG "before" 2 ["self","x","y"] (ZBP C_zaL C_zaK C_zaG):=⟨av,_,_,ok_ChainRule_before hf T L z,ru,v6,sg,hb⟩
 have ku:Fn l.prog w K mg base CX0 "_law_empty" 4 ["_law_rule"] (ZCR C_zaL C_zaK C_zaH C_zaG):=⟨_,_,ok_empty hh T U J a4 a3 L z a7 a1,sr,fk,PySem.W.mg_of X G rg⟩
 have a2:Mt l.prog w K mg base CX0 C_zaF "widest" 1 ["self"] (ZCk C_zaF):=⟨ch,_,_,ok_TableRule_widest h7 T ,ux,tp,t9,g0⟩
 have a8:Mt l.prog w K mg base CX0 C_zaJ "widest" 1 ["self"] (ZCQ C_zaJ):=⟨c6,_,_,ok_NearRule_widest fx T ,u1,v9,sx,hg⟩
 have a6:Mt l.prog w K mg base CX0 C_zaI "widest" 1 ["self"] (ZCP C_zaI):=⟨c5,_,_,ok_RingRule_widest fo T ,sd,vj,u7,gn⟩
 have f8:KlN K mg "Rule" C_zaL:=⟨PySem.W.mg_of X G fu,lm,nq,j6⟩
 have mr:Kl l.prog w K mg base CX0 "VoteRule" C_zaH 1 ["self","rules"] (ZB0 C_zaH):=⟨PySem.W.mg_of X G h9,_,_,ok_VoteRule_init h0 T ,rj,r0,r3,rx,qk⟩
 have md:Kl l.prog w K mg base CX0 "ChainRule" C_zaG 1 ["self","rules"] (ZB0 C_zaG):=⟨PySem.W.mg_of X G gw,_,_,ok_ChainRule_init he T ,sb,oz,sk,rp,iu⟩
 exact ok_law g9 T me ob m6 km mb ku a2 a8 a6 J f8 ep mr md eb dy e3
end Law
open PySem PySem.W PyProof.Rows
set_option maxRecDepth 100000 in
set_option maxHeartbeats 0 in
theorem PySem.Challenge.cw_sorthall_k14_no_rule_holds : PySem.Challenge.rw_sorthall_k14_no_rule.Holds := by
 refine L2.hd0 ?_
 k_fill
 refine L2.walk_ofT2 (l:=PySem.Challenge.rw_sorthall_k14_no_rule) (k:=7) (x:="_law_script") (names:=["_law_asked"]) rfl rfl ⟨rfl,by decide,by decide,rfl⟩ (fun w h Y=>PySem.W.km_in_of Y) (List.forall_mem_cons.mpr ⟨⟨_,rfl⟩,fun _ h=>nomatch h⟩) ?F
 case F=>
  intro w mg fa h KX G hmg
  refine' Law.all_mk KX G hmg ?a_zaL ?pg_zaL ?hd_zaL ?po_zaL ?sa_zaL ?mk_zaL ?kc_zaL ?in_zaL ?a_zas ?i_zas ?l_zas ?c_zas ?k_zas ?a_zat ?i_zat ?l_zat ?c_zat ?k_zat ?a_zaK ?pg_zaK ?hd_zaK ?po_zaK ?sa_zaK ?mk_zaK ?kc_zaK ?n_zaK_columns ?a_zar ?i_zar ?l_zar ?c_zar ?k_zar ?a_zak ?i_zak ?l_zak ?c_zak ?k_zak ?a_zal ?i_zal ?l_zal ?c_zal ?k_zal ?a_zaJ ?pg_zaJ ?hd_zaJ ?po_zaJ ?sa_zaJ ?mk_zaJ ?kc_zaJ ?n_zaJ_at ?n_zaJ_gap ?a_zao ?i_zao ?l_zao ?c_zao ?k_zao ?a_zag ?i_zag ?l_zag ?c_zag ?k_zag ?a_zaI ?pg_zaI ?hd_zaI ?po_zaI ?sa_zaI ?mk_zaI ?kc_zaI ?n_zaI_at ?n_zaI_size ?a_zap ?i_zap ?l_zap ?c_zap ?k_zap ?a_zaf ?i_zaf ?l_zaf ?c_zaf ?k_zaf ?a_zaF ?pg_zaF ?hd_zaF ?po_zaF ?sa_zaF ?mk_zaF ?kc_zaF ?n_zaF_at ?n_zaF_table ?a_zam ?i_zam ?l_zam ?c_zam ?k_zam ?a_zad ?i_zad ?l_zad ?c_zad ?k_zad ?a_zaH ?pg_zaH ?hd_zaH ?po_zaH ?sa_zaH ?mk_zaH ?kc_zaH ?n_zaH_rules ?a_zan ?i_zan ?l_zan ?c_zan ?k_zan ?a_zae ?i_zae ?l_zae ?c_zae ?k_zae ?a_zah ?i_zah ?l_zah ?c_zah ?k_zah ?a_zaG ?pg_zaG ?hd_zaG ?po_zaG ?sa_zaG ?mk_zaG ?kc_zaG ?n_zaG_rules ?a_zai ?i_zai ?l_zai ?c_zai ?k_zai ?a_zab ?i_zab ?l_zab ?c_zab ?k_zab ?a_zac ?i_zac ?l_zac ?c_zac ?k_zac ?a_zaE ?pg_zaE ?hd_zaE ?po_zaE ?sa_zaE ?mk_zaE ?kc_zaE ?n_zaE_teller ?a_zaj ?i_zaj ?l_zaj ?c_zaj ?k_zaj ?a_zaa ?i_zaa ?l_zaa ?c_zaa ?k_zaa ?a_AskedRule_widest ?a_HallError ?a_NoRule ?a_NoPaper ?a_NoPlace ?a_NoKey ?a_NoRow ?a_NoOrder ?a_TooFar ?a_Spent ?xq_NoRule ?xg_NoRule ?xh_NoRule ?xa_NoRule ?xs_NoRule ?xt_NoRule ?xo_NoRule ?xb_NoRule ?xd_NoRule ?xm_NoRule_HallError ?a_zav ?l_zav ?c_zav ?k_zav ?a_zaq ?l_zaq ?c_zaq ?k_zaq ?a_zau ?l_zau ?c_zau ?k_zau ?a_zaw ?l_zaw ?c_zaw ?k_zaw ?a_zaC ?l_zaC ?c_zaC ?k_zaC ?a_zay ?l_zay ?c_zay ?k_zay ?a_zax ?l_zax ?c_zax ?k_zax ?a_zaA ?l_zaA ?c_zaA ?k_zaA ?a_zaz ?l_zaz ?c_zaz ?k_zaz ?a_zaB ?l_zaB ?c_zaB ?lc_zaB ?tp_zaB ?k_zaB ?a_zaD ?l_zaD ?c_zaD ?k_zaD ?z_GREATEST_AT ?z_UP ?z_DOWN ?z_len ?z_range ?z_list ?z_isinstance ?z_bool ?z_int ?z_max ?z_ValueError ?kit_int_bool ?kit_bool_bool ?kit_int_int ?kit_NoRule_NoRule ?kit_NoRule_ValueError ?kit_NoRule_NoPaper ?kit_NoRule_NoPlace ?kit_NoRule_NoKey ?kit_NoRule_NoRow ?kit_NoRule_NoOrder ?kit_NoRule_TooFar ?kit_NoRule_Spent ?kit_Rule_Rule ?kit_KeyRule_Rule ?kit_VoteRule_Rule ?kit_ChainRule_Rule ?kit_NearRule_Rule ?kit_RingRule_Rule ?kit_TableRule_Rule ?kit_AskedRule_Rule ?tyc_Rule ?tys_Rule ?tyk_Rule ?tym_Rule ?tyc_KeyRule ?tys_KeyRule ?tyk_KeyRule ?tym_KeyRule ?tyc_VoteRule ?tys_VoteRule ?tyk_VoteRule ?tym_VoteRule ?tyc_ChainRule ?tys_ChainRule ?tyk_ChainRule ?tym_ChainRule ?tyc_NearRule ?tys_NearRule ?tyk_NearRule ?tym_NearRule ?tyc_RingRule ?tys_RingRule ?tyk_RingRule ?tym_RingRule ?tyc_TableRule ?tys_TableRule ?tyk_TableRule ?tym_TableRule ?tyc_AskedRule ?tys_AskedRule ?tyk_AskedRule ?tym_AskedRule ?nt
  (case a_zaL=>k_is)
  (case pg_zaL=>k_is)
  (case hd_zaL=>k_is)
  (case po_zaL=>k_is)
  (case sa_zaL=>k_is)
  (case mk_zaL=>k_is)
  (case kc_zaL=>k_is)
  (case in_zaL=>k_is)
  (case a_zas=>k_is)
  (case i_zas=>k_is)
  (case l_zas=>k_is)
  (case c_zas=>k_is)
  (case k_zas=>k_is)
  (case a_zat=>k_is)
  (case i_zat=>k_is)
  (case l_zat=>k_is)
  (case c_zat=>k_is)
  (case k_zat=>k_is)
  (case a_zaK=>k_is)
  (case pg_zaK=>k_is)
  (case hd_zaK=>k_is)
  (case po_zaK=>k_is)
  (case sa_zaK=>k_is)
  (case mk_zaK=>k_is)
  (case kc_zaK=>k_is)
  (case n_zaK_columns=>k_is)
  (case a_zar=>k_is)
  (case i_zar=>k_is)
  (case l_zar=>k_is)
  (case c_zar=>k_is)
  (case k_zar=>k_is)
  (case a_zak=>k_is)
  (case i_zak=>k_is)
  (case l_zak=>k_is)
  (case c_zak=>k_is)
  (case k_zak=>k_is)
  (case a_zal=>k_is)
  (case i_zal=>k_is)
  (case l_zal=>k_is)
  (case c_zal=>k_is)
  (case k_zal=>k_is)
  (case a_zaJ=>k_is)
  (case pg_zaJ=>k_is)
  (case hd_zaJ=>k_is)
  (case po_zaJ=>k_is)
  (case sa_zaJ=>k_is)
  (case mk_zaJ=>k_is)
  (case kc_zaJ=>k_is)
  (case n_zaJ_at=>k_is)
  (case n_zaJ_gap=>k_is)
  (case a_zao=>k_is)
  (case i_zao=>k_is)
  (case l_zao=>k_is)
  (case c_zao=>k_is)
  (case k_zao=>k_is)
  (case a_zag=>k_is)
  (case i_zag=>k_is)
  (case l_zag=>k_is)
  (case c_zag=>k_is)
  (case k_zag=>k_is)
  (case a_zaI=>k_is)
  (case pg_zaI=>k_is)
  (case hd_zaI=>k_is)
  (case po_zaI=>k_is)
  (case sa_zaI=>k_is)
  (case mk_zaI=>k_is)
  (case kc_zaI=>k_is)
  (case n_zaI_at=>k_is)
  (case n_zaI_size=>k_is)
  (case a_zap=>k_is)
  (case i_zap=>k_is)
  (case l_zap=>k_is)
  (case c_zap=>k_is)
  (case k_zap=>k_is)
  (case a_zaf=>k_is)
  (case i_zaf=>k_is)
  (case l_zaf=>k_is)
  (case c_zaf=>k_is)
  (case k_zaf=>k_is)
  (case a_zaF=>k_is)
  (case pg_zaF=>k_is)
  (case hd_zaF=>k_is)
  (case po_zaF=>k_is)
  (case sa_zaF=>k_is)
  (case mk_zaF=>k_is)
  (case kc_zaF=>k_is)
  (case n_zaF_at=>k_is)
  (case n_zaF_table=>k_is)
  (case a_zam=>k_is)
  (case i_zam=>k_is)
  (case l_zam=>k_is)
  (case c_zam=>k_is)
  (case k_zam=>k_is)
  (case a_zad=>k_is)
  (case i_zad=>k_is)
  (case l_zad=>k_is)
  (case c_zad=>k_is)
  (case k_zad=>k_is)
  (case a_zaH=>k_is)
  (case pg_zaH=>k_is)
  (case hd_zaH=>k_is)
  (case po_zaH=>k_is)
  (case sa_zaH=>k_is)
  (case mk_zaH=>k_is)
  (case kc_zaH=>k_is)
  (case n_zaH_rules=>k_is)
  (case a_zan=>k_is)
  (case i_zan=>k_is)
  (case l_zan=>k_is)
  (case c_zan=>k_is)
  (case k_zan=>k_is)
  (case a_zae=>k_is)
  (case i_zae=>k_is)
  (case l_zae=>k_is)
  (case c_zae=>k_is)
  (case k_zae=>k_is)
  (case a_zah=>k_is)
  (case i_zah=>k_is)
  (case l_zah=>k_is)
  (case c_zah=>k_is)
  (case k_zah=>k_is)
  (case a_zaG=>k_is)
  (case pg_zaG=>k_is)
  (case hd_zaG=>k_is)
  (case po_zaG=>k_is)
  (case sa_zaG=>k_is)
  (case mk_zaG=>k_is)
  (case kc_zaG=>k_is)
  (case n_zaG_rules=>k_is)
  (case a_zai=>k_is)
  (case i_zai=>k_is)
  (case l_zai=>k_is)
  (case c_zai=>k_is)
  (case k_zai=>k_is)
  (case a_zab=>k_is)
  (case i_zab=>k_is)
  (case l_zab=>k_is)
  (case c_zab=>k_is)
  (case k_zab=>k_is)
  (case a_zac=>k_is)
  (case i_zac=>k_is)
  (case l_zac=>k_is)
  (case c_zac=>k_is)
  (case k_zac=>k_is)
  (case a_zaE=>k_is)
  (case pg_zaE=>k_is)
  (case hd_zaE=>k_is)
  (case po_zaE=>k_is)
  (case sa_zaE=>k_is)
  (case mk_zaE=>k_is)
  (case kc_zaE=>k_is)
  (case n_zaE_teller=>k_is)
  (case a_zaj=>k_is)
  (case i_zaj=>k_is)
  (case l_zaj=>k_is)
  (case c_zaj=>k_is)
  (case k_zaj=>k_is)
  (case a_zaa=>k_is)
  (case i_zaa=>k_is)
  (case l_zaa=>k_is)
  (case c_zaa=>k_is)
  (case k_zaa=>k_is)
  (case a_AskedRule_widest=>k_is)
  (case a_HallError=>k_is)
  (case a_NoRule=>k_is)
  (case a_NoPaper=>k_is)
  (case a_NoPlace=>k_is)
  (case a_NoKey=>k_is)
  (case a_NoRow=>k_is)
  (case a_NoOrder=>k_is)
  (case a_TooFar=>k_is)
  (case a_Spent=>k_is)
  (case xq_NoRule=>k_exc)
  (case xg_NoRule=>k_is)
  (case xh_NoRule=>k_is)
  (case xa_NoRule=>k_is)
  (case xs_NoRule=>k_is)
  (case xt_NoRule=>k_is)
  (case xo_NoRule=>k_is)
  (case xb_NoRule=>k_is)
  (case xd_NoRule=>k_is)
  (case xm_NoRule_HallError=>kts_exm)
  (case a_zav=>k_is)
  (case l_zav=>k_is)
  (case c_zav=>k_is)
  (case k_zav=>k_is)
  (case a_zaq=>k_is)
  (case l_zaq=>k_is)
  (case c_zaq=>k_is)
  (case k_zaq=>k_is)
  (case a_zau=>k_is)
  (case l_zau=>k_is)
  (case c_zau=>k_is)
  (case k_zau=>k_is)
  (case a_zaw=>k_is)
  (case l_zaw=>k_is)
  (case c_zaw=>k_is)
  (case k_zaw=>k_is)
  (case a_zaC=>k_is)
  (case l_zaC=>k_is)
  (case c_zaC=>k_is)
  (case k_zaC=>k_is)
  (case a_zay=>k_is)
  (case l_zay=>k_is)
  (case c_zay=>k_is)
  (case k_zay=>k_is)
  (case a_zax=>k_is)
  (case l_zax=>k_is)
  (case c_zax=>k_is)
  (case k_zax=>k_is)
  (case a_zaA=>k_is)
  (case l_zaA=>k_is)
  (case c_zaA=>k_is)
  (case k_zaA=>k_is)
  (case a_zaz=>k_is)
  (case l_zaz=>k_is)
  (case c_zaz=>k_is)
  (case k_zaz=>k_is)
  (case a_zaB=>k_is)
  (case l_zaB=>k_is)
  (case c_zaB=>k_is)
  (case lc_zaB=>k_is)
  (case tp_zaB=>rfl)
  (case k_zaB=>k_is)
  (case a_zaD=>k_is)
  (case l_zaD=>k_is)
  (case c_zaD=>k_is)
  (case k_zaD=>k_is)
  (case z_GREATEST_AT=>k_is)
  (case z_UP=>k_is)
  (case z_DOWN=>k_is)
  (case z_len=>k_is)
  (case z_range=>k_is)
  (case z_list=>k_is)
  (case z_isinstance=>k_is)
  (case z_bool=>k_is)
  (case z_int=>k_is)
  (case z_max=>k_is)
  (case z_ValueError=>k_is)
  (case kit_int_bool=>kit_is)
  (case kit_bool_bool=>kit_is)
  (case kit_int_int=>kit_is)
  (case kit_NoRule_NoRule=>kit_is)
  (case kit_NoRule_ValueError=>kit_is)
  (case kit_NoRule_NoPaper=>kit_is)
  (case kit_NoRule_NoPlace=>kit_is)
  (case kit_NoRule_NoKey=>kit_is)
  (case kit_NoRule_NoRow=>kit_is)
  (case kit_NoRule_NoOrder=>kit_is)
  (case kit_NoRule_TooFar=>kit_is)
  (case kit_NoRule_Spent=>kit_is)
  (case kit_Rule_Rule=>kit_is)
  (case kit_KeyRule_Rule=>kit_is)
  (case kit_VoteRule_Rule=>kit_is)
  (case kit_ChainRule_Rule=>kit_is)
  (case kit_NearRule_Rule=>kit_is)
  (case kit_RingRule_Rule=>kit_is)
  (case kit_TableRule_Rule=>kit_is)
  (case kit_AskedRule_Rule=>kit_is)
  (case tyc_Rule=>k_is)
  (case tys_Rule=>k_is)
  (case tyk_Rule=>k_is)
  (case tym_Rule=>k_is)
  (case tyc_KeyRule=>k_is)
  (case tys_KeyRule=>k_is)
  (case tyk_KeyRule=>k_is)
  (case tym_KeyRule=>k_is)
  (case tyc_VoteRule=>k_is)
  (case tys_VoteRule=>k_is)
  (case tyk_VoteRule=>k_is)
  (case tym_VoteRule=>k_is)
  (case tyc_ChainRule=>k_is)
  (case tys_ChainRule=>k_is)
  (case tyk_ChainRule=>k_is)
  (case tym_ChainRule=>k_is)
  (case tyc_NearRule=>k_is)
  (case tys_NearRule=>k_is)
  (case tyk_NearRule=>k_is)
  (case tym_NearRule=>k_is)
  (case tyc_RingRule=>k_is)
  (case tys_RingRule=>k_is)
  (case tyk_RingRule=>k_is)
  (case tym_RingRule=>k_is)
  (case tyc_TableRule=>k_is)
  (case tys_TableRule=>k_is)
  (case tyk_TableRule=>k_is)
  (case tym_TableRule=>k_is)
  (case tyc_AskedRule=>k_is)
  (case tys_AskedRule=>k_is)
  (case tyk_AskedRule=>k_is)
  (case tym_AskedRule=>k_is)
  (case nt=>kernel_rfl)
