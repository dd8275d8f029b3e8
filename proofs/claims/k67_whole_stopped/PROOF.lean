import PyProof.Rows.All
import Wide.All
import OpenK.AllK
import Wide.FinOn
import Lean
import PyProof.EqAt
import PyProof.EqKinds
import PyProof.TupleCall
import PyProof.Rows.FStrParts
import KE.KRevIter
import PyProof.CollectIter
import PyProof.SumWalkG
import KE.KDictOf
import PyProof.IsiH_list
import PyProof.RaisesAny
import PyProof.P3In
import PyProof.Rows.SortRuns
import PyProof.Rows.SortShell
import KE.KSortTup
import PySem.Challenge.RW_sorthall_k67_whole_stopped
local macro_rules | `(tactic| omega)=>`(tactic| first | with_reducible assumption | lia | omega (splitDisjunctions:=true))
set_option Elab.async false
set_option linter.all false
set_option maxRecDepth 100000
open List renaming length_map→yAA,length_append→yAC,getElem?_eq_getElem→yAD,mem_cons→yAE,mem_cons_self→yAF,getElem?_map→yAJ,getElem?_eq_some_iff→yAK,mem_of_getElem?→yAL,mem_cons_of_mem→yAM,mem_singleton→yAN,length_take→yAP,length_cons→yAQ,mem_append→yAR,size_toArray→yAS,map_append→yAT,map_cons→yAV,getElem?_append_right→yAW,getElem?_append_left→yAX,append_assoc→yAY,mem_append_right→yAZ,append_nil→yBA,not_mem_nil→yBC,getElem?_eq_none→yBE,mem_map→yBF,take_of_length_le→yBH,getD_eq_getElem?_getD→yBI,length_nil→yBL,filter_append→yBN,mem_filter→yBO,mem_append_left→yBQ,length_drop→yBR,length_reverse→yBS,filter_cons_of_neg→yBV,length_replicate→yBX,lookup_cons→yBY,filter_cons_of_pos→yBZ,take_add_one→yCA,length_set→yCB,length_singleton→yCC,getElem?_of_mem→yCF,mem_reverse→yCG,getElem?_set→yCI,ext_getElem?→yCK,take_append_drop→yCL,extract_eq_drop_take→yCN,map_map→yCO,length_filter_le→yCP,nodup_cons→yCQ,map_reverse→yCS,find?_cons→yCT,perm_append_comm→yCU,length_eq_zero_iff→yCW,nil_append→yCX
open Nat renaming le_refl→yAB,le_trans→yAG,zero_le→yAH,ne_of_lt→yAI,lt_of_lt_of_le→yAU,le_succ→yBB,lt_irrefl→yBK,le_of_lt→yBP,sub_self→yBU,lt_succ_self→yBW,zero_add→yCH,ne_of_gt→yCJ,min_eq_left→yCV
open Array renaming length_toList→yAO,getElem?_toList→yBD,getElem?_eq_some_iff→yBJ,toList_append→yBT,toList_extract→yCM
open Bool renaming false_ne_true→yBG,and_eq_true→yCE,false_eq_true→yCR
open Option renaming map_eq_some_iff→yBM,map_some→yCD
namespace L2
open PySem PySem.W
theorem left_boot {p q:Program} {loose:List Str} {Xt:Shared->Bool} {α:Type} {Yf:Shared->α} {Ya:World->α} {N:Nat} {g0:Bool}
  (z:∀ w:World,(fencedOpening treeTable p w N).map (fun s=>(s.heap,s.gens,s.drawn,s.toks))=some (boot_heap w.params,Array.mk [],boot_drawn,boot_toks))
  (h:∀ (w:World) (os:OsState),(topFrom treeTable p w N ⟨boot_heap w.params,Array.mk [],boot_drawn,boot_toks,os⟩).map (fun s=>(openSeen q loose (importedModules p.main.body) Xt g0 s,Yf s))=some (openGood q loose,Ya w)):LeftO p q loose Xt Yf Ya N g0:=fun w=>by
 obtain ⟨⟨hh,gs,d,k,os⟩,e,J⟩:=yBM.mp (z w)
 obtain ⟨rfl,rfl,rfl,rfl⟩:hh=boot_heap w.params /\ gs=Array.mk [] /\ d=boot_drawn /\ k=boot_toks:=by simpa using J
 unfold openEnds
 rw [e]
 exact h w os
theorem left_two {p q:Program} {loose:List Str} {Xt:Shared->Bool} {α:Type} {Yf:Shared->α} {Ya:World->α} {N:Nat} {g0:Bool}
  (z:∀ w:World,(fencedOpening treeTable p w N).map (fun s=>(s.heap,s.gens,s.drawn,s.toks))=some (boot_heap w.params,Array.mk [],boot_drawn,boot_toks))
  (h1:∀ (w:World) (os:OsState),(topFrom treeTable p w N ⟨boot_heap w.params,Array.mk [],boot_drawn,boot_toks,os⟩).map (fun s=>openSeen q loose (importedModules p.main.body) Xt g0 s)=some (openGood q loose))
  (h2:∀ (w:World) (os:OsState),(topFrom treeTable p w N ⟨boot_heap w.params,Array.mk [],boot_drawn,boot_toks,os⟩).map (fun s=>Yf s)=some (Ya w)):LeftO p q loose Xt Yf Ya N g0 :=
 left_boot z fun w os=>by
  have a:=h1 w os
  have b:=h2 w os
  generalize topFrom treeTable p w N ⟨boot_heap w.params,Array.mk [],boot_drawn,boot_toks,os⟩=r at a b
  cases r with
  | none=>cases a
  | some s=>exact congrArg some (Prod.ext (Option.some.inj a) (Option.some.inj b))
noncomputable def s0B (w:World) (os:OsState):Shared:=⟨boot_heap w.params,Array.mk [],boot_drawn,boot_toks,os⟩
noncomputable def ofLB:List Obj->Nat->BT->BT
 | [],_,t=>t
 | o::r,n,t=>ofLB r (n+1) (t.ins n o)
noncomputable def sTB (w:World) (os:OsState):SharedT:=⟨ofLB (boot_heap w.params).objs.toList 0 .nil,(boot_heap w.params).objs.size,(boot_heap w.params).life,Array.mk [],boot_drawn,boot_toks,os⟩
noncomputable def topRunQ (p:Program) (w:World) (n₀:Nat) (ann:Option Value):Nat->SharedT->Thread->Option SharedT
 | 0,_,_=>none
 | n+1,s,t=>match through t with
  | true=>some s
  | false=>match PySem.W.Fast.tw6613529449190102663 n₀ ann t with
   | false=>none
   | true=>match PySem.W.Fast.tw10156331382660048174 (PySem.W.Fast.tw11892475500146522536 PySem.W.Fast.tw14364793385576792824) p w s t with
    | some (s',t')=>topRunQ p w n₀ ann n s' t'
    | none=>none
theorem topRunQ_spec {p:Program} {w:World} {z:Nat} {J:Option Value}:∀ {n:Nat} {s s':SharedT} {t:Thread},topRunQ p w z J n s t=some s'->topRun treeTable p w z J n s.abs t=some s'.abs
 | 0,_,_,_,h=>by cases h
 | n+1,s,s',t,h=>by
  unfold topRunQ at h
  rw [<- PySem.W.Fast.te6613529449190102663,<- PySem.W.Fast.te10156331382660048174,<- PySem.W.Fast.te11892475500146522536,<- PySem.W.Fast.te14364793385576792824] at h
  unfold topRun
  cases he:through t with
  | true=>rw [he] at h;cases h;rfl
  | false=>
   rw [he] at h
   cases hk:stepOk z J t with
   | false=>rw [hk] at h;cases h
   | true=>
    rw [hk] at h
    cases hs:stepT (denote treeTable) p w s t with
    | none=>rw [hs] at h;cases h
    | some r=>obtain ⟨s₂,L⟩:=r;rw [hs] at h;rw [stepT_spec hs];exact topRunQ_spec h
set_option maxHeartbeats 0 in
theorem sTB_abs:∀ (w:World) (os:OsState),(sTB w os).abs=s0B w os:=by
 intro w os
 kernel_rfl
set_option maxHeartbeats 0 in
theorem s0B_ns:∀ (w:World) (os:OsState),((s0B w os).heap.isNs mainGlobals && (s0B w os).gens.size == 0)=true:=by
 intro w os
 kernel_rfl
noncomputable def topOkB (p:Program) (s₀ s₁:Shared):Bool:=staticsOk (importedModules p.main.body) s₀.heap s₁.heap && namesBound p s₁.heap && gensDone s₁ && laidKept s₀.heap s₁.heap
theorem via_tree {α:Type} {p:Program} {N:Nat} {F:Shared->α} {G:α} (w:World) (os:OsState)
  (h:(topRunQ p w (s0B w os).heap.objs.size ((s0B w os).heap.nsMap mainGlobals "__annotations__") N (sTB w os) (topStub p)).map (fun s=>(topOkB p (s0B w os) s.abs,F s.abs))=some (true,G)):(topFrom treeTable p w N ⟨boot_heap w.params,Array.mk [],boot_drawn,boot_toks,os⟩).map F=some G:=by
 obtain ⟨s',L,O⟩:=yBM.mp h
 have r:=topRunQ_spec L
 rw [sTB_abs] at r
 obtain ⟨z,J⟩:=Prod.mk.inj O
 show (topFrom treeTable p w N (s0B w os)).map F=some G
 unfold topFrom
 rw [s0B_ns w os]
 dsimp only
 rw [r,Option.bind_some]
 unfold topOkB at z
 rw [z]
 exact congrArg some J
noncomputable def vw (p:Program) (ix:List Nat):Program:={ p with main:={ p.main with body:=ix.filterMap fun i=>p.main.body[i]? } }
noncomputable def Vw:Program:=vw PySem.Challenge.pw_sorthall_k67_whole_stopped [0,2,3,4,6,7,8,9,11,13,14,16,17,18,19,20,21,22,23,24,25,26,27,28,29]
set_option maxHeartbeats 0 in
theorem seen1:∀ (w:World) (os:OsState),(topFrom treeTable PySem.Challenge.pw_sorthall_k67_whole_stopped w 6272 ⟨boot_heap w.params,Array.mk [],boot_drawn,boot_toks,os⟩).map (fun s=>openSeen L2.Vw [] (importedModules PySem.Challenge.pw_sorthall_k67_whole_stopped.main.body) (fun s=>xlAt L2.Vw [] s && recOk (RowW.records (OpenRow.toRowW (OpenLaw.row PySem.Challenge.rw_sorthall_k67_whole_stopped))) s) true s)=some (openGood L2.Vw []):=by
 intro w os
 refine via_tree w os ?_
 rw [PySem.W.Fast.te4187177175401517315]
 kernel_rfl
local macro_rules | `(tactic| o_law)=>`(tactic| refine holds_law (by decide +kernel) fun said=>?_)
set_option hygiene false in
local macro_rules | `(tactic| o_head $H)=>`(tactic| (refine holds_open (q:=L2.Vw) (loose:=[]) (Xt:=fun s=>xlAt L2.Vw [] s && recOk (RowW.records _) s) (XP:=XL L2.Vw []) (Yf:=Hook.obs $H) (Ya:=Hook.val $H) (YP:=Hook.says $H) (N:=6272) ?hl (Hook.of $H) (Hook.keeps $H) (fun s e=>xl_of s (Bool.and_eq_true_iff.mp e).1) XL.keeps (by rfl) (by rfl) (by rfl) (fun s e=>recFacts_of (Bool.and_eq_true_iff.mp e).2) (by rfl) (by first | assumption | decide +kernel) (by decide +kernel) ⟨rfl,rfl,rfl,rfl,rfl,by decide +kernel⟩ ?hw ?hc;(case hl=>(refine L2.left_two (PySem.W.boot_open (by rfl) (by decide) (fun s=>rfl)) (fun w os=>?h1) (fun w os=>?h2);(case h1=>exact L2.seen1 w os);(case h2=>(refine L2.via_tree w os ?_;kernel_rfl))))))
set_option maxHeartbeats 0 in
open_top hd0 for PySem.Challenge.rw_sorthall_k67_whole_stopped
end L2
namespace L2
open PySem PySem.Spec PyProof.Rows
noncomputable abbrev Key:=Sum Int Str
noncomputable def ZEo:Key->Value->Bool
 | .inl k,v=>Value.isInt k v
 | .inr x,v=>Value.isStrOf x v
noncomputable def keyH (w:World):Key->Int
 | .inl k=>hashInt k
 | .inr x=>hashStr w x
theorem ZAo:∀ {k:Key} {v:Value},ZEo k v=true->(∃ i t,k=Sum.inl i /\ v=Value.int i t)∨(∃ x t,k=Sum.inr x /\ v=Value.str x t)
 | .inl i,v,h=>by
  obtain ⟨t,e⟩:=Value.isInt_shape (k:=i) (v:=v) h
  exact .inl ⟨i,t,rfl,e⟩
 | .inr x,v,h=>by
  obtain ⟨t,e⟩:=Value.isStrOf_shape (x:=x) (v:=v) h
  exact .inr ⟨x,t,rfl,e⟩
theorem keyIs_int (i:Int) (t:Tok):ZEo (.inl i) (.int i t)=true:=by simp [ZEo,Value.isInt]
theorem keyIs_str (x:Str) (t:Tok):ZEo (.inr x) (.str x t)=true:=by simp [ZEo,Value.isStrOf]
theorem key_ll (a b:Int):decide ((Sum.inl a:Key)=Sum.inl b)=(a == b):=by
 by_cases e:a=b
 .subst e;simp
 .have h:¬ (Sum.inl a:Key)=Sum.inl b:=fun q=>e (Sum.inl.inj q)
  rw [decide_eq_false h]
  exact (beq_eq_false_iff_ne.mpr e).symm
theorem key_rr (a b:Str):decide ((Sum.inr a:Key)=Sum.inr b)=decide (a=b):=by
 by_cases e:a=b
 .subst e;simp
 .have h:¬ (Sum.inr a:Key)=Sum.inr b:=fun q=>e (Sum.inr.inj q)
  rw [decide_eq_false h,decide_eq_false e]
theorem key_lr (a:Int) (b:Str):decide ((Sum.inl a:Key)=Sum.inr b)=false:=decide_eq_false (fun q=>nomatch q)
theorem key_rl (a:Str) (b:Int):decide ((Sum.inr a:Key)=Sum.inl b)=false:=decide_eq_false (fun q=>nomatch q)
noncomputable def ZAU (prog:Program) (w:World):PySem.KeyKind prog w Key where
 is:=ZEo
 hash:=keyH w
 inj:=fun v a b ha hb=>by
  rcases ZAo ha with ⟨i,t,rfl,rfl⟩ | ⟨x,t,rfl,rfl⟩
  .rcases ZAo hb with ⟨j,u,rfl,e⟩ | ⟨y,u,rfl,e⟩
   .injection e with e1 _;rw [e1]
   .exact nomatch e
  .rcases ZAo hb with ⟨j,u,rfl,e⟩ | ⟨y,u,rfl,e⟩
   .exact nomatch e
   .injection e with e1 _;rw [e1]
 byValue:=fun k v h=>by
  rcases ZAo h with ⟨i,t,rfl,rfl⟩ | ⟨x,t,rfl,rfl⟩ <;> rfl
 pyHash:=fun hv h=>by
  rcases ZAo hv with ⟨i,t,rfl,rfl⟩ | ⟨x,t,rfl,rfl⟩
  .exact wpAny_pyHash_int h
  .exact wpAny_pyHash_str h
 eqBool:=fun hu hv h=>by
  rcases ZAo hu with ⟨i,t,rfl,rfl⟩ | ⟨x,t,rfl,rfl⟩
  .rcases ZAo hv with ⟨j,u,rfl,rfl⟩ | ⟨y,u,rfl,rfl⟩
   .rw [key_ll] at h;exact wpAny_eqBool_int h
   .rw [key_lr] at h;exact SeqAt.EqAt.int_str i t y u _ _ _ _ h
  .rcases ZAo hv with ⟨j,u,rfl,rfl⟩ | ⟨y,u,rfl,rfl⟩
   .rw [key_rl] at h;exact SeqAt.EqAt.str_int x t j u _ _ _ _ h
   .rw [key_rr] at h;exact wpAny_eqBool_str h
 «strs»:=fun k x t v h=>by
  rcases ZAo h with ⟨i,u,rfl,e⟩ | ⟨y,u,rfl,e⟩
  .exact nomatch e
  .injection e with e1 _
   subst e1
   cases v <;> rfl
theorem mixKind_int (prog:Program) (w:World) (i:Int) (t:Tok):(ZAU prog w).is (.inl i) (.int i t)=true:=keyIs_int i t
theorem mixKind_str (prog:Program) (w:World) (x:Str) (t:Tok):(ZAU prog w).is (.inr x) (.str x t)=true:=keyIs_str x t
inductive V where
 | non | bl (b:Bool) | int (i:Int) | str (x:Str) | byt (b:Array UInt8) | flt (b:UInt64) | ref (a:Addr) | ty (n:String)
 deriving DecidableEq
noncomputable def RelV:V->Value->Prop
 | .non,u=>u=Value.none
 | .bl b,u=>u=Value.bool b
 | .int i,u=>∃ t,u=Value.int i t
 | .str x,u=>∃ t,u=Value.str x t
 | .byt b,u=>∃ t,u=Value.bytes b t
 | .flt b,u=>∃ t,u=Value.float b t
 | .ref a,u=>u=Value.ref a
 | .ty n,u=>u=Value.type n
noncomputable abbrev Vals:List V->List Value->Prop:=Paired RelV
theorem Vals.length {xs:List V} {us:List Value} (r:Vals xs us):xs.length=us.length:=Paired.length r
theorem Vals.get:∀ {xs:List V} {us:List Value} {i:Nat} {x:V},Vals xs us->xs[i]?=some x->∃ u,us[i]?=some u /\ RelV x u
 | _,_,_,_,.nil,e=>by simp at e
 | _,_,0,_,.cons r _,e=>by simp at e;subst e;exact ⟨_,rfl,r⟩
 | _,_,i+1,x,.cons _ t,e=>by
  obtain ⟨u,h1,h2⟩:=Vals.get (i:=i) (x:=x) t (by simpa using e)
  exact ⟨u,by simpa using h1,h2⟩
theorem Vals.set {x:V} {u:Value} (r:RelV x u):∀ {xs:List V} {us:List Value} (i:Nat),Vals xs us->Vals (xs.set i x) (us.set i u)
 | _,_,_,.nil=>.nil
 | _,_,0,.cons _ t=>.cons r t
 | _,_,i+1,.cons q t=>.cons q (Vals.set r i t)
theorem Vals.append:∀ {xs ys:List V} {us ws:List Value},Vals xs us->Vals ys ws->Vals (xs++ys) (us++ws)
 | _,_,_,_,.nil,s=>s
 | _,_,_,_,.cons r t,s=>.cons r (Vals.append t s)
theorem Vals.take:∀ {xs:List V} {us:List Value} (n:Nat),Vals xs us->Vals (xs.take n) (us.take n)
 | _,_,0,_=>.nil
 | _,_,_+1,.nil=>.nil
 | _,_,n+1,.cons r t=>.cons r (Vals.take n t)
theorem Vals.drop:∀ {xs:List V} {us:List Value} (n:Nat),Vals xs us->Vals (xs.drop n) (us.drop n)
 | _,_,0,r=>r
 | _,_,_+1,.nil=>.nil
 | _,_,n+1,.cons _ t=>Vals.drop n t
noncomputable def RelO:Option V->Option Value->Prop
 | some v,some u=>RelV v u
 | none,none=>True
 | _,_=>False
noncomputable def KV {κ:Type}:List (κ×V)->List (κ×Value)->Prop:=Paired fun (p:κ×V) (q:κ×Value)=>p.1=q.1 /\ RelV p.2 q.2
noncomputable def kV:Key->V
 | .inl i=>.int i
 | .inr x=>.str x
inductive HO where
 | lst (xs:List V)
 | tup (xs:List V)
 | dK (kvs:List (Key×V)) | dT (kvs:List (List Key×V))
 | set (S:Int->Bool) (n:Nat)
 | ins (C dx:Addr) (fs:List (Str×V))
 | own (x:Addr)
 | xd (fs:List (Str×V))
 | met (f x:Addr)
 | rng (lo hi:Int)
 | frz (o:Obj) (u:HO)
 | tbl (ps:Array Value)
 | ext (φ:Heap->Prop)
noncomputable abbrev Hp:=Addr->Option HO
noncomputable def upd (H:Hp) (a:Addr) (o:HO):Hp:=fun b=>if b=a then some o else H b
theorem ZAF {H:Hp} {a:Addr} {o:HO}:upd H a o a=some o:=by unfold upd;rw [if_pos rfl]
theorem ZAG {H:Hp} {a b:Addr} {o:HO} (h:b≠a):upd H a o b=H b:=by unfold upd;rw [if_neg h]
theorem ZEB {H:Hp} {a:Addr} {o u:HO}:upd (upd H a o) a u=upd H a u:=by
 funext b;unfold upd;split <;> rfl
theorem ne_of {H:Hp} {a b:Addr} {o u:HO} (h:H a=some o) (h':H b=some u) (d:o≠u):a≠b:=by
 intro e;subst e;rw [h] at h';exact d (Option.some.inj h')
theorem ZAB {H:Hp} {a b:Addr} {o:HO} (h:H a=some o) (h':H b=none):a≠b:=by
 intro e;subst e;rw [h] at h';cases h'
section
variable (P:Program) (w:World)
noncomputable def ObjOk (H:Hp) (h:Heap) (a:Addr):HO->Prop
 | .lst xs=>xs.length <= sizeLine /\ ∃ (its:List Value) (n:Nat),Vals xs its /\ h.get? a=some { cls:=.type "list",data:=.seq its.toArray n }
 | .tup xs=>xs.length <= sizeLine /\ ∃ its:List Value,Vals xs its /\ IsTup h a its.toArray
 | .dK kvs=>kvs.length <= sizeLine /\ (a == sysModules)=false /\ ∃ vs,KV kvs vs /\ h.DictOf (ZAU P w) a vs
 | .dT kvs=>kvs.length <= sizeLine /\ (a == sysModules)=false /\ ∃ xs:List (List Key×Addr×Value),
   Paired (fun (p:List Key×V) (q:List Key×Addr×Value)=>p.1=q.1 /\ H q.2.1=some (.tup (p.1.map kV)) /\ RelV p.2 q.2.2) kvs xs /\
   ∃ o es ep,h.get? a=some o /\ o.ExactDict /\ o.data=.dict es ep /\ es.toList=xs.map (entryOfKey (tupleKind (ZAU P w))) /\ (xs.map (·.1)).Nodup
 | .set S n=>h.SetOf (intKind P w) a S n
 | .ins C dx fs=>H dx=some (.own a) /\ fs.length <= 1000 /\ dx≠a /\ h.get? a=some (PySem.W.instObj C dx) /\
   ∃ mA,h.Ns1 dx mA /\ (∀ f,RelO (fs.lookup f) (mA f)) /\ PySem.Within mA (fs.map (·.1))
 | .own _=>∃ o,h.get? a=some o
 | .xd fs=>∃ mA,h.Ns1 a mA /\ ∀ f,RelO (fs.lookup f) (mA f)
 | .rng lo hi=>∃ t u v,h.get? a=some { cls:=.type "range",data:=.fields #[.int lo t,.int hi u,.int 1 v] }
 | .frz o u=>h.get? a=some o /\ ObjOk H h a u
 | .tbl ps=>h.get? a=some { cls:=.none,data:=.fields ps }
 | .met f x=>h.get? a=some (PySem.W.methodObj (.ref f) (.ref x))
 | .ext φ=>φ h /\ (∃ o,h.get? a=some o) /\ ∀ h1 h2:Heap,φ h1->(∀ o,h1.get? a=some o->h2.get? a=some o)->φ h2
noncomputable def HOk (H:Hp) (h:Heap):Prop:=∀ a o,H a=some o->ObjOk P w H h a o
end
section
variable {P:Program} {w:World} {H H':Hp} {h h':Heap} {a:Addr} {o:HO}
theorem ObjOk.lt (x:ObjOk P w H h a o):a < h.objs.size:=by
 cases o with
 | lst xs=>obtain ⟨_,_,_,_,e⟩:=x;exact Heap.lt_size e
 | tup xs=>obtain ⟨_,_,_,p⟩:=x;exact p.lt
 | dK kvs=>obtain ⟨_,_,_,_,o,_,_,e,_⟩:=x;exact Heap.lt_size e
 | dT kvs=>obtain ⟨_,_,_,_,o,_,_,e,_⟩:=x;exact Heap.lt_size e
 | set S n=>obtain ⟨o,_,_,_,e,_⟩:=x;exact Heap.lt_size e
 | ins C dx fs=>obtain ⟨_,_,_,e,_⟩:=x;exact Heap.lt_size e
 | own y=>obtain ⟨_,e⟩:=x;exact Heap.lt_size e
 | xd fs=>obtain ⟨_,⟨_,_,_,e,_⟩,_⟩:=x;exact Heap.lt_size e
 | rng lo hi=>obtain ⟨_,_,_,e⟩:=x;exact Heap.lt_size e
 | frz ob u=>obtain ⟨e,_⟩:=x;exact Heap.lt_size e
 | tbl ps=>exact Heap.lt_size (show h.get? a=some _ from x)
 | met f y=>exact Heap.lt_size (show h.get? a=some _ from x)
 | ext φ=>obtain ⟨_,⟨_,e⟩,_⟩:=x;exact Heap.lt_size e
theorem Paired.mapP {α z:Type} {F G:α->z->Prop}:∀ {l₁:List α} {l₂:List z},Paired F l₁ l₂->(∀ a b,F a b->G a b)->Paired G l₁ l₂
 | _,_,.nil,_=>.nil
 | _,_,.cons r t,f=>.cons (f _ _ r) (Paired.mapP t f)
theorem ObjOk.stay (x:ObjOk P w H h a o) (k:∀ b u,(b=a∨H b=some (.own a))->h.get? b=some u->h'.get? b=some u)
  (U:∀ b,H b=some (.own a)->H' b=some (.own a)) (L:∀ b xs,H b=some (.tup xs)->H' b=some (.tup xs)):ObjOk P w H' h' a o:=by
 induction o with
 | lst xs=>obtain ⟨z,its,n,r,e⟩:=x;exact ⟨z,its,n,r,k _ _ (.inl rfl) e⟩
 | tup xs=>obtain ⟨z,its,r,ob,e,c⟩:=x;exact ⟨z,its,r,ob,k _ _ (.inl rfl) e,c⟩
 | dK kvs=>obtain ⟨z,y,vs,r,ob,es,J,e,c⟩:=x;exact ⟨z,y,vs,r,ob,es,J,k _ _ (.inl rfl) e,c⟩
 | dT kvs=>
  obtain ⟨z,y,xs,r,ob,es,J,e,c⟩:=x
  exact ⟨z,y,xs,Paired.mapP r fun p q z=>⟨z.1,L _ _ z.2.1,z.2.2⟩,ob,es,J,k _ _ (.inl rfl) e,c⟩
 | set S n=>obtain ⟨ob,es,J,t,e,c⟩:=x;exact ⟨ob,es,J,t,k _ _ (.inl rfl) e,c⟩
 | ins C dx fs=>
  obtain ⟨d,z,ne,e,mA,⟨od,es,J,O,c⟩,r⟩:=x
  exact ⟨U _ d,z,ne,k _ _ (.inl rfl) e,mA,⟨od,es,J,k _ _ (.inr d) O,c⟩,r⟩
 | own y=>obtain ⟨ob,e⟩:=x;exact ⟨ob,k _ _ (.inl rfl) e⟩
 | xd fs=>obtain ⟨mA,⟨od,es,J,e,c⟩,r⟩:=x;exact ⟨mA,⟨od,es,J,k _ _ (.inl rfl) e,c⟩,r⟩
 | rng lo hi=>obtain ⟨t,u,v,e⟩:=x;exact ⟨t,u,v,k _ _ (.inl rfl) e⟩
 | frz ob u ih=>obtain ⟨e,q⟩:=x;exact ⟨k _ _ (.inl rfl) e,ih q⟩
 | tbl ps=>
  have e:h.get? a=some { cls:=.none,data:=.fields ps }:=x
  show h'.get? a=some { cls:=.none,data:=.fields ps }
  exact k a _ (.inl rfl) e
 | met f y=>
  have e:h.get? a=some (PySem.W.methodObj (.ref f) (.ref y)):=x
  show h'.get? a=some (PySem.W.methodObj (.ref f) (.ref y))
  exact k a _ (.inl rfl) e
 | ext φ=>obtain ⟨p,⟨o,e⟩,st⟩:=x;exact ⟨st _ _ p fun o q=>k _ _ (.inl rfl) q,⟨o,k _ _ (.inl rfl) e⟩,st⟩
theorem HOk.lt (x:HOk P w H h) (e:H a=some o):a < h.objs.size:=(x a o e).lt
theorem HOk.fresh (x:HOk P w H h) (e:h.objs.size <= a):H a=none:=by
 cases q:H a with
 | none=>rfl
 | some u=>exact absurd (yAU (x.lt q) e) (yBK _)
theorem HOk.kept (x:HOk P w H h) (k:∀ b u,h.get? b=some u->h'.get? b=some u):HOk P w H h':=fun a o e=>
 (x a o e).stay (fun b u _ q=>k b u q) (fun _ q=>q) fun _ _ q=>q
theorem HOk.laid (x:HOk P w H h) (k:∀ b u,h.get? b=some u->h'.get? b=some u) (z:h.objs.size <= a) (new:ObjOk P w (upd H a o) h' a o):HOk P w (upd H a o) h':=fun b u e=>by
 have hn:=x.fresh z
 by_cases hb:b=a
 .subst hb;rw [ZAF] at e;cases e;exact new
 .rw [ZAG hb] at e
  exact (x b u e).stay (fun c v _ q=>k c v q) (fun c q=>by rw [ZAG (ZAB q hn)];exact q) fun c xs q=>by rw [ZAG (ZAB q hn)];exact q
end
noncomputable def Rd (H:Hp) (a:Addr) (u:HO):Prop:=H a=some u∨∃ o,H a=some (.frz o u)
theorem Rd.ok {P:Program} {w:World} {H:Hp} {h:Heap} {a:Addr} {u:HO} (r:Rd H a u) (x:HOk P w H h):ObjOk P w H h a u:=by
 rcases r with r | ⟨o,r⟩
 .exact x a u r
 .obtain ⟨_,q⟩:=x a _ r
  exact q
noncomputable def Mut:Option HO->Prop
 | some (.lst _)=>True
 | some (.dK _)=>True
 | some (.dT _)=>True
 | some (.set _ _)=>True
 | some (.ins _ _ _)=>True
 | some (.ext _)=>True
 | _=>False
section
variable {P:Program} {w:World} {H:Hp} {h h':Heap} {x e:Addr} {o':HO}
theorem HOk.write (ok:HOk P w H h) (O:Mut (H x)) (Y:e=x∨H e=some (.own x)) (k:∀ b u,b≠e->h.get? b=some u->h'.get? b=some u) (U:∃ u,h'.get? e=some u)
  (new:ObjOk P w (upd H x o') h' x o'):HOk P w (upd H x o') h':=fun b u q=>by
 have J:∀ c y,H c=some (.own y)->c≠x:=fun c y r z=>by subst z;rw [r] at O;exact O
 have L:∀ c xs,H c=some (.tup xs)->c≠x:=fun c xs r z=>by subst z;rw [r] at O;exact O
 by_cases hb:b=x
 .subst hb;rw [ZAF] at q;cases q;exact new
 .rw [ZAG hb] at q
  by_cases hbe:b=e
  .have q':H b=some (.own x):=by
    rcases Y with z | z
    .exact absurd (hbe.trans z) hb
    .rw [hbe];exact z
   rw [q] at q';cases q'
   obtain ⟨v,Z⟩:=U
   exact ⟨v,by rw [hbe];exact Z⟩
  .refine (ok b u q).stay (fun c v hc r=>k c v ?_ r) (fun c r=>by rw [ZAG (J c b r)];exact r) fun c xs r=>by rw [ZAG (L c xs r)];exact r
   rcases hc with rfl | hc
   .exact hbe
   .rintro rfl
    rcases Y with z | z
    .exact J c b hc z
    .rw [hc] at z;cases z;exact hb rfl
end
structure Un (fs ex:List Addr) (H H':Hp) (h h':Heap):Prop where
 keep:∀ b o,h.get? b=some o->H b=none->b∉fs->b∉ex->h'.get? b=some o
 slot:∀ b o,h.get? b=some o->H b=none->b∈fs->b∉ex->∃ sl,h'.get? b=some { o with slots:=sl }
 free:∀ b o,h.get? b=some o->H b=none->b∉ex->H' b=none
 there:∀ b o,h.get? b=some o->b∉ex->∃ o',h'.get? b=some o'
 tups:∀ b xs,H b=some (.tup xs)->H' b=some (.tup xs)
 frzs:∀ b o u,H b=some (.frz o u)->H' b=some (.frz o u)
 tbls:∀ b ps,H b=some (.tbl ps)->∃ more,H' b=some (.tbl (ps++more))
section
variable {fs fs' ex ex':List Addr} {H H1 H2:Hp} {h h1 h2 h':Heap} {a x e:Addr} {o:HO}
theorem Un.any (u:Un fs ex H H1 h h1) {b:Addr} {ob:Obj} (q:h.get? b=some ob) (n:H b=none) (hx:b∉ex):∃ z,h1.get? b=some { ob with slots:=z }:=by
 by_cases hb:b∈fs
 .exact u.slot b ob q n hb hx
 .exact ⟨ob.slots,u.keep b ob q n hb hx⟩
theorem Un.trans (a:Un fs ex H H1 h h1) (b:Un fs ex H1 H2 h1 h2):Un fs ex H H2 h h2 where
 keep:=fun c ob q n hc hx=>b.keep c ob (a.keep c ob q n hc hx) (a.free c ob q n hx) hc hx
 slot:=fun c ob q n hc hx=>by
  obtain ⟨Y,z⟩:=a.slot c ob q n hc hx
  obtain ⟨J,L⟩:=b.slot c _ z (a.free c ob q n hx) hc hx
  exact ⟨J,L⟩
 free:=fun c ob q n hx=>by
  obtain ⟨o',z⟩:=a.there c ob q hx
  exact b.free c o' z (a.free c ob q n hx) hx
 there:=fun c ob q hx=>by
  obtain ⟨o',z⟩:=a.there c ob q hx
  exact b.there c o' z hx
 tups:=fun c xs q=>b.tups c xs (a.tups c xs q)
 frzs:=fun c ob xs q=>b.frzs c ob xs (a.frzs c ob xs q)
 tbls:=fun c ps q=>by
  obtain ⟨O,z⟩:=a.tbls c ps q
  obtain ⟨U,L⟩:=b.tbls c _ z
  exact ⟨O++U,by rw [L,Array.append_assoc]⟩
theorem Un.kept (k:∀ b u,h.get? b=some u->h'.get? b=some u):Un fs ex H H h h' :=
 ⟨fun b ob q _ _ _=>k b ob q,fun b ob q _ _ _=>⟨ob.slots,k b ob q⟩,fun _ _ _ n _=>n,fun b ob q _=>⟨ob,k b ob q⟩,fun _ _ q=>q,fun _ _ _ q=>q,fun _ ps q=>⟨#[],by rw [q];simp⟩⟩
theorem Un.refl:Un fs ex H H h h:=Un.kept fun _ _ q=>q
theorem Un.laid (k:∀ b u,h.get? b=some u->h'.get? b=some u) (z:h.objs.size <= a) (hn:H a=none):Un fs ex H (upd H a o) h h' where
 keep:=fun b u q _ _ _=>k b u q
 slot:=fun b u q _ _ _=>⟨u.slots,k b u q⟩
 free:=fun b u q n _=>by rw [ZAG (yAI (yAU (Heap.lt_size q) z))];exact n
 there:=fun b u q _=>⟨u,k b u q⟩
 tups:=fun b xs q=>by rw [ZAG (ZAB q hn)];exact q
 frzs:=fun b u xs q=>by rw [ZAG (ZAB q hn)];exact q
 tbls:=fun b ps q=>⟨#[],by rw [ZAG (ZAB q hn),q];simp⟩
theorem Un.write (J:Mut (H x)) (U:e=x∨H e=some (.own x)) (k:∀ b u,b≠e->h.get? b=some u->h'.get? b=some u) (L:∃ u,h'.get? e=some u):Un fs ex H (upd H x o) h h':=by
 have hx:∀ b,H b=none->b≠x:=fun b n z=>by subst z;rw [n] at J;exact J
 have O:∀ b,H b=none->b≠e:=fun b n z=>by
  subst z
  rcases U with r | r
  .exact hx b n r
  .rw [n] at r;cases r
 have hm:∀ b u,H b=some u->¬ Mut (some u)->b≠x:=fun b u q nm z=>by subst z;rw [q] at J;exact nm J
 refine ⟨fun b u q n _ _=>k b u (O b n) q,fun b u q n _ _=>⟨u.slots,k b u (O b n) q⟩,fun b u q n _=>by rw [ZAG (hx b n)];exact n,fun b u q _=>?_,
  fun b xs q=>by rw [ZAG (hm b _ q fun z=>z)];exact q,fun b u xs q=>by rw [ZAG (hm b _ q fun z=>z)];exact q,fun b ps q=>⟨#[],by rw [ZAG (hm b _ q fun z=>z),q];simp⟩⟩
 by_cases hbe:b=e
 .subst hbe;exact L
 .exact ⟨u,k b u hbe q⟩
end
noncomputable def trk (h:Heap) (H:Hp):List Addr:=(List.range h.objs.size).filter fun a=>(H a).isSome
noncomputable def hidT (h:Heap) (H:Hp):Heap:=PySem.W.hideAll h (trk h H)
theorem hidT_size (h:Heap) (H:Hp):(hidT h H).objs.size=h.objs.size:=PySem.W.hideAll_size _ _
theorem hidT_get {h:Heap} {H:Hp} {b:Addr} {o:Obj} (e:h.get? b=some o) (n:H b=none):(hidT h H).get? b=some o :=
 PySem.W.hideAll_get _ e fun hm=>by
  have q:(H b).isSome=true:=(yBO.mp hm).2
  rw [n] at q;simp at q
theorem of_hidT {h:Heap} {H:Hp} {b:Addr} {o:Obj} (e:(hidT h H).get? b=some o):h.get? b=some o /\ H b=none:=by
 have J:h.get? b=some o:=PySem.W.of_hideAll (trk h H) e
 refine ⟨J,?_⟩
 cases q:H b with
 | none=>rfl
 | some x=>
  have hm:b∈trk h H:=yBO.mpr ⟨List.mem_range.mpr (Heap.lt_size J),by simp [q]⟩
  have z:(hidT h H).get? b=none:=PySem.W.hideAll_none (trk h H) hm
  rw [z] at e;cases e
structure Mod (K:W.Frag) (mg:Str->Option Value) (base:Heap):Prop where
 kin:K.In base
 glob:base.Ns mainGlobals mg
 blt:∃ mb,base.Ns builtinsNs mb /\ ∀ x:Str,x≠"__name__"->mb x=bootBuiltins x
 nolimit:base.NoLimit
structure Cx where
 prog:Program
 w:World
 K:W.Frag
 mg:Str->Option Value
 base:Heap
 A:Around
 N:List Str
 s₀:Shared
 H₀:Hp
 env:Env
 outer:List Env
 stack:List Env
 ex:List Addr
 fn:Str->Bool
 calm:Bool
 pn:List (Addr×Obj)
 xe:Value->Shared->Prop
noncomputable def frs (l:List Env):List Addr:=l.filterMap (·.frame)
noncomputable abbrev Cx.fs (X:Cx):List Addr:=frs X.outer
noncomputable def Vis (sc:Scope) (x:Str):Prop:=sc.names.lookup x=some .local∨sc.names.lookup x=some .cell∨sc.names.lookup x=some .free
noncomputable def Loc (sc:Scope) (x:Str):Prop:=sc.names.lookup x=some .local∨sc.names.lookup x=some .cell
noncomputable def Look (env:Env) (h:Heap) (m:Str->Option Value) (x:Str) (u:Value):Prop :=
 (env.kindOf x=some .local /\ m x=some u)∨((env.kindOf x=some .cell∨env.kindOf x=some .free) /\ ∃ c,env.cells.lookup x=some c /\ h.IsCell c (some u))
structure Cx.Ok (X:Cx):Prop where
 mod:Mod X.K X.mg X.base
 kind:X.env.scope.kind=.function
 glob:X.env.globals=mainGlobals
 blt:X.env.builtins=builtinsNs
 above:X.s₀.heap.objs.size <= X.env.locals
 inj:∀ x y c,X.env.cells.lookup x=some c->X.env.cells.lookup y=some c->x=y
 has:∀ x,(X.env.kindOf x=some .cell∨X.env.kindOf x=some .free)->∃ c,X.env.cells.lookup x=some c
 cab:∀ x c,X.fn x=true->X.env.cells.lookup x=some c->X.s₀.heap.objs.size <= c
 hd:X.calm=true->X.A.handled=none
 frames:X.A.frames=some X.stack
 stk:X.stack=X.outer∨(X.stack=X.env::X.outer /\ X.env.frame=some X.env.locals)
 exf:∀ b∈X.ex,b≠X.env.locals /\ ∀ x c,X.env.cells.lookup x=some c->c≠b
 bs:∀ b o,X.base.get? b=some o->X.s₀.heap.get? b=some o /\ X.H₀ b=none
 bsz:X.base.objs.size <= X.s₀.heap.objs.size
 noex:∀ b o,X.base.get? b=some o->b∉X.ex
 exfs:∀ b∈X.ex,b∉X.fs
 funs:X.s₀.heap.FunFrames X.base X.outer
 frf:∀ b∈X.fs,X.H₀ b=none
structure Inv (X:Cx) (pins:List (Addr×Obj)) (σ:List (Option V)) (H:Hp) (s:Shared):Prop where
 ok:X.Ok
 os:s.os=X.s₀.os
 bare:AllBare s.gens
 base:Un X.fs X.ex X.H₀ H X.s₀.heap s.heap
 loc:∃ m,s.heap.Ns X.env.locals m /\ ∀ (i:Nat) (x:Str) (v:V),X.N[i]?=some x->σ[i]?=some (some v)->Vis X.env.scope x->∃ u,RelV v u /\ Look X.env s.heap m x u
 cell:∀ x c,X.env.cells.lookup x=some c->∃ v,s.heap.IsCell c v
 free:H X.env.locals=none
 freeC:∀ x c,X.env.cells.lookup x=some c->H c=none
 pin:∀ p∈X.pn++pins,s.heap.get? p.1=some p.2 /\ H p.1=none /\ p.1≠X.env.locals /\ p.1∉X.fs /\ ∀ v,p.2.data≠.cell v
 hok:HOk X.prog X.w H s.heap
 len:σ.length=X.N.length
section
variable {X:Cx} {pins:List (Addr×Obj)} {σ:List (Option V)} {H H':Hp} {s:Shared} {h':Heap}
theorem Cx.Ok.nofr (ok:X.Ok) {b:Addr} {o:Obj} (e:X.base.get? b=some o):b∉X.fs:=fun z=>by
 have:=(ok.funs.mem z).1
 rw [e] at this;cases this
theorem Inv.bs (I:Inv X pins σ H s):∀ b o,X.base.get? b=some o->s.heap.get? b=some o /\ H b=none:=fun b o e=>
 ⟨I.base.keep b o (I.ok.bs b o e).1 (I.ok.bs b o e).2 (I.ok.nofr e) (I.ok.noex b o e),I.base.free b o (I.ok.bs b o e).1 (I.ok.bs b o e).2 (I.ok.noex b o e)⟩
theorem Inv.bk (I:Inv X pins σ H s):∀ b o,X.base.get? b=some o->s.heap.get? b=some o:=fun b o e=>(I.bs b o e).1
theorem Inv.mod (I:Inv X pins σ H s):Mod X.K X.mg X.base:=I.ok.mod
theorem Inv.kIn (I:Inv X pins σ H s):X.K.In s.heap:=I.ok.mod.kin.keeps I.bk
theorem Inv.lt (I:Inv X pins σ H s):X.env.locals < s.heap.objs.size:=let ⟨_,hn,_⟩:=I.loc;hn.lt
theorem Inv.sz (I:Inv X pins σ H s):X.s₀.heap.objs.size <= s.heap.objs.size:=yAG I.ok.above (yBP I.lt)
theorem Inv.nofs (I:Inv X pins σ H s) {a:Addr} (h:s.heap.objs.size <= a):a∉X.fs:=fun z=>by
 obtain ⟨_,o,J,_⟩:=I.ok.funs.mem z
 exact absurd (yAU (Heap.lt_size J) (yAG I.sz h)) (yBK _)
theorem Inv.cne (I:Inv X pins σ H s):∀ x c,X.env.cells.lookup x=some c->c≠X.env.locals:=fun x c e z=>by
 obtain ⟨v,o,U,O⟩:=I.cell x c e
 obtain ⟨m,⟨o',es,Y,L,J,_⟩,_⟩:=I.loc
 rw [z,L] at U;cases U;rw [J] at O;cases O
theorem Inv.funs (I:Inv X pins σ H s):s.heap.FunFrames X.base X.outer:=by
 have all:∀ (l:List Env),(∀ b∈frs l,b∈X.fs)->X.s₀.heap.FunFrames X.base l->s.heap.FunFrames X.base l:=by
  intro l
  induction l with
  | nil=>intro _ _;trivial
  | cons env r ih=>
   intro Y hl
   obtain ⟨hk,⟨L,o,U,hn,ho,hd⟩,Z⟩:=hl
   have J:L∈X.fs:=Y L (by unfold frs;rw [List.filterMap_cons,U];exact yAF)
   obtain ⟨sl,e⟩:=I.base.slot L o ho (I.ok.frf L J) J fun z=>I.ok.exfs L z J
   exact ⟨hk,⟨L,_,U,hn,e,hd⟩,ih (fun b O=>Y b (by unfold frs;rw [List.filterMap_cons,U];exact yAM _ O)) Z⟩
 exact all X.outer (fun _ O=>O) I.ok.funs
theorem Inv.stack (I:Inv X pins σ H s):s.heap.FunFrames X.base X.stack:=by
 rcases I.ok.stk with e | ⟨e,z⟩
 .rw [e];exact I.funs
 .rw [e]
  obtain ⟨m,hn,_⟩:=I.loc
  refine .cons (by rw [I.ok.kind];decide) z hn ?_ I.funs
  exact Heap.get?_none_of_le (yAG I.ok.bsz I.ok.above)
theorem Inv.stkSub (I:Inv X pins σ H s):∀ b∈frs X.stack,b∈X.env.locals::X.fs:=fun b z=>by
 rcases I.ok.stk with e | ⟨e,J⟩
 .rw [e] at z;exact yAM _ z
 .rw [e] at z
  unfold frs at z
  rw [List.filterMap_cons,J] at z
  exact z
theorem Inv.stkFree (I:Inv X pins σ H s):∀ b∈frs X.stack,H b=none:=fun b J=>by
 rcases yAE.mp (I.stkSub b J) with e | J
 .rw [e];exact I.free
 .obtain ⟨_,o,L,_⟩:=I.ok.funs.mem J
  exact I.base.free b o L (I.ok.frf b J) fun z=>I.ok.exfs b z J
theorem Inv.step {g':Array GenState} {t':Nat} {d':Drawn} {ch:List Addr} (I:Inv X pins σ H s)
  (L:∀ b∈ch,(b∈X.ex∨X.s₀.heap.objs.size <= b) /\ b≠X.env.locals /\ (∀ x c,X.env.cells.lookup x=some c->c≠b) /\ ∀ p∈X.pn++pins,p.1≠b)
  (keep:∀ b o,b≠X.env.locals->b∉X.fs->b∉ch->s.heap.get? b=some o->H b=none->h'.get? b=some o)
  (slot:∀ b o,b≠X.env.locals->b∈X.fs->b∉ch->s.heap.get? b=some o->H b=none->∃ sl,h'.get? b=some { o with slots:=sl }) (free:∀ b o,b∉ch->s.heap.get? b=some o->H b=none->H' b=none)
  (there:∀ b o,b∉ch->s.heap.get? b=some o->∃ o',h'.get? b=some o')
  (tups:∀ b xs,H b=some (.tup xs)->H' b=some (.tup xs)) (frzs:∀ b o u,H b=some (.frz o u)->H' b=some (.frz o u)) (tbls:∀ b ps,H b=some (.tbl ps)->∃ more,H' b=some (.tbl (ps++more)))
  (ns:∀ m,s.heap.Ns X.env.locals m->h'.Ns X.env.locals m) (a2:HOk X.prog X.w H' h') (hg:AllBare g') :
  Inv X pins σ H' { s with heap:=h',gens:=g',drawn:=d',toks:=t' }:=by
 have a0:∀ b o,X.s₀.heap.get? b=some o->b≠X.env.locals:=fun b o e=>yAI (yAU (Heap.lt_size e) I.ok.above)
 have U:∀ b o,X.s₀.heap.get? b=some o->b∉X.ex->b∉ch:=fun b o e hx Z=>by
  rcases (L b Z).1 with z | z
  .exact hx z
  .exact absurd (yAU (Heap.lt_size e) z) (yBK _)
 have O:∀ x c,X.env.cells.lookup x=some c->∀ v,s.heap.IsCell c v->h'.IsCell c v:=fun x c e v ⟨o,ho,hd⟩=>by
  have J:c∉ch:=fun z=>(L c z).2.2.1 x c e rfl
  by_cases hc:c∈X.fs
  .obtain ⟨sl,q⟩:=slot c o (I.cne x c e) hc J ho (I.freeC x c e)
   exact ⟨_,q,hd⟩
  .exact ⟨o,keep c o (I.cne x c e) hc J ho (I.freeC x c e),hd⟩
 refine ⟨I.ok,I.os,hg,⟨fun b o e n Z hx=>?_,fun b o e n Z hx=>?_,fun b o e n hx=>?_,fun b o e hx=>?_,fun b xs e=>tups b xs (I.base.tups b xs e),fun b o xs e=>frzs b o xs (I.base.frzs b o xs e),fun b ps e=>?_⟩,?_,fun x c e=>?_,?_,fun x c e=>?_,fun p hp=>?_,a2,I.len⟩
 .exact keep b o (a0 b o e) Z (U b o e hx) (I.base.keep b o e n Z hx) (I.base.free b o e n hx)
 .obtain ⟨sl,Y⟩:=I.base.slot b o e n Z hx
  obtain ⟨a1,e2⟩:=slot b _ (a0 b o e) Z (U b o e hx) Y (I.base.free b o e n hx)
  exact ⟨a1,e2⟩
 .obtain ⟨o',Y⟩:=I.base.there b o e hx
  exact free b o' (U b o e hx) Y (I.base.free b o e n hx)
 .obtain ⟨o',Y⟩:=I.base.there b o e hx
  exact there b o' (U b o e hx) Y
 .obtain ⟨m1,Y⟩:=I.base.tbls b ps e
  obtain ⟨m2,e2⟩:=tbls b _ Y
  exact ⟨m1++m2,by rw [e2,Array.append_assoc]⟩
 .obtain ⟨m,hn,hl⟩:=I.loc
  refine ⟨m,ns m hn,fun i x v Y e2 e3=>?_⟩
  obtain ⟨u,r,l⟩:=hl i x v Y e2 e3
  refine ⟨u,r,?_⟩
  rcases l with l | ⟨k,c,e,z⟩
  .exact .inl l
  .exact .inr ⟨k,c,e,O x c e _ z⟩
 .obtain ⟨v,z⟩:=I.cell x c e
  exact ⟨v,O x c e v z⟩
 .obtain ⟨m,⟨o,_,_,ho,_⟩,_⟩:=I.loc
  exact free _ o (fun z=>(L _ z).2.1 rfl) ho I.free
 .obtain ⟨v,o,ho,hd⟩:=I.cell x c e
  exact free c o (fun z=>(L c z).2.2.1 x c e rfl) ho (I.freeC x c e)
 .obtain ⟨e,n,ne,nf,d⟩:=I.pin p hp
  have J:p.1∉ch:=fun z=>(L p.1 z).2.2.2 p hp rfl
  exact ⟨keep p.1 p.2 ne nf J e n,free p.1 p.2 J e n,ne,nf,d⟩
theorem Inv.un {t':Nat} (I:Inv X pins σ H s) (u:Un X.fs [] H H' s.heap h') (L:HOk X.prog X.w H' h'):Inv X pins σ H' { s with heap:=h',toks:=t' }:=by
 obtain ⟨m,⟨o,es,ep,Z,r⟩,_⟩:=id I.loc
 obtain ⟨sl,hL⟩:=u.any Z I.free (by simp)
 exact I.step (g':=s.gens) (d':=s.drawn) (ch:=[]) (fun _ z=>nomatch z) (fun b o _ U _ e n=>u.keep b o e n U (by simp)) (fun b o _ U _ e n=>u.slot b o e n U (by simp)) (fun b o _ e n=>u.free b o e n (by simp)) (fun b o _ e=>u.there b o e (by simp)) u.tups u.frzs u.tbls (fun m' hm=>by
  obtain ⟨o',Y,O,J,r'⟩:=hm
  rw [Z] at J;cases J
  exact ⟨_,Y,O,hL,r'⟩) L I.bare
theorem Inv.call {g':Array GenState} {t':Nat} {d':Drawn} {ch:List Addr} (I:Inv X pins σ H s) (u:Un (frs X.stack) ch H H' s.heap h') (O:HOk X.prog X.w H' h') (hg:AllBare g')
  (J:∀ b∈ch,(b∈X.ex∨X.s₀.heap.objs.size <= b) /\ b≠X.env.locals /\ (∀ x c,X.env.cells.lookup x=some c->c≠b) /\ ∀ p∈X.pn++pins,p.1≠b) :
  Inv X pins σ H' { s with heap:=h',gens:=g',drawn:=d',toks:=t' }:=by
 obtain ⟨m,⟨o,es,ep,ho,r⟩,_⟩:=id I.loc
 obtain ⟨sl,Y⟩:=u.any ho I.free fun z=>(J _ z).2.1 rfl
 exact I.step (ch:=ch) J (fun b o Y hb hc e n=>u.keep b o e n (fun z=>(yAE.mp (I.stkSub b z)).elim Y hb) hc) (fun b o _ _ hc e n=>u.any e n hc) (fun b o hc e n=>u.free b o e n hc) (fun b o hc e=>u.there b o e hc) u.tups u.frzs u.tbls (fun m' hm=>by
  obtain ⟨o',Z,U,L,r'⟩:=hm
  rw [ho] at L;cases L
  exact ⟨_,Z,U,Y,r'⟩) O hg
theorem Inv.turned {t':Nat} {it:Addr} (I:Inv X pins σ H s) (k:∀ b o,b≠it->s.heap.get? b=some o->h'.get? b=some o) (hn:H it=none) (L:it≠X.env.locals)
  (h1:it∈X.ex∨X.s₀.heap.objs.size <= it) (h2:∀ x c,X.env.cells.lookup x=some c->c≠it) (h3:∀ p∈X.pn++pins,p.1≠it):Inv X pins σ H { s with heap:=h',toks:=t' }:=by
 have J:∀ b u,H b=some u->b≠it:=fun b u e z=>by rw [z,hn] at e;cases e
 refine I.step (g':=s.gens) (d':=s.drawn) (ch:=[it]) (fun b O=>?_) (fun b o _ _ hc e _=>k b o (fun z=>hc (by simp [z])) e) (fun b o _ _ hc e _=>⟨o.slots,k b o (fun z=>hc (by simp [z])) e⟩) (fun _ _ _ _ n=>n)
  (fun b o hc e=>⟨o,k b o (fun z=>hc (by simp [z])) e⟩) (fun _ _ e=>e) (fun _ _ _ e=>e) (fun b ps e=>⟨#[],by rw [e];simp⟩) (fun m hm=>?_) (fun b u e=>?_) I.bare
 .have e:b=it:=by simpa using O
  subst e
  exact ⟨h1,L,h2,h3⟩
 .obtain ⟨o,es,U,Y,r⟩:=hm
  exact ⟨o,es,U,k _ o (Ne.symm L) Y,r⟩
 .refine (I.hok b u e).stay (fun c v hc q=>k c v ?_ q) (fun _ q=>q) fun _ _ q=>q
  rcases hc with z | z
  .rw [z];exact J b u e
  .exact J c _ z
theorem Inv.tok (I:Inv X pins σ H s) (t:Nat):Inv X pins σ H { s with toks:=t }:=I.un (h':=s.heap) (t':=t) Un.refl I.hok
theorem Inv.kept {t':Nat} (I:Inv X pins σ H s) (k:∀ b u,s.heap.get? b=some u->h'.get? b=some u):Inv X pins σ H { s with heap:=h',toks:=t' }:=I.un (Un.kept k) (I.hok.kept k)
theorem Inv.laid {a:Addr} {o:HO} {t':Nat} (I:Inv X pins σ H s) (k:∀ b u,s.heap.get? b=some u->h'.get? b=some u) (z:s.heap.objs.size <= a) (new:ObjOk X.prog X.w (upd H a o) h' a o) :
  Inv X pins σ (upd H a o) { s with heap:=h',toks:=t' }:=I.un (Un.laid k z (I.hok.fresh z)) (I.hok.laid k z new)
theorem Inv.write {x e:Addr} {o:HO} {t':Nat} (I:Inv X pins σ H s) (L:Mut (H x)) (J:e=x∨H e=some (.own x)) (k:∀ b u,b≠e->s.heap.get? b=some u->h'.get? b=some u) (z:∃ u,h'.get? e=some u)
  (new:ObjOk X.prog X.w (upd H x o) h' x o):Inv X pins σ (upd H x o) { s with heap:=h',toks:=t' }:=I.un (Un.write L J k z) (I.hok.write L J k z new)
theorem Inv.pins_of {pins':List (Addr×Obj)} (I:Inv X pins σ H s) (h:∀ p∈pins',s.heap.get? p.1=some p.2 /\ H p.1=none /\ p.1≠X.env.locals /\ p.1∉X.fs /\ ∀ v,p.2.data≠.cell v):Inv X pins' σ H s :=
 ⟨I.ok,I.os,I.bare,I.base,I.loc,I.cell,I.free,I.freeC,fun p J=>(yAR.mp J).elim (fun z=>I.pin p (yBQ _ z)) (h p),I.hok,I.len⟩
theorem ZDq {N:List Str} (L:N.Nodup) {i j:Nat} {x:Str} (a:N[i]?=some x) (b:N[j]?=some x):i=j:=by
 obtain ⟨h1,z⟩:=yAK.mp a
 obtain ⟨h2,J⟩:=yAK.mp b
 exact (List.getElem_inj L).mp (z.trans J.symm)
theorem store_ok2 {M:Model} {A:Around} {E:Value->Shared->Prop} {i:Nat} {x:Str} {v:V} {u:Value} {Q:Unit->Shared->Prop} (I:Inv X pins σ H s) (hN:X.N.Nodup) (hi:X.N[i]?=some x) (hx:Loc X.env.scope x) (r:RelV v u)
  (h:∀ s',Inv X pins (σ.set i (some v)) H s'->(∃ a,Heap.SameBut a s.heap s'.heap /\ (a=X.env.locals∨X.env.cells.lookup x=some a))->Q () s') (hf:X.fn x=true∨X.env.scope.names.lookup x=some .local:=by first | exact .inl rfl | exact .inr rfl | assumption):wpAny M A (storeName X.env x u) Q E s:=by
 obtain ⟨m,hn,hl⟩:=id I.loc
 have a4:(X.env.scope.kind == .class || (X.env.scope.kind == .module && X.env.locals != X.env.globals))=false:=by rw [I.ok.kind];rfl
 have a0:i < σ.length:=by rw [I.len];exact (yAK.mp hi).1
 have cne:=I.cne
 have L:∀ {a:Addr} {h':Heap},(∃ o,s.heap.get? a=some o /\ H a=none)->Heap.SameBut a s.heap h'->HOk X.prog X.w H h':=fun {a h'} ha J b ob e=>by
  obtain ⟨_,_,U⟩:=ha
  refine (I.hok b ob e).stay (fun c w' hc q=>(J.2 c ?_).trans q) (fun _ q=>q) fun _ _ q=>q
  rintro rfl
  rcases hc with rfl | hc
  .rw [U] at e;cases e
  .rw [U] at hc;cases hc
 rcases hx with Z | Z
 .refine wpAny_storeName_local Z hn (fun h' a6 J=>?_) a4
  obtain ⟨oL,_,_,a7,_⟩:=id hn
  refine h _ ⟨I.ok,I.os,I.bare,⟨fun b o e n hb hx=>?_,fun b o e n hb hx=>?_,I.base.free,fun b o e hx=>?_,I.base.tups,I.base.frzs,I.base.tbls⟩,⟨_,a6,fun j y v' O Y e3=>?_⟩,fun y c e=>?_,I.free,I.freeC,fun p hp=>?_,L ⟨oL,a7,I.free⟩ J,by simpa using I.len⟩ ⟨_,J,.inl rfl⟩
  .exact (J.2 b (yAI (yAU (Heap.lt_size e) I.ok.above))).trans (I.base.keep b o e n hb hx)
  .obtain ⟨sl,O⟩:=I.base.slot b o e n hb hx
   exact ⟨sl,(J.2 b (yAI (yAU (Heap.lt_size e) I.ok.above))).trans O⟩
  .obtain ⟨o',O⟩:=I.base.there b o e hx
   exact ⟨o',(J.2 b (yAI (yAU (Heap.lt_size e) I.ok.above))).trans O⟩
  .by_cases hj:j=i
   .subst hj
    rw [hi] at O;cases O
    rw [List.getElem?_set_self a0] at Y
    cases Y
    exact ⟨u,r,.inl ⟨Z,by simp⟩⟩
   .rw [List.getElem?_set_ne (Ne.symm hj)] at Y
    obtain ⟨u',r',q⟩:=hl j y v' O Y e3
    refine ⟨u',r',?_⟩
    rcases q with ⟨k,e⟩ | ⟨k,c,e,z⟩
    .refine .inl ⟨k,?_⟩
     have:y≠x:=fun e=>hj (ZDq hN O (e ▸ hi))
     simp [this,e]
    .exact .inr ⟨k,c,e,z.sameBut J (cne y c e)⟩
  .obtain ⟨w',z⟩:=I.cell y c e
   exact ⟨w',z.sameBut J (cne y c e)⟩
  .obtain ⟨e,n,ne,nf,d⟩:=I.pin p hp
   exact ⟨(J.2 p.1 ne).trans e,n,ne,nf,d⟩
 .have a1:X.fn x=true:=by
   rcases hf with z | z
   .exact z
   .rw [z] at Z;cases Z
  obtain ⟨c,hc⟩:=I.ok.has x (.inl Z)
  obtain ⟨w',z⟩:=I.cell x c hc
  refine wpAny_storeName_cell I.ok.kind Z hc z (fun h' a5 J=>?_)
  obtain ⟨oc,a3,a2⟩:=id z
  refine h { s with heap:=h' } ⟨I.ok,I.os,I.bare,⟨fun b o e n hb hx=>?_,fun b o e n hb hx=>?_,I.base.free,fun b o e hx=>?_,I.base.tups,I.base.frzs,I.base.tbls⟩,⟨m,hn.sameBut J (Ne.symm (cne x c hc)),fun j y v' O Y e3=>?_⟩,fun y c' e=>?_,I.free,I.freeC,fun p hp=>?_,L ⟨oc,a3,I.freeC x c hc⟩ J,by simpa using I.len⟩ ⟨c,J,.inr hc⟩
  .exact (J.2 b (yAI (yAU (Heap.lt_size e) (I.ok.cab x c a1 hc)))).trans (I.base.keep b o e n hb hx)
  .obtain ⟨sl,O⟩:=I.base.slot b o e n hb hx
   exact ⟨sl,(J.2 b (yAI (yAU (Heap.lt_size e) (I.ok.cab x c a1 hc)))).trans O⟩
  .obtain ⟨o',O⟩:=I.base.there b o e hx
   exact ⟨o',(J.2 b (yAI (yAU (Heap.lt_size e) (I.ok.cab x c a1 hc)))).trans O⟩
  .by_cases hj:j=i
   .subst hj
    rw [hi] at O;cases O
    rw [List.getElem?_set_self a0] at Y
    cases Y
    exact ⟨u,r,.inr ⟨.inl Z,c,hc,a5⟩⟩
   .rw [List.getElem?_set_ne (Ne.symm hj)] at Y
    obtain ⟨u',r',q⟩:=hl j y v' O Y e3
    refine ⟨u',r',?_⟩
    rcases q with q | ⟨k,c',e,z'⟩
    .exact .inl q
    .refine .inr ⟨k,c',e,z'.sameBut J ?_⟩
     rintro rfl
     exact hj (ZDq hN O (I.ok.inj _ _ _ e hc ▸ hi))
  .by_cases hcc:c'=c
   .subst hcc;exact ⟨_,a5⟩
   .obtain ⟨w2,z2⟩:=I.cell y c' e
    exact ⟨w2,z2.sameBut J hcc⟩
  .obtain ⟨e,n,ne,nf,d⟩:=I.pin p hp
   refine ⟨(J.2 p.1 ?_).trans e,n,ne,nf,d⟩
   intro q
   rw [q,a3] at e
   have q':oc=p.2:=Option.some.inj e
   exact d w' (by rw [<- q'];exact a2)
theorem ZC5 {M:Model} {A:Around} {E:Value->Shared->Prop} {i:Nat} {x:Str} {v:V} {u:Value} {Q:Unit->Shared->Prop} (I:Inv X pins σ H s) (L:X.N.Nodup) (hi:X.N[i]?=some x) (hx:Loc X.env.scope x) (r:RelV v u)
  (h:∀ s',Inv X pins (σ.set i (some v)) H s'->Q () s') (z:X.fn x=true∨X.env.scope.names.lookup x=some .local:=by first | exact .inl rfl | exact .inr rfl | assumption):wpAny M A (storeName X.env x u) Q E s :=
 store_ok2 I L hi hx r (fun s' J _=>h s' J) z
theorem Inv.call' {s':Shared} {ch:List Addr} (I:Inv X pins σ H s) (O:s'.os=s.os) (u:Un (frs X.stack) ch H H' s.heap s'.heap) (J:HOk X.prog X.w H' s'.heap) (L:AllBare s'.gens)
  (z:∀ b∈ch,(b∈X.ex∨X.s₀.heap.objs.size <= b) /\ b≠X.env.locals /\ (∀ x c,X.env.cells.lookup x=some c->c≠b) /\ ∀ p∈X.pn++pins,p.1≠b):Inv X pins σ H' s':=by
 obtain ⟨h',g',d',t',o'⟩:=s'
 have e:o'=s.os:=O
 subst e
 exact I.call (g':=g') (t':=t') (d':=d') u J L z
end
noncomputable abbrev XK:=Value->Option Addr->Hp->Prop
noncomputable abbrev St:=List (Option V)
noncomputable abbrev VK:=V->Hp->Prop
noncomputable abbrev TE:=St->Hp->VK->Prop
noncomputable abbrev TT:=St->Hp->(Bool->Hp->Prop)->Prop
noncomputable abbrev TA:=St->Hp->(List V->Hp->Prop)->Prop
structure Ends where
 nx:St->Hp->Prop
 rt:VK
 bk:St->Hp->Prop:=fun _ _=>False
 ct:St->Hp->Prop:=fun _ _=>False
noncomputable abbrev TS:=Ends->St->Hp->Prop
noncomputable def EP (X:Cx) (pins:List (Addr×Obj)) (σ:St) (Q:VK) (u:Value) (s':Shared):Prop:=∃ v H',Inv X pins σ H' s' /\ RelV v u /\ Q v H'
noncomputable def TP (X:Cx) (pins:List (Addr×Obj)) (σ:St) (Q:Bool->Hp->Prop) (b:Bool) (s':Shared):Prop:=∃ H',Inv X pins σ H' s' /\ Q b H'
noncomputable def AP (X:Cx) (pins:List (Addr×Obj)) (σ:St) (Q:List V->Hp->Prop) (us:List Value) (s':Shared):Prop:=∃ vs H',Inv X pins σ H' s' /\ Vals vs us /\ Q vs H'
noncomputable def SP (X:Cx) (pins:List (Addr×Obj)) (D:Ends) (f:Flow) (s':Shared):Prop :=
 match f with
 | .next=>∃ σ' H',Inv X pins σ' H' s' /\ D.nx σ' H'
 | .brk=>∃ σ' H',Inv X pins σ' H' s' /\ D.bk σ' H'
 | .cont=>∃ σ' H',Inv X pins σ' H' s' /\ D.ct σ' H'
 | .ret u=>∃ v σ' H',Inv X pins σ' H' s' /\ RelV v u /\ D.rt v H'
noncomputable def PE (X:Cx) (e:Expr) (t:TE):Prop :=
 ∀ (pins:List (Addr×Obj)) (s:Shared) (σ:St) (H:Hp) (Q:VK),Inv X pins σ H s->t σ H Q->wpAny (model X.prog X.w) X.A (eval e X.env) (EP X pins σ Q) X.xe s
noncomputable def PT (X:Cx) (e:Expr) (t:TT):Prop :=
 ∀ (pins:List (Addr×Obj)) (s:Shared) (σ:St) (H:Hp) (Q:Bool->Hp->Prop),Inv X pins σ H s->t σ H Q->wpAny (model X.prog X.w) X.A (isTrue e X.env (eval e X.env)) (TP X pins σ Q) X.xe s
noncomputable def PW (X:Cx) (e:Expr) (t:TT):Prop :=
 ∀ (whole:Sem Value) (pins:List (Addr×Obj)) (s:Shared) (σ:St) (H:Hp) (Q:Bool->Hp->Prop),Inv X pins σ H s->t σ H Q->wpAny (model X.prog X.w) X.A (isTrue e X.env whole) (TP X pins σ Q) X.xe s
theorem PW.pt {X:Cx} {e:Expr} {t:TT} (h:PW X e t):PT X e t:=h _
noncomputable def PA (X:Cx) (es:List Expr) (t:TA):Prop :=
 ∀ (pos:Pos) (pins:List (Addr×Obj)) (s:Shared) (σ:St) (H:Hp) (Q:List V->Hp->Prop),Inv X pins σ H s->t σ H Q->wpAny (model X.prog X.w) X.A (spliced (backTo pos (starEach es X.env))) (AP X pins σ Q) X.xe s
noncomputable def PS (X:Cx) (st:Stmt) (t:TS):Prop :=
 ∀ (pins:List (Addr×Obj)) (s:Shared) (σ:St) (H:Hp) (D:Ends),Inv X pins σ H s->t D σ H->wpAny (model X.prog X.w) X.A (exec st X.env) (SP X pins D) X.xe s
noncomputable def PSs (X:Cx) (st:List Stmt) (t:TS):Prop :=
 ∀ (pins:List (Addr×Obj)) (s:Shared) (σ:St) (H:Hp) (D:Ends),Inv X pins σ H s->t D σ H->wpAny (model X.prog X.w) X.A (execs st X.env) (SP X pins D) X.xe s
theorem thn {α:Type} {t:Sem α} {Q Q':α->Shared->Prop} {M:Model} {A:Around} {E:Value->Shared->Prop} {s:Shared} (h:wpAny M A t Q E s) (z:∀ a s,Q a s->Q' a s):wpAny M A t Q' E s:=wpAny_mono h z fun _ _ x=>x
section
variable {X:Cx}
noncomputable def tVar (i:Nat):TE:=fun σ H Q=>∃ v,σ[i]?=some (some v) /\ Q v H
noncomputable def tC (v:V):TE:=fun _ H Q=>Q v H
theorem pe_var {i:Nat} {x:Str} {pos:Pos} (U:X.N[i]?=some x) (Y:Vis X.env.scope x) (L:(x == ("__debug__":Str))=false:=by decide) (O:(x == ("__classdict__":Str))=false:=by decide):PE X (.Name x pos) (tVar i):=by
 intro pins s σ H Q I h
 obtain ⟨v,e,h⟩:=h
 obtain ⟨m,hn,hl⟩:=I.loc
 obtain ⟨u,r,l⟩:=hl i x v U e Y
 have fin:EP X pins σ Q u s:=⟨v,H,I,r,h⟩
 rcases l with ⟨J,hm⟩ | ⟨J,c,hc,z⟩
 .exact wpAny_Name (wpAny_loadName_local I.ok.kind J hn hm fin) L
 .rcases J with J | J
  .exact wpAny_Name (wpAny_loadName_cell I.ok.kind J hc z fin) L
  .exact wpAny_Name (wpAny_loadName_free I.ok.kind J hc z fin O) L
theorem ZAH {i j pos}:PE X (.Constant (.int i) j pos) (tC (.int i)):=fun _ _ _ H _ I h=>wpAny_Constant_int ⟨.int i,H,I.tok _,⟨_,rfl⟩,h⟩
theorem ZD1 {b j pos}:PE X (.Constant (.bool b) j pos) (tC (.bl b)):=fun _ _ _ H _ I h=>Constant_bool ⟨.bl b,H,I,rfl,h⟩
theorem ZBE {j pos}:PE X (.Constant .none j pos) (tC .non):=fun _ _ _ H _ I h=>Constant_none ⟨.non,H,I,rfl,h⟩
theorem ZDz {x j pos}:PE X (.Constant (.str x) j pos) (tC (.str x)):=fun _ _ _ H _ I h=>Calls.Constant_str ⟨.str x,H,I.tok _,⟨_,rfl⟩,h⟩
noncomputable def Gl (X:Cx) (x:Str):Prop:=X.env.kindOf x=some .globalImplicit
theorem ZCI {E:Value->Shared->Prop} {pins:List (Addr×Obj)} {s:Shared} {σ:St} {H:Hp} {x:Str} {u:Value} {pos:Pos} {Q:Value->Shared->Prop} (I:Inv X pins σ H s) (z:Gl X x) (hm:X.mg x=some u) (h:Q u s)
  (J:(x == ("__debug__":Str))=false:=by decide):wpAny (model X.prog X.w) X.A (eval (.Name x pos) X.env) Q E s :=
 Calls.Name_function_global I.ok.kind z (Calls.loadGlobal_global (by rw [I.ok.glob];exact I.mod.glob.keeps I.bk) hm h) J
theorem ZDK {E:Value->Shared->Prop} {pins:List (Addr×Obj)} {s:Shared} {σ:St} {H:Hp} {x:Str} {u:Value} {pos:Pos} {Q:Value->Shared->Prop} (I:Inv X pins σ H s) (z:Gl X x) (hm:X.mg x=none) (J:bootBuiltins x=some u) (h:Q u s)
  (hn:x≠"__name__":=by decide) (L:(x == ("__debug__":Str))=false:=by decide):wpAny (model X.prog X.w) X.A (eval (.Name x pos) X.env) Q E s:=by
 obtain ⟨mb,h1,h2⟩:=I.mod.blt
 exact Calls.Name_function_global I.ok.kind z (Calls.loadGlobal_builtin (by rw [I.ok.glob];exact I.mod.glob.keeps I.bk) hm (by rw [I.ok.blt];exact h1.keeps I.bk) ((h2 x hn).trans J) h) L
theorem pe_glob {x:Str} {v:V} {u:Value} {pos:Pos} (z:Gl X x) (hm:X.mg x=some u) (r:RelV v u) (J:(x == ("__debug__":Str))=false:=by decide):PE X (.Name x pos) (tC v) :=
 fun _ _ _ H _ I h=>ZCI I z hm ⟨v,H,I,r,h⟩ J
theorem pe_bltn {x:Str} {v:V} {u:Value} {pos:Pos} (z:Gl X x) (hm:X.mg x=none) (J:bootBuiltins x=some u) (r:RelV v u) (hn:x≠"__name__":=by decide) (L:(x == ("__debug__":Str))=false:=by decide):PE X (.Name x pos) (tC v) :=
 fun _ _ _ H _ I h=>ZDK I z hm J ⟨v,H,I,r,h⟩ hn L
variable {a b:Expr} {ta tb:TE} {pos:Pos}
noncomputable def tB (t:TE):TT:=fun σ H Q=>t σ H fun x H1=>∃ c,x=.bl c /\ Q c H1
theorem ZCB {e:Expr} {t:TE} (h:PE X e t) (J:∀ z,isTrue e X.env z=(do let v <- z;standAt e.pos;holding [v] (truthy v)):=by intro _;rfl):PT X e (tB t):=by
 intro pins s σ H Q I hw
 refine isTrue_plain (thn (h pins s σ H _ I hw) fun v s1 zz=>?_) (J _)
 obtain ⟨x,H1,L,U,O⟩:=zz
 obtain ⟨d,rfl,q⟩:=O
 cases U
 exact wpAny_truthy_bool ⟨H1,L,q⟩
variable {tA tB':TT} {rest:List Expr}
noncomputable def tAnd (t u:TT):TT:=fun σ H Q=>t σ H fun c H1=>if c=true then u σ H1 Q else Q false H1
noncomputable def tOr (t u:TT):TT:=fun σ H Q=>t σ H fun c H1=>if c=true then Q true H1 else u σ H1 Q
noncomputable def tNot (t:TT):TT:=fun σ H Q=>t σ H fun c H1=>Q (!c) H1
theorem ZEJ (ha:PT X a tA):PW X (.BoolOp .And [a] pos) tA:=by
 intro z pins s σ H Q I h
 refine isTrue_and (thn (ha pins s σ H Q I h) fun c s1 e=>?_)
 cases c with
 | true=>exact isTrue_and_nil e
 | false=>exact e
theorem ZCX (ha:PT X a tA):PW X (.BoolOp .Or [a] pos) tA:=by
 intro z pins s σ H Q I h
 refine isTrue_or (thn (ha pins s σ H Q I h) fun c s1 e=>?_)
 cases c with
 | false=>exact isTrue_or_nil e
 | true=>exact e
theorem ZEZ (ha:PT X a tA) (L:PW X (.BoolOp .And (b::rest) pos) tB'):PW X (.BoolOp .And (a::b::rest) pos) (tAnd tA tB'):=by
 intro O pins s σ H Q I h
 refine isTrue_and (thn (ha pins s σ H _ I h) fun c s1 ⟨H1,z,J⟩=>?_)
 cases c with
 | true=>exact L O pins s1 σ H1 Q z J
 | false=>exact ⟨H1,z,J⟩
theorem ZCo (ha:PT X a tA) (L:PW X (.BoolOp .Or (b::rest) pos) tB'):PW X (.BoolOp .Or (a::b::rest) pos) (tOr tA tB'):=by
 intro O pins s σ H Q I h
 refine isTrue_or (thn (ha pins s σ H _ I h) fun c s1 ⟨H1,z,J⟩=>?_)
 cases c with
 | true=>exact ⟨H1,z,J⟩
 | false=>exact L O pins s1 σ H1 Q z J
theorem ZDc (ha:PT X a tA):PT X (.UnaryOp .Not a pos) (tNot tA):=by
 intro pins s σ H Q I h
 exact isTrue_not (ha pins s σ H (fun c H1=>Q (!c) H1) I h)
noncomputable def ZFe (ta tb:TE):TE:=fun σ H Q=>ta σ H fun x H1=>∃ c,x=.bl c /\ if c=true then tb σ H1 Q else Q (.bl false) H1
noncomputable def tOrV (ta tb:TE):TE:=fun σ H Q=>ta σ H fun x H1=>∃ c,x=.bl c /\ if c=true then Q (.bl true) H1 else tb σ H1 Q
noncomputable def ZFa (ta:TE):TE:=fun σ H Q=>ta σ H fun x H1=>∃ c,x=.bl c /\ Q (.bl (!c)) H1
theorem ZEb {op} {t:TE} (h:PE X a t):PE X (.BoolOp op [a] pos) t:=fun pins s σ H Q I hw=>BoolOp_one (h pins s σ H Q I hw)
theorem ZDd (ha:PE X a ta) (L:PE X (.BoolOp .And (b::rest) pos) tb):PE X (.BoolOp .And (a::b::rest) pos) (ZFe ta tb):=by
 intro pins s σ H Q I h
 refine BoolOp_and (thn (ha pins s σ H _ I h) fun v s1 zz=>?_)
 obtain ⟨x,H1,J,O,z⟩:=zz
 obtain ⟨c,rfl,z⟩:=z
 cases O
 refine wpAny_truthy_bool ?_
 cases c with
 | true=>exact L pins s1 σ H1 Q J z
 | false=>exact ⟨.bl false,H1,J,rfl,z⟩
theorem ZE8 (ha:PE X a ta):PE X (.UnaryOp .Not a pos) (ZFa ta):=by
 intro pins s σ H Q I h
 refine UnaryOp_ (thn (ha pins s σ H _ I h) fun v s1 zz=>?_)
 obtain ⟨x,H1,J,L,z⟩:=zz
 obtain ⟨c,rfl,z⟩:=z
 cases L
 exact not_of (wpAny_truthy_bool ⟨.bl (!c),H1,J,rfl,z⟩)
noncomputable def tIf (t:TT) (ta tb:TE):TE:=fun σ H Q=>t σ H fun c H1=>if c=true then ta σ H1 Q else tb σ H1 Q
theorem ZCQ {c:Expr} (hc:PT X c tA) (ha:PE X a ta) (L:PE X b tb):PE X (.IfExp c a b pos) (tIf tA ta tb):=by
 intro pins s σ H Q I h
 refine wpAny_IfExp (thn (hc pins s σ H _ I h) fun d s1 ⟨H1,z,J⟩=>?_)
 cases d with
 | true=>exact ha pins s1 σ H1 Q z J
 | false=>exact L pins s1 σ H1 Q z J
end
noncomputable def SqL (K:W.Frag) (H:Hp) (a:Addr) (xs:List V):Prop :=
 Rd H a (.lst xs) ∨
  ∃ (o:Obj) (its:Array Value) (n:Nat),K.lookup a=some o /\ o.cls=.type "list" /\ o.dict=none /\ o.data=.seq its n /\ its.size <= sizeLine /\ Vals xs its.toList
noncomputable def SqT (K:W.Frag) (H:Hp) (a:Addr) (xs:List V):Prop :=
 Rd H a (.tup xs) ∨
  ∃ (o:Obj) (its:Array Value) (n:Nat),K.lookup a=some o /\ o.cls=.type "tuple" /\ o.data=.seq its n /\ its.size <= sizeLine /\ Vals xs its.toList
noncomputable def absV:Value->Option V
 | .none=>some .non
 | .bool b=>some (.bl b)
 | .int i _=>some (.int i)
 | .str x _=>some (.str x)
 | .bytes b _=>some (.byt b)
 | .float b _=>some (.flt b)
 | .ref a=>some (.ref a)
 | .type n=>some (.ty n)
 | _=>none
theorem RelV.abs {x:V} {u:Value} (r:RelV x u):absV u=some x:=by
 cases x with
 | non=>cases r;rfl
 | bl _=>cases r;rfl
 | int _=>obtain ⟨t,rfl⟩:=r;rfl
 | str _=>obtain ⟨t,rfl⟩:=r;rfl
 | byt _=>obtain ⟨t,rfl⟩:=r;rfl
 | flt _=>obtain ⟨t,rfl⟩:=r;rfl
 | ref _=>cases r;rfl
 | ty _=>cases r;rfl
theorem RelV.inj {x y:V} {u:Value} (r:RelV x u) (q:RelV y u):x=y:=Option.some.inj (r.abs.symm.trans q.abs)
theorem Vals.inj:∀ {xs ys:List V} {us:List Value},Vals xs us->Vals ys us->xs=ys
 | _,_,_,.nil,.nil=>rfl
 | _,_,_,.cons r t,.cons r' t'=>by rw [r.inj r',Vals.inj t t']
section
variable {X:Cx} {pins:List (Addr×Obj)} {σ:St} {H:Hp} {s:Shared} {a:Addr} {xs ys:List V}
theorem SqL.of {K:W.Frag} (h:H a=some (.lst xs)):SqL K H a xs:=.inl (.inl h)
theorem SqT.of {K:W.Frag} (h:H a=some (.tup xs)):SqT K H a xs:=.inl (.inl h)
theorem Inv.list (I:Inv X pins σ H s) (h:SqL X.K H a xs):∃ its:List Value,Vals xs its /\ PlainL s.heap a its.toArray /\ xs.length <= sizeLine:=by
 rcases h with h | ⟨o,its,n,J,hc,L,O,U,r⟩
 .obtain ⟨z,its,n,r,e⟩:=h.ok I.hok
  exact ⟨its,r,⟨_,n,e,rfl,rfl,rfl⟩,z⟩
 .refine ⟨its.toList,r,⟨o,n,I.kIn a o J,hc,L,by simpa using O⟩,?_⟩
  have e:=r.length
  simp only [yAO] at e
  omega
theorem Inv.tuple (I:Inv X pins σ H s) (h:SqT X.K H a xs):∃ its:List Value,Vals xs its /\ IsTup s.heap a its.toArray /\ xs.length <= sizeLine:=by
 rcases h with h | ⟨o,its,n,J,hc,L,O,r⟩
 .obtain ⟨z,its,r,p⟩:=h.ok I.hok
  exact ⟨its,r,p,z⟩
 .refine ⟨its.toList,r,⟨o,I.kIn a o J,hc,n,by simpa using L⟩,?_⟩
  have e:=r.length
  simp only [yAO] at e
  omega
theorem Inv.list_inj (I:Inv X pins σ H s) (h:SqL X.K H a xs) (h':SqL X.K H a ys):xs=ys:=by
 obtain ⟨its,r,⟨o,n,e,_,_,d⟩,_⟩:=I.list h
 obtain ⟨its',J,⟨o',L,z,_,_,d'⟩,_⟩:=I.list h'
 rw [e] at z;cases z
 rw [d] at d'
 injection d' with d1 _
 have:its=its':=by simpa using congrArg Array.toList d1
 subst this
 exact r.inj J
end
noncomputable abbrev Cx.wish (X:Cx) (E:Value->Shared->Prop):Cx:={ X with xe:=E }
noncomputable abbrev Cx.nox (X:Cx):Cx:=X.wish fun _ _=>False
theorem Cx.Ok.wish {X:Cx} (ok:X.Ok) (E:Value->Shared->Prop):(X.wish E).Ok :=
 ⟨ok.mod,ok.kind,ok.glob,ok.blt,ok.above,ok.inj,ok.has,ok.cab,ok.hd,ok.frames,ok.stk,ok.exf,ok.bs,ok.bsz,ok.noex,ok.exfs,ok.funs,ok.frf⟩
theorem Cx.Ok.unwish {X:Cx} {E:Value->Shared->Prop} (ok:(X.wish E).Ok):X.Ok :=
 ⟨ok.mod,ok.kind,ok.glob,ok.blt,ok.above,ok.inj,ok.has,ok.cab,ok.hd,ok.frames,ok.stk,ok.exf,ok.bs,ok.bsz,ok.noex,ok.exfs,ok.funs,ok.frf⟩
section
variable {X:Cx} {pins:List (Addr×Obj)} {σ:St} {H:Hp} {s:Shared} {E:Value->Shared->Prop}
theorem Inv.wish (I:Inv X pins σ H s) (E:Value->Shared->Prop):Inv (X.wish E) pins σ H s:=⟨I.ok.wish E,I.os,I.bare,I.base,I.loc,I.cell,I.free,I.freeC,I.pin,I.hok,I.len⟩
theorem Inv.unwish (I:Inv (X.wish E) pins σ H s):Inv X pins σ H s:=⟨I.ok.unwish,I.os,I.bare,I.base,I.loc,I.cell,I.free,I.freeC,I.pin,I.hok,I.len⟩
theorem SP.unwish {D:Ends} {f:Flow} {s':Shared} (h:SP (X.wish E) pins D f s'):SP X pins D f s':=by
 cases f with
 | next=>obtain ⟨z,H',I,q⟩:=h;exact ⟨z,H',I.unwish,q⟩
 | brk=>obtain ⟨z,H',I,q⟩:=h;exact ⟨z,H',I.unwish,q⟩
 | cont=>obtain ⟨z,H',I,q⟩:=h;exact ⟨z,H',I.unwish,q⟩
 | ret u=>obtain ⟨v,z,H',I,r,q⟩:=h;exact ⟨v,z,H',I.unwish,r,q⟩
theorem PSs.nox {st:List Stmt} {t:TS} (h:PSs X.nox st t):PSs X st t:=fun pins s σ H D I hw=>
 wpAny_mono (h pins s σ H D (I.wish _) hw) (fun _ _ q=>q.unwish) fun _ _ z=>False.elim z
end
section
variable {X:Cx} {st:Stmt} {rest:List Stmt} {t u:TS} {e:Expr} {te:TE} {pos:Pos}
noncomputable def ZFb:TS:=fun D σ H=>D.nx σ H
noncomputable def tSeq (t u:TS):TS:=fun D σ H=>t { D with nx:=u D } σ H
theorem ZAa:PSs X [] ZFb:=fun _ _ σ H _ I h=>wpAny_execs_nil ⟨σ,H,I,h⟩
theorem ZAC (h1:PS X st t) (h2:PSs X rest u):PSs X (st::rest) (tSeq t u):=by
 intro pins s σ H D I h
 refine wpAny_execs_cons (thn (h1 pins s σ H { D with nx:=u D } I h) fun f s1 q=>?_)
 cases f with
 | next=>
  obtain ⟨z,H',J,q⟩:=q
  exact h2 pins s1 z H' D J q
 | ret v=>exact q
 | brk=>exact q
 | cont=>exact q
theorem ZAI (h1:PS X st t):PSs X [st] t:=by
 intro pins s σ H D I h
 refine wpAny_execs_cons (thn (h1 pins s σ H D I h) fun f s1 q=>?_)
 cases f with
 | next=>exact wpAny_execs_nil q
 | ret v=>exact q
 | brk=>exact q
 | cont=>exact q
theorem Inv.quiet {pins:List (Addr×Obj)} {σ:St} {H:Hp} {s:Shared} (I:Inv X pins σ H s):interactive X.env=false:=by simp [interactive,I.ok.kind]
noncomputable def ZFc (te:TE):TS:=fun D σ H=>te σ H fun _ H1=>D.nx σ H1
theorem ZBb (J:PE X e te) (O:swapsWith e none pos.line X.env=pure false:=by rfl):PS X (.Expr e pos) (ZFc te):=by
 intro pins s σ H D I h
 exact wpAny_Expr_any (thn (J pins s σ H _ I h) fun v s1 ⟨x,H1,z,U,L⟩=>⟨σ,H1,z,L⟩) I.quiet O
noncomputable def tRet (te:TE):TS:=fun D σ H=>te σ H D.rt
theorem ZAX (J:PE X e te):PS X (.Return (some e) pos) (tRet te):=by
 intro pins s σ H D I h
 exact wpAny_Return_some (thn (J pins s σ H _ I h) fun v s1 ⟨x,H1,z,O,L⟩=>⟨x,σ,H1,z,O,L⟩)
noncomputable def tRetN:TS:=fun D _ H=>D.rt .non H
noncomputable def tIfS (c:TT) (t u:TS):TS:=fun D σ H=>c σ H fun b H1=>if b=true then t D σ H1 else u D σ H1
theorem ZA4 {c:Expr} {a b:List Stmt} {tc:TT} (hc:PT X c tc) (ha:PSs X a t) (L:PSs X b u):PS X (.If c a b pos) (tIfS tc t u):=by
 intro pins s σ H D I h
 refine wpAny_If (thn (hc pins s σ H _ I h) fun d s1 ⟨H1,z,J⟩=>?_)
 cases d with
 | true=>exact ha pins s1 σ H1 D z J
 | false=>exact L pins s1 σ H1 D z J
noncomputable def tNever:TS:=fun _ _ _=>False
end
noncomputable abbrev TG:=V->St->Hp->(St->Hp->Prop)->Prop
noncomputable abbrev TGs:=List V->St->Hp->(St->Hp->Prop)->Prop
noncomputable def PG (X:Cx) (target:Expr) (t:TG):Prop :=
 ∀ (pins:List (Addr×Obj)) (s:Shared) (σ:St) (H:Hp) (v:V) (u:Value) (Q:St->Hp->Prop),Inv X pins σ H s->RelV v u->t v σ H Q ->
  wpAny (model X.prog X.w) X.A (assign target X.env u) (fun _ s'=>∃ σ' H',Inv X pins σ' H' s' /\ Q σ' H') X.xe s
noncomputable def PGs (X:Cx) (ts:List Expr) (t:TGs):Prop :=
 ∀ (pins:List (Addr×Obj)) (s:Shared) (σ:St) (H:Hp) (vs:List V) (us:List Value) (Q:St->Hp->Prop),Inv X pins σ H s->Vals vs us->t vs σ H Q ->
  wpAny (model X.prog X.w) X.A (assignInOrder ((assignEach ts X.env).map (·.2)) us) (fun _ s'=>∃ σ' H',Inv X pins σ' H' s' /\ Q σ' H') X.xe s
noncomputable abbrev TSet:=V->V->V->Hp->(Hp->Prop)->Prop
noncomputable def PSet (X:Cx) (t:TSet):Prop :=
 ∀ (pins:List (Addr×Obj)) (s:Shared) (σ:St) (H:Hp) (o i v:V) (ov iv u:Value) (Q:Hp->Prop),Inv X pins σ H s->RelV o ov->RelV i iv->RelV v u->t o i v H Q ->
  wpAny (model X.prog X.w) X.A (setItem ov iv u) (fun _ s'=>∃ H',Inv X pins σ H' s' /\ Q H') X.xe s
noncomputable abbrev TIp:=V->V->Hp->VK->Prop
section
variable {X:Cx} {pos:Pos}
noncomputable def ZD4 (i:Nat):TG:=fun v σ H Q=>Q (σ.set i (some v)) H
theorem ZAZ {i:Nat} {x:Str} (L:X.N.Nodup) (hi:X.N[i]?=some x) (hx:Loc X.env.scope x) (z:X.fn x=true∨X.env.scope.names.lookup x=some .local:=by first | exact .inl rfl | exact .inr rfl | assumption):PG X (.Name x pos) (ZD4 i):=by
 intro pins s σ H v u Q I r h
 exact wpAny_assign_Name (ZC5 I L hi hx r (fun s' J=>⟨_,H,J,h⟩) z)
noncomputable def gNil:TGs:=fun vs σ H Q=>vs=[] /\ Q σ H
noncomputable def ZFo (t:TG) (u:TGs):TGs:=fun vs σ H Q=>∃ v r,vs=v::r /\ t v σ H fun σ' H'=>u r σ' H' Q
theorem ZDo:PGs X [] gNil:=by
 intro pins s σ H vs us Q I r h
 obtain ⟨e,h⟩:=h
 subst e
 cases r
 exact assignInOrder_nil ⟨σ,H,I,h⟩
theorem ZBQ {e:Expr} {es:List Expr} {t:TG} {u:TGs} (h1:PG X e t) (h2:PGs X es u)
  (O:(assignEach (e::es) X.env).map (·.2)=assign e X.env::(assignEach es X.env).map (·.2):=by rfl):PGs X (e::es) (ZFo t u):=by
 intro pins s σ H vs us Q I r h
 obtain ⟨v,Y,U,h⟩:=h
 subst U
 cases r with
 | cons r rr=>
  rw [O]
  refine assignInOrder_cons (thn (h1 pins s σ H _ _ _ I r h) fun _ s1 zz=>?_)
  obtain ⟨z,H1,J,L⟩:=zz
  exact h2 pins s1 z H1 _ _ Q J rr L
noncomputable def gTup (K:W.Frag) (n:Nat) (t:TGs):TG:=fun v σ H Q=>∃ a xs,v=.ref a /\ SqT K H a xs /\ xs.length=n /\ t xs σ H Q
theorem ZEa {es:List Expr} {k:Nat} {t:TGs} {n:Nat} (hc:X.calm=true) (h:PGs X es t)
  (hn:(assignEach es X.env).length=n:=by rfl) (z:(assignEach es X.env).findIdx? (·.1)=none:=by rfl):PG X (.Tuple es k pos) (gTup X.K n t):=by
 intro pins s σ H v u Q I r hw
 obtain ⟨a,xs,U,O,hl,hw⟩:=hw
 subst U
 cases r
 obtain ⟨its,rv,L,Y⟩:=I.tuple O
 refine assign_Tuple_tuple (I.ok.hd hc) L (by simp [hn,<- hl,rv.length]) z fun h' hx=>?_
 have J:Inv X pins σ H { s with heap:=h' }:=I.kept (t':=s.toks) fun b o e=>hx b o (yAI (Heap.lt_size e)) e
 exact h pins _ σ H xs _ Q J (by simpa using rv) hw
noncomputable def gSub (to ti:TE) (t:TSet):TG:=fun v σ H Q=>to σ H fun o H1=>ti σ H1 fun i H2=>t o i v H2 fun H3=>Q σ H3
theorem pg_sub {o i:Expr} {to ti:TE} {t:TSet} (ho:PE X o to) (hi:PE X i ti) (hs:PSet X t)
  (ha:∀ v,assign (.Subscript o i pos) X.env v=(do
   let z <- holding [v] (eval o X.env)
   let J <- holding [v,z] (eval i X.env)
   standAt pos
   holding [v,z,J] (setItem z J v)
   release [v,z,J] []):=by intro _;rfl):PG X (.Subscript o i pos) (gSub to ti t):=by
 intro pins s σ H v u Q I r h
 rw [ha]
 refine wpAny_bind (wpAny_holding (thn (ho pins s σ H _ I h) fun z s1 zz=>?_))
 obtain ⟨x,H1,L,r1,U⟩:=zz
 refine wpAny_bind (wpAny_holding (thn (hi pins s1 σ H1 _ L U) fun J s2 zz=>?_))
 obtain ⟨y,H2,I2,Z,Y⟩:=zz
 refine wpAny_bind (wpAny_standAt (wpAny_bind (wpAny_holding (thn (hs pins s2 σ H2 x y v z J u _ I2 r1 Z r Y) fun _ s3 ⟨H3,I3,O⟩=>?_))))
 exact wpAny_release ⟨σ,H3,I3,O⟩
noncomputable def tAsg (te:TE) (g:TG):TS:=fun D σ H=>te σ H fun x H1=>g x σ H1 D.nx
theorem ZE7 {tg e:Expr} {te:TE} {g:TG} (J:PE X e te) (U:PG X tg g) (O:swapsWithSole [tg] e pos.line X.env=pure false:=by rfl) (hw:swappedStores [tg] e X.env=pure none:=by rfl)
  (h1:(assignEach [tg] X.env).map (·.2)=[assign tg X.env]:=by rfl):PS X (.Assign [tg] e pos) (tAsg te g):=by
 intro pins s σ H D I h
 refine wpAny_Assign_stores (thn (J pins s σ H _ I h) fun v s1 zz=>?_) O hw
 obtain ⟨x,H1,z,Y,L⟩:=zz
 rw [h1]
 exact thn (U pins s1 σ H1 x v _ z Y L) fun _ s2 q=>q
theorem ZAO {i:Nat} {x:Str} {e:Expr} {te:TE} {pos':Pos} (U:X.N.Nodup) (hi:X.N[i]?=some x) (hx:Loc X.env.scope x) (J:PE X e te) (O:swapsWith e (some (.Name x pos')) pos.line X.env=pure false:=by rfl) (hf:X.fn x=true∨X.env.scope.names.lookup x=some .local:=by first | exact .inl rfl | exact .inr rfl | assumption) :
  PS X (.Assign [.Name x pos'] e pos) (tAsg te (ZD4 i)):=by
 intro pins s σ H D I h
 refine wpAny_Assign_Name (thn (J pins s σ H _ I h) fun v s1 zz=>?_) O
 obtain ⟨y,H1,z,Z,L⟩:=zz
 exact ZC5 z U hi hx Z (fun s2 Y=>⟨_,H1,Y,L⟩) hf
noncomputable def tAug (i:Nat) (te:TE) (ti:TIp):TS:=fun D σ H=>∃ x,σ[i]?=some (some x) /\ te σ H fun y H1=>ti x y H1 fun z H2=>D.nx (σ.set i (some z)) H2
noncomputable def ipI (f:Int->Int->Int):TIp:=fun x y H Q=>∃ i j,x=.int i /\ y=.int j /\ Q (.int (f i j)) H
end
section
variable {X:Cx} {pos:Pos}
end
structure It where
 go:Nat->Hp->Prop
 yld:Nat->Hp->V->Hp->Prop
 stop:Nat->Hp->Prop
noncomputable def FpOk (X:Cx) (pins:List (Addr×Obj)) (H:Hp) (b:Addr):Prop :=
 H b=none /\ b≠X.env.locals /\ b∉X.fs /\ (b∈X.ex∨X.s₀.heap.objs.size <= b) /\ (∀ x c,X.env.cells.lookup x=some c->c≠b) /\ ∀ p∈X.pn++pins,p.1≠b
theorem Inv.fpOk {X:Cx} {pins:List (Addr×Obj)} {σ:St} {H H':Hp} {s:Shared} {b:Addr} (I:Inv X pins σ H s) (J:s.heap.objs.size <= b) (hn:H' b=none):FpOk X pins H' b:=by
 refine ⟨hn,yCJ (yAU I.lt J),I.nofs J,.inr (yAG I.sz J),fun x c e z=>?_,fun p L z=>?_⟩
 .obtain ⟨v,q⟩:=I.cell x c e
  exact absurd (yAU q.lt (by rw [z];exact J)) (yBK _)
 .exact absurd (yAU (Heap.lt_size (I.pin p L).1) (by rw [z];exact J)) (yBK _)
structure Turn (P:Program) (w:World) (K:W.Frag) (tg:Expr) (J:It) (fp:List Addr) (it:Addr) (tn:Nat->Heap->Prop):Prop where
 mem:it∈fp
 obj:∀ i h,tn i h->∀ b∈fp,∃ o,h.get? b=some o /\ ∀ v,o.data≠.cell v
 keep:∀ i h h',tn i h->(∀ b∈fp,∀ o,h.get? b=some o->h'.get? b=some o)->tn i h'
 item:∀ (X:Cx),X.prog=P->X.w=w->X.K=K->X.calm=true->∀ (i:Nat) (pins:List (Addr×Obj)) (s:Shared) (σ:St) (H:Hp) (E:Value->Shared->Prop),Inv X pins σ H s->(∀ b∈fp,FpOk X pins H b)->tn i s.heap->J.go i H ->
  wpAny (model P w) X.A (pyNext (.ref it)) (fun r s1=>∃ u,r=some u /\
   wpAny (model P w) X.A (letOwnedTupleGo tg (.ref it) u) (fun _ s2=>∃ x H',Inv X pins σ H' s2 /\ RelV x u /\ J.yld i H x H' /\ tn (i+1) s2.heap /\ ∀ b∈fp,H' b=none) E s1) E s
 done:∀ (X:Cx),X.prog=P->X.w=w->X.K=K->X.calm=true->∀ (i:Nat) (pins:List (Addr×Obj)) (s:Shared) (σ:St) (H:Hp) (E:Value->Shared->Prop),Inv X pins σ H s->(∀ b∈fp,FpOk X pins H b)->tn i s.heap->J.stop i H ->
  wpAny (model P w) X.A (pyNext (.ref it)) (fun r s1=>r=none /\ Inv X pins σ H s1) E s
 self:∀ (A:Around) (i:Nat) (s:Shared) (Q:Value->Shared->Prop) (E:Value->Shared->Prop),tn i s.heap->Q (.ref it) s->wpAny (model P w) A (pyIter (.ref it)) Q E s
noncomputable abbrev TI:=St->Hp->(It->Hp->Prop)->Prop
noncomputable def PIE (X:Cx) (pins:List (Addr×Obj)) (σ:St) (tg:Expr) (R:It->Hp->Prop) (itv:Value) (s2:Shared):Prop :=
 ∃ (it:Addr) (fp:List Addr) (tn:Nat->Heap->Prop) (J:It) (H':Hp),itv=.ref it /\ Inv X pins σ H' s2 /\ Turn X.prog X.w X.K tg J fp it tn /\ tn 0 s2.heap /\ (∀ b∈fp,FpOk X pins H' b) /\ R J H'
noncomputable def PI (X:Cx) (tg iter:Expr) (wi:TI):Prop :=
 ∀ (pins:List (Addr×Obj)) (s:Shared) (σ:St) (H:Hp) (R:It->Hp->Prop),Inv X pins σ H s->wi σ H R ->
  wpAny (model X.prog X.w) X.A (eval iter X.env) (fun v s1=>wpAny (model X.prog X.w) X.A (pyIter v) (PIE X pins σ tg R) X.xe s1) X.xe s
theorem go_of {M:Model} {A:Around} {E:Value->Shared->Prop} {s:Shared} {tg:Expr} {it:Addr} {u:Value} {o:Obj} {n:String} {vs:Array Value} {Q:Unit->Shared->Prop} (L:s.heap.get? it=some o) (hc:o.cls=.type n) (J:o.data=.fields vs)
  (hn:["enumerate","zip","dict_itemiterator","dict_reverseitemiterator","odict_iterator","itertools.zip_longest","itertools.pairwise"].contains n=false) (z:Q () s):wpAny M A (letOwnedTupleGo tg (.ref it) u) Q E s:=by
 unfold letOwnedTupleGo
 cases tg <;> first
  | exact wpAny_pure z
  | (cases u <;> first
    | exact wpAny_pure z
    | (refine wpAny_bind (wpAny_load L ?_)
       rw [hc,J]
       show wpAny M A (if (["enumerate","zip","dict_itemiterator","dict_reverseitemiterator","odict_iterator","itertools.zip_longest","itertools.pairwise"].contains n && vs[0]? == some (rawInt _))=true then _ else _) Q E s
       rw [if_neg (by intro h;rw [hn,Bool.false_and] at h;cases h)]
       exact wpAny_pure z))
noncomputable def Itl (K:W.Frag) (a:Addr):It :=
 ⟨fun i H=>∃ xs x,SqL K H a xs /\ xs[i]?=some x,fun i H x H'=>H'=H /\ ∀ xs,SqL K H a xs->xs[i]?=some x,fun i H=>∃ xs,SqL K H a xs /\ xs.length <= i⟩
noncomputable def Itr (lo:Int) (n:Nat):It:=⟨fun i _=>i < n,fun i H x H'=>H'=H /\ x=.int (lo+i),fun i _=>n <= i⟩
theorem turn_list {P:Program} {w:World} {K:W.Frag} {tg:Expr} (a it:Addr):Turn P w K tg (Itl K a) [it] it (fun i h=>h.IsListIter it a i) where
 mem:=by simp
 obj:=fun i h st b J=>by
  have e:b=it:=by simpa using J
  subst e
  obtain ⟨o,e,c,d⟩:=st
  exact ⟨o,e,fun v z=>by rw [d] at z;cases z⟩
 keep:=fun i h h' st k=>st.at fun o e=>k it (by simp) o e
 item:=by
  intro X hP hw Y hc i pins s σ H E I O st hg
  subst hP hw Y
  obtain ⟨xs,x,L,hx⟩:=hg
  obtain ⟨its,rv,p,hz⟩:=I.list L
  obtain ⟨u,hu,ru⟩:=rv.get hx
  obtain ⟨f0,f1,f2,f3,U,Z⟩:=O it (by simp)
  refine wpAny_pyNext_list_item st p.isList (x:=u) (by simpa using hu) fun h' st' sb=>?_
  have I1:Inv X pins σ H { s with heap:=h' }:=I.turned (t':=s.toks) (fun b o J e=>(sb.2 b J).trans e) f0 f1 f3 U Z
  obtain ⟨o,e,c,d⟩:=id st'
  exact ⟨u,rfl,go_of (s:={ s with heap:=h' }) e c d (by decide) ⟨x,H,I1,ru,⟨rfl,fun ys hy=>by rw [I.list_inj hy L];exact hx⟩,st',fun b J=>(O b J).1⟩⟩
 done:=by
  intro X hP hw Y hc i pins s σ H E I O st hg
  subst hP hw Y
  obtain ⟨xs,L,hx⟩:=hg
  obtain ⟨its,rv,p,hz⟩:=I.list L
  obtain ⟨f0,f1,f2,f3,U,Z⟩:=O it (by simp)
  have hl:=rv.length
  exact wpAny_pyNext_list_end (I.ok.hd hc) st p.isList (by simp;omega) fun h' eb=>⟨rfl,I.turned (t':=s.toks) (fun b o J e=>eb b o J e) f0 f1 f3 U Z⟩
 self:=fun _ _ _ _ _ st h=>wpAny_pyIter_listiter st h
theorem turn_range {P:Program} {w:World} {K:W.Frag} {tg:Expr} (it:Addr) (lo:Int) (n:Nat):Turn P w K tg (Itr lo n) [it] it (fun i h=>IsRangeIter h it (lo+(i:Nat) * 1) ((n:Int)-(i:Nat)) 1) where
 mem:=by simp
 obj:=fun i h st b J=>by
  have e:b=it:=by simpa using J
  subst e
  exact ⟨_,st,fun v z=>by
   have z':Data.fields _=Data.cell v:=z
   cases z'⟩
 keep:=fun i h h' st k=>k it (by simp) _ st
 item:=by
  intro X hP hw U hc i pins s σ H E I L st Z
  subst hP hw U
  obtain ⟨f0,f1,f2,f3,O,Y⟩:=L it (by simp)
  have W:=Walks.range (prog:=X.prog) (w:=X.w) (I.ok.hd hc) it lo 1 n
  refine W.item i s _ _ Z st fun v h' tk hv st' kk=>?_
  obtain ⟨t,rfl⟩:=hv
  have I1:Inv X pins σ H { s with heap:=h',toks:=tk }:=I.turned (fun b o J e=>kk b o (by simpa using J) e) f0 f1 f3 O Y
  refine ⟨_,rfl,go_of (s:={ s with heap:=h',toks:=tk }) (n:="range_iterator") st' rfl rfl (by decide) ⟨.int (lo+i),H,I1,⟨t,?_⟩,⟨rfl,rfl⟩,st',fun b J=>(L b J).1⟩⟩
  rw [Int.mul_one]
 done:=by
  intro X hP hw U hc i pins s σ H E I L st Z
  subst hP hw U
  obtain ⟨f0,f1,f2,f3,O,Y⟩:=L it (by simp)
  exact wpAny_pyNext_range_end (I.ok.hd hc) st (by have:n <= i:=Z;omega) fun h' eb=>⟨rfl,I.turned (t':=s.toks) (fun b o J e=>eb b o J e) f0 f1 f3 O Y⟩
 self:=fun _ _ _ _ _ st h=>wpAny_pyIter_rangeiter st h
section
variable {X:Cx} {tg:Expr}
noncomputable def ZFT (K:W.Frag) (tl:TE):TI:=fun σ H R=>tl σ H fun x H1=>∃ a,x=.ref a /\ (∃ xs,SqL K H1 a xs) /\ R (Itl K a) H1
theorem ZAv {l:Expr} {tl:TE} (hl:PE X l tl):PI X tg l (ZFT X.K tl):=by
 intro pins s σ H R I h
 refine thn (hl pins s σ H _ I h) fun v s1 zz=>?_
 obtain ⟨x,H1,z,U,J⟩:=zz
 obtain ⟨a,e,⟨xs,O⟩,q⟩:=J
 subst e
 cases U
 obtain ⟨its,rv,p,Y⟩:=z.list O
 refine wpAny_pyIter_list p.isList ?_
 refine ⟨s1.heap.objs.size,[s1.heap.objs.size],_,_,H1,rfl,z.kept (t':=s1.toks) fun b o e=>Heap.get?_push_of_some _ e,turn_list a _,⟨_,Heap.get?_push_size _ rfl,rfl,rfl⟩,fun b L=>?_,q⟩
 have e:b=s1.heap.objs.size:=by simpa using L
 subst e
 exact z.fpOk (yAB _) (z.hok.fresh (yAB _))
theorem range_it {pins:List (Addr×Obj)} {σ:St} {H:Hp} {s:Shared} {R:It->Hp->Prop} {E:Value->Shared->Prop} {lo hi:Int} {t u v:Tok} {tk:Nat} (I:Inv X pins σ H s) (h1:-(2 ^ 62) <= lo) (h2:lo < 2 ^ 62) (h3:-(2 ^ 62) <= hi) (U:hi < 2 ^ 62)
  (q:R (Itr lo (hi-lo).toNat) H):wpAny (model X.prog X.w) X.A (pyIter (.ref s.heap.objs.size)) (PIE X pins σ tg R) E { s with heap:=s.heap.push { cls:=.type "range",data:=.fields #[.int lo t,.int hi u,.int 1 v] },toks:=tk }:=by
 refine wpAny_pyIter_range (IsRange.new ..) (small_one h1 h2 h3 U) ?_
 have z:Inv X pins σ H { s with heap:=s.heap.push { cls:=.type "range",data:=.fields #[.int lo t,.int hi u,.int 1 v] },toks:=tk }:=I.kept fun b o e=>Heap.get?_push_of_some _ e
 refine ⟨(s.heap.push { cls:=.type "range",data:=.fields #[.int lo t,.int hi u,.int 1 v] }).objs.size,[(s.heap.push { cls:=.type "range",data:=.fields #[.int lo t,.int hi u,.int 1 v] }).objs.size],_,_,H,rfl,
  z.kept (t':=tk) fun b o e=>Heap.get?_push_of_some _ e,turn_range _ lo (hi-lo).toNat,?_,fun b L=>?_,q⟩
 .have O:lo+((0:Nat):Int) * 1=lo:=by simp
  have J:(((hi-lo).toNat:Nat):Int)-((0:Nat):Int)=Builtin.Range.rangeSize lo hi 1:=by rw [rangeSize_one];split <;> omega
  show IsRangeIter _ _ (lo+((0:Nat):Int) * 1) ((((hi-lo).toNat:Nat):Int)-((0:Nat):Int)) 1
  rw [O,J]
  exact Heap.get?_push_size _ rfl
 .have e:b=(s.heap.push { cls:=.type "range",data:=.fields #[.int lo t,.int hi u,.int 1 v] }).objs.size:=by simpa using L
  subst e
  exact z.fpOk (yAB _) (z.hok.fresh (yAB _))
noncomputable def ZFm (ta:TA):TI:=fun σ H R=>ta σ H fun vs H1=>∃ j:Int,vs=[.int j] /\ -(2 ^ 62) <= j /\ j < 2 ^ 62 /\ R (Itr 0 j.toNat) H1
noncomputable def iRng2 (ta:TA):TI:=fun σ H R=>ta σ H fun vs H1=>∃ i j:Int,vs=[.int i,.int j] /\ (-(2 ^ 62) <= i /\ i < 2 ^ 62 /\ -(2 ^ 62) <= j /\ j < 2 ^ 62) /\ R (Itr i (j-i).toNat) H1
theorem ZCG {a:Expr} {ta:TA} {p pos:Pos} (U:Gl X "range") (hm:X.mg "range"=none) (ha:PA X [a] ta) (O:starEach [a] X.env=[(false,eval a X.env)]:=by rfl):PI X tg (.Call (.Name "range" p) [a] [] pos) (ZFm ta):=by
 intro pins s σ H R I h
 refine Call_ (ZDK I U hm boot_range (PyProof.Rows.callWith_type1 (thn (ha pos pins s σ H _ I h) fun us s1 zz=>?_) O rfl))
 obtain ⟨vs,H1,J,Y,z⟩:=zz
 obtain ⟨j,e,z,L,q⟩:=z
 subst e
 cases Y with
 | cons r rr=>
  cases rr
  obtain ⟨t,rfl⟩:=r
  exact call_range_1 (range_it J (by omega) (by omega) z L (by simpa using q))
noncomputable def tFor (wi:TI) (g:TG) (tb:TS):TS:=fun D σ H=>wi σ H fun J H1=>∃ W:Nat->Nat->St->Hp->Prop,(∃ m,W 0 m σ H1) /\ ∀ i m σ H,W i m σ H ->
 (J.stop i H /\ D.nx σ H)∨(J.go i H /\ ∃ N:St->Hp->Prop,(∀ σ' H',N σ' H'->∃ m',m' < m /\ W (i+1) m' σ' H') /\ ∀ x H',J.yld i H x H'->g x σ H' fun σ2 H2=>tb { D with nx:=N,ct:=N,bk:=D.nx } σ2 H2)
noncomputable def ZDy (fp:List Addr) (h:Heap):List (Addr×Obj):=fp.filterMap fun b=>(h.get? b).map fun o=>(b,o)
theorem ZCR {fp:List Addr} {h:Heap} {b:Addr} {o:Obj} (z:b∈fp) (e:h.get? b=some o):(b,o)∈ZDy fp h:=List.mem_filterMap.mpr ⟨b,z,by rw [e];rfl⟩
theorem of_pinsAt {fp:List Addr} {h:Heap} {p:Addr×Obj} (z:p∈ZDy fp h):p.1∈fp /\ h.get? p.1=some p.2:=by
 obtain ⟨b,J,e⟩:=List.mem_filterMap.mp z
 cases q:h.get? b with
 | none=>rw [q] at e;cases e
 | some o=>
  rw [q] at e
  have L:(b,o)=p:=Option.some.inj e
  subst L
  exact ⟨J,q⟩
theorem Inv.pinned {pins:List (Addr×Obj)} {σ:St} {H:Hp} {s:Shared} {fp:List Addr} (I:Inv X pins σ H s) (U:∀ b∈fp,FpOk X pins H b) (Y:∀ b∈fp,∃ o,s.heap.get? b=some o /\ ∀ v,o.data≠.cell v):Inv X (pins++ZDy fp s.heap) σ H s :=
 I.pins_of fun p O=>(yAR.mp O).elim (fun z=>I.pin p (yAZ _ z)) fun z=>by
  obtain ⟨J,e⟩:=of_pinsAt z
  obtain ⟨f0,f1,Z,_⟩:=U p.1 J
  obtain ⟨o,L,d⟩:=Y p.1 J
  rw [e] at L;cases L
  exact ⟨e,f0,f1,Z,d⟩
theorem Inv.unpinned {pins pl:List (Addr×Obj)} {σ:St} {H:Hp} {s:Shared} (I:Inv X (pins++pl) σ H s):Inv X pins σ H s:=I.pins_of fun p z=>I.pin p (yAZ _ (yBQ _ z))
theorem ZCY {iter:Expr} {body:List Stmt} {wi:TI} {g:TG} {tb:TS} {pos:Pos} (hp:PassesOwn (model X.prog X.w) X.A X.env X.xe) (hc:X.calm=true) (hi:PI X tg iter wi) (hg:PG X tg g) (hb:PSs X body tb)
  (hs:∀ x,foldedSetIterable iter X.env x=pure x:=by intro _;rfl):PS X (.For tg iter body [] pos) (tFor wi g tb):=by
 intro pins s σ H D I h
 refine wpAny_For (thn (hi pins s σ H _ I h) fun v s1 h1=>thn h1 fun a7 s2 h2=>?_) hs
 obtain ⟨it,fp,tn,J,H2,e,I2,T,st2,f2,W,⟨m0,w0⟩,a2⟩:=h2
 subst e
 have Z:∀ {H':Hp},(∀ b∈fp,H' b=none)->∀ b∈fp,FpOk X pins H' b:=fun hn b hb=>⟨hn b hb,(f2 b hb).2⟩
 refine codeAny_forLoop_any (fun n s'=>∃ i U H',Inv X pins U H' s' /\ tn i s'.heap /\ (∀ b∈fp,H' b=none) /\ W i n U H') ?_ m0 ⟨0,σ,H2,I2,st2,fun b hb=>(f2 b hb).1,w0⟩
 rintro n s3 ⟨i,O,H3,I3,st3,a3,w3⟩
 rcases a2 i n O H3 w3 with ⟨a1,qn⟩ | ⟨go,N,hN,step⟩
 .refine wpAny_passesOwn hp (thn (T.done X rfl rfl rfl hc i pins s3 O H3 X.xe I3 (Z a3) st3 a1) fun r s4 ⟨hr,I4⟩=>?_)
  subst hr
  exact wpAny_execs_nil ⟨O,H3,I4,qn⟩
 .refine wpAny_passesOwn hp (thn (T.item X rfl rfl rfl hc i pins s3 O H3 X.xe I3 (Z a3) st3 go) fun r s4 ⟨u,hr,h4⟩=>?_)
  subst hr
  refine wpAny_passesOwn hp (thn h4 fun _ s5 zz=>?_)
  obtain ⟨x,H5,I5,r5,y5,a0,a5⟩:=zz
  have a4:=I5.pinned (Z a5) (T.obj _ _ a0)
  refine wpAny_passesOwn hp (thn (hg _ s5 O H5 x u _ a4 r5 (step x H5 y5)) fun _ s6 zz=>?_)
  obtain ⟨a6,H6,I6,q6⟩:=zz
  refine wpAny_passesOwn hp (thn (hb _ s6 a6 H6 _ I6 q6) fun f s7 q7=>?_)
  have L:∀ {z:St} {H7:Hp},Inv X (pins++ZDy fp s5.heap) z H7 s7->N z H7->∃ m,m < n /\ ∃ i U H',Inv X pins U H' s7 /\ tn i s7.heap /\ (∀ b∈fp,H' b=none) /\ W i m U H':=fun {z H7} Y n7=>by
   obtain ⟨m',hm,w7⟩:=hN z H7 n7
   refine ⟨m',hm,i+1,z,H7,Y.unpinned,T.keep _ _ _ a0 fun b hb o e=>(Y.pin (b,o) (yAZ _ (yAZ _ (ZCR hb e)))).1,fun b hb=>?_,w7⟩
   obtain ⟨o,e,d⟩:=T.obj _ _ a0 b hb
   exact (Y.pin (b,o) (yAZ _ (yAZ _ (ZCR hb e)))).2.1
  cases f with
  | next=>obtain ⟨z,H7,Y,n7⟩:=q7;exact L Y n7
  | cont=>obtain ⟨z,H7,Y,n7⟩:=q7;exact L Y n7
  | brk=>obtain ⟨z,H7,Y,q7⟩:=q7;exact ⟨z,H7,Y.unpinned,q7⟩
  | ret v=>obtain ⟨x7,z,H7,Y,r7,q7⟩:=q7;exact ⟨x7,z,H7,Y.unpinned,r7,q7⟩
end
theorem for_list {K:W.Frag} {a:Addr} {xs:List V} {g:TG} {tb:TS} {D:Ends} {σ:St} {H:Hp} (z:Nat->St->Hp->Prop) (h0:z 0 σ H) (hl:∀ i σ H,i <= xs.length->z i σ H->SqL K H a xs)
  (Y:∀ i x σ H,xs[i]?=some x->z i σ H->g x σ H fun L H2=>tb { D with nx:=z (i+1),ct:=z (i+1),bk:=D.nx } L H2) (Z:∀ σ H,z xs.length σ H->D.nx σ H) :
  ∃ W:Nat->Nat->St->Hp->Prop,(∃ m,W 0 m σ H) /\ ∀ i m σ H,W i m σ H ->
   ((Itl K a).stop i H /\ D.nx σ H)∨((Itl K a).go i H /\ ∃ N:St->Hp->Prop,(∀ J H',N J H'->∃ O,O < m /\ W (i+1) O J H') /\ ∀ x H',(Itl K a).yld i H x H'->g x σ H' fun L H2=>tb { D with nx:=N,ct:=N,bk:=D.nx } L H2):=by
 refine ⟨fun i m σ H=>m=xs.length-i /\ i <= xs.length /\ z i σ H,⟨xs.length,by simp,yAH _,h0⟩,?_⟩
 rintro i m σ H ⟨rfl,hi,p⟩
 have q:=hl i σ H hi p
 by_cases hlt:i < xs.length
 .refine .inr ⟨⟨xs,xs[i],q,by simp [hlt]⟩,z (i+1),fun J H' U=>⟨xs.length-(i+1),by omega,rfl,hlt,U⟩,fun x H' y=>?_⟩
  obtain ⟨e,y⟩:=y
  subst e
  exact Y i x σ _ (y xs q) p
 .have e:i=xs.length:=by omega
  subst e
  exact .inl ⟨⟨xs,q,yAB _⟩,Z σ H p⟩
theorem for_range {lo:Int} {n:Nat} {g:TG} {tb:TS} {D:Ends} {σ:St} {H:Hp} (L:Nat->St->Hp->Prop) (h0:L 0 σ H)
  (Y:∀ i σ H,i < n->L i σ H->g (.int (lo+i)) σ H fun J H2=>tb { D with nx:=L (i+1),ct:=L (i+1),bk:=D.nx } J H2) (Z:∀ σ H,L n σ H->D.nx σ H) :
  ∃ W:Nat->Nat->St->Hp->Prop,(∃ m,W 0 m σ H) /\ ∀ i m σ H,W i m σ H ->
   ((Itr lo n).stop i H /\ D.nx σ H)∨((Itr lo n).go i H /\ ∃ N:St->Hp->Prop,(∀ z H',N z H'->∃ O,O < m /\ W (i+1) O z H') /\ ∀ x H',(Itr lo n).yld i H x H'->g x σ H' fun J H2=>tb { D with nx:=N,ct:=N,bk:=D.nx } J H2):=by
 refine ⟨fun i m σ H=>m=n-i /\ i <= n /\ L i σ H,⟨n,by simp,yAH _,h0⟩,?_⟩
 rintro i m σ H ⟨rfl,hi,p⟩
 by_cases hlt:i < n
 .refine .inr ⟨hlt,L (i+1),fun z H' U=>⟨n-(i+1),by omega,rfl,hlt,U⟩,fun x H' y=>?_⟩
  obtain ⟨e,y⟩:=y
  subst e y
  exact Y i σ _ hlt p
 .have e:i=n:=by omega
  subst e
  exact .inl ⟨yAB _,Z σ H p⟩
noncomputable abbrev R2:=V->V->Hp->VK->Prop
noncomputable def OpR (X:Cx) (f:Value->Value->Sem Value) (r:R2):Prop :=
 ∀ (pins:List (Addr×Obj)) (s:Shared) (σ:St) (H:Hp) (x y:V) (v u:Value) (Q:VK),Inv X pins σ H s->RelV x v->RelV y u->r x y H Q ->
  wpAny (model X.prog X.w) X.A (f v u) (EP X pins σ Q) X.xe s
noncomputable def ZCA (X:Cx) (f:Value) (r:List V->Hp->VK->Prop):Prop :=
 ∀ (pins:List (Addr×Obj)) (s:Shared) (σ:St) (H:Hp) (xs:List V) (us:List Value) (Q:VK),Inv X pins σ H s->Vals xs us->r xs H Q ->
  wpAny (model X.prog X.w) X.A (call f us) (EP X pins σ Q) X.xe s
noncomputable def tOp (r:R2) (ta tb:TE):TE:=fun σ H Q=>ta σ H fun x H1=>tb σ H1 fun y H2=>r x y H2 Q
noncomputable def tUn (r:V->Hp->VK->Prop) (ta:TE):TE:=fun σ H Q=>ta σ H fun x H1=>r x H1 Q
noncomputable def rI (C:Int->Int->Prop) (g:Int->Int->V):R2:=fun x y H Q=>∃ i j,x=.int i /\ y=.int j /\ C i j /\ Q (g i j) H
noncomputable def rI0 (g:Int->Int->V):R2:=fun x y H Q=>∃ i j,x=.int i /\ y=.int j /\ Q (g i j) H
noncomputable def rU (g:Int->V):V->Hp->VK->Prop:=fun x H Q=>∃ i,x=.int i /\ Q (g i) H
section
variable {X:Cx} {a b c:Expr} {ta tb tc:TE} {pos:Pos}
theorem binT (ha:PE X a ta) (U:PE X b tb) {pins:List (Addr×Obj)} {s:Shared} {σ:St} {H:Hp} {R:V->V->Hp->Prop} (I:Inv X pins σ H s)
  (h:ta σ H fun x H1=>tb σ H1 fun y H2=>R x y H2) {Q:Value->Shared->Prop} {f:Value->Value->Sem Value}
  (hf:∀ v u s2 x y H2,Inv X pins σ H2 s2->RelV x v->RelV y u->R x y H2->wpAny (model X.prog X.w) X.A (f v u) Q X.xe s2) :
  wpAny (model X.prog X.w) X.A (eval a X.env) (fun v s₁=>wpAny (model X.prog X.w) X.A (eval b X.env) (fun u s₂=>wpAny (model X.prog X.w) X.A (f v u) Q X.xe s₂) X.xe s₁) X.xe s:=by
 refine thn (ha pins s σ H _ I h) fun v s1 zz=>?_
 obtain ⟨x,H1,z,Z,J⟩:=zz
 refine thn (U pins s1 σ H1 _ z J) fun u s2 zz=>?_
 obtain ⟨y,H2,Y,O,L⟩:=zz
 exact hf v u s2 x y H2 Y Z O L
theorem ZAT {z:Operator} {r:R2} (Y:OpR X (binaryOp z) r) (ha:PE X a ta) (L:PE X b tb):PE X (.BinOp a z b pos) (tOp r ta tb):=by
 intro pins s σ H Q I h
 exact wpAny_BinOp (binT ha L I h fun v u s2 x y H2 O J U q=>Y pins s2 σ H2 x y v u Q O J U q)
theorem opI {f:Value->Value->Sem Value} {C:Int->Int->Prop} {g:Int->Int->Int}
  (z:∀ (i j:Int) (t u:Tok) (s:Shared) (Q:Value->Shared->Prop) (E:Value->Shared->Prop),C i j->Q (.int (g i j) s.toks) { s with toks:=s.toks+1 }->wpAny (model X.prog X.w) X.A (f (.int i t) (.int j u)) Q E s) :
  OpR X f (rI C fun i j=>.int (g i j)):=by
 intro pins s σ H x y v u Q I J L h
 obtain ⟨i,j,rfl,rfl,hc,q⟩:=h
 obtain ⟨t,rfl⟩:=J
 obtain ⟨t',rfl⟩:=L
 exact z i j t t' s _ _ hc ⟨.int (g i j),H,I.tok _,⟨_,rfl⟩,q⟩
theorem opI0 {f:Value->Value->Sem Value} {g:Int->Int->Int}
  (z:∀ (i j:Int) (t u:Tok) (s:Shared) (Q:Value->Shared->Prop) (E:Value->Shared->Prop),Q (.int (g i j) s.toks) { s with toks:=s.toks+1 }->wpAny (model X.prog X.w) X.A (f (.int i t) (.int j u)) Q E s) :
  OpR X f (rI0 fun i j=>.int (g i j)):=by
 intro pins s σ H x y v u Q I J L h
 obtain ⟨i,j,rfl,rfl,q⟩:=h
 obtain ⟨t,rfl⟩:=J
 obtain ⟨t',rfl⟩:=L
 exact z i j t t' s _ _ ⟨.int (g i j),H,I.tok _,⟨_,rfl⟩,q⟩
theorem opB0 {f:Value->Value->Sem Value} {g:Int->Int->Bool}
  (z:∀ (i j:Int) (t u:Tok) (s:Shared) (Q:Value->Shared->Prop) (E:Value->Shared->Prop),Q (.bool (g i j)) s->wpAny (model X.prog X.w) X.A (f (.int i t) (.int j u)) Q E s) :
  OpR X f (rI0 fun i j=>.bl (g i j)):=by
 intro pins s σ H x y v u Q I J L h
 obtain ⟨i,j,rfl,rfl,q⟩:=h
 obtain ⟨t,rfl⟩:=J
 obtain ⟨t',rfl⟩:=L
 exact z i j t t' s _ _ ⟨.bl (g i j),H,I,rfl,q⟩
noncomputable def CDiv (i j:Int):Prop:=0 < j /\ j < 1073741824
noncomputable def CPow (i j:Int):Prop:=0 <= j /\ j <= 1000000 /\ i.natAbs < 2 ^ 64
noncomputable def CMul (i j:Int):Prop:=(-(2 ^ 64) < i /\ i < 2 ^ 64)∨(-(2 ^ 64) < j /\ j < 2 ^ 64)
theorem CMul.ok {i j:Int} (h:CMul i j):IntMulOk i j:=by
 rcases h with ⟨h1,h2⟩ | ⟨h1,h2⟩
 .exact .of_left (intBits_le_64 h1 h2)
 .exact .of_right (intBits_le_64 h1 h2)
theorem ZBd:OpR X (binaryOp .Add) (rI0 fun i j=>.int (i+j)):=opI0 fun _ _ _ _ _ _ _ q=>add_int q
theorem ZCC:OpR X (binaryOp .Sub) (rI0 fun i j=>.int (i-j)):=opI0 fun _ _ _ _ _ _ _ q=>sub_int q
theorem ZDe:OpR X (binaryOp .Mult) (rI CMul fun i j=>.int (i * j)):=opI fun _ _ _ _ _ _ _ hc q=>mul_int q hc.ok
theorem ZAw:OpR X (binaryOp .FloorDiv) (rI CDiv fun i j=>.int (i / j)):=opI fun i j _ _ _ _ _ hc q=>by
 have h1:(0:Int) < j:=hc.1
 have h2:j < 1073741824:=hc.2
 exact floordiv_int (by omega) (by rw [Int.fdiv_eq_ediv_of_nonneg i (by omega)];exact q) (.inl (PyProof.noPylong_small (by omega)))
theorem ZAu:OpR X (binaryOp .Mod) (rI (fun _ j=>0 < j) fun i j=>.int (i % j)):=opI fun i j _ _ _ _ _ hc q=>by
 have h1:(0:Int) < j:=hc
 exact mod_int' (by omega) (by rw [Int.fmod_eq_emod_of_nonneg i (by omega)];exact q)
theorem op_pow:OpR X (binaryOp .Pow) (rI CPow fun i j=>.int (i ^ j.toNat)):=opI fun _ _ _ _ _ _ _ hc q=>pow_int_small hc.1 hc.2.1 hc.2.2 q
end
noncomputable def scal:V->V->Bool
 | .non,.non=>true | .non,.int _=>true | .int _,.non=>true | .non,.bl _=>true | .bl _,.non=>true | .non,.str _=>true | .str _,.non=>true
 | .int _,.int _=>true | .bl _,.bl _=>true | .str _,.str _=>true | .byt _,.byt _=>true
 | .int _,.str _=>true | .str _,.int _=>true | .bl _,.str _=>true | .str _,.bl _=>true
 | _,_=>false
noncomputable def rEq:R2:=fun x y H Q=>scal x y=true /\ Q (.bl (decide (x=y))) H
noncomputable def rNe:R2:=fun x y H Q=>scal x y=true /\ Q (.bl (!decide (x=y))) H
theorem dec_int {i j:Int}:decide (V.int i=V.int j)=(i == j):=by
 rw [Bool.eq_iff_iff]
 simp
theorem dec_bl {i j:Bool}:decide (V.bl i=V.bl j)=(i == j):=by
 rw [Bool.eq_iff_iff]
 simp
theorem dec_str {i j:Str}:decide (V.str i=V.str j)=(i == j):=by
 rw [Bool.eq_iff_iff]
 simp
theorem dec_byt {i j:Array UInt8}:decide (V.byt i=V.byt j)=(i.toList == j.toList):=by
 rw [Bool.eq_iff_iff]
 cases i
 cases j
 simp
section
variable {X:Cx} {a b c:Expr} {ta tb tc:TE} {pos:Pos}
theorem ZAg {pins:List (Addr×Obj)} {σ:St} {H:Hp} {s:Shared} {Q:VK} {k k':Bool} (I:Inv X pins σ H s) (q:Q (.bl k) H) (e:k=k'):EP X pins σ Q (.bool k') s:=by
 subst e
 exact ⟨.bl k,H,I,rfl,q⟩
theorem ZB3:OpR X (compareOp .Eq) rEq:=by
 intro pins s σ H x y v u Q I L z h
 obtain ⟨J,q⟩:=h
 cases x with
 | non=>
  cases L
  cases y with
  | non=>cases z;exact PySem.EqNone.eq_none_none (ZAg I q (by simp))
  | bl j=>cases z;exact PySem.EqNone.eq_none_bool (ZAg I q (by simp))
  | int j=>obtain ⟨t',rfl⟩:=z;exact PySem.EqNone.eq_none_int (ZAg I q (by simp))
  | str j=>obtain ⟨t',rfl⟩:=z;exact PySem.EqNone.eq_none_str (ZAg I q (by simp))
  | _=>exact absurd (show false=true from J) yBG
 | bl i=>
  cases L
  cases y with
  | non=>cases z;exact PySem.EqNone.eq_bool_none (ZAg I q (by simp))
  | bl j=>cases z;exact eq_bool (ZAg I q dec_bl)
  | str j=>obtain ⟨t',rfl⟩:=z;exact PySem.EqMixed.eq_bool_str (ZAg I q (by simp))
  | _=>exact absurd (show false=true from J) yBG
 | int i=>
  obtain ⟨t,rfl⟩:=L
  cases y with
  | non=>cases z;exact PySem.EqNone.eq_int_none (ZAg I q (by simp))
  | int j=>obtain ⟨t',rfl⟩:=z;exact eq_int (ZAg I q dec_int)
  | str j=>obtain ⟨t',rfl⟩:=z;exact PySem.EqMixed.eq_int_str (ZAg I q (by simp))
  | _=>exact absurd (show false=true from J) yBG
 | str i=>
  obtain ⟨t,rfl⟩:=L
  cases y with
  | non=>cases z;exact PySem.EqNone.eq_str_none (ZAg I q (by simp))
  | bl j=>cases z;exact PySem.EqMixed.eq_str_bool (ZAg I q (by simp))
  | int j=>obtain ⟨t',rfl⟩:=z;exact PySem.EqMixed.eq_str_int (ZAg I q (by simp))
  | str j=>obtain ⟨t',rfl⟩:=z;exact eq_str (ZAg I q dec_str)
  | _=>exact absurd (show false=true from J) yBG
 | byt i=>
  obtain ⟨t,rfl⟩:=L
  cases y with
  | byt j=>obtain ⟨t',rfl⟩:=z;exact PySem.W.eq_bytes (ZAg I q dec_byt)
  | _=>exact absurd (show false=true from J) yBG
 | _=>cases y <;> exact absurd (show false=true from J) yBG
theorem ZD2:OpR X (compareOp .NotEq) rNe:=by
 intro pins s σ H x y v u Q I L z h
 obtain ⟨J,q⟩:=h
 cases x with
 | non=>
  cases L
  cases y with
  | non=>cases z;exact PySem.EqNone.ne_none_none (ZAg I q (by simp))
  | bl j=>cases z;exact PySem.EqNone.ne_none_bool (ZAg I q (by simp))
  | int j=>obtain ⟨t',rfl⟩:=z;exact PySem.EqNone.ne_none_int (ZAg I q (by simp))
  | str j=>obtain ⟨t',rfl⟩:=z;exact PySem.EqNone.ne_none_str (ZAg I q (by simp))
  | _=>exact absurd (show false=true from J) yBG
 | bl i=>
  cases L
  cases y with
  | non=>cases z;exact PySem.EqNone.ne_bool_none (ZAg I q (by simp))
  | bl j=>cases z;exact ne_bool (ZAg I q (congrArg not dec_bl))
  | str j=>obtain ⟨t',rfl⟩:=z;exact PySem.EqMixed.ne_bool_str (ZAg I q (by simp))
  | _=>exact absurd (show false=true from J) yBG
 | int i=>
  obtain ⟨t,rfl⟩:=L
  cases y with
  | non=>cases z;exact PySem.EqNone.ne_int_none (ZAg I q (by simp))
  | int j=>obtain ⟨t',rfl⟩:=z;exact ne_int (ZAg I q (congrArg not dec_int))
  | str j=>obtain ⟨t',rfl⟩:=z;exact PySem.EqMixed.ne_int_str (ZAg I q (by simp))
  | _=>exact absurd (show false=true from J) yBG
 | str i=>
  obtain ⟨t,rfl⟩:=L
  cases y with
  | non=>cases z;exact PySem.EqNone.ne_str_none (ZAg I q (by simp))
  | bl j=>cases z;exact PySem.EqMixed.ne_str_bool (ZAg I q (by simp))
  | int j=>obtain ⟨t',rfl⟩:=z;exact PySem.EqMixed.ne_str_int (ZAg I q (by simp))
  | str j=>obtain ⟨t',rfl⟩:=z;exact ne_str (ZAg I q (congrArg not dec_str))
  | _=>exact absurd (show false=true from J) yBG
 | byt i=>
  obtain ⟨t,rfl⟩:=L
  cases y with
  | byt j=>obtain ⟨t',rfl⟩:=z;exact PySem.W.ne_bytes (ZAg I q (congrArg not dec_byt))
  | _=>exact absurd (show false=true from J) yBG
 | _=>cases y <;> exact absurd (show false=true from J) yBG
theorem ZD3:OpR X (compareOp .Lt) (rI0 fun i j=>.bl (decide (i < j))):=opB0 fun _ _ _ _ _ _ _ q=>lt_int q
theorem op_le:OpR X (compareOp .LtE) (rI0 fun i j=>.bl (decide (i <= j))):=opB0 fun _ _ _ _ _ _ _ q=>le_int q
theorem op_gt:OpR X (compareOp .Gt) (rI0 fun i j=>.bl (decide (j < i))):=opB0 fun _ _ _ _ _ _ _ q=>gt_int q
theorem op_ge:OpR X (compareOp .GtE) (rI0 fun i j=>.bl (decide (j <= i))):=opB0 fun _ _ _ _ _ _ _ q=>ge_int q
theorem ZCq:OpR X (compareOp .Is) (fun x y H Q=>y=.non /\ Q (.bl (decide (x=.non))) H):=by
 intro pins s σ H x y v u Q I z J h
 obtain ⟨rfl,q⟩:=h
 cases J
 refine is_none_gen (ZAg I q ?_)
 cases x <;> first
  | (cases z;rfl)
  | (obtain ⟨t,rfl⟩:=z;rfl)
theorem op_notN:OpR X (compareOp .IsNot) (fun x y H Q=>y=.non /\ Q (.bl (!decide (x=.non))) H):=by
 intro pins s σ H x y v u Q I z J h
 obtain ⟨rfl,q⟩:=h
 cases J
 refine isnot_none_gen (ZAg I q ?_)
 cases x <;> first
  | (cases z;rfl)
  | (obtain ⟨t,rfl⟩:=z;rfl)
theorem ZAS (b:Expr) {z:CmpOp} (h:z≠.In:=by decide) (h2:z≠.NotIn:=by decide):behindInMarks z b=false:=by
 have J:(z == CmpOp.In)=false:=by cases z <;> first | rfl | exact absurd rfl h
 have L:(z == CmpOp.NotIn)=false:=by cases z <;> first | rfl | exact absurd rfl h2
 cases b <;> simp [behindInMarks,J,L]
theorem ZBl {z:CmpOp} {r:R2} (Y:OpR X (compareOp z) r) (ha:PE X a ta) (L:PE X b tb) (hm:behindInMarks z b=false):PE X (.Compare a [z] [b] pos) (tOp r ta tb):=by
 intro pins s σ H Q I h
 exact wpAny_Compare1 (binT ha L I h fun v u s2 x y H2 O J U q=>Y pins s2 σ H2 x y v u Q O J U q) hm
noncomputable def ZFX (t:TE):TT:=fun σ H Q=>t σ H fun x H'=>∃ k,x=.bl k /\ Q k H'
theorem ZAQ {J:CmpOp} {r:R2} (ho:OpR X (compareOp J) r) (ha:PE X a ta) (hb:PE X b tb) (hm:behindInMarks J b=false):PT X (.Compare a [J] [b] pos) (ZFX (tOp r ta tb)):=by
 intro pins s σ H Q I h
 refine wpAny_isTrue_Compare1 (thn (ha pins s σ H _ I h) fun v s1 ⟨x,H1,L,r1,U⟩=>thn (hb pins s1 σ H1 _ L U) fun u s2 ⟨y,H2,I2,Z,Y⟩=>
  thn (ho pins s2 σ H2 x y v u _ I2 r1 Z Y) fun c s3 ⟨z,H3,I3,r3,k,e,O⟩=>?_) hm
 subst e
 cases r3
 exact wpAny_truthy_bool ⟨H3,I3,O⟩
noncomputable def ZEx (r r':R2) (ta tb tc:TE):TE:=fun σ H Q=>ta σ H fun x H1=>tb σ H1 fun y H2=>r x y H2 fun z H3=>∃ k,z=.bl k /\
 (if k=true then tc σ H3 fun w' H4=>r' y w' H4 Q else Q (.bl false) H3)
theorem pe_chain {L J:CmpOp} {r Z:R2} (ho:OpR X (compareOp L) r) (O:OpR X (compareOp J) Z) (ha:PE X a ta) (hb:PE X b tb) (hc:PE X c tc)
  (hm:lastMarks [L,J] [b,c]=false:=by with_unfolding_all rfl):PE X (.Compare a [L,J] [b,c] pos) (ZEx r Z ta tb tc):=by
 intro pins s σ H Q I h
 refine Compare_chain (thn (ha pins s σ H _ I h) fun v s1 ⟨x,H1,I1,r1,q1⟩=>chain_link (thn (hb pins s1 σ H1 _ I1 q1) fun u s2 ⟨y,H2,I2,Y,q2⟩=>
  thn (ho pins s2 σ H2 x y v u _ I2 r1 Y q2) fun d s3 ⟨z,H3,I3,r3,k,e,U⟩=>?_)) hm
 subst e
 cases r3
 refine wpAny_truthy_bool ?_
 cases k with
 | false=>exact ite_ff ⟨.bl false,H3,I3,rfl,U⟩
 | true=>exact ite_tt (chain_last (thn (hc pins s3 σ H3 _ I3 U) fun w' s4 ⟨z',H4,I4,r4,q4⟩=>O pins s4 σ H4 y z' u w' Q I4 Y r4 q4))
theorem ZEf:(sizeLine:Nat) < 2 ^ 63:=by rw [sizeLine_eq];decide
theorem ZDT {x:V} {us:List Value} (r:Vals [x] us):∃ u,us=[u] /\ RelV x u:=by
 cases r with
 | cons r1 r2=>cases r2;exact ⟨_,rfl,r1⟩
theorem ZEA {x y:V} {us:List Value} (r:Vals [x,y] us):∃ u w',us=[u,w'] /\ RelV x u /\ RelV y w':=by
 cases r with
 | cons r1 r2=>
  cases r2 with
  | cons r3 r4=>cases r4;exact ⟨_,_,rfl,r1,r3⟩
theorem call_max2 (hc:X.calm=true):ZCA X (.builtin "max") (fun xs H Q=>∃ i j,xs=[.int i,.int j] /\ Q (.int (if j > i then j else i)) H):=by
 intro pins s σ H xs us Q I r h
 obtain ⟨i,j,rfl,q⟩:=h
 obtain ⟨u,w',rfl,⟨t,rfl⟩,⟨t',rfl⟩⟩:=ZEA r
 refine max_two_ints (I.ok.hd hc) fun h' tk k=>⟨_,H,I.kept k,?_,q⟩
 by_cases hj:j > i
 .rw [if_pos hj,if_pos hj];exact ⟨_,rfl⟩
 .rw [if_neg hj,if_neg hj];exact ⟨_,rfl⟩
theorem call_min2 (hc:X.calm=true):ZCA X (.builtin "min") (fun xs H Q=>∃ i j,xs=[.int i,.int j] /\ Q (.int (if j < i then j else i)) H):=by
 intro pins s σ H xs us Q I r h
 obtain ⟨i,j,rfl,q⟩:=h
 obtain ⟨u,w',rfl,⟨t,rfl⟩,⟨t',rfl⟩⟩:=ZEA r
 refine min_two_ints (I.ok.hd hc) fun h' tk k=>⟨_,H,I.kept k,?_,q⟩
 by_cases hj:j < i
 .rw [if_pos hj,if_pos hj];exact ⟨_,rfl⟩
 .rw [if_neg hj,if_neg hj];exact ⟨_,rfl⟩
end
structure ObjM (h:Heap) (x dx C:Addr) (mA:Str->Option Value):Prop where
 obj:h.get? x=some (PySem.W.instObj C dx)
 ns:h.Ns1 dx mA
 ne:dx≠x
theorem ZDJ {h:Heap} {dx:Addr} {mA:Str->Option Value} (n:h.Ns1 dx mA):∃ od,h.get? dx=some od /\ ∀ name,PySem.W.lookIn name od=some (mA name):=by
 obtain ⟨o,es,Z,U,O,L,_,hm⟩:=n
 refine ⟨o,U,fun name=>?_⟩
 have e:=hm name
 unfold nsFind findBy at e
 rw [<- Array.find?_toList] at e
 unfold PySem.W.lookIn
 rw [O]
 dsimp only
 split
 .rename_i y q
  rw [q] at e
  exact congrArg some e
 .rename_i q
  rw [q] at e
  have a:es.toList.any (·.refKey)=false:=by
   rw [List.any_eq_false]
   intro y Y
   obtain ⟨z,t,J⟩:=L y (Array.mem_toList_iff.mp Y)
   simp [DictEntry.refKey,J]
  have a':¬ es.toList.any (·.refKey)=true:=by rw [a];exact yBG
  rw [if_neg a']
  exact congrArg some e
theorem ObjM.look {h:Heap} {x dx C:Addr} {mA:Str->Option Value} (I:ObjM h x dx C mA):∃ od,PySem.W.InstAt h x (PySem.W.instObj C dx) C (some od) /\ ∀ name,PySem.W.lookIn name od=some (mA name) :=
 let ⟨od,ho,hl⟩:=ZDJ I.ns
 ⟨od,⟨I.obj,rfl,rfl,ho⟩,hl⟩
section
variable {prog:Program} {w:World} {A:Around} {E:Value->Shared->Prop} {s:Shared} {K:W.Frag} {x dx C f:Addr} {mA:Str->Option Value} {name:Str} {v:Value}
theorem get_map {z:Bool} {Q:Value->Shared->Prop} (X:K.In s.heap) (I:ObjM s.heap x dx C mA) (O:PySem.W.plainGet K C name=true) (hh:PySem.W.hasDictIn K C=true)
  (ha:W.findIn K (.ref C) name=some none) (U:mA name=some v) (L:PySem.W.handedIn v=true) (h:Q v { s with toks:=s.toks+1 }) :
  wpAny (model prog w) A (getAttr (.ref x) name z) Q E s:=by
 obtain ⟨od,J,hl⟩:=I.look
 exact PySem.W.get_value X J (PySem.W.plainGet_of O).1 (PySem.W.findObj_own hh ha rfl (by rw [hl,U])) L h
theorem get_meth {pl:Sem Bool} {Q:Value×List Value->Shared->Prop} (X:K.In s.heap) (I:ObjM s.heap x dx C mA) (z:PySem.W.plainGet K C name=true)
  (O:W.findIn K (.ref C) name=some (some (.ref f))) (U:PySem.W.isFn K (.ref f)=true) (L:mA name=none) (h:Q (.ref f,[.ref x]) s) :
  wpAny (model prog w) A (getMethod (.ref x) name pl) Q E s:=by
 obtain ⟨od,J,hl⟩:=I.look
 exact PySem.W.method_fn X J (PySem.W.plainGet_of z).1 (PySem.W.plainGet_of z).2 O (beq_iff_eq.mp U) (by show (PySem.W.lookIn name od).map (·.isSome)=some false;rw [hl,L];rfl) h
theorem set_map {ns:List Str} {Q:Unit->Shared->Prop} (X:K.In s.heap) (I:ObjM s.heap x dx C mA)
  (hs:W.findIn K (.ref C) "__setattr__"=some (some (.builtin "object.__setattr__"))) (hp:PySem.W.plainOver K C=true) (ht:PySem.W.takerIn K C name=some none) (hh:PySem.W.hasDictIn K C=true)
  (hw:PySem.Within mA ns) (hsz:ns.length <= sizeLine)
  (h:∀ h',ObjM h' x dx C (fun y=>if y=name then some v else mA y)->Heap.SameBut dx s.heap h'->Q () { s with heap:=h',toks:=s.toks+2 }) :
  wpAny (model prog w) A (setAttr (.ref x) name v) Q E s:=by
 obtain ⟨od,J,hl⟩:=I.look
 refine PySem.W.set_plain X J hs (PySem.W.osa_open (s:={ s with toks:=s.toks+1 }) (r:=none) X J hp ht fun b=>?_)
 obtain ⟨cd,hc,U⟩:=PySem.W.any_some hh
 have hx:s.heap.get? x=some ⟨.ref C,some dx,.plain,#[]⟩:=I.obj
 refine wpAny_bind (wpAny_pure (wpAny_bind (wpAny_bind (wpAny_loadPart hx (wpAny_bind (PySem.W.Looks.here (s:={ s with toks:=s.toks+1 }) (PySem.W.looks_clsIn X hc) ?_))))))
 rw [U]
 refine wpAny_pure (a:=some dx) (wpAny_bind (wpAny_pure (wpAny_bind ?_)))
 refine wpAny_nsSet1 (s:={ s with toks:=s.toks+1 }) I.ns fun h' z L=>?_
 obtain ⟨oD,a1,a0,O,Y,Z⟩:=z.count (PySem.Within.cons name v hw)
 refine wpAny_bind (wpAny_lookBehind O (by rw [Y];exact pastItsLine_dict (yAG Z (by rw [yAQ];omega))) ?_)
 exact wpAny_pure (h _ ⟨(L.2 _ (Ne.symm I.ne)).trans I.obj,z,I.ne⟩ L)
theorem make_map {R:Result->Shared->Prop} {vs:List Value} {z:List (Str×Value)} (X:K.In s.heap) (hm:PySem.W.makesIn K C=true)
  (hi:W.findIn K (.ref C) "__init__"=some (some (.ref f))) (J:PySem.W.typeIn K (.ref f)=some (.type "function"))
  (h:codeAny (model prog w) (A.under (.builtin "type.__call__" ⟨.ref C::vs,z⟩)) (.call (.ref f) ⟨.ref (s.heap.objs.size+1)::vs,z⟩) (PySem.W.InitBack (s.heap.objs.size+1) R)
   { s with heap:=(s.heap.push PySem.W.emptyDict).push (PySem.W.instObj C s.heap.objs.size) }) :
  codeAny (model prog w) A (.call (.ref C) ⟨vs,z⟩) R s:=by
 obtain ⟨hh,g,d,t,os⟩:=s
 exact PySem.W.make_core (PySem.W.makes_of X hm) (PySem.W.looks_findIn X hi) (fun self=>PySem.W.bind_fn X self J) (.inl rfl) h
end
noncomputable def putF (f:Str) (v:V):List (Str×V)->List (Str×V)
 | []=>[(f,v)]
 | (g,x)::r=>if g=f then (g,v)::r else (g,x)::putF f v r
theorem ZAV (f g:Str) (v:V):∀ fs:List (Str×V),(putF f v fs).lookup g=if g=f then some v else fs.lookup g
 | []=>by
  show List.lookup g [(f,v)]=_
  by_cases h:g=f
  .have z:(g == f)=true:=beq_iff_eq.mpr h
   simp only [List.lookup,z,if_pos h]
  .have z:(g == f)=false:=beq_eq_false_iff_ne.mpr h
   simp only [List.lookup,z,if_neg h]
 | (k,x)::r=>by
  have J:=ZAV f g v r
  rw [show putF f v ((k,x)::r)=(if k=f then (k,v)::r else (k,x)::putF f v r) from rfl]
  by_cases hk:k=f
  .rw [if_pos hk]
   by_cases h:g=k
   .have z:(g == k)=true:=beq_iff_eq.mpr h
    simp only [List.lookup,z,if_pos (h.trans hk)]
   .have z:(g == k)=false:=beq_eq_false_iff_ne.mpr h
    simp only [List.lookup,z,if_neg (fun e:g=f=>h (e.trans hk.symm))]
  .rw [if_neg hk]
   by_cases h:g=k
   .have z:(g == k)=true:=beq_iff_eq.mpr h
    simp only [List.lookup,z,if_neg (fun e:g=f=>hk (h.symm.trans e))]
   .have z:(g == k)=false:=beq_eq_false_iff_ne.mpr h
    simp only [List.lookup,z]
    exact J
theorem ZDN (f:Str) (v:V):∀ fs:List (Str×V),f∈(putF f v fs).map (·.1) /\ ∀ g,g∈fs.map (·.1)->g∈(putF f v fs).map (·.1)
 | []=>⟨by simp [putF],fun g h=>by simp at h⟩
 | (k,x)::r=>by
  obtain ⟨J,z⟩:=ZDN f v r
  rw [show putF f v ((k,x)::r)=(if k=f then (k,v)::r else (k,x)::putF f v r) from rfl]
  by_cases hk:k=f
  .rw [if_pos hk]
   subst hk
   exact ⟨by simp,fun g h=>by simpa using h⟩
  .rw [if_neg hk]
   refine ⟨?_,fun g h=>?_⟩
   .rw [yAV]
    exact yAM _ J
   .rw [yAV] at h ⊢
    rcases yAE.mp h with e | e
    .exact yAE.mpr (.inl e)
    .exact yAM _ (z g e)
theorem ZCf (f:Str) (v:V):∀ fs:List (Str×V),(putF f v fs).length <= fs.length+1
 | []=>by simp [putF]
 | (k,x)::r=>by
  have z:=ZCf f v r
  rw [show putF f v ((k,x)::r)=(if k=f then (k,v)::r else (k,x)::putF f v r) from rfl]
  by_cases hk:k=f
  .rw [if_pos hk,yAQ,yAQ];omega
  .rw [if_neg hk,yAQ,yAQ];omega
theorem RelO.some_of {v:V} {o:Option Value} (r:RelO (some v) o):∃ u,o=some u /\ RelV v u:=by
 cases o with
 | none=>exact (show False from r).elim
 | some u=>exact ⟨u,rfl,r⟩
theorem RelO.none_of {o:Option Value} (r:RelO none o):o=none:=by
 cases o with
 | none=>rfl
 | some u=>exact (show False from r).elim
theorem handed_of {v:V} {u:Value} (r:RelV v u):PySem.W.handedIn u=true:=by
 cases v with
 | non=>cases (show u=Value.none from r);rfl
 | bl b=>cases (show u=Value.bool b from r);rfl
 | int i=>obtain ⟨t,e⟩:=(show ∃ t,u=Value.int i t from r);cases e;rfl
 | str x=>obtain ⟨t,e⟩:=(show ∃ t,u=Value.str x t from r);cases e;rfl
 | byt b=>obtain ⟨t,e⟩:=(show ∃ t,u=Value.bytes b t from r);cases e;rfl
 | flt b=>obtain ⟨t,e⟩:=(show ∃ t,u=Value.float b t from r);cases e;rfl
 | ref a=>cases (show u=Value.ref a from r);rfl
 | ty n=>cases (show u=Value.type n from r);rfl
section
variable {P:Program} {w:World} {H H':Hp} {h h':Heap} {a C dx:Addr} {fs fs':List (Str×V)}
theorem ZDs (J:HOk P w H h) (e:H a=some (.ins C dx fs)):∃ mA,ObjM h a dx C mA /\ (∀ f,RelO (fs.lookup f) (mA f)) /\ PySem.Within mA (fs.map (·.1)) /\ fs.length <= 1000 /\ H dx=some (.own a):=by
 obtain ⟨d,z,ne,ob,mA,n,r,q⟩:=(show ObjOk P w H h a (.ins C dx fs) from J a _ e)
 exact ⟨mA,⟨ob,n,ne⟩,r,q,z,d⟩
end
structure Cls (K:W.Frag) (C:Addr):Prop where
 pg:PySem.W.plainGet K C Str.empty=true
 hd:PySem.W.hasDictIn K C=true
 po:PySem.W.plainOver K C=true
 sa:W.findIn K (.ref C) "__setattr__"=some (some (.builtin "object.__setattr__"))
theorem Cls.get {K:W.Frag} {C:Addr} (c:Cls K C) (f:Str):PySem.W.plainGet K C f=true:=c.pg
noncomputable def NoAttr (K:W.Frag) (C:Addr) (f:Str):Prop:=W.findIn K (.ref C) f=some none
theorem NoAttr.taker {K:W.Frag} {C:Addr} {f:Str} (n:NoAttr K C f):PySem.W.takerIn K C f=some none:=by
 unfold PySem.W.takerIn
 rw [show W.findIn K (.ref C) f=some none from n]
 rfl
structure Meth (K:W.Frag) (C:Addr) (m:Str) (f:Addr):Prop where
 at_:W.findIn K (.ref C) m=some (some (.ref f))
 fn:PySem.W.isFn K (.ref f)=true
 kp:W.keepIn K (.ref f)=true
section
variable {X:Cx} {pins:List (Addr×Obj)} {σ:St} {H:Hp} {s:Shared} {a C dx:Addr} {fs:List (Str×V)} {f:Str} {v:V} {A:Around} {E:Value->Shared->Prop}
theorem getattr_ok {b:Bool} {Q:Value->Shared->Prop} (I:Inv X pins σ H s) (e:H a=some (.ins C dx fs)) (c:Cls X.K C) (n:NoAttr X.K C f) (l:fs.lookup f=some v)
  (h:∀ u s',Inv X pins σ H s'->RelV v u->Q u s'):wpAny (model X.prog X.w) A (getAttr (.ref a) f b) Q E s:=by
 obtain ⟨mA,O,r,_,_,_⟩:=ZDs I.hok e
 obtain ⟨u,z,ru⟩:=RelO.some_of (v:=v) (o:=mA f) (by rw [<- l];exact r f)
 exact get_map I.kIn O (c.get f) c.hd n z (handed_of ru) (h u _ (I.tok _) ru)
theorem ZC1 {m:Str} {g:Addr} {pl:Sem Bool} {Q:Value×List Value->Shared->Prop} (I:Inv X pins σ H s) (e:H a=some (.ins C dx fs)) (c:Cls X.K C) (k:Meth X.K C m g) (l:fs.lookup m=none)
  (h:Q (.ref g,[.ref a]) s):wpAny (model X.prog X.w) A (getMethod (.ref a) m pl) Q E s:=by
 obtain ⟨mA,O,r,_,_,_⟩:=ZDs I.hok e
 have hn:mA m=none:=RelO.none_of (by rw [<- l];exact r m)
 exact get_meth I.kIn O (c.get m) k.at_ k.fn hn h
theorem setattr_ok {y:V} {u:Value} {Q:Unit->Shared->Prop} (I:Inv X pins σ H s) (e:H a=some (.ins C dx fs)) (c:Cls X.K C) (n:NoAttr X.K C f) (hl:fs.length < 1000) (ry:RelV y u)
  (h:∀ s',Inv X pins σ (upd H a (.ins C dx (putF f y fs))) s'->Q () s'):wpAny (model X.prog X.w) A (setAttr (.ref a) f u) Q E s:=by
 obtain ⟨mA,O,r,wi,_,L⟩:=ZDs I.hok e
 have hz:(fs.map (·.1)).length <= sizeLine:=by rw [yAA,sizeLine_eq];omega
 refine set_map I.kIn O c.sa c.po n.taker c.hd wi hz fun h' J U=>h _ ?_
 have hd:∃ o,h'.get? dx=some o:=let ⟨o,_,_,e',_⟩:=J.ns;⟨o,e'⟩
 refine I.write (x:=a) (e:=dx) (by rw [e];exact True.intro) (.inr L) (fun b q Z z=>(U.2 b Z).trans z) hd ?_
 refine ⟨by rw [ZAG O.ne];exact L,?_,O.ne,J.obj,_,J.ns,fun g=>?_,fun g Y=>?_⟩
 .have:=ZCf f y fs;omega
 .show RelO ((putF f y fs).lookup g) (if g=f then some u else mA g)
  rw [ZAV]
  by_cases q:g=f
  .rw [if_pos q,if_pos q];exact ry
  .rw [if_neg q,if_neg q];exact r g
 .by_cases q:g=f
  .rw [q];exact (ZDN f y fs).1
  .refine (ZDN f y fs).2 g (wi g fun z=>Y ?_)
   show (if g=f then some u else mA g)=none
   rw [if_neg q];exact z
theorem Inv.made (I:Inv X pins σ H s):Inv X pins σ (upd (upd H s.heap.objs.size (.own (s.heap.objs.size+1))) (s.heap.objs.size+1) (.ins C s.heap.objs.size []))
  { s with heap:=(s.heap.push PySem.W.emptyDict).push (PySem.W.instObj C s.heap.objs.size) }:=by
 have z:(s.heap.push PySem.W.emptyDict).get? s.heap.objs.size=some PySem.W.emptyDict:=Heap.get?_push_size s.heap rfl
 have U:((s.heap.push PySem.W.emptyDict).push (PySem.W.instObj C s.heap.objs.size)).get? (s.heap.objs.size+1)=some (PySem.W.instObj C s.heap.objs.size):=by
  have:=Heap.get?_push_size (s.heap.push PySem.W.emptyDict) (o:=PySem.W.instObj C s.heap.objs.size) rfl
  rwa [Heap.size_push] at this
 have O:(s.heap.push PySem.W.emptyDict).Ns s.heap.objs.size (fun _=>none):=⟨PySem.W.emptyDict,#[],_,z,rfl,(fun e L=>absurd L (by simp)),fun _=>rfl⟩
 have J:=I.laid (a:=s.heap.objs.size) (o:=.own (s.heap.objs.size+1)) (h':=s.heap.push PySem.W.emptyDict) (t':=s.toks) (fun b u q=>Heap.get?_push_of_some _ q) (yAB _) ⟨_,z⟩
 refine J.laid (a:=s.heap.objs.size+1) (o:=.ins C s.heap.objs.size []) (t':=s.toks) (fun b u q=>Heap.get?_push_of_some _ q) (Nat.le_of_eq (Heap.size_push _ _)) ?_
 have ne:s.heap.objs.size≠s.heap.objs.size+1:=yAI (yBW _)
 refine ⟨by rw [ZAG ne,ZAF],yAH _,ne,U,fun _=>none,(Heap.Ns1.of_empty O).at fun o q=>Heap.get?_push_of_some _ q,fun _=>True.intro,fun y Y=>absurd rfl Y⟩
theorem attr_of {prog:Program} {w:World} {env:Env} {e:Expr} {f:Str} {pos:Pos} {s:Shared} {Q:Value->Shared->Prop} (z:attributeBase e f env (eval e env)=eval e env)
  (h:wpAny (model prog w) A (eval e env) (fun o s₁=>wpAny (model prog w) A (getAttr o f true) Q E s₁) E s):wpAny (model prog w) A (eval (.Attribute e f pos) env) Q E s :=
 Attribute_any_ h (by rw [arm_eval_Attribute,z])
end
noncomputable def tFld (K:W.Frag) (ta:TE) (f:Str):TE:=fun σ H Q=>ta σ H fun x H1=>∃ a C dx fs v,x=.ref a /\ H1 a=some (.ins C dx fs) /\ Cls K C /\ NoAttr K C f /\ fs.lookup f=some v /\ Q v H1
noncomputable def sFld (K:W.Frag) (ta tv:TE) (f:Str):TS:=fun D σ H=>tv σ H fun y H1=>ta σ H1 fun x H2=>∃ a C dx fs,x=.ref a /\ H2 a=some (.ins C dx fs) /\ Cls K C /\ NoAttr K C f /\ fs.length < 1000 /\
 D.nx σ (upd H2 a (.ins C dx (putF f y fs)))
noncomputable def InOp (X:Cx) (op:Operator) (rd:V->V->Hp->VK->Prop):Prop :=
 ∀ (pins:List (Addr×Obj)) (s:Shared) (σ:St) (H:Hp) (x y:V) (u v:Value) (Q:VK),Inv X pins σ H s->RelV x u->RelV y v->rd x y H Q->wpAny (model X.prog X.w) X.A (inplaceOp op u v) (EP X pins σ Q) X.xe s
noncomputable def sFldAug (K:W.Frag) (ta tv:TE) (rd:V->V->Hp->VK->Prop) (f:Str):TS:=fun D σ H=>ta σ H fun x H1=>∃ a C dx fs v,x=.ref a /\ H1 a=some (.ins C dx fs) /\ Cls K C /\ NoAttr K C f /\ fs.lookup f=some v /\
 tv σ H1 fun y H2=>rd v y H2 fun z H3=>∃ dx' fs',H3 a=some (.ins C dx' fs') /\ fs'.length < 1000 /\ D.nx σ (upd H3 a (.ins C dx' (putF f z fs')))
section
variable {X:Cx} {o e value:Expr} {f:Str} {pos pos' tpos:Pos} {ta tv:TE}
theorem ZAh (J:PE X e ta) (O:attributeBase e f X.env (eval e X.env)=eval e X.env):PE X (.Attribute e f pos) (tFld X.K ta f):=by
 intro pins s σ H Q I h
 refine attr_of O (thn (J pins s σ H _ I h) fun u s1 zz=>?_)
 obtain ⟨x,H1,z,L,a,C,dx,fs,v,ex,ea,c,n,l,q⟩:=zz
 subst ex
 obtain rfl:u=Value.ref a:=L
 exact getattr_ok z ea c n l fun u' s2 U ru=>⟨v,H1,U,ru,q⟩
theorem ZBq (ha:PE X o ta) (U:PE X value tv) (O:swapsWith value (some (.Attribute o f pos')) pos.line X.env=pure false):PS X (.Assign [.Attribute o f pos'] value pos) (sFld X.K ta tv f):=by
 intro pins s σ H D I h
 refine plainObj_wpAny_Assign_Attribute (thn (U pins s σ H _ I h) fun u s1 ⟨y,H1,z,ry,q⟩=>thn (ha pins s1 σ H1 _ z q) fun Z s2 zz=>?_) O
 obtain ⟨x,H2,Y,L,a,C,dx,fs,ex,ea,c,n,l,J⟩:=zz
 subst ex
 obtain rfl:Z=Value.ref a:=L
 exact setattr_ok Y ea c n l ry fun s3 I3=>⟨σ,_,I3,J⟩
theorem ps_fldaug {O:Operator} {rd:V->V->Hp->VK->Prop} (ha:PE X o ta) (hv:PE X value tv) (J:InOp X O rd):PS X (.AugAssign (.Attribute o f tpos) O value pos) (sFldAug X.K ta tv rd f):=by
 intro pins s σ H D I h
 refine wpAny_AugAssign_AttributeAny (thn (ha pins s σ H _ I h) fun ov s1 zz=>?_)
 obtain ⟨x,H1,Y,rx,a,C,dx,fs,v,ex,ea,c,n,l,q⟩:=zz
 subst ex
 obtain rfl:ov=Value.ref a:=rx
 refine getattr_ok Y ea c n l fun u s2 I2 ru=>thn (hv pins s2 σ H1 _ I2 q) fun Z s3 ⟨y,H2,I3,ry,q3⟩=>thn (J pins s3 σ H2 v y u Z _ I3 ru ry q3) fun w4 s4 zz=>?_
 obtain ⟨z,H3,I4,rz,a0,fs',L,U,q4⟩:=zz
 exact setattr_ok I4 L c n U rz fun s5 I5=>⟨σ,_,I5,q4⟩
noncomputable def rAdd:V->V->Hp->VK->Prop:=fun x y H Q=>∃ i j,x=.int i /\ y=.int j /\ Q (.int (i+j)) H
theorem in_add:InOp X .Add rAdd:=by
 rintro pins s σ H x y u v Q I J z ⟨i,j,rfl,rfl,q⟩
 obtain ⟨t,rfl⟩:=(show ∃ t,u=Value.int i t from J)
 obtain ⟨t',rfl⟩:=(show ∃ t',v=Value.int j t' from z)
 exact PyProof.Rows.iadd_int ⟨.int (i+j),H,I.tok _,⟨_,rfl⟩,q⟩
end
section
variable {X:Cx} {pins:List (Addr×Obj)} {σ:St} {H:Hp} {s:Shared} {A:Around} {E:Value->Shared->Prop} {Q:Value->Shared->Prop} {c:Value} {b:Bool}
inductive TyOf (K:W.Frag) (H:Hp):V->Value->Prop where
 | non:TyOf K H .non (.type "NoneType")
 | bl (x:Bool):TyOf K H (.bl x) (.type "bool")
 | int (i:Int):TyOf K H (.int i) (.type "int")
 | str (x:Str):TyOf K H (.str x) (.type "str")
 | flt (x:UInt64):TyOf K H (.flt x) (.type "float")
 | lst {a:Addr} {xs:List V} (e:H a=some (.lst xs)):TyOf K H (.ref a) (.type "list")
 | frz {a:Addr} {o:Obj} {xs:List V} (e:H a=some (.frz o (.lst xs))):TyOf K H (.ref a) (.type "list")
 | tup {a:Addr} {xs:List V} (e:H a=some (.tup xs)):TyOf K H (.ref a) (.type "tuple")
 | dK {a:Addr} {kvs:List (Key×V)} (e:H a=some (.dK kvs)):TyOf K H (.ref a) (.type "dict")
 | dT {a:Addr} {kvs:List (List Key×V)} (e:H a=some (.dT kvs)):TyOf K H (.ref a) (.type "dict")
 | ins {a C dx:Addr} {fs:List (Str×V)} (e:H a=some (.ins C dx fs)) (cl:Cls K C) (ha:W.findIn K (.ref C) "__class__"=some (some (.builtin "object.__class__")))
   (hn:PySem.W.specialIn K (.builtin "object.__class__") "__get__"=some (some (.builtin "getset_descriptor.__get__"))) (htk:PySem.W.takesIn K (.builtin "object.__class__")=some true)
   (hm:PySem.W.mroIn K C (.type "object")=some true):TyOf K H (.ref a) (.ref C)
theorem isinst_ok {x:V} {u t:Value} (I:Inv X pins σ H s) (L:RelV x u) (ty:TyOf X.K H x t) (e:PySem.W.kitOne X.K t c=some b) (h:∀ tk,Q (.bool b) { s with toks:=tk }) :
  wpAny (model X.prog X.w) A (call (.builtin "isinstance") [u,c]) Q E s:=by
 cases ty with
 | non=>cases (show u=Value.none from L);exact PySem.W.kia_one PySem.W.kitx_none I.kIn True.intro e (fun z=>nomatch z) h
 | bl y=>cases (show u=Value.bool y from L);exact PySem.W.kia_one PySem.W.kitx_bool I.kIn True.intro e (fun z=>nomatch z) h
 | int i=>obtain ⟨t,q⟩:=(show ∃ t,u=Value.int i t from L);cases q;exact PySem.W.kia_one PySem.W.kitx_int I.kIn True.intro e (fun z=>nomatch z) h
 | str y=>obtain ⟨t,q⟩:=(show ∃ t,u=Value.str y t from L);cases q;exact PySem.W.kia_one PySem.W.kitx_str I.kIn True.intro e (fun z=>nomatch z) h
 | flt y=>obtain ⟨t,q⟩:=(show ∃ t,u=Value.float y t from L);cases q;exact PySem.W.kia_one PySem.W.kitx_float I.kIn True.intro e (fun z=>nomatch z) h
 | @lst a xs ea=>
  cases (show u=Value.ref a from L)
  obtain ⟨_,_,n,_,h1⟩:=(show ObjOk X.prog X.w H s.heap a (.lst xs) from I.hok a _ ea)
  exact PySem.W.kia_one PySem.W.kitx_list I.kIn ⟨_,h1,rfl⟩ e (fun z=>nomatch z) h
 | @frz a ob xs ea=>
  cases (show u=Value.ref a from L)
  obtain ⟨_,_,_,n,_,h1⟩:=(show ObjOk X.prog X.w H s.heap a (.frz ob (.lst xs)) from I.hok a _ ea)
  exact PySem.W.kia_one PySem.W.kitx_list I.kIn ⟨_,h1,rfl⟩ e (fun z=>nomatch z) h
 | @tup a xs ea=>
  cases (show u=Value.ref a from L)
  obtain ⟨_,_,_,p⟩:=(show ObjOk X.prog X.w H s.heap a (.tup xs) from I.hok a _ ea)
  obtain ⟨o,h1,h2,_⟩:=p
  exact PySem.W.kia_one PySem.W.kitx_tuple I.kIn ⟨o,h1,h2⟩ e (fun z=>nomatch z) h
 | @dK a kvs ea=>
  cases (show u=Value.ref a from L)
  obtain ⟨_,_,vs,_,p⟩:=(show ObjOk X.prog X.w H s.heap a (.dK kvs) from I.hok a _ ea)
  obtain ⟨o,es,U,h1,h2,_⟩:=p
  exact PySem.W.kia_one PySem.W.kitx_dict I.kIn ⟨o,h1,h2.1⟩ e (fun z=>nomatch z) h
 | @dT a kvs ea=>
  cases (show u=Value.ref a from L)
  obtain ⟨_,_,xs,_,o,es,U,h1,h2,_⟩:=(show ObjOk X.prog X.w H s.heap a (.dT kvs) from I.hok a _ ea)
  exact PySem.W.kia_one PySem.W.kitx_dict I.kIn ⟨o,h1,h2.1⟩ e (fun z=>nomatch z) h
 | @ins a C dx fs ea cl ha hn htk hm=>
  cases (show u=Value.ref a from L)
  obtain ⟨mA,O,_⟩:=ZDs I.hok ea
  obtain ⟨od,J,_⟩:=O.look
  exact PySem.W.kia_one (PySem.W.kitx_own (cl.get _) cl.hd ha hn htk hm) I.kIn J e (fun z=>nomatch z) h
end
structure Room (k:Nat) (A:Around):Prop where
 hd:A.handled=none
 dp:A.depth+3 * k+5 < recursionLimit
 un:A.units+16 * k+200 < cLine
 gd:A.guards=some []
theorem Room.mono {j k:Nat} {A:Around} (r:Room k A) (h:j <= k):Room j A:=⟨r.hd,by have:=r.dp;omega,by have:=r.un;omega,r.gd⟩
theorem Room.deeper {k:Nat} {A:Around} (r:Room (k+1) A) (env:Env):Room k (A.deeper env) :=
 ⟨r.hd,by have:=r.dp;show A.depth+1+3 * k+5 < _;omega,by have:=r.un;show A.units+3+16 * k+200 < _;omega,r.gd⟩
theorem make_depth {A:Around} {C:Addr} {us:List Value} {z:List (Str×Value)}:(A.under (.builtin "type.__call__" ⟨.ref C::us,z⟩)).depth=A.depth+1:=by
 first | rfl | simp [Around.under,Code.weight,Code.isCreation,Code.isGuard,Code.isCaller,Code.frames,Code.isFrame,guardIds]
theorem make_units {A:Around} {C:Addr} {us:List Value} {z:List (Str×Value)}:(A.under (.builtin "type.__call__" ⟨.ref C::us,z⟩)).units=A.units+1:=by
 first | rfl | simp [Around.under,Code.cUnits,Code.frames,Code.isFrame]
theorem Room.make {k:Nat} {A:Around} (r:Room (k+1) A) (C:Addr) (us:List Value) (z:List (Str×Value)):Room k (A.under (.builtin "type.__call__" ⟨.ref C::us,z⟩)) :=
 ⟨r.hd,by have:=r.dp;rw [make_depth];omega,by have:=r.un;rw [make_units];omega,by have:=r.gd;first | exact this | simp [Around.under,Code.guards,Code.isGuard,guardIds,this]⟩
theorem Room.depth {k:Nat} {A:Around} (r:Room k A):A.depth < recursionLimit:=by have:=r.dp;omega
theorem Room.units {k:Nat} {A:Around} (r:Room k A):A.units+64 < cLine:=by have:=r.un;omega
noncomputable def tNil:TA:=fun _ H Q=>Q [] H
noncomputable def ZCl (ta:TE) (tr:TA):TA:=fun σ H Q=>ta σ H fun x H1=>tr σ H1 fun xs H2=>Q (x::xs) H2
section
variable {X:Cx} {e:Expr} {es:List Expr} {te:TE} {t:TA} {pos:Pos}
theorem ZAE:PA X [] tNil:=fun _ _ _ _ H Q I h=>Calls.spliced_nil ⟨[],H,I,.nil,h⟩
theorem ZAA (ha:PE X e te) (z:PA X es t) (Y:starEach (e::es) X.env=(false,eval e X.env)::starEach es X.env:=by rfl):PA X (e::es) (ZCl te t):=by
 intro pos pins s σ H Q I h
 rw [Y]
 show wpAny _ _ (spliced ((false,eval e X.env)::backTo pos (starEach es X.env))) _ _ s
 refine Calls.spliced_cons (thn (ha pins s σ H _ I h) fun u s1 zz=>?_)
 obtain ⟨x,H1,J,r1,L⟩:=zz
 exact thn (z pos pins s1 σ H1 _ J L) fun us s2 ⟨xs,H2,Z,U,O⟩=>⟨x::xs,H2,Z,.cons r1 U,O⟩
noncomputable def tTup (t:TA):TE:=fun σ H Q=>t σ H fun xs H1=>xs.length <= sizeLine /\ ∀ p,H1 p=none->Q (.ref p) (upd H1 p (.tup xs))
noncomputable def tLst (t:TA):TE:=fun σ H Q=>t σ H fun xs H1=>xs.length <= sizeLine /\ ∀ p,H1 p=none->Q (.ref p) (upd H1 p (.lst xs))
theorem ZBP {x1} (h:PA X es t):PE X (.Tuple es x1 pos) (tTup t):=by
 intro pins s σ H Q I L
 refine wpAny_Tuple_spliced (thn (h pos pins s σ H _ I L) fun us s1 ⟨xs,H1,J,r,z,q⟩=>⟨by rw [<- r.length];exact z,?_⟩)
 have O:H1 s1.heap.objs.size=none:=J.hok.fresh (yAB _)
 refine ⟨.ref s1.heap.objs.size,upd H1 s1.heap.objs.size (.tup xs),J.laid (t':=s1.toks) (fun b u e=>Heap.get?_push_of_some _ e) (yAB _) ?_,rfl,q _ O⟩
 exact ⟨z,us,r,⟨_,Heap.get?_push_size _ rfl,rfl,_,rfl⟩⟩
theorem ZBr (h:PA X es t):PE X (.List es pos) (tLst t):=by
 intro pins s σ H Q I L
 refine wpAny_List_spliced (thn (h pos pins s σ H _ I L) fun us s1 ⟨xs,H1,J,r,z,q⟩=>⟨by rw [<- r.length];exact z,?_⟩)
 have O:H1 s1.heap.objs.size=none:=J.hok.fresh (yAB _)
 refine ⟨.ref s1.heap.objs.size,upd H1 s1.heap.objs.size (.lst xs),J.laid (t':=s1.toks) (fun b u e=>Heap.get?_push_of_some _ e) (yAB _) ?_,rfl,q _ O⟩
 exact ⟨z,us,0,r,Heap.get?_push_size _ rfl⟩
end
noncomputable abbrev Sp:=List V->Hp->VK->XK->Prop
noncomputable abbrev CXT:=List Env->Hp->Shared->XK->Value->Shared->Prop
structure Env0 (P:Program) (w:World) (K:W.Frag) (mg:Str->Option Value) (base:Heap) (A:Around) (outer:List Env) (s:Shared) (H:Hp):Prop where
 frames:A.frames=some outer
 mod:Mod K mg base
 bs:∀ b o,base.get? b=some o->s.heap.get? b=some o /\ H b=none
 bsz:base.objs.size <= s.heap.objs.size
 funs:s.heap.FunFrames base outer
 frf:∀ b∈frs outer,H b=none
 hok:HOk P w H s.heap
 bare:AllBare s.gens
noncomputable def CE (outer:List Env) (P:Program) (w:World) (H:Hp) (s:Shared) (Q:VK) (u:Value) (s':Shared):Prop :=
 ∃ v H',s'.os=s.os /\ AllBare s'.gens /\ Un (frs outer) [] H H' s.heap s'.heap /\ HOk P w H' s'.heap /\ RelV v u /\ Q v H'
noncomputable def CR (CX:CXT) (outer:List Env) (P:Program) (w:World) (H:Hp) (s:Shared) (Q:VK) (E:XK) (r:Result) (s':Shared):Prop :=
 match r with
 | .ok (.ret u)=>CE outer P w H s Q u s'
 | .ok _=>False
 | .error e=>CX outer H s E e s'
structure FnOk (P:Program) (w:World) (K:W.Frag) (mg:Str->Option Value) (base:Heap) (CX:CXT) (k:Nat) (f:Addr) (fd:FuncData) (ps:List Str) (sp:Sp):Prop where
 len:∀ vs H Q E,sp vs H Q E->vs.length=ps.length
 run:∀ (A:Around) (outer:List Env) (s:Shared) (H:Hp) (args:Args) (us:List Value) (vs:List V) (Q:VK) (E:XK),Room k A->Env0 P w K mg base A outer s H->BindsTo s fd args (ps.zip us)->Vals vs us->sp vs H Q E ->
  codeAny (model P w) A (.call (.ref f) args) (CR CX outer P w H s Q E) s
theorem Env0.make {P:Program} {w:World} {K:W.Frag} {mg:Str->Option Value} {base:Heap} {A:Around} {outer:List Env} {s:Shared} {H:Hp} (e:Env0 P w K mg base A outer s H) (C:Addr) (us:List Value) (z:List (Str×Value)) :
  Env0 P w K mg base (A.under (.builtin "type.__call__" ⟨.ref C::us,z⟩)) outer s H:=⟨by first | exact e.frames | (simpa [Around.under,Code.envs,Code.isFrame,pushEnvs] using e.frames),e.mod,e.bs,e.bsz,e.funs,e.frf,e.hok,e.bare⟩
section
variable {X:Cx} {pins:List (Addr×Obj)} {σ:St} {H:Hp} {s s':Shared}
theorem Inv.env0 (I:Inv X pins σ H s):Env0 X.prog X.w X.K X.mg X.base X.A X.stack s H :=
 ⟨I.ok.frames,I.ok.mod,I.bs,yAG I.ok.bsz I.sz,I.stack,I.stkFree,I.hok,I.bare⟩
theorem Inv.after {Q:VK} {u:Value} (I:Inv X pins σ H s) (h:CE X.stack X.prog X.w H s Q u s'):EP X pins σ Q u s':=by
 obtain ⟨v,H',os,J,un,L,r,q⟩:=h
 obtain ⟨hh,g,d,t,O⟩:=s'
 obtain rfl:O=s.os:=os
 exact ⟨v,H',I.call (h':=hh) (g':=g) (d':=d) (t':=t) (ch:=[]) un L J (fun b z=>absurd z (by simp)),r,q⟩
end
noncomputable def ZFO (sp:Sp) (dvs:List V) (E:XK) (t:TA):TE:=fun σ H Q=>t σ H fun vs H1=>sp (vs++dvs) H1 Q E
noncomputable def ZEm (C:Addr) (m:Str) (sp:Sp) (dvs:List V) (E:XK) (ta:TE) (t:TA):TE:=fun σ H Q=>ta σ H fun x H1=>∃ a dx fs,x=.ref a /\ H1 a=some (.ins C dx fs) /\ fs.lookup m=none /\
 t σ H1 fun vs H2=>sp (x::(vs++dvs)) H2 Q E
noncomputable def ZEv (C:Addr) (sp:Sp) (dvs:List V) (E:XK) (t:TA):TE:=fun σ H Q=>t σ H fun vs H1=>∀ x dx,H1 x=none->H1 dx=none->dx≠x ->
 sp (.ref x::(vs++dvs)) (upd (upd H1 dx (.own x)) x (.ins C dx [])) (fun v H2=>v=.non /\ Q (.ref x) H2) E
noncomputable def Binds (K:W.Frag) (fd:FuncData) (ps:List Str) (ds:List Value):Prop :=
 ∀ (s:Shared) (us:List Value),K.In s.heap->(us++ds).length=ps.length->BindsTo s fd ⟨us,[]⟩ (ps.zip (us++ds))
theorem Binds.all {K:W.Frag} {fd:FuncData} {ps:List Str} (h:∀ us:List Value,us.length=ps.length->bindArgs fd ⟨us,[]⟩=pure (ps.zip us)):Binds K fd ps []:=fun s us _ hl=>by
 rw [yBA] at hl ⊢
 exact .of_eq (h us hl)
noncomputable def ZBF (CX:CXT) (X:Cx) (E:XK):Prop:=∀ (pins:List (Addr×Obj)) (σ:St) (H:Hp) (s:Shared) (e:Value) (s':Shared),Inv X pins σ H s->CX X.stack H s E e s'->X.xe e s'
section
variable {X:Cx} {CX:CXT} {k:Nat} {f C:Addr} {fd:FuncData} {ps:List Str} {sp:Sp} {dvs:List V} {ds:List Value} {E:XK} {x m:Str} {p pos apos:Pos} {e o:Expr} {es:List Expr} {ta:TE} {t:TA}
theorem ZE5 {pins:List (Addr×Obj)} {σ:St} {H:Hp} {s:Shared} {Q:VK} {us:List Value} {vs:List V} (F:FnOk X.prog X.w X.K X.mg X.base CX k f fd ps sp) (L:Room k X.A) (O:Binds X.K fd ps ds) (U:Vals dvs ds) (hx:ZBF CX X E)
  (I:Inv X pins σ H s) (r:Vals vs us) (h:sp (vs++dvs) H Q E):wpAny (model X.prog X.w) X.A (call (.ref f) us) (EP X pins σ Q) X.xe s:=by
 have J:Vals (vs++dvs) (us++ds):=r.append U
 have hl:(us++ds).length=ps.length:=by rw [<- J.length];exact F.len _ _ _ _ h
 refine wpAny_call (codeAny_mono (F.run X.A X.stack s H ⟨us,[]⟩ (us++ds) (vs++dvs) Q E L I.env0 (O s us I.kIn hl) J h) fun r s' z=>?_)
 cases r with
 | error e=>exact hx pins σ H s e s' I z
 | ok fl=>
  cases fl with
  | ret u=>exact I.after z
  | next=>exact False.elim z
  | brk=>exact False.elim z
  | cont=>exact False.elim z
theorem pe_call (F:FnOk X.prog X.w X.K X.mg X.base CX k f fd ps sp) (O:Room k X.A) (Z:Gl X x) (hm:X.mg x=some (.ref f)) (U:W.keepIn X.K (.ref f)=true) (hb:Binds X.K fd ps ds) (hd:Vals dvs ds) (hx:ZBF CX X E)
  (ha:PA X (e::es) t) (z:(x == ("__debug__":Str))=false:=by decide) (Y:starEach (e::es) X.env=(false,eval e X.env)::starEach es X.env:=by rfl) (J:(backTo pos (starEach es X.env)).any (·.1)=false:=by rfl) :
  PE X (.Call (.Name x p) (e::es) [] pos) (ZFO sp dvs E t):=by
 intro pins s σ H Q I h
 refine wpAny_Call_Name_kw (ZCI I Z hm ?_ z)
 refine PySem.W.callWith_K (h₀:=X.base) I.ok.mod.kin U (thn (ha pos pins s σ H _ I h) fun us s1 ⟨vs,H1,L,r,q⟩=>⟨L.kIn,?_⟩) Y J
 exact ZE5 F O hb hd hx L r q
theorem pe_meth {pl:Sem Bool} (Y:PE X o ta) (c:Cls X.K C) (hm:Meth X.K C m f) (F:FnOk X.prog X.w X.K X.mg X.base CX k f fd ps sp) (U:Room k X.A) (hb:Binds X.K fd ps ds) (hd:Vals dvs ds) (hx:ZBF CX X E) (ha:PA X (e::es) t)
  (z:starEach (e::es) X.env=(false,eval e X.env)::starEach es X.env:=by rfl) (J:(backTo pos (starEach es X.env)).any (·.1)=false:=by rfl)
  (Z:eval (.Call (.Attribute o m apos) (e::es) [] pos) X.env=(do
   let ov <- eval o X.env
   standAt apos.atName
   let (f,first) <- holding [ov] (getMethod ov m pl)
   callWith pos f first (backTo pos (starEach (e::es) X.env)) (backToKw pos (keywordEach [] X.env))):=by rfl) :
  PE X (.Call (.Attribute o m apos) (e::es) [] pos) (ZEm C m sp dvs E ta t):=by
 intro pins s σ H Q I h
 refine PySem.W.methodCall_KW (pl:=pl) (thn (Y pins s σ H _ I h) fun u s1 zz=>?_) Z
 obtain ⟨x,H1,L,rx,a,dx,fs,ex,ea,l,q⟩:=zz
 subst ex
 obtain rfl:u=Value.ref a:=rx
 refine ZC1 L ea c hm l ?_
 refine PySem.W.callWith_K (first:=[.ref a]) (h₀:=X.base) I.ok.mod.kin hm.kp (thn (ha pos pins s1 σ H1 _ L q) fun us s2 ⟨vs,H2,O,r,q2⟩=>⟨O.kIn,?_⟩) z J
 exact ZE5 (us:=.ref a::us) (vs:=.ref a::vs) F U hb hd hx O (.cons rfl r) q2
theorem pe_meth0 {pl:Sem Bool} (L:PE X o ta) (c:Cls X.K C) (hm:Meth X.K C m f) (F:FnOk X.prog X.w X.K X.mg X.base CX k f fd ps sp) (J:Room k X.A) (Y:Binds X.K fd ps ds) (Z:Vals dvs ds) (hx:ZBF CX X E)
  (O:eval (.Call (.Attribute o m apos) [] [] pos) X.env=(do
   let ov <- eval o X.env
   standAt apos.atName
   let (f,first) <- holding [ov] (getMethod ov m pl)
   callWith pos f first (backTo pos (starEach [] X.env)) (backToKw pos (keywordEach [] X.env))):=by rfl) :
  PE X (.Call (.Attribute o m apos) [] [] pos) (ZEm C m sp dvs E ta tNil):=by
 intro pins s σ H Q I h
 refine PySem.W.methodCall_KW (pl:=pl) (thn (L pins s σ H _ I h) fun u s1 zz=>?_) O
 obtain ⟨x,H1,z,U,a,dx,fs,ex,ea,l,q⟩:=zz
 subst ex
 obtain rfl:u=Value.ref a:=U
 refine ZC1 z ea c hm l ?_
 exact PySem.W.callWith_K0 (first:=[.ref a]) z.kIn hm.kp (ZE5 (us:=[.ref a]) (vs:=[.ref a]) F J Y Z hx z (.cons rfl .nil) q)
structure Mk (K:W.Frag) (C f:Addr):Prop where
 makes:PySem.W.makesIn K C=true
 init:W.findIn K (.ref C) "__init__"=some (some (.ref f))
 fn:PySem.W.isFn K (.ref f)=true
 kp:W.keepIn K (.ref C)=true
theorem run_make {pins:List (Addr×Obj)} {σ:St} {H:Hp} {s:Shared} {Q:VK} {us:List Value} {vs:List V} (M:Mk X.K C f) (F:FnOk X.prog X.w X.K X.mg X.base CX k f fd ps sp) (U:Room (k+1) X.A) (Z:Binds X.K fd ps ds) (hd:Vals dvs ds)
  (hx:ZBF CX X E) (I:Inv X pins σ H s) (r:Vals vs us)
  (h:∀ x dx,H x=none->H dx=none->dx≠x->sp (.ref x::(vs++dvs)) (upd (upd H dx (.own x)) x (.ins C dx [])) (fun v H2=>v=.non /\ Q (.ref x) H2) E) :
  wpAny (model X.prog X.w) X.A (call (.ref C) us) (EP X pins σ Q) X.xe s:=by
 have O:=h (s.heap.objs.size+1) s.heap.objs.size (I.hok.fresh (yBB _)) (I.hok.fresh (yAB _)) (yAI (yBW _))
 have J:=Inv.made (C:=C) I
 have L:Vals (V.ref (s.heap.objs.size+1)::(vs++dvs)) (Value.ref (s.heap.objs.size+1)::(us++ds)):=.cons rfl (r.append hd)
 have hl:(Value.ref (s.heap.objs.size+1)::us++ds).length=ps.length:=by
  have e:=L.length
  rw [F.len _ _ _ _ O] at e
  exact e.symm
 refine wpAny_call (make_map (f:=f) I.kIn M.makes M.init (beq_iff_eq.mp M.fn) (codeAny_mono (F.run _ X.stack _ _ ⟨Value.ref (s.heap.objs.size+1)::us,[]⟩ (Value.ref (s.heap.objs.size+1)::(us++ds)) _ _ E (U.make C us [])
  (J.env0.make C us []) (Z _ (Value.ref (s.heap.objs.size+1)::us) J.kIn hl) L O) fun r s' z=>?_))
 cases r with
 | error e=>exact hx pins σ _ _ e s' J z
 | ok fl=>
  cases fl with
  | ret u=>
   obtain ⟨v,H',I3,rv,ev,Y⟩:=J.after z
   subst ev
   exact ⟨rv,⟨V.ref (s.heap.objs.size+1),H',I3,rfl,Y⟩⟩
  | next=>exact False.elim z
  | brk=>exact False.elim z
  | cont=>exact False.elim z
theorem pe_make (M:Mk X.K C f) (F:FnOk X.prog X.w X.K X.mg X.base CX k f fd ps sp) (O:Room (k+1) X.A) (Y:Gl X x) (hm:X.mg x=some (.ref C)) (Z:Binds X.K fd ps ds) (hd:Vals dvs ds) (hx:ZBF CX X E)
  (ha:PA X (e::es) t) (z:(x == ("__debug__":Str))=false:=by decide) (U:starEach (e::es) X.env=(false,eval e X.env)::starEach es X.env:=by rfl) (J:(backTo pos (starEach es X.env)).any (·.1)=false:=by rfl) :
  PE X (.Call (.Name x p) (e::es) [] pos) (ZEv C sp dvs E t):=by
 intro pins s σ H Q I h
 refine wpAny_Call_Name_kw (ZCI I Y hm ?_ z)
 refine PySem.W.callWith_K (h₀:=X.base) I.ok.mod.kin M.kp (thn (ha pos pins s σ H _ I h) fun us s1 ⟨vs,H1,L,r,q⟩=>⟨L.kIn,?_⟩) U J
 exact run_make M F O Z hd hx L r q
end
section
variable {X:Cx} {CX:CXT} {k:Nat} {f C:Addr} {fd:FuncData} {ps ks:List Str} {sp:Sp} {E:XK} {x m:Str} {p pos apos kpos:Pos} {e o:Expr} {es:List Expr} {kws:List Keyword} {te ta:TE} {t tk:TA} {nm:Option Str}
variable {g:List Value->List Value->List Value} {gV:List V->List V->List V}
end
structure FnScope (N P:List Str) (sc:Scope):Prop where
 kind:sc.kind=.function
 co:sc.isCoroutine=false
 gen:sc.isGenerator=false
 nd:N.Nodup
 pre:N.take P.length=P
 par:∀ x∈P,sc.names.lookup x=some .local∨sc.names.lookup x=some .cell
 nofree:∀ y∈sc.names,y.2≠.free
theorem bindL_out {z:Str->Option NameKind} {x:Str}:∀ {binds:List (Str×Value)} {m:Str->Option Value},(∀ v,(x,v)∉binds)->bindL z binds m x=m x
 | [],_,_=>rfl
 | (n,v)::r,m,h=>by
  unfold bindL
  rw [bindL_out fun w hw=>h w (yAM _ hw)]
  split
  .have:x≠n:=by rintro rfl;exact h v yAF
   simp [this]
  .rfl
theorem bindC_out {z:Str->Option NameKind} {x:Str}:∀ {binds:List (Str×Value)} {m:Str->Option Value},(∀ v,(x,v)∉binds)->bindC z binds m x=m x
 | [],_,_=>rfl
 | (n,v)::r,m,h=>by
  unfold bindC
  rw [bindC_out fun w hw=>h w (yAM _ hw)]
  split
  .rfl
  .have:x≠n:=by rintro rfl;exact h v yAF
   simp [this]
theorem bindL_get {z:Str->Option NameKind} {x:Str} {v:Value}:∀ {P:List Str} {vs:List Value} {i:Nat} {m:Str->Option Value},P.Nodup->P[i]?=some x->vs[i]?=some v->z x=some .local ->
  bindL z (P.zip vs) m x=some v
 | [],_,_,_,_,h,_,_=>by simp at h
 | _::_,[],_,_,_,_,h,_=>by simp at h
 | p::P,w::vs,0,m,nd,h1,h2,hk=>by
  simp at h1 h2;subst h1;subst h2
  show bindL z ((p,w)::P.zip vs) m p=_
  unfold bindL
  rw [bindL_out fun v J=>(yCQ.mp nd).1 (List.of_mem_zip J).1,if_pos hk]
  simp
 | p::P,w::vs,i+1,m,nd,h1,h2,hk=>by
  show bindL z ((p,w)::P.zip vs) m x=_
  unfold bindL
  exact bindL_get (i:=i) (yCQ.mp nd).2 (by simpa using h1) (by simpa using h2) hk
theorem bindC_get {z:Str->Option NameKind} {x:Str} {v:Value}:∀ {P:List Str} {vs:List Value} {i:Nat} {m:Str->Option Value},P.Nodup->P[i]?=some x->vs[i]?=some v->z x≠some .local ->
  bindC z (P.zip vs) m x=some v
 | [],_,_,_,_,h,_,_=>by simp at h
 | _::_,[],_,_,_,_,h,_=>by simp at h
 | p::P,w::vs,0,m,nd,h1,h2,hk=>by
  simp at h1 h2;subst h1;subst h2
  show bindC z ((p,w)::P.zip vs) m p=_
  unfold bindC
  rw [bindC_out fun v J=>(yCQ.mp nd).1 (List.of_mem_zip J).1,if_neg hk]
  simp
 | p::P,w::vs,i+1,m,nd,h1,h2,hk=>by
  show bindC z ((p,w)::P.zip vs) m x=_
  unfold bindC
  exact bindC_get (i:=i) (yCQ.mp nd).2 (by simpa using h1) (by simpa using h2) hk
noncomputable def start (N:List Str) (vs:List V):St:=vs.map some++List.replicate (N.length-vs.length) none
noncomputable def cxOf (CX:CXT) (P:Program) (w:World) (K:W.Frag) (mg:Str->Option Value) (base:Heap) (N:List Str) (qual:Str) (scope:Scope) (f:Addr) (cd:Value) (A:Around) (outer:List Env) (s:Shared) (H:Hp) (E:XK):Cx where
 prog:=P
 w:=w
 K:=K
 mg:=mg
 base:=base
 A:=A.deeper (envOfC qual scope s.heap.objs.size f cd)
 N:=N
 s₀:=s
 H₀:=H
 env:=envOfC qual scope s.heap.objs.size f cd
 outer:=outer
 stack:=envOfC qual scope s.heap.objs.size f cd::outer
 ex:=[]
 calm:=true
 fn:=fun _=>true
 pn:=[]
 xe:=fun e s'=>wpAny (model P w) (A.deeper (envOfC qual scope s.heap.objs.size f cd)) (leaving (envOfC qual scope s.heap.objs.size f cd) e) (fun _ s''=>CX outer H s E e s'') (fun e' s''=>CX outer H s E e' s'') s'
theorem ZDC {sc:Scope} {n:Nat} {x:Str} (h:sc.names.lookup x=some .cell):∃ c,(cellsFrom n sc.names []).lookup x=some c:=by
 have q:=PySem.W.cellsFrom_some sc.names n [] (.inl h)
 exact Option.isSome_iff_exists.mp q
theorem inv_start {CX:CXT} {P:Program} {w:World} {K:W.Frag} {mg:Str->Option Value} {base:Heap} {N ps:List Str} {qual:Str} {scope:Scope} {f:Addr} {cd:Value} {A:Around} {outer:List Env} {s s1:Shared} {H:Hp} {E:XK} {us:List Value} {vs:List V}
  (S:FnScope N ps scope) (hd:A.handled=none) (J:Env0 P w K mg base A outer s H) (hl:vs.length=ps.length) (r:Vals vs us)
  (x:InCallC s s.heap.objs.size (bindL (envOfC qual scope s.heap.objs.size f cd).kindOf (ps.zip us) fun _=>none) (cellsFrom (s.heap.objs.size+1) scope.names []) (bindC (envOfC qual scope s.heap.objs.size f cd).kindOf (ps.zip us) fun _=>none) s1) :
  Inv (cxOf CX P w K mg base N qual scope f cd A outer s H E) [] (start N vs) H s1:=by
 have a0:ps.length <= N.length:=by have:=congrArg List.length S.pre;rw [yAP] at this;omega
 obtain ⟨h1,tk,rfl,Z⟩:=x.done
 have L:∀ b:Addr,b∉(cxOf CX P w K mg base N qual scope f cd A outer s H E).ex:=fun b z=>absurd (show b∈([]:List Addr) from z) (by simp)
 refine ⟨⟨J.mod,S.kind,rfl,rfl,yAB _,fun y z c h1 h2=>?_,fun y O=>?_,fun y c _ h=>?_,fun _=>hd,Around.frames_deeper J.frames,.inr ⟨rfl,rfl⟩,fun b z=>absurd z (L b),J.bs,J.bsz,fun b _ _=>L b,fun b z=>absurd z (L b),J.funs,J.frf⟩,
  rfl,J.bare,Un.kept Z,⟨_,x.toInCall.ns,fun i y v h1 h2 h3=>?_⟩,fun y c h=>⟨_,x.cell y c h⟩,J.hok.fresh (yAB _),fun y c h=>?_,fun p U=>absurd (show p∈([]:List (Addr×Obj)) from U) (by simp),J.hok.kept Z,?_⟩
 .exact name_of_addr x.apart (PySem.mem_of_lookup h1) (PySem.mem_of_lookup h2)
 .have O:scope.names.lookup y=some .cell∨scope.names.lookup y=some .free:=O
  rcases O with O | O
  .exact ZDC O
  .exact absurd rfl (S.nofree _ (PySem.mem_of_lookup O))
 .exact yBP (x.above y c (PySem.mem_of_lookup h))
 .have hi:i < vs.length:=by
   unfold start at h2
   by_cases hi:i < vs.length
   .exact hi
   .rw [yAW (by simpa using hi)] at h2
    rw [List.getElem?_replicate] at h2
    split at h2 <;> cases h2
  have ha:vs[i]?=some v:=by
   unfold start at h2
   rw [yAX (by simpa using hi),yAJ] at h2
   cases e:vs[i]? with
   | none=>rw [e] at h2;cases h2
   | some a=>rw [e] at h2;cases h2;rfl
  obtain ⟨u,hu,rv⟩:=r.get ha
  have U:ps[i]?=some y:=by
   rw [<- S.pre,List.getElem?_take_of_lt (by omega)];exact h1
  have Y:ps.Nodup:=by rw [<- S.pre];exact S.nd.sublist (List.take_sublist _ _)
  refine ⟨u,rv,?_⟩
  rcases S.par y (yAL U) with k | k
  .exact .inl ⟨k,bindL_get Y U hu k⟩
  .obtain ⟨c,e⟩:=ZDC (n:=s.heap.objs.size+1) k
   refine .inr ⟨.inl k,c,e,?_⟩
   have q:=x.cell y c e
   rw [bindC_get Y U hu (by show scope.names.lookup y≠_;rw [k];decide)] at q
   exact q
 .exact J.hok.fresh (yBP (x.above y c (PySem.mem_of_lookup h)))
 .unfold start
  show _=N.length
  rw [yAC,yAA,yBX]
  omega
theorem ZFp {CX:CXT} {P:Program} {w:World} {K:W.Frag} {mg:Str->Option Value} {base:Heap} {k:Nat} {f:Addr} {name qual:Str} {L:Arguments} {body:List Stmt} {scope:Scope} {dV kV a0 pm z ct oc:Value} {an od:Option Addr}
  {a2:Array (Option Value)} {N ps:List Str} {sp:Sp} (lk:K.lookup f=some ⟨oc,od,.func (W.fnOf name qual L body scope dV kV a0 pm an z ct),a2⟩) (a4:W.codeIn K z qual=true) (S:FnScope N ps scope)
  (len:∀ vs H Q E,sp vs H Q E->vs.length=ps.length)
  (Y:∀ (A:Around) (outer:List Env) (s:Shared) (H:Hp) (vs:List V) (Q:VK) (E:XK),Room k (A.deeper (envOfC qual scope s.heap.objs.size f z))->sp vs H Q E ->
   ∃ t,PSs (cxOf CX P w K mg base N qual scope f z A outer s H E) body t /\ t { nx:=fun _ H'=>Q .non H',rt:=Q } (start N vs) H) :
  FnOk P w K mg base CX (k+1) f (W.fnOf name qual L body scope dV kV a0 pm an z ct) ps sp:=by
 refine ⟨len,fun A outer s H args us vs Q E hr e0 hb r a1=>?_⟩
 have hl:=len _ _ _ _ a1
 have KX:K.In s.heap:=e0.mod.kin.keeps fun b o e=>(e0.bs b o e).1
 have a3:s.heap.NoLimit:=e0.mod.nolimit.keeps fun b o e=>(e0.bs b o e).1
 have U:∀ y∈ps.zip us,scope.names.lookup y.1=some .local∨(scope.names.lookup y.1=some .cell /\ ((cellsFrom (s.heap.objs.size+1) scope.names []).lookup y.1).isSome=true):=fun ⟨n,v⟩ hy=>by
  rcases S.par n (List.of_mem_zip hy).1 with q | q
  .exact .inl q
  .exact .inr ⟨q,PySem.W.cellsFrom_some _ _ _ (.inl q)⟩
 refine codeAny_call_function hr.depth (KX _ _ lk) rfl S.co S.gen rfl (PySem.W.codeRec_of KX a4) (hb _ _ _ _ ?_)
 refine wpAny_newFunctionEnv_cells S.kind U fun env he s1 x=>?_
 subst he
 refine ⟨a3.keeps x.toInCall.keep,codeAny_func ?_⟩
 obtain ⟨t,ht,hq⟩:=Y A outer s H vs Q E (hr.deeper _) a1
 have I:Inv (cxOf CX P w K mg base N qual scope f z A outer s H E) [] (start N vs) H s1:=inv_start S hr.hd e0 hl r x
 refine wpAny_mono (ht [] s1 (start N vs) H _ I hq) (fun fl s' Z=>?_) fun e s' Z=>Z
 have fin:∀ {O:St} {H':Hp} {v:V} {u:Value},Inv (cxOf CX P w K mg base N qual scope f z A outer s H E) [] O H' s'->RelV v u->Q v H'->CE outer P w H s Q u s' :=
  fun {O H' v u} J rv q=>⟨v,H',J.os,J.bare,J.base,J.hok,rv,q⟩
 cases fl with
 | ret u=>
  obtain ⟨v,O,H',J,rv,q⟩:=Z
  exact fin J rv q
 | next=>
  obtain ⟨O,H',J,q⟩:=Z
  exact fin (v:=V.non) (u:=Value.none) J rfl q
 | brk=>
  obtain ⟨_,_,_,q⟩:=Z
  exact False.elim q
 | cont=>
  obtain ⟨_,_,_,q⟩:=Z
  exact False.elim q
section
variable {X:Cx} {x:Str} {p pos:Pos} {e:Expr} {es:List Expr} {t:TA} {id T:String} {r:List V->Hp->VK->Prop}
noncomputable def tCB (r:List V->Hp->VK->Prop) (t:TA):TE:=fun σ H Q=>t σ H fun vs H1=>r vs H1 Q
theorem ZAL (hc:ZCA X (.builtin id) r) (Z:Gl X x) (hm:X.mg x=none) (Y:bootBuiltins x=some (.builtin id)) (ha:PA X (e::es) t) (hn:x≠"__name__":=by decide) (z:(x == ("__debug__":Str))=false:=by decide)
  (O:starEach (e::es) X.env=(false,eval e X.env)::starEach es X.env:=by rfl) (J:(backTo pos (starEach es X.env)).any (·.1)=false:=by rfl):PE X (.Call (.Name x p) (e::es) [] pos) (tCB r t):=by
 intro pins s σ H Q I h
 refine wpAny_Call_Name_kw (ZDK I Z hm Y ?_ hn z)
 exact PyProof.Rows.callWith_builtin1 (thn (ha pos pins s σ H _ I h) fun us s1 ⟨vs,H1,L,r1,U⟩=>hc pins s1 σ H1 vs us Q L r1 U) O J
theorem ZBs (hc:ZCA X (.type T) r) (Z:Gl X x) (hm:X.mg x=none) (Y:bootBuiltins x=some (.type T)) (ha:PA X (e::es) t) (hn:x≠"__name__":=by decide) (z:(x == ("__debug__":Str))=false:=by decide)
  (O:starEach (e::es) X.env=(false,eval e X.env)::starEach es X.env:=by rfl) (J:(backTo pos (starEach es X.env)).any (·.1)=false:=by rfl):PE X (.Call (.Name x p) (e::es) [] pos) (tCB r t):=by
 intro pins s σ H Q I h
 refine wpAny_Call_Name_kw (ZDK I Z hm Y ?_ hn z)
 exact PyProof.Rows.callWith_type1 (thn (ha pos pins s σ H _ I h) fun us s1 ⟨vs,H1,L,r1,U⟩=>hc pins s1 σ H1 vs us Q L r1 U) O J
end
end L2
namespace HT
open PySem PyProof.Rows
section
open PySem.SeqAt
open PySem.AutoSeq1 (wpAny_loadPart')
open PySem.MeetsSeq PySem.MeetsSeq2 PySem.MeetsSeq3
end
section
variable {prog:Program} {w:World} {A:Around} {E:Value->Shared->Prop} {s:Shared}
noncomputable def sIx (n d:Nat):Option Int->Nat
 | none=>d
 | some v=>if v < 0 then (v+(n:Int)).toNat else min v.toNat n
theorem sIx_none (n d:Nat):sIx n d none=d:=rfl
theorem sIx_nat (n d k:Nat):sIx n d (some (k:Int))=min k n:=by
 show (if (k:Int) < 0 then ((k:Int)+(n:Int)).toNat else min (k:Int).toNat n)=min k n
 rw [if_neg (by omega),Int.toNat_natCast]
end
end HT
namespace L2
open PySem PySem.Spec PyProof.Rows
noncomputable abbrev TO:=St->Hp->(Option Int->Hp->Prop)->Prop
noncomputable def PO (X:Cx) (e:Option Expr) (t:TO):Prop :=
 ∀ (pins:List (Addr×Obj)) (s:Shared) (σ:St) (H:Hp) (Q:Option Int->Hp->Prop),Inv X pins σ H s->t σ H Q ->
  wpAny (model X.prog X.w) X.A (evalPart e X.env) (fun u s'=>∃ o H',Inv X pins σ H' s' /\ IsPart u o /\ Q o H') X.xe s
noncomputable def ZED:TO:=fun _ H Q=>Q none H
noncomputable def ZFZ (t:TE):TO:=fun σ H Q=>t σ H fun x H1=>∃ i,x=.int i /\ Q (some i) H1
theorem intsAre_of {ns:List Int}:∀ {us:List Value},Vals (ns.map V.int) us->IntsAre us ns:=by
 induction ns with
 | nil=>intro us r;rw [List.map_nil] at r;cases r;exact .nil
 | cons n ns ih=>
  intro us r
  rw [yAV] at r
  cases r with
  | cons r1 r2=>
   obtain ⟨t,e⟩:=r1
   subst e
   exact .cons n t (ih r2)
section
variable {X:Cx} {e:Expr} {te:TE} {lo hi:Option Expr} {tl th:TO} {pos p2:Pos}
theorem ZCc:PO X none ZED:=by
 intro pins s σ H Q I h
 rw [evalPart_none]
 exact wpAny_pure ⟨none,H,I,.none,h⟩
theorem ZBc (h:PE X e te):PO X (some e) (ZFZ te):=by
 intro pins s σ H Q I hw
 rw [evalPart_some]
 refine thn (h pins s σ H _ I hw) fun u s1 zz=>?_
 obtain ⟨x,H1,z,L,J⟩:=zz
 obtain ⟨i,rfl,q⟩:=J
 obtain ⟨t,rfl⟩:=L
 exact ⟨some i,H1,z,.int i t,q⟩
noncomputable def SlR (X:Cx) (r:V->Option Int->Option Int->Hp->VK->Prop):Prop :=
 ∀ (pins:List (Addr×Obj)) (s:Shared) (σ:St) (H:Hp) (x:V) (v vl vu:Value) (lo hi:Option Int) (sl:Addr) (Q:VK),Inv X pins σ H s->RelV x v->s.heap.IsSliceOf sl vl vu .none->IsPart vl lo->IsPart vu hi->r x lo hi H Q ->
  ∃ T id,typeLookup (.type T) "__getitem__"=pure (some (.builtin id)) /\ s.TypeIs v T /\ wpAny (model X.prog X.w) X.A (getItem v (.ref sl)) (EP X pins σ Q) X.xe s
noncomputable def tSl (r:V->Option Int->Option Int->Hp->VK->Prop) (te:TE) (tl th:TO):TE:=fun σ H Q=>te σ H fun x H1=>tl σ H1 fun l H2=>th σ H2 fun u H3=>r x l u H3 Q
theorem ZBR {r:V->Option Int->Option Int->Hp->VK->Prop} (O:SlR X r) (Y:PE X e te) (hl:PO X lo tl) (hu:PO X hi th):PE X (.Subscript e (.Slice lo hi none p2) pos) (tSl r te tl th):=by
 intro pins s σ H Q I h
 refine Subscript_ (thn (Y pins s σ H _ I h) fun v s1 zz=>?_)
 obtain ⟨x,H1,U,r1,q1⟩:=zz
 refine wpAny_Slice (thn (hl pins s1 σ H1 _ U q1) fun L s2 ⟨l,H2,I2,pl,q2⟩=>thn (hu pins s2 σ H2 _ I2 q2) fun J z zz=>?_)
 obtain ⟨u,H3,I3,pu,Z⟩:=zz
 rw [evalPart_none]
 refine wpAny_pure ?_
 have I4:Inv X pins σ H3 { z with heap:=z.heap.push { cls:=.type "slice",data:=.fields #[L,J,.none] } }:=I3.kept (t':=z.toks) fun b ob q=>Heap.get?_push_of_some _ q
 obtain ⟨T,id,hT,ht,hg⟩:=O pins { z with heap:=z.heap.push { cls:=.type "slice",data:=.fields #[L,J,.none] } } σ H3 x v L J l u z.heap.objs.size Q I4 r1 (Heap.IsSliceOf.new ..) pl pu Z
 show wpAny (model X.prog X.w) X.A (subscriptTail e (.Slice lo hi none p2) v (.ref z.heap.objs.size)) (EP X pins σ Q) X.xe { z with heap:=z.heap.push { cls:=.type "slice",data:=.fields #[L,J,.none] } }
 exact tail_any (ops:=[.ref z.heap.objs.size,v]) ht hT hg (by with_unfolding_all rfl)
noncomputable def cutV (xs:List V) (lo hi:Option Int):List V:=(xs.drop (HT.sIx xs.length 0 lo)).take (HT.sIx xs.length xs.length hi-HT.sIx xs.length 0 lo)
theorem cutV_length (xs:List V) (lo hi:Option Int):(cutV xs lo hi).length <= xs.length:=by
 unfold cutV
 rw [yAP,yBR]
 omega
end
noncomputable def ixN (n:Nat) (i:Int):Option Nat:=if 0 <= i then (if i < n then some i.toNat else none) else if -(n:Int) <= i then some (i+n).toNat else none
noncomputable def atI {α:Type} (xs:List α) (i:Int):Option α:=(ixN xs.length i).bind fun j=>xs[j]?
theorem ixN_seq {n:Nat} {i:Int} {j:Nat} (h:ixN n i=some j):seqIndex? i n=some j /\ j < n /\ -(n:Int) <= i /\ i < n:=by
 unfold ixN at h
 by_cases h0:0 <= i
 .rw [if_pos h0] at h
  by_cases h1:i < n
  .rw [if_pos h1] at h
   have e:i.toNat=j:=Option.some.inj h
   exact ⟨by rw [seqIndex_of h0 h1,e],by omega,by omega,h1⟩
  .rw [if_neg h1] at h;cases h
 .rw [if_neg h0] at h
  by_cases h1:-(n:Int) <= i
  .rw [if_pos h1] at h
   have e:(i+n).toNat=j:=Option.some.inj h
   exact ⟨by rw [seqIndex_neg (by omega) h1,e],by omega,h1,by omega⟩
  .rw [if_neg h1] at h;cases h
theorem atI_get {α:Type} {xs:List α} {i:Int} {v:α} (h:atI xs i=some v):∃ j,seqIndex? i xs.length=some j /\ xs[j]?=some v /\ j < xs.length /\ -(xs.length:Int) <= i /\ i < xs.length:=by
 unfold atI at h
 cases e:ixN xs.length i with
 | none=>rw [e] at h;cases h
 | some j=>
  rw [e] at h
  obtain ⟨h1,h2,h3,z⟩:=ixN_seq e
  exact ⟨j,h1,h,h2,h3,z⟩
theorem atI_nat {α:Type} {xs:List α} {j:Nat} {v:α} (h:xs[j]?=some v):atI xs (j:Int)=some v:=by
 have z:j < xs.length:=(yAK.mp h).1
 have e:ixN xs.length (j:Int)=some j:=by
  unfold ixN
  rw [if_pos (by omega),if_pos (by omega)];simp
 unfold atI;rw [e];exact h
noncomputable def PlainIx (b:Expr):Prop:=∀ o i,subscripted b false o i=operate [o,i] (getItem o i)
noncomputable def IxR (X:Cx) (r:R2):Prop :=
 ∀ (value slice:Expr) (pins:List (Addr×Obj)) (s:Shared) (σ:St) (H:Hp) (x y:V) (v u:Value) (Q:VK),Inv X pins σ H s->RelV x v->RelV y u->r x y H Q ->
  subscripted slice false v u=operate [v,u] (getItem v u)->wpAny (model X.prog X.w) X.A (subscriptTail value slice v u) (EP X pins σ Q) X.xe s
noncomputable def MtR (X:Cx) (id:String) (r:V->List V->Hp->VK->Prop):Prop :=
 ∀ (pins:List (Addr×Obj)) (s:Shared) (σ:St) (H:Hp) (x:V) (xs:List V) (v:Value) (us:List Value) (Q:VK),Inv X pins σ H s->RelV x v->Vals xs us->r x xs H Q ->
  wpAny (model X.prog X.w) X.A (call (.builtin id) (v::us)) (EP X pins σ Q) X.xe s
section
variable {X:Cx} {a b:Expr} {ta tb:TE} {pos:Pos}
theorem ZBC {r:R2} (z:IxR X r) (ha:PE X a ta) (O:PE X b tb) (L:PlainIx b):PE X (.Subscript a b pos) (tOp r ta tb):=by
 intro pins s σ H Q I h
 exact Subscript_ (binT ha O I h fun v u s2 x y H2 U J Y q=>z a b pins s2 σ H2 x y v u Q U J Y q (L _ _))
noncomputable def rIxL (K:W.Frag):R2:=fun x y H Q=>∃ p xs i v,x=.ref p /\ y=.int i /\ SqL K H p xs /\ atI xs i=some v /\ Q v H
noncomputable def rIxT (K:W.Frag):R2:=fun x y H Q=>∃ p xs i v,x=.ref p /\ y=.int i /\ SqT K H p xs /\ atI xs i=some v /\ Q v H
theorem ZBK:IxR X (rIxL X.K):=by
 intro value J pins s σ H x y v u Q I rx ry h U
 obtain ⟨p,xs,i,z,rfl,rfl,hq,he,q⟩:=h
 cases rx
 obtain ⟨t,rfl⟩:=ry
 obtain ⟨its,r,pl,hz⟩:=I.list hq
 obtain ⟨j,h1,h2,h3,h4,Z⟩:=atI_get he
 obtain ⟨w,Y,O⟩:=r.get h2
 have hl:=r.length
 have hn:=ZEf
 have fin:EP X pins σ Q w s:=⟨z,H,I,O,q⟩
 by_cases h0:0 <= i
 .have L:i.toNat=j:=by
   rw [seqIndex_of h0 Z] at h1
   exact Option.some.inj h1
  exact item_listR pl.isList h0 (by omega) (by rw [L];simpa using Y) fin U
 .have L:(i+(its.toArray.size:Int)).toNat=j:=by
   rw [seqIndex_neg (by omega) h4] at h1
   rw [yAS,<- hl]
   exact Option.some.inj h1
  exact subscriptTail_builtinR (x:=w) pl.isList.typeIs slot_list_getitem.lookup
   (wpAny_getItem_list_neg (Q:=fun r s'=>r=w /\ EP X pins σ Q r s') pl.isList (by omega) (by rw [yAS] <;> omega) (by omega) (by rw [L];simpa using Y) ⟨rfl,fin⟩) U
theorem ZCD:IxR X (rIxT X.K):=by
 intro value J pins s σ H x y v u Q I U ry h Y
 obtain ⟨p,xs,i,z,rfl,rfl,Z,O,q⟩:=h
 cases U
 obtain ⟨t,rfl⟩:=ry
 obtain ⟨its,r,pl,hz⟩:=I.tuple Z
 obtain ⟨j,h1,h2,h3,h4,h5⟩:=atI_get O
 obtain ⟨w,ew,L⟩:=r.get h2
 have hl:=r.length
 have hn:=ZEf
 have fin:EP X pins σ Q w s:=⟨z,H,I,L,q⟩
 exact subscriptTail_builtinR (x:=w) pl.typeIs slot_tuple_getitem.lookup
  (getItem_tuple (j:=j) (Q:=fun r s'=>r=w /\ EP X pins σ Q r s') pl (by omega) (by omega) (by rw [yAS,<- hl];exact h1) (by simpa using ew) ⟨rfl,fin⟩) Y
theorem mapSeq_set (its:List Value) (n j:Nat) (u:Value):Obj.mapSeq (·.setIfInBounds j u) { cls:=.type "list",data:=.seq its.toArray n }={ cls:=.type "list",data:=.seq (its.set j u).toArray n }:=by
 simp [Obj.mapSeq]
theorem Inv.lst {pins:List (Addr×Obj)} {σ:St} {H:Hp} {s:Shared} {p:Addr} {xs:List V} (I:Inv X pins σ H s) (h:H p=some (.lst xs)) :
  ∃ (its:List Value) (n:Nat),Vals xs its /\ s.heap.get? p=some { cls:=.type "list",data:=.seq its.toArray n } /\ xs.length <= sizeLine:=by
 obtain ⟨z,its,n,r,e⟩:=I.hok p _ h
 exact ⟨its,n,r,e,z⟩
theorem Inv.lstUpd {pins:List (Addr×Obj)} {σ:St} {H:Hp} {s:Shared} {p:Addr} {xs ys:List V} {its its':List Value} {n z:Nat} {f:Obj->Obj} (I:Inv X pins σ H s) (h:H p=some (.lst xs))
  (O:s.heap.get? p=some { cls:=.type "list",data:=.seq its.toArray n }) (J:f { cls:=.type "list",data:=.seq its.toArray n }={ cls:=.type "list",data:=.seq its'.toArray z }) (r:Vals ys its') (U:ys.length <= sizeLine) (t:Nat) :
  Inv X pins σ (upd H p (.lst ys)) { s with heap:=s.heap.update p f,toks:=t }:=by
 have e:(s.heap.update p f).get? p=some { cls:=.type "list",data:=.seq its'.toArray z }:=by
  rw [Heap.get?_update_self f O (by rw [J] <;> rfl),J]
 refine I.write (x:=p) (e:=p) (by rw [h];trivial) (.inl rfl) (fun b u L q=>(Heap.get?_update_other _ _ (Ne.symm L)).trans q) ⟨_,e⟩ ?_
 exact ⟨U,its',z,r,e⟩
noncomputable def rSetL:V->V->V->Hp->(Hp->Prop)->Prop:=fun o i v H Q=>∃ p xs k j,o=.ref p /\ i=.int k /\ H p=some (.lst xs) /\ ixN xs.length k=some j /\ Q (upd H p (.lst (xs.set j v)))
theorem set_list:PSet X rSetL:=by
 intro pins s σ H o i v ov iv u Q I ro ri rv h
 obtain ⟨p,xs,k,j,rfl,rfl,O,Z,q⟩:=h
 cases ro
 obtain ⟨t,rfl⟩:=ri
 obtain ⟨its,n,r,J,Y⟩:=I.lst O
 obtain ⟨h1,h2,h3,U⟩:=ixN_seq Z
 have hl:=r.length
 have hn:=ZEf
 have L:Inv X pins σ (upd H p (.lst (xs.set j v))) { s with heap:=s.heap.update p (Obj.mapSeq (·.setIfInBounds j u)) } :=
  I.lstUpd O J (mapSeq_set its n j u) (r.set rv j) (by rw [yCB];exact Y) s.toks
 by_cases h0:0 <= k
 .have z:k.toNat=j:=by
   rw [seqIndex_of h0 U] at h1
   exact Option.some.inj h1
  exact PySem.W.ki_setAt J h0 (by omega) (by rw [yAS,<- hl];exact U) (by rw [z];exact ⟨_,L,q⟩)
 .have z:(k+(its.toArray.size:Int)).toNat=j:=by
   rw [seqIndex_neg (by omega) h3] at h1
   rw [yAS,<- hl]
   exact Option.some.inj h1
  exact PySem.W.ki_setBack J (by omega) (by rw [yAS,<- hl];exact h3) (by omega) (by rw [z];exact ⟨_,L,q⟩)
theorem slice_bounds (lo hi:Option Int) (n:Nat):(sliceBounds lo hi none n).1=((HT.sIx n 0 lo:Nat):Int) /\ (sliceBounds lo hi none n).2.1=((HT.sIx n n hi:Nat):Int) /\ (sliceBounds lo hi none n).2.2=1:=by
 refine ⟨?_,?_,rfl⟩
 .cases lo with
  | none=>simp [sliceBounds,HT.sIx]
  | some i=>
   simp only [sliceBounds,HT.sIx,Option.getD_none,show (1:Int) > 0 by decide,if_true]
   by_cases h:i < 0
   .simp only [h,if_true] <;> omega
   .simp only [h,if_false] <;> omega
 .cases hi with
  | none=>simp [sliceBounds,HT.sIx]
  | some i=>
   simp only [sliceBounds,HT.sIx,Option.getD_none,show (1:Int) > 0 by decide,if_true]
   by_cases h:i < 0
   .simp only [h,if_true] <;> omega
   .simp only [h,if_false] <;> omega
theorem slicePick_cut (its:List Value) (lo hi:Option Int):slicePick its.toArray lo hi none=((its.drop (HT.sIx its.length 0 lo)).take (HT.sIx its.length its.length hi-HT.sIx its.length 0 lo)).toArray:=by
 obtain ⟨h1,h2,h3⟩:=slice_bounds lo hi its.toArray.size
 unfold slicePick
 rw [h1,h2,h3]
 simp only [sliceRange_one,pick_run,yAS] <;> rfl
noncomputable def rSlL (K:W.Frag):V->Option Int->Option Int->Hp->VK->Prop:=fun x lo hi H Q=>∃ a xs,x=.ref a /\ SqL K H a xs /\ ∀ p,H p=none->Q (.ref p) (upd H p (.lst (cutV xs lo hi)))
theorem ZBy:SlR X (rSlL X.K):=by
 intro pins s σ H x v vl vu lo hi Z Q I L O pl U h
 obtain ⟨a,xs,rfl,hx,q⟩:=h
 cases L
 obtain ⟨its,r,J,Y⟩:=I.list hx
 have z:=r.length
 refine ⟨"list",_,slot_list_getitem.lookup,J.isList.typeIs,?_⟩
 refine wpAny_getItem_list_slice J.isList O pl U .none (by simp) ?_ (by rw [yAS] <;> omega)
 rw [slicePick_cut,<- z]
 refine ⟨.ref s.heap.objs.size,_,I.laid (t':=s.toks) (o:=.lst (cutV xs lo hi)) (fun b ob q=>Heap.get?_push_of_some _ q) (yAB _) ?_,rfl,q _ (I.hok.fresh (yAB _))⟩
 exact ⟨yAG (cutV_length xs lo hi) Y,_,0,(r.drop (HT.sIx xs.length 0 lo)).take (HT.sIx xs.length xs.length hi-HT.sIx xs.length 0 lo),Heap.get?_push_size _ rfl⟩
theorem ZAJ:ZCA X (.builtin "len") (fun xs H Q=>∃ p ys,xs=[.ref p] /\ (SqL X.K H p ys∨SqT X.K H p ys) /\ Q (.int ys.length) H):=by
 intro pins s σ H xs us Q I r h
 obtain ⟨p,ys,rfl,J,q⟩:=h
 obtain ⟨u,rfl,O⟩:=ZDT r
 cases O
 have hn:=ZEf
 rcases J with J | J
 .obtain ⟨its,L,pl,U⟩:=I.list J
  have z:=L.length
  exact Calls.call_len_list pl.isList (by simp only [yAS] <;> omega) ⟨.int ys.length,H,I.tok _,⟨s.toks+1,by rw [yAS,z]⟩,q⟩
 .obtain ⟨its,L,pl,U⟩:=I.tuple J
  have z:=L.length
  exact len_tuple pl (by simp only [yAS] <;> omega) ⟨.int ys.length,H,I.tok _,⟨s.toks+1,by rw [yAS,z]⟩,q⟩
theorem call_list_of:ZCA X (.type "list") (fun xs H Q=>∃ p ys,xs=[.ref p] /\ (SqL X.K H p ys∨SqT X.K H p ys) /\ ∀ l,H l=none->Q (.ref l) (upd H l (.lst ys))):=by
 intro pins s σ H xs us Q I r h
 obtain ⟨p,ys,rfl,L,q⟩:=h
 obtain ⟨u,rfl,rx⟩:=ZDT r
 cases rx
 have fin:∀ (its:List Value),Vals ys its->ys.length <= sizeLine->∀ (h':Heap) (c':Nat),(∀ b o',s.heap.get? b=some o'->h'.get? b=some o') ->
   h'.get? s.heap.objs.size=some { cls:=.type "list",dict:=none,data:=.seq its.toArray c',slots:=#[] }->EP X pins σ Q (.ref s.heap.objs.size) { s with heap:=h' }:=fun its z U h' c' O e=>
  ⟨.ref s.heap.objs.size,_,I.laid (t':=s.toks) O (yAB _) (show ObjOk X.prog X.w _ h' _ (.lst ys) from ⟨U,its,c',z,e⟩),rfl,q _ (I.hok.fresh (yAB _))⟩
 rcases L with L | L
 .obtain ⟨its,z,pl,U⟩:=I.list L
  have J:=z.length
  obtain ⟨o,Z,hc,n,Y⟩:=pl.isList
  exact call_list_seq p (.inl rfl) Z hc Y (fun h' c' O e=>fin its z U h' c' O e) (by simp only [yAS] <;> omega)
 .obtain ⟨its,z,pl,U⟩:=I.tuple L
  have J:=z.length
  obtain ⟨o,Z,hc,n,Y⟩:=pl
  exact call_list_seq p (.inr rfl) Z hc Y (fun h' c' O e=>fin its z U h' c' O e) (by simp only [yAS] <;> omega)
noncomputable def tyV (K:W.Frag) (T:String) (x:V) (H:Hp):Prop:=match x with
 | .str _=>T="str"
 | .int _=>T="int"
 | .ref p=>(T="list" /\ ∃ xs,SqL K H p xs)∨(T="tuple" /\ ∃ o,K.lookup p=some o /\ o.cls=.type "tuple" /\ o.dict=none) ∨
   (T="dict" /\ ((∃ kvs,H p=some (.dK kvs))∨∃ kvs,H p=some (.dT kvs)))∨(T="set" /\ ∃ S n,H p=some (.set S n))
 | _=>False
theorem tyV_is {pins:List (Addr×Obj)} {σ:St} {H:Hp} {s:Shared} {T:String} {x:V} {v:Value} (I:Inv X pins σ H s) (r:RelV x v) (ty:tyV X.K T x H) :
  s.TypeIs v T /\ ∀ a,v=.ref a->∃ ob,s.heap.get? a=some ob /\ ob.dict=none:=by
 cases x with
 | str z=>
  obtain ⟨t,rfl⟩:=r
  cases (show T="str" from ty)
  exact ⟨typeIs_str s z t,fun _ e=>nomatch e⟩
 | int i=>
  obtain ⟨t,rfl⟩:=r
  cases (show T="int" from ty)
  exact ⟨typeIs_int s i t,fun _ e=>nomatch e⟩
 | ref p=>
  cases r
  rcases ty with ⟨rfl,xs,U⟩ | ⟨rfl,o,J,hc,O⟩ | ⟨rfl,J⟩ | ⟨rfl,S,n,J⟩
  .obtain ⟨its,_,pl,_⟩:=I.list U
   refine ⟨pl.isList.typeIs,fun a e=>?_⟩
   cases e
   obtain ⟨o,n,e,c,O,_⟩:=pl
   exact ⟨o,e,O⟩
  .refine ⟨⟨o,I.kIn p o J,hc⟩,fun a e=>?_⟩
   cases e
   exact ⟨o,I.kIn _ o J,O⟩
  .have z:∃ o,s.heap.get? p=some o /\ o.ExactDict:=by
    rcases J with ⟨kvs,J⟩ | ⟨kvs,J⟩
    .obtain ⟨_,_,_,_,o,_,_,e,ex,_⟩:=I.hok p _ J
     exact ⟨o,e,ex⟩
    .obtain ⟨_,_,_,_,o,_,_,e,ex,_⟩:=I.hok p _ J
     exact ⟨o,e,ex⟩
   obtain ⟨o,e,ex⟩:=z
   refine ⟨⟨o,e,ex.1⟩,fun a L=>?_⟩
   cases L
   exact ⟨o,e,ex.2.1⟩
  .obtain ⟨o,_,_,_,e,ex,_⟩:=I.hok p _ J
   refine ⟨⟨o,e,ex.1⟩,fun a L=>?_⟩
   cases L
   exact ⟨o,e,ex.2.1⟩
 | _=>exact False.elim ty
noncomputable def tBM0 (K:W.Frag) (T:String) (r:V->List V->Hp->VK->Prop) (to:TE):TE:=fun σ H Q=>to σ H fun x H1=>tyV K T x H1 /\ r x [] H1 Q
noncomputable def tBM (K:W.Frag) (T:String) (r:V->List V->Hp->VK->Prop) (to:TE) (t:TA):TE:=fun σ H Q=>to σ H fun x H1=>tyV K T x H1 /\ t σ H1 fun xs H2=>r x xs H2 Q
variable {o e:Expr} {es:List Expr} {to:TE} {t:TA} {name:Str} {apos cpos:Pos} {T id:String} {r:V->List V->Hp->VK->Prop}
theorem ZE9 (Z:PlainAttrs T) (slot:Slot T name id) (L:typeOf (.builtin id)=pure (.type "method_descriptor")) (hm:MtR X id r) (ho:PE X o to)
  (z:attributeBase o name X.env (eval o X.env)=eval o X.env:=by rfl) (J:(apos.endLine == cpos.line)=true:=by rfl):PE X (.Call (.Attribute o name apos) [] [] cpos) (tBM0 X.K T r to):=by
 intro pins s σ H Q I h
 refine wpAny_Call_method0_late z J (thn (ho pins s σ H _ I h) fun v s1 zz=>?_)
 obtain ⟨x,H1,O,U,ty,Y⟩:=zz
 obtain ⟨h1,h2⟩:=tyV_is O U ty
 exact ⟨T,id,Z,slot,L,h1,h2,Calls.callWith_builtin rfl (PySem.evalArgs_none (hm pins s1 σ H1 x [] v [] Q O U .nil Y))⟩
theorem ZD0 (pa:PlainAttrs T) (slot:Slot T name id) (U:typeOf (.builtin id)=pure (.type "method_descriptor")) (hm:MtR X id r) (ho:PE X o to) (ha:PA X (e::es) t)
  (J:attributeBase o name X.env (eval o X.env)=eval o X.env:=by rfl)
  (O:((backTo cpos (starEach (e::es) X.env)).all (fun x=>!x.1) && (backToKw cpos (keywordEach [] X.env)).all (fun x=>x.1.isSome)
   && decide ((e::es).length+([]:List Keyword).length+(if ([]:List Keyword).isEmpty then 0 else 1) < 30))=true:=by rfl)
  (L:(apos.endLine == cpos.line)=true:=by rfl) (hs:starEach (e::es) X.env=(false,eval e X.env)::starEach es X.env:=by rfl) (z:(backTo cpos (starEach es X.env)).any (·.1)=false:=by rfl) :
  PE X (.Call (.Attribute o name apos) (e::es) [] cpos) (tBM X.K T r to t):=by
 intro pins s σ H Q I h
 refine wpAny_Call_method_late J O L rfl (thn (ho pins s σ H _ I h) fun v s1 zz=>?_)
 obtain ⟨x,H1,Y,r1,ty,q1⟩:=zz
 obtain ⟨h1,h2⟩:=tyV_is Y r1 ty
 refine ⟨T,id,pa,slot,U,h1,h2,?_⟩
 have Z:=ha cpos pins s1 σ H1 _ Y q1
 rw [hs] at Z ⊢
 refine Calls.callWith_builtin (by show (false || (backTo cpos (starEach es X.env)).any (·.1))=false;rw [z] <;> rfl) (Calls.evalArgs_plain ?_)
 exact thn Z fun us s2 ⟨vs,H2,I2,r2,q2⟩=>hm pins s2 σ H2 x vs v us Q I2 r1 r2 q2
end
noncomputable def MtM (X:Cx) (id:String) (r:V->List V->Hp->VK->Prop):Prop :=
 ∀ (pins:List (Addr×Obj)) (s:Shared) (σ:St) (H:Hp) (x:V) (xs:List V) (v:Value) (us:List Value) (Q:VK),Inv X pins σ H s->RelV x v->Vals xs us->r x xs H Q ->
  wpAny (model X.prog X.w) X.A (call (.builtin id) (v::us)) (EP X pins σ Q) X.xe s
theorem Vals.one {x:V} {us:List Value} (r:Vals [x] us):∃ u,us=[u] /\ RelV x u:=ZDT r
theorem Vals.two {x y:V} {us:List Value} (r:Vals [x,y] us):∃ u v,us=[u,v] /\ RelV x u /\ RelV y v:=ZEA r
theorem Vals.zero:∀ {us:List Value},Vals [] us->us=[]
 | _,.nil=>rfl
theorem Vals.eraseIdx:∀ {xs:List V} {us:List Value} (i:Nat),Vals xs us->Vals (xs.eraseIdx i) (us.eraseIdx i)
 | _,_,_,.nil=>.nil
 | _,_,0,.cons _ t=>t
 | _,_,i+1,.cons r t=>.cons r (Vals.eraseIdx i t)
theorem Vals.reverse {xs:List V} {us:List Value} (h:Vals xs us):Vals xs.reverse us.reverse:=by
 induction h with
 | nil=>exact .nil
 | cons r t ih=>rw [List.reverse_cons,List.reverse_cons];exact Vals.append ih (.cons r .nil)
theorem len_erase {α:Type}:∀ (l:List α) (i:Nat),(l.eraseIdx i).length <= l.length
 | [],_=>yAB _
 | _::_,0=>yBB _
 | _::r,i+1=>Nat.succ_le_succ (len_erase r i)
section
variable {X:Cx} {pins:List (Addr×Obj)} {σ:St} {H:Hp} {s:Shared} {l b:Addr} {xs ys zs:List V}
theorem Inv.lset {its its':List Value} {n:Nat} {f:Array Value->Array Value} {t':Nat} (I:Inv X pins σ H s) (U:H l=some (.lst xs))
  (e:s.heap.get? l=some { cls:=.type "list",data:=.seq its.toArray n }) (L:f its.toArray=its'.toArray) (z:Vals ys its') (O:ys.length <= sizeLine) :
  Inv X pins σ (upd H l (.lst ys)) { s with heap:=s.heap.update l (Obj.mapSeq f),toks:=t' }:=by
 have q:=PySem.IsL.update e f
 rw [L] at q
 refine I.write (x:=l) (e:=l) (by rw [U];exact trivial) (.inl rfl) (fun b' u J Y=>(Heap.get?_update_other s.heap (Obj.mapSeq f) (Ne.symm J)).trans Y) ⟨_,q⟩ ?_
 exact ⟨O,its',_,z,q⟩
theorem Inv.lnew {its:List Value} {t':Nat} (I:Inv X pins σ H s) (z:Vals ys its) (J:ys.length <= sizeLine) :
  Inv X pins σ (upd H s.heap.objs.size (.lst ys)) { s with heap:=s.heap.push { cls:=.type "list",data:=.seq its.toArray },toks:=t' } :=
 I.laid (fun _ _ q=>Heap.get?_push_of_some _ q) (yAB _) ⟨J,its,0,z,Heap.get?_push_size _ rfl⟩
theorem Inv.fresh (I:Inv X pins σ H s):H s.heap.objs.size=none:=I.hok.fresh (yAB _)
theorem Inv.lstM (I:Inv X pins σ H s) (J:H l=some (.lst xs)):xs.length <= sizeLine /\ ∃ (its:List Value) (n:Nat),Vals xs its /\ xs.length=its.length /\ s.heap.get? l=some { cls:=.type "list",data:=.seq its.toArray n }:=by
 obtain ⟨z,its,n,r,e⟩:=I.hok l _ J
 exact ⟨z,its,n,r,r.length,e⟩
end
section
variable {X:Cx}
noncomputable def rAppend:V->List V->Hp->VK->Prop:=fun x vs H Q=>∃ l xs y,x=.ref l /\ vs=[y] /\ H l=some (.lst xs) /\ xs.length < sizeLine /\ Q .non (upd H l (.lst (xs++[y])))
theorem ZCH:MtM X "list.append" rAppend:=by
 intro pins s σ H x vs v us Q I L rv h
 obtain ⟨l,xs,y,rfl,rfl,J,O,q⟩:=h
 cases L
 obtain ⟨u,rfl,ru⟩:=rv.one
 obtain ⟨z,its,n,r,hl,e⟩:=I.lstM J
 refine call_meets F.slot_list_append ⟨_,e,rfl⟩ F.entry_list_append (F.args_list_append_2 _ _) (PySem.list_append l its.toArray n u (by rw [yAS];omega)) ⟨e,?_⟩
 refine ⟨.non,_,I.lset (its':=its++[u]) J e (by simp) (r.append (.cons ru .nil)) ?_,rfl,q⟩
 rw [yAC,yCC]
 omega
noncomputable def rPopAt:V->List V->Hp->VK->Prop:=fun x vs H Q=>∃ l xs i k y,x=.ref l /\ vs=[.int i] /\ H l=some (.lst xs) /\ -(2 ^ 63) <= i /\ i < 2 ^ 63 /\ seqIndex? i xs.length=some k /\ xs[k]?=some y /\ Q y (upd H l (.lst (xs.eraseIdx k)))
theorem mt_popAt:MtM X "list.pop" rPopAt:=by
 intro pins s σ H x vs v us Q I U rv h
 obtain ⟨l,xs,i,k,y,rfl,rfl,L,h1,h2,O,Y,q⟩:=h
 cases U
 obtain ⟨u,rfl,ru⟩:=rv.one
 obtain ⟨t,rfl⟩:=ru
 obtain ⟨z,its,n,r,hl,e⟩:=I.lstM L
 obtain ⟨w,hw,J⟩:=r.get Y
 refine call_meets F.slot_list_pop ⟨_,e,rfl⟩ F.entry_list_pop (F.args_list_pop_2 _ _)
  (MeetsSeq.list_pop_at l its.toArray n i t k w (fitsIndex_both h1 h2) (by rw [yAS,<- hl];exact O) (by rw [<- yBD];exact hw) (by rw [yAS];omega)) ⟨e,?_⟩
 refine ⟨y,_,I.lset (its':=its.eraseIdx k) L e ?_ (r.eraseIdx k) ?_,J,q⟩
 .show its.toArray.eraseIdxIfInBounds k=(its.eraseIdx k).toArray
  rw [List.eraseIdxIfInBounds_toArray]
 .have:=len_erase xs k
  omega
noncomputable def rReverse:V->List V->Hp->VK->Prop:=fun x vs H Q=>∃ l xs,x=.ref l /\ vs=[] /\ H l=some (.lst xs) /\ Q .non (upd H l (.lst xs.reverse))
theorem mt_reverse:MtM X "list.reverse" rReverse:=by
 intro pins s σ H x vs v us Q I O rv h
 obtain ⟨l,xs,rfl,rfl,L,q⟩:=h
 cases O
 have J:=rv.zero
 subst J
 obtain ⟨z,its,n,r,hl,e⟩:=I.lstM L
 refine call_meets F.slot_list_reverse ⟨_,e,rfl⟩ F.entry_list_reverse (F.args_list_reverse_1 _) (AutoSeq1.list_reverse_list_0 l its.toArray n (by rw [yAS];omega)) ⟨e,?_⟩
 refine ⟨.non,_,I.lset (its':=its.reverse) L e (by simp) r.reverse ?_,rfl,q⟩
 rw [yBS]
 omega
noncomputable def rCat:R2:=fun x y H Q=>∃ l b xs zs,x=.ref l /\ y=.ref b /\ H l=some (.lst xs) /\ H b=some (.lst zs) /\ xs.length+zs.length <= sizeLine /\ ∀ p,H p=none->Q (.ref p) (upd H p (.lst (xs++zs)))
theorem ZEd:OpR X (binaryOp .Add) rCat:=by
 intro pins s σ H x y v u Q I L ry h
 obtain ⟨l,b,xs,zs,rfl,rfl,hH,Y,hz,q⟩:=h
 cases L
 cases ry
 obtain ⟨z,its,n,r,hl,e⟩:=I.lstM hH
 obtain ⟨z2,J,n2,O,Z,U⟩:=I.lstM Y
 refine PySem.P.add_list e U ?_ (by rw [yAS,yAS];omega)
 have ea:its.toArray++J.toArray=(its++J).toArray:=by simp
 rw [ea]
 exact ⟨.ref _,_,I.lnew (t':=s.toks) (r.append O) (by rw [yAC];omega),rfl,q _ I.fresh⟩
end
section
variable {prog:Program} {w:World} {A:Around} {E:Value->Shared->Prop} {s:Shared}
set_option maxRecDepth 100000 in
end
section
variable {X:Cx}
end
end L2
namespace Att
open PySem PySem.W PySem.Calls PyProof.Rows
theorem ints_of_wellAll {P:Params} {h:Heap}:∀ (ns:List Int) (vs:List Value),WellAll P h vs (ns.map WData.int)->IntsAre vs ns:=by
 intro ns
 induction ns with
 | nil=>
  intro vs w
  rw [List.map_nil] at w
  cases w
  exact .nil
 | cons n ns ih=>
  intro vs w
  rw [yAV] at w
  cases w with
  | cons a b=>
   cases a
   exact .cons _ _ (ih _ b)
theorem script_of {l:OpenLaw} {n:Nat} (hn:l.most=some n) {P:Params} {h:Heap} {args:List WData} {z:List Value}
  (J:l.row.toRowW.claim.pre args=true) (Y:WellAll P h z args) :
  ∃ a vs ns,z=[Value.ref a] /\ args=[WData.list (ns.map WData.int)] /\ h.get? a=some { cls:=.type "list",data:=.seq vs.toArray } /\ IntsAre vs ns /\ ns.length <= n:=by
 have Z:WShape.hasAll [] args [.list .int]=true:=(pre_splitW J).1
 have hc:l.pre.holds [] { args:=args }=true:=(pre_splitW J).2
 obtain ⟨d,r,rfl,h1,h2⟩:=hasAllW_cons Z
 obtain rfl:=hasAllW_nil h2
 obtain ⟨xs,rfl,h3⟩:=hasW_list h1
 obtain ⟨ns,rfl⟩:=items_int h3
 have L:ns.length <= n:=by
  unfold OpenLaw.pre at hc
  have U:(WTm.not (.lt (.lit (.int (n:Int))) (.len (.arg 0)))).holds [] { args:=[.list (ns.map .int)] }=true:=by
   have U:=(holds_andW hc).1
   rw [hn] at U
   exact U
  have O:=condW_of U (w_not (w_lt w_lit (w_len_list (w_arg rfl))))
  rw [yAA] at O
  refine Nat.le_of_not_lt fun q=>?_
  have q':(n:Int) < ((ns.length:Nat):Int):=by omega
  first
   | (rw [decide_eq_true q'] at O;exact absurd O (by decide))
   | (simp at O;omega)
 cases Y with
 | cons w1 w2=>
  cases w2
  cases w1 with
  | list ho hall=>exact ⟨_,_,ns,rfl,rfl,ho,ints_of_wellAll ns _ hall,L⟩
theorem post_true (l:OpenLaw) (args:List WData):l.row.toRowW.claim.post args (.bool true) args=true :=
 postW_of (r:=l.row.toRowW) (X:=(true == true))
  (show WShape.has [] (.bool true) .bool=true by first | rfl | decide | simp [WShape.has,WShape.arms,WShape.armsAll])
  (show (WTm.eq .res (.lit (.bool true))).value [] { args:=args,res:=some (.bool true),after:=args }=some (.bool (true == true)) from w_eq_bool (w_res rfl) w_lit) rfl
theorem attach_call {l:OpenLaw} {n:Nat} {q:Program} {loose:List Str} {XP:(Str->Option Value)->Heap->Prop} {YP:World->Heap->Prop} {d:DefRec}
  (hn:l.most=some n) (a2:d.params.defaults=[])
  (call:∀ (w:World) (s₀ s₁:Shared) (mg mb:Str->Option Value) (O:Addr) (o:Obj) (pm cd J:Value) (a:Addr) (vs:List Value) (ns:List Int),
   Ground q loose [] XP w s₀ mg mb s₁.heap->YP w s₁.heap ->
   s₁.heap.get? O=some o->o.data=.func (docDef d.name d.params d.body d.scope pm cd J)->s₁.heap.CodeRec cd d.name->mg d.name=some (.ref O) ->
   s₁.heap.get? a=some { cls:=.type "list",data:=.seq vs.toArray }->IntsAre vs ns->ns.length <= n->s₁.gens=#[] ->
   codeAny (model l.prog w) callerA (.call (.ref O) ⟨[.ref a],[]⟩) (fun r s'=>r=.ok (.ret (.bool true)) /\ OldK s₁.heap s'.heap /\ s'.os=s₁.os /\ AllBare s'.gens) s₁) :
  WalkO q loose XP YP l.row.toRowW d [] (fun f vs=>PySem.call f vs):=by
 intro w s₀ s₁ mg mb G Y O o pm cd J dV kV ho hd a3 hD a1 hg args a4 as U a5 a6 a0 a7
 obtain rfl:dV=.none:=Dflts.none hD a2
 obtain rfl:kV=.none:=Dflts.noKw hD
 obtain ⟨a,vs,ns,rfl,rfl,Z,z,L⟩:=script_of hn U a0
 refine enter_call (codeAny_mono (call w s₀ s₁ mg mb O o pm cd J a vs ns G Y ho (fd_plain hd) a3 a1 Z z L hg) fun r s' hq=>?_)
 obtain ⟨rfl,h2,h3,h4⟩:=hq
 exact ⟨.inl ⟨.bool true,.bool true,[],rfl,fun _=>rfl,.bool true,post_true l _,fun _=>⟨List.Pairwise.nil,fun _ hm=>(nomatch hm)⟩⟩,h2,h3,h4⟩
section
variable {prog:Program} {w:World} {A:Around} {E:Value->Shared->Prop} {s:Shared} {K:Frag}
end
end Att
namespace L2
open PySem PySem.Spec PyProof.Rows
theorem ZDD:∀ {vs:List Value} {ns:List Int},IntsAre vs ns->Vals (ns.map V.int) vs
 | _,_,.nil=>.nil
 | _,_,.cons n t h=>.cons ⟨t,rfl⟩ (ZDD h)
end L2
namespace L2
open PySem PySem.Spec PyProof.Rows
noncomputable def ZAx (s:Stmt) (j:Nat):Stmt:=match s with
 | .ClassDef _ _ _ body _ _ _ _ _ _ _=>body.getD j (.Pass ⟨0,0,0,0⟩)
 | _=>.Pass ⟨0,0,0,0⟩
noncomputable def ZAP (s:Stmt):Arguments:=match s with
 | .FunctionDef _ a _ _ _ _ _ _ _ _=>a
 | _=>{ posonlyargs:=[],args:=[],vararg:=none,kwonlyargs:=[],kw_defaults:=[],kwarg:=none,defaults:=[] }
noncomputable def ZAM (s:Stmt):List Stmt:=match s with
 | .FunctionDef _ _ b _ _ _ _ _ _ _=>b
 | _=>[]
noncomputable def ZAD (s:Stmt):Scope:=match s with
 | .FunctionDef _ _ _ _ _ _ sc _ _ _=>sc
 | _=>{ kind:=.function,names:=[],isGenerator:=false,isCoroutine:=false }
noncomputable abbrev CX0:CXT:=fun _ _ _ _ _ _=>False
noncomputable abbrev E0:XK:=fun _ _ _=>False
theorem ZAY {X:Cx}:ZBF CX0 X E0:=fun _ _ _ _ _ _ _ h=>h.elim
structure Fun (K:W.Frag) (x qual:Str) (st:Stmt) (f:Addr) (fd:FuncData):Prop where
 ex:∃ (oc:Value) (od:Option Addr) (kV doc pm:Value) (an:Option Addr) (cdv ct:Value) (osl:Array (Option Value)),
  fd=W.fnOf x qual (ZAP st) (ZAM st) (ZAD st) .none kV doc pm an cdv ct /\ K.lookup f=some ⟨oc,od,.func fd,osl⟩ /\ W.codeIn K cdv qual=true
 kp:W.keepIn K (.ref f)=true
section
variable {P:Program} {w:World} {K:W.Frag} {mg:Str->Option Value} {base:Heap}
theorem Fun.ok {x qual:Str} {st:Stmt} {f:Addr} {fd:FuncData} {N ps:List Str} {k:Nat} {sp:Sp} (F:Fun K x qual st f fd) (S:FnScope N ps (ZAD st)) (len:∀ vs H Q E,sp vs H Q E->vs.length=ps.length)
  (J:∀ (z:Value) (A:Around) (outer:List Env) (s:Shared) (H:Hp) (vs:List V) (Q:VK) (E:XK),Room k (A.deeper (envOfC qual (ZAD st) s.heap.objs.size f z))->sp vs H Q E ->
   ∃ t,PSs (cxOf CX0 P w K mg base N qual (ZAD st) f z A outer s H E).nox (ZAM st) t /\ t { nx:=fun _ H'=>Q .non H',rt:=Q } (start N vs) H):FnOk P w K mg base CX0 (k+1) f fd ps sp:=by
 obtain ⟨oc,od,kV,Z,pm,an,z,ct,Y,rfl,lk,L⟩:=F.ex
 refine ZFp lk L S len fun A outer s H vs Q E U O=>?_
 obtain ⟨t,h,q⟩:=J z A outer s H vs Q E U O
 exact ⟨t,h.nox,q⟩
theorem Fun.binds {x qual:Str} {st:Stmt} {f:Addr} {fd:FuncData} {ps:List Str} (F:Fun K x qual st f fd)
  (h:∀ (kV z O:Value) (L:Option Addr) (J ct:Value) (us:List Value),us.length=ps.length->bindArgs (W.fnOf x qual (ZAP st) (ZAM st) (ZAD st) .none kV z O L J ct) ⟨us,[]⟩=pure (ps.zip us)):Binds K fd ps []:=by
 obtain ⟨oc,od,kV,z,O,L,J,ct,U,rfl,lk,Y⟩:=F.ex
 exact .all (h kV z O L J ct)
theorem ZAi {x qual:Str} {st:Stmt} {f:Addr} {oc:Value} {od O:Option Addr} {L:Array (Option Value)} {kV J U z ct:Value} (l:K.lookup f=some ⟨oc,od,.func (W.fnOf x qual (ZAP st) (ZAM st) (ZAD st) .none kV J U O z ct),L⟩)
  (c:W.codeIn K z qual=true) (k:W.keepIn K (.ref f)=true):Fun K x qual st f (W.fnOf x qual (ZAP st) (ZAM st) (ZAD st) .none kV J U O z ct):=⟨⟨oc,od,kV,J,U,O,z,ct,L,rfl,l,c⟩,k⟩
end
theorem ZEp {A:Around} {k:Nat} (z:Room k A):A.units+1 < cLine:=Nat.lt_of_le_of_lt (Nat.add_le_add_left (by decide:1 <= 64) _) z.units
theorem ZBA {n:Nat} (h:n <= 1000):n < sizeLine:=Nat.lt_of_le_of_lt h (by decide)
section
variable {X:Cx}
theorem pv (i:Nat) {x:Str} {pos:Pos} (O:X.N[i]?=some x:=by rfl) (J:Vis X.env.scope x:=by first | exact Or.inl rfl | exact Or.inr (Or.inl rfl) | exact Or.inr (Or.inr rfl)) (L:(x == ("__debug__":Str))=false:=by decide)
  (z:(x == ("__classdict__":Str))=false:=by decide):PE X (.Name x pos) (tVar i):=pe_var O J L z
end
noncomputable def Same (H H':Hp):Prop:=∀ b o,H b=some o->H' b=some o
theorem Same.refl (H:Hp):Same H H:=fun _ _ h=>h
theorem Same.trans {H H1 H2:Hp} (a:Same H H1) (b:Same H1 H2):Same H H2:=fun c o h=>b c o (a c o h)
theorem Same.free {H H':Hp} (e:Same H H') {l:Addr} (h:H' l=Option.none):H l=Option.none:=by
 cases q:H l with
 | none=>rfl
 | some o=>
  rw [e l o q] at h
  cases h
theorem Same.seq {K:W.Frag} {H H':Hp} {a:Addr} {xs:List V} (e:Same H H') (h:SqL K H a xs):SqL K H' a xs:=by
 rcases h with (h | ⟨o,h⟩) | h
 .exact .inl (.inl (e _ _ h))
 .exact .inl (.inr ⟨o,e _ _ h⟩)
 .exact .inr h
end L2
set_option maxHeartbeats 4000000
namespace L2
open PySem PySem.Spec PyProof.Rows
theorem natlt {a b:Addr} (h:a < b):@LT.lt Nat _ a b:=h
theorem ZDV {a b:Addr} {n:Nat} (h:a < n) (k:n <= b):a≠b:=yAI (yAU h k)
theorem ZA3:∀ (names:List (Str×NameKind)) (n:Nat) (acc:List (Str×Addr)),cellsFrom n names acc=cellsFrom n names []++acc
 | [],_,_=>rfl
 | (x,k)::r,n,acc=>by
  unfold cellsFrom
  split
  .rw [ZA3 r (n+1) ((x,n)::acc),ZA3 r (n+1) [(x,n)],yAY];rfl
  .exact ZA3 r n acc
theorem ZB7:∀ (names:List (Str×NameKind)) (n:Nat) (acc:List (Str×Addr)) (y:Str) (c:Addr),(y,c)∈cellsFrom n names acc->(y,c)∈acc∨((y,NameKind.cell)∈names /\ n <= c)
 | [],_,_,_,_,h=>.inl h
 | (x,k)::r,n,acc,y,c,h=>by
  unfold cellsFrom at h
  split at h
  .rename_i hk
   have z:k=.cell:=by simpa using hk
   rcases ZB7 r (n+1) _ y c h with h | ⟨h,l⟩
   .rcases yAE.mp h with e | h
    .cases e;subst z;exact .inr ⟨yAF,yAB _⟩
    .exact .inl h
   .exact .inr ⟨yAM _ h,Nat.le_of_succ_le l⟩
  .rcases ZB7 r n _ y c h with h | ⟨h,l⟩
   .exact .inl h
   .exact .inr ⟨yAM _ h,l⟩
noncomputable def closFrom (cells:List (Str×Addr)):List (Str×NameKind)->List (Str×Addr)->List (Str×Addr)
 | [],acc=>acc
 | (x,k)::r,acc=>if k == .free then closFrom cells r ((x,(cells.lookup x).getD 0)::acc) else closFrom cells r acc
theorem ZBj {cells:List (Str×Addr)}:∀ (names:List (Str×NameKind)) (acc:List (Str×Addr)) (y:Str) (c:Addr),(y,c)∈closFrom cells names acc->(y,c)∈acc∨((y,NameKind.free)∈names /\ c=(cells.lookup y).getD 0)
 | [],_,_,_,h=>.inl h
 | (x,k)::r,acc,y,c,h=>by
  unfold closFrom at h
  split at h
  .rename_i hk
   have z:k=.free:=by simpa using hk
   rcases ZBj r _ y c h with h | ⟨h,l⟩
   .rcases yAE.mp h with e | h
    .cases e;subst z;exact .inr ⟨yAF,rfl⟩
    .exact .inl h
   .exact .inr ⟨yAM _ h,l⟩
  .rcases ZBj r _ y c h with h | ⟨h,l⟩
   .exact .inl h
   .exact .inr ⟨yAM _ h,l⟩
theorem ZCK {cells:List (Str×Addr)}:∀ (names:List (Str×NameKind)) (acc:List (Str×Addr)) (p:Str×Addr),p∈acc->p∈closFrom cells names acc
 | [],_,_,h=>h
 | (x,k)::r,acc,p,h=>by
  unfold closFrom
  split
  .exact ZCK r _ p (yAM _ h)
  .exact ZCK r _ p h
theorem ZBk {cells:List (Str×Addr)}:∀ (names:List (Str×NameKind)) (acc:List (Str×Addr)) (y:Str),(y,NameKind.free)∈names->(y,(cells.lookup y).getD 0)∈closFrom cells names acc
 | [],_,_,h=>nomatch h
 | (x,k)::r,acc,y,h=>by
  unfold closFrom
  rcases yAE.mp h with e | h
  .cases e
   rw [if_pos (by rfl)]
   exact ZCK r _ _ yAF
  .split
   .exact ZBk r _ y h
   .exact ZBk r _ y h
theorem ZBS {α:Type}:∀ {l:List (Str×α)} {y:Str} {c:α},(y,c)∈l->∃ c',l.lookup y=some c'
 | (k,v)::r,y,c,h=>by
  rw [yBY]
  cases hb:y == k with
  | true=>exact ⟨v,rfl⟩
  | false=>
   rcases yAE.mp h with e | h
   .cases e;rw [beq_self_eq_true] at hb;cases hb
   .exact ZBS h
theorem ZB6 {env:Env} (f:Str×NameKind->List (Str×Addr)->Sem (ForInStep (List (Str×Addr))))
  (z:∀ name kind cs,f (name,kind) cs=if kind == .free then (do let a <- cellOf env name;pure (.yield ((name,a)::cs))) else pure (.yield cs)) :
  ∀ (names:List (Str×NameKind)) (acc:List (Str×Addr)),(∀ x,(x,NameKind.free)∈names->∃ c,env.cells.lookup x=some c)->forIn names acc f=(pure (closFrom env.cells names acc):Sem (List (Str×Addr)))
 | [],acc,_=>by rw [List.forIn_nil];rfl
 | (x,k)::r,acc,h=>by
  have L:∀ x,(x,NameKind.free)∈r->∃ c,env.cells.lookup x=some c:=fun y O=>h y (yAM _ O)
  rw [List.forIn_cons,z]
  unfold closFrom
  split
  .rename_i hk
   have J:k=.free:=by simpa using hk
   subst J
   obtain ⟨c,hc⟩:=h x yAF
   have e:cellOf env x=(pure c:Sem Addr):=by unfold cellOf;rw [hc]
   rw [e,hc]
   exact ZB6 f z r ((x,c)::acc) L
  .exact ZB6 f z r acc L
theorem closureFor_eq {scope:Scope} {env:Env} (h:∀ x,(x,NameKind.free)∈scope.names->∃ c,env.cells.lookup x=some c):closureFor scope env=pure (closFrom env.cells scope.names []):=by
 simp only [closureFor]
 rw [ZB6 _ (fun name kind cs=>by cases hk:kind == NameKind.free <;> simp [hk]) scope.names [] h]
 rfl
section
variable {M:Model} {A:Around} {E:Value->Shared->Prop} {s:Shared}
theorem newEnv_comp {scope:Scope} {globals:Addr} {cl:List (Str×Addr)} {qual:Str} {env:Env} {Q:Env->Shared->Prop}
  (z:Q { scope:=scope,locals:=s.heap.objs.size,globals:=globals,cells:=cellsFrom (s.heap.objs.size+1) scope.names cl,qual:=qual,func:=none,code:=env.code,frame:=env.frame,builtins:=env.builtins }
   { s with heap:=pushCells (s.heap.push { cls:=.type "dict",data:=.dict #[] }) scope.names }) :
  wpAny M A (newFunctionEnv scope globals cl [] qual none .none (some env)) Q E s:=by
 simp only [newFunctionEnv,Option.isSome_some,if_true]
 refine wpAny_bind (wpAny_alloc ?_)
 refine wpAny_bind (wpAny_layCells _ (fun name kind cells=>by cases hkc:kind == NameKind.cell <;> simp [hkc]) _ _ _ _ ?_)
 rw [show ({ s with heap:=s.heap.push { cls:=.type "dict",data:=.dict #[] } }:Shared).heap.objs.size=s.heap.objs.size+1 from Heap.size_push ..]
 rw [List.forIn_nil]
 exact wpAny_bind (wpAny_pure (wpAny_pure z))
end
theorem relabel_lookup {scope:Scope} {env:Env} (x:Str):(relabel scope env).names.lookup x=(scope.names.lookup x).map fun k=>if (k == .free && env.scope.kind == .function && env.kindOf x == some .cell)=true then NameKind.cell else k:=by
 unfold relabel
 dsimp only
 generalize scope.names=names
 induction names with
 | nil=>rfl
 | cons p r ih=>
  obtain ⟨n,k⟩:=p
  rw [yAV,yBY (as:=r)]
  cases hx:x == n with
  | true=>
   have e:x=n:=beq_iff_eq.mp hx
   subst e
   by_cases hc:(k == NameKind.free && env.scope.kind == .function && env.kindOf x == some .cell)=true
   .simp only [hc,if_true,yBY,hx,yCD]
   .simp only [hc,yCR,if_false,yBY,hx,yCD]
  | false=>
   by_cases hc:(k == NameKind.free && env.scope.kind == .function && env.kindOf n == some .cell)=true
   .simp only [hc,if_true,yBY,hx];exact ih
   .simp only [hc,yCR,if_false,yBY,hx];exact ih
noncomputable def ZDB (N:List Str) (osc:Scope) (k:Nat) (js:List Nat) (N':List Str) (sc:Scope):Bool :=
 decide (sc.kind=.function) && decide (N'.length=k+js.length) && decide N'.Nodup &&
 sc.names.all (fun p=>decide (sc.names.lookup p.1=some p.2) && (decide (p.2≠.free) || decide (osc.names.lookup p.1=some .cell) || decide (osc.names.lookup p.1=some .free))) &&
 (List.range js.length).all (fun i=>decide (js[i]?.bind (fun j=>N[j]?)=N'[k+i]?) && decide ((N'[k+i]?).bind (fun y=>sc.names.lookup y)=some .free))
structure CmpOk (N:List Str) (osc:Scope) (k:Nat) (js:List Nat) (N':List Str) (sc:Scope):Prop where
 kind:sc.kind=.function
 len:N'.length=k+js.length
 nd:N'.Nodup
 look:∀ p∈sc.names,sc.names.lookup p.1=some p.2
 fr:∀ y,(y,NameKind.free)∈sc.names->osc.names.lookup y=some .cell∨osc.names.lookup y=some .free
 js:∀ i j,js[i]?=some j->∃ y,N'[k+i]?=some y /\ N[j]?=some y /\ sc.names.lookup y=some .free
theorem cmpOk {N:List Str} {J:Scope} {k:Nat} {js:List Nat} {N':List Str} {sc:Scope} (h:ZDB N J k js N' sc=true):CmpOk N J k js N' sc:=by
 unfold ZDB at h
 simp only [yCE,decide_eq_true_eq,List.all_eq_true,Bool.or_eq_true,List.mem_range] at h
 obtain ⟨⟨⟨⟨h1,h2⟩,h3⟩,O⟩,U⟩:=h
 refine ⟨h1,h2,h3,fun p Y=>(O p Y).1,fun y Z=>?_,fun i j L=>?_⟩
 .rcases (O _ Z).2 with (z | z) | z
  .exact absurd rfl z
  .exact .inl z
  .exact .inr z
 .have hi:i < js.length:=(yAK.mp L).1
  obtain ⟨a,b⟩:=U i hi
  rw [L] at a
  cases e:N'[k+i]? with
  | none=>rw [e] at b;cases b
  | some y=>
   rw [e] at a b
   exact ⟨y,rfl,a,b⟩
noncomputable def ZDw (scope:Scope) (cl:List (Str×Addr)) (C:Addr) (env:Env):Env :=
 { scope:=relabel scope env,locals:=C,globals:=env.globals,cells:=cellsFrom (C+1) scope.names cl,qual:=env.qual,func:=none,code:=env.code,frame:=env.frame,builtins:=env.builtins }
noncomputable def ZBt (X:Cx) (N':List Str) (scope:Scope) (C:Addr) (fp:List Addr) (s2:Shared) (H2:Hp):Cx where
 prog:=X.prog
 w:=X.w
 K:=X.K
 mg:=X.mg
 base:=X.base
 A:=X.A
 N:=N'
 s₀:=s2
 H₀:=H2
 env:=ZDw scope (closFrom X.env.cells scope.names []) C X.env
 outer:=X.stack
 stack:=X.stack
 ex:=fp
 fn:=fun x=>decide (scope.names.lookup x=some .cell)
 calm:=X.calm
 pn:=[]
 xe:=fun _ _=>False
noncomputable def up (k:Nat) (js:List Nat) (σ:St):St:=List.replicate k none++js.map fun j=>(σ[j]?).getD none
section
variable {X:Cx} {pins:List (Addr×Obj)} {σ:St} {H:Hp} {s2:Shared} {k:Nat} {js:List Nat} {N':List Str} {scope:Scope} {fp:List Addr}
theorem comp_inv (hc:CmpOk X.N X.env.scope k js N' scope) (I:Inv X pins σ H s2) (a0:∀ b∈fp,FpOk X pins H b) (a4:∀ b∈fp,b < s2.heap.objs.size) {h3:Heap} (hz:h3.objs.size=s2.heap.objs.size+1) (a6:∀ b o,s2.heap.get? b=some o->h3.get? b=some o) :
  Inv (ZBt X N' scope (s2.heap.objs.size+1) fp s2 H) [] (up k js σ) H { s2 with heap:=pushCells (h3.push { cls:=.type "dict",data:=.dict #[] }) scope.names }:=by
 have O:∀ y,(y,NameKind.free)∈scope.names->∃ c,X.env.cells.lookup y=some c:=fun y hy=>I.ok.has y (hc.fr y hy)
 have a1:=cellsFrom_ok scope.names (h3.push { cls:=.type "dict",data:=.dict #[] }) (s2.heap.objs.size+2) [] ⟨fun _ _ hm=>(nomatch hm),List.Pairwise.nil⟩ (by rw [Heap.size_push,hz];exact yAB _)
 rw [Heap.size_push,hz] at a1
 have J:∀ y c,(ZDw scope (closFrom X.env.cells scope.names []) (s2.heap.objs.size+1) X.env).cells.lookup y=some c ->
   ((y,c)∈cellsFrom (s2.heap.objs.size+2) scope.names [] /\ (y,NameKind.cell)∈scope.names /\ s2.heap.objs.size+2 <= c)∨((y,NameKind.free)∈scope.names /\ X.env.cells.lookup y=some c):=fun y c e=>by
  have m:=PySem.mem_of_lookup e
  change (y,c)∈cellsFrom (s2.heap.objs.size+1+1) scope.names _ at m
  rw [ZA3] at m
  rcases yAR.mp m with m | m
  .rcases ZB7 _ _ _ _ _ m with z | ⟨z,l⟩
   .cases z
   .exact .inl ⟨m,z,l⟩
  .rcases ZBj _ _ _ _ m with z | ⟨z,l⟩
   .cases z
   .obtain ⟨c',e'⟩:=O y z
    rw [e'] at l
    exact .inr ⟨z,by rw [e'];exact congrArg some l.symm⟩
 have a5:∀ y c,X.env.cells.lookup y=some c->c < s2.heap.objs.size:=fun y c e=>by
  obtain ⟨v,q⟩:=I.cell y c e
  exact q.lt
 have U:∀ y,(y,NameKind.free)∈scope.names->∀ c,X.env.cells.lookup y=some c->(ZDw scope (closFrom X.env.cells scope.names []) (s2.heap.objs.size+1) X.env).cells.lookup y=some c:=fun y hy c e=>by
  have m:(y,c)∈cellsFrom (s2.heap.objs.size+1+1) scope.names (closFrom X.env.cells scope.names []):=by
   rw [ZA3]
   have q:=ZBk (cells:=X.env.cells) scope.names [] y hy
   rw [e] at q
   exact yAZ _ q
  obtain ⟨c',q⟩:=ZBS m
  rcases J y c' q with ⟨_,z,_⟩ | ⟨_,z⟩
  .have z1:=hc.look _ z
   have z2:=hc.look _ hy
   rw [z1] at z2
   cases z2
  .rw [e] at z
   cases z
   exact q
 have L:∀ b o,s2.heap.get? b=some o->(pushCells (h3.push { cls:=.type "dict",data:=.dict #[] }) scope.names).get? b=some o:=fun b o e=>pushCells_keeps _ _ b o (Heap.get?_push_of_some _ (a6 b o e))
 refine ⟨⟨I.ok.mod,hc.kind,I.ok.glob,I.ok.blt,yBB _,fun y z c h1 h2=>?_,fun y hy=>?_,fun y c h1 h2=>?_,I.ok.hd,I.ok.frames,.inl rfl,fun b hb=>⟨?_,fun y c e=>?_⟩,I.bs,yAG I.ok.bsz I.sz,fun b o e hb=>?_,fun b hb hs=>?_,I.stack,I.stkFree⟩,
  rfl,I.bare,Un.kept L,⟨fun _=>none,?_,fun i y v e1 e2 e3=>?_⟩,fun y c e=>?_,I.hok.fresh (yBB _),fun y c e=>?_,fun p hp=>absurd (show p∈([]:List (Addr×Obj)) from hp) (by simp),I.hok.kept L,?_⟩
 .
  rcases J y c h1 with ⟨a,_,l⟩ | ⟨_,a⟩ <;> rcases J z c h2 with ⟨b,_,l'⟩ | ⟨_,b⟩
  .exact name_of_addr a1.apart a b
  .have:=natlt (a5 z c b);omega
  .have:=natlt (a5 y c a);omega
  .exact I.ok.inj y z c a b
 .
  have Y:(relabel scope X.env).names.lookup y=some .cell∨(relabel scope X.env).names.lookup y=some .free:=hy
  rw [relabel_lookup] at Y
  have q:scope.names.lookup y=some .cell∨scope.names.lookup y=some .free:=by
   cases e:scope.names.lookup y with
   | none=>rw [e] at Y;rcases Y with z | z <;> cases z
   | some kk=>
    rw [e] at Y
    cases kk <;> first | exact .inl rfl | exact .inr rfl | (rcases Y with z | z <;> simp at z)
  rcases q with q | q
  .obtain ⟨c,e⟩:=ZDC (n:=s2.heap.objs.size+1+1) q
   have m:(y,c)∈cellsFrom (s2.heap.objs.size+1+1) scope.names (closFrom X.env.cells scope.names []):=by
    rw [ZA3]
    exact yBQ _ (PySem.mem_of_lookup e)
   exact ZBS m
  .have m:=PySem.mem_of_lookup q
   obtain ⟨c,e⟩:=O y m
   exact ⟨c,U y m c e⟩
 .
  have a7:scope.names.lookup y=some .cell:=of_decide_eq_true h1
  rcases J y c h2 with ⟨_,_,l⟩ | ⟨z,_⟩
  .show s2.heap.objs.size <= c
   omega
  .have:=hc.look _ z
   rw [a7] at this
   cases this
 .
  exact ZDV (a4 b hb) (yBB _)
 .rcases J y c e with ⟨_,_,l⟩ | ⟨_,z⟩
  .exact (ZDV (a4 b hb) (yAG (Nat.le_add_right _ 2) l)).symm
  .exact (a0 b hb).2.2.2.2.1 y c z
 .
  rcases (a0 b hb).2.2.2.1 with z | z
  .exact I.ok.noex b o e z
  .exact absurd (yAU (Heap.lt_size e) (yAG I.ok.bsz z)) (yBK _)
 .
  rcases yAE.mp (I.stkSub b hs) with z | z
  .exact (a0 b hb).2.1 z
  .exact (a0 b hb).2.2.1 z
 .
  have q:=(Heap.Ns.new h3 (.type "dict")).keeps (pushCells_keeps scope.names _)
  rw [hz] at q
  exact q
 .
  unfold up at e2
  have a2:k <= i:=by
   by_cases hi:i < k
   .rw [yAX (by simpa using hi),List.getElem?_replicate] at e2
    rw [if_pos hi] at e2
    cases e2
   .omega
  rw [yAW (by simpa using a2),yBX,yAJ] at e2
  cases ej:js[i-k]? with
  | none=>rw [ej] at e2;cases e2
  | some j=>
   rw [ej] at e2
   have Z:(σ[j]?).getD none=some v:=Option.some.inj e2
   have e4:σ[j]?=some (some v):=by
    cases q:σ[j]? with
    | none=>rw [q] at Z;cases Z
    | some z=>rw [q] at Z;exact congrArg some Z
   obtain ⟨y',n1,n2,n3⟩:=hc.js _ _ ej
   rw [Nat.add_sub_cancel' a2] at n1
   have n0:N'[i]?=some y:=e1
   rw [n1] at n0
   cases n0
   have hm:=PySem.mem_of_lookup n3
   have a3:Vis X.env.scope y:=.inr (hc.fr y hm)
   obtain ⟨m,hn,hl⟩:=I.loc
   obtain ⟨u,r,l⟩:=hl j y v n2 e4 a3
   refine ⟨u,r,?_⟩
   rcases l with ⟨kk,_⟩ | ⟨kk,c,ec,ic⟩
   .have a8:X.env.scope.names.lookup y=some .local:=kk
    rcases hc.fr y hm with z | z <;> (rw [a8] at z;cases z)
   .refine .inr ⟨?_,c,U y hm c ec,ic.keeps L⟩
    show (relabel scope X.env).names.lookup y=some .cell∨(relabel scope X.env).names.lookup y=some .free
    rw [relabel_lookup,n3]
    simp only [yCD]
    split
    .exact .inl rfl
    .exact .inr rfl
 .
  rcases J y c e with ⟨a,_,_⟩ | ⟨_,a⟩
  .exact ⟨none,(a1.empty y c a).1⟩
  .obtain ⟨v,q⟩:=I.cell y c a
   exact ⟨v,q.keeps L⟩
 .rcases J y c e with ⟨_,_,l⟩ | ⟨_,a⟩
  .exact I.hok.fresh (by omega)
  .exact I.freeC y c a
 .unfold up
  show _=N'.length
  rw [yAC,yBX,yAA,hc.len]
theorem comp_end {a0:St} {H':Hp} {s':Shared} {C D:Addr} {its:List Value} {n:Nat} {ys:List V} (I:Inv X pins σ H s2) (a1:∀ b∈fp,FpOk X pins H b) (hC:s2.heap.objs.size <= C) (hD:s2.heap.objs.size <= D) (a2:D≠C)
  (U:Inv (ZBt X N' scope C fp s2 H) [(D,{ cls:=.type "list",data:=.seq its.toArray n })] a0 H' s') (hv:Vals ys its) (hz:ys.length <= sizeLine) :
  H' D=none /\ ∀ h',Heap.SameBut C s'.heap h'->Inv X pins σ (upd H' D (.lst ys)) { s' with heap:=h' }:=by
 obtain ⟨eD,nD,_,_,_⟩:=U.pin (D,{ cls:=.type "list",data:=.seq its.toArray n }) (yAZ _ yAF)
 dsimp only at eD nD
 have nC:H' C=none:=U.free
 refine ⟨nD,fun h' hs=>?_⟩
 have O:∀ b o,s2.heap.get? b=some o->b≠C:=fun b o e=>ZDV (Heap.lt_size e) hC
 have a3:∀ b o,s2.heap.get? b=some o->b≠D:=fun b o e=>ZDV (Heap.lt_size e) hD
 have tr:∀ b u,H' b=some u->b≠D:=fun b u e z=>by rw [z,nD] at e;cases e
 have Y:∀ b u,H' b=some u->b≠C:=fun b u e z=>by rw [z,nC] at e;cases e
 have B:=U.base
 refine I.call' (s':={ s' with heap:=h' }) (ch:=fp) U.os ⟨fun b o e Z J hx=>?_,fun b o e Z J hx=>?_,fun b o e Z hx=>?_,fun b o e hx=>?_,fun b xs e=>?_,fun b o u e=>?_,fun b ps e=>?_⟩ (fun b u e=>?_) U.bare fun b J=>?_
 .exact (hs.2 b (O b o e)).trans (B.keep b o e Z J hx)
 .obtain ⟨sl,q⟩:=B.slot b o e Z J hx
  exact ⟨sl,(hs.2 b (O b o e)).trans q⟩
 .rw [ZAG (a3 b o e)]
  exact B.free b o e Z hx
 .obtain ⟨o',q⟩:=B.there b o e hx
  exact ⟨o',(hs.2 b (O b o e)).trans q⟩
 .have q:=B.tups b xs e
  rw [ZAG (tr b _ q)]
  exact q
 .have q:=B.frzs b o u e
  rw [ZAG (tr b _ q)]
  exact q
 .obtain ⟨more,q⟩:=B.tbls b ps e
  exact ⟨more,by rw [ZAG (tr b _ q)];exact q⟩
 .by_cases J:b=D
  .subst J
   rw [ZAF] at e
   cases e
   exact ⟨hz,its,n,hv,(hs.2 b a2).trans eD⟩
  .rw [ZAG J] at e
   refine (U.hok b u e).stay (fun c v L q=>(hs.2 c ?_).trans q) (fun c q=>by rw [ZAG (tr c _ q)];exact q) fun c xs q=>by rw [ZAG (tr c _ q)];exact q
   rcases L with rfl | L
   .exact Y c _ e
   .exact Y c _ L
 .obtain ⟨_,f1,_,f3,f4,f5⟩:=a1 b J
  exact ⟨f3,f1,f4,f5⟩
end
section
variable {prog:Program} {w:World} {A:Around} {R:Result->Shared->Prop} {s:Shared}
theorem codeAny_compLoop_any {elt z iter:Expr} {ifs:List Expr} {scope:Scope} {pos:Pos} {it a0:Value} {env:Env} (I:Nat->Shared->Prop)
  (a3:∀ n s,I n s->wpAny (model prog w) A (pyNext it) (fun r s₁=>match r with
   | none=>R (.ok .next) s₁
   | some v=>wpAny (model prog w) A (letOwnedTupleGo z it v) (fun _ J=>wpAny (model prog w) A (assign z env v) (fun _ s₂=>
     wpAny (model prog w) A (forIn ifs true fun c r=>if r=true then do let ok <- isTrue c env (eval c env);pure (ForInStep.yield ok) else pure (ForInStep.yield r)) (fun ok L=>
      if ok=true then wpAny (model prog w) A (eval elt env) (fun x O=>
       wpAny (model prog w) A (call (.builtin "list.append") [a0,x]) (fun _ U=>∃ m,m < n /\ I m U) (notedBy (model prog w) A env fun e s'=>R (.error e) s') O) (notedBy (model prog w) A env fun e s'=>R (.error e) s') L
      else ∃ m,m < n /\ I m L) (notedBy (model prog w) A env fun e s'=>R (.error e) s') s₂) (notedBy (model prog w) A env fun e s'=>R (.error e) s') J) (notedBy (model prog w) A env fun e s'=>R (.error e) s') s₁) (notedBy (model prog w) A env fun e s'=>R (.error e) s') s)
  (n:Nat) (h:I n s) :
  codeAny (model prog w) A (.compLoop (.ListComp elt [⟨z,iter,ifs,0⟩] scope pos) 0 it a0 env) R s:=by
 refine codeAny_loop rfl I (fun n s hI=>?_) n h
 show wpAny _ A ((compTurn (.ListComp elt [⟨z,iter,ifs,0⟩] scope pos) 0 it a0 env).onRaise (fun x=>do noteFrame x env;theTreesLotGoes x)) _ _ s
 refine wpAny_noted ?_
 rw [compTurn_list]
 refine wpAny_bind (wpAny_standAt (wpAny_bind (wpAny_mono (a3 n s hI) (fun r s₁ h₁=>?_) fun _ _ h'=>h')))
 cases r with
 | none=>exact wpAny_pure h₁
 | some v=>
  refine wpAny_bind (wpAny_mono h₁ (fun _ J Z=>?_) fun _ _ h'=>h')
  refine wpAny_bind (wpAny_mono Z (fun _ s₂ a2=>wpAny_bind (wpAny_mono a2 (fun ok L Y=>?_) fun _ _ h'=>h')) fun _ _ h'=>h')
  cases ok with
  | false=>exact wpAny_pure ⟨rfl,Y⟩
  | true=>exact wpAny_bind (wpAny_bind (wpAny_mono Y (fun x O a4=>wpAny_bind (wpAny_mono a4 (fun _ U a1=>wpAny_pure (wpAny_pure ⟨rfl,a1⟩)) fun _ _ h'=>h')) fun _ _ h'=>h'))
end
noncomputable def PIfs (X:Cx) (ifs:List Expr) (t:TT):Prop :=
 ∀ (pins:List (Addr×Obj)) (s:Shared) (σ:St) (H:Hp) (Q:Bool->Hp->Prop),Inv X pins σ H s->t σ H Q ->
  wpAny (model X.prog X.w) X.A (forIn ifs true fun c r=>if r=true then do let ok <- isTrue c X.env (eval c X.env);pure (ForInStep.yield ok) else pure (ForInStep.yield r)) (TP X pins σ Q) X.xe s
noncomputable def tYes:TT:=fun _ H Q=>Q true H
theorem ZA1 {X:Cx}:PIfs X [] tYes:=fun _ _ _ H _ I h=>wpAny_tests_nil ⟨H,I,h⟩
theorem pifs_one {X:Cx} {c:Expr} {t:TT} (hc:PT X c t):PIfs X [c] t:=fun pins s σ H Q I h=>wpAny_tests_one (hc pins s σ H Q I h)
noncomputable def ZEF (k:Nat) (js:List Nat) (wi:TI) (g:TG) (tt:TT) (te:TE):TE:=fun σ H Q=>wi σ H fun J H1=>∃ W:Nat->Nat->List V->St->Hp->Prop,(∃ m,W 0 m [] (up k js σ) H1) /\ ∀ i m ys σ H,W i m ys σ H ->
 (J.stop i H /\ ys.length <= sizeLine /\ ∀ p,H p=none->Q (.ref p) (upd H p (.lst ys))) ∨
 (J.go i H /\ ys.length < sizeLine /\ ∀ x H',J.yld i H x H'->g x σ H' fun σ2 H2=>tt σ2 H2 fun b H3=>if b=true then te σ2 H3 fun y H4=>∃ m',m' < m /\ W (i+1) m' (ys++[y]) σ2 H4 else ∃ m',m' < m /\ W (i+1) m' ys σ2 H3)
section
variable {X:Cx} {k:Nat} {js:List Nat} {N':List Str} {scope:Scope} {tg iter elt:Expr} {ifs:List Expr} {wi:TI} {g:TG} {tt:TT} {te:TE} {pos:Pos}
theorem comp_core {use:Option (Value->Sem Unit)} {Q':Value->Shared->Prop} (ai:X.calm=true) (hc:CmpOk X.N X.env.scope k js N' scope) (hi:PI X tg iter wi)
  (hg:∀ C fp s2 H2,PG (ZBt X N' scope C fp s2 H2) tg g) (ht:∀ C fp s2 H2,PIfs (ZBt X N' scope C fp s2 H2) ifs tt) (he:∀ C fp s2 H2,PE (ZBt X N' scope C fp s2 H2) elt te)
  {pins:List (Addr×Obj)} {s:Shared} {σ:St} {H:Hp} {Q:VK} (I:Inv X pins σ H s) (h:ZEF k js wi g tt te σ H Q)
  (fin:∀ (C D:Addr) (s':Shared) (m:Str->Option Value) (H':Hp) (ys:List V),s'.heap.Ns C m->C≠X.env.locals->C∉X.fs->D≠C->H' C=none->X.s₀.heap.objs.size <= C->(∀ x c,X.env.cells.lookup x=some c->c≠C)->(∀ p∈X.pn++pins,p.1≠C)->(∀ h',Heap.SameBut C s'.heap h'->Inv X pins σ (upd H' D (.lst ys)) { s' with heap:=h' })->Q (.ref D) (upd H' D (.lst ys)) ->
   compPost (model X.prog X.w) X.A X.xe use Q' (.ref D) C (.ok .next) s')
  (hs:∀ x,foldedSetIterable iter X.env x=pure x) (p':Pos) :
  wpAny (model X.prog X.w) X.A (comprehension (.ListComp elt [⟨tg,iter,ifs,0⟩] scope pos) scope X.env p' (newList []) false (eval iter X.env) use) Q' X.xe s:=by
 have ah:closureFor scope X.env=pure (closFrom X.env.cells scope.names []):=closureFor_eq fun y hy=>I.ok.has y (hc.fr y hy)
 refine wpAny_comprehension_free (g:=⟨tg,iter,ifs,0⟩) (gs:=[]) rfl hs ah hc.kind (fun x hx hl=>by rw [hc.look x hx,hl]) ?_
 refine thn (hi pins s σ H _ I h) fun v s1 h1=>thn h1 fun bf s2 h2=>?_
 obtain ⟨it,fp,tn,J,H2,e,Z,T,st2,f2,W,⟨m0,w0⟩,av⟩:=h2
 subst e
 have ag:∀ b∈fp,b < s2.heap.objs.size:=fun b U=>by
  obtain ⟨o,e,_⟩:=T.obj _ _ st2 b U
  exact Heap.lt_size e
 refine wpAny_newObj_type (newEnv_comp ?_)
 have ao:(s2.heap.push { cls:=.type "list",dict:=none,data:=.seq ([]:List Value).toArray }).objs.size=s2.heap.objs.size+1:=Heap.size_push ..
 have I3:=comp_inv (h3:=s2.heap.push { cls:=.type "list",dict:=none,data:=.seq ([]:List Value).toArray }) hc Z f2 ag ao (fun b o e=>Heap.get?_push_of_some _ e)
 dsimp only
 rw [ao]
 generalize hS4:({ s2 with heap:=pushCells ((s2.heap.push { cls:=.type "list",dict:=none,data:=.seq ([]:List Value).toArray }).push { cls:=.type "dict",data:=.dict #[] }) scope.names }:Shared)=s4 at I3 ⊢
 have a5:∀ b o,s2.heap.get? b=some o->s4.heap.get? b=some o:=fun b o e=>by
  rw [<- hS4]
  exact pushCells_keeps _ _ b o (Heap.get?_push_of_some _ (Heap.get?_push_of_some _ e))
 have an:s4.heap.get? s2.heap.objs.size=some { cls:=.type "list",data:=.seq ([]:List Value).toArray 0 }:=by
  rw [<- hS4]
  exact pushCells_keeps _ _ _ _ (Heap.get?_push_of_some _ (Heap.get?_push_size _ rfl))
 generalize hX':ZBt X N' scope (s2.heap.objs.size+1) fp s2 H2=X' at I3
 have a0:X'.env.locals=s2.heap.objs.size+1:=by rw [<- hX'];rfl
 have a9:X'.fs=frs X.stack:=by rw [<- hX'];rfl
 have ad:∀ a,s2.heap.objs.size <= a->a∉frs X.stack:=fun a ha U=>by
  rcases yAE.mp (Z.stkSub a U) with z | z
  .exact absurd z.symm (ZDV Z.lt ha)
  .exact Z.nofs ha z
 have af:∀ x c,X'.env.cells.lookup x=some c->c≠s2.heap.objs.size:=fun x c e z=>by
  obtain ⟨v,o,ho,hd⟩:=I3.cell x c e
  rw [z,an] at ho
  cases ho
  cases hd
 have aa:∀ {L:St} {H':Hp} {s':Shared} {its:List Value} {n:Nat},Inv X' [] L H' s'->s'.heap.get? s2.heap.objs.size=some { cls:=.type "list",data:=.seq its.toArray n }->H' s2.heap.objs.size=none ->
   Inv X' [(s2.heap.objs.size,{ cls:=.type "list",data:=.seq its.toArray n })] L H' s':=fun {L H' s' its n} J e nn=>J.pins_of fun p hp=>by
  have e':p=(s2.heap.objs.size,{ cls:=.type "list",data:=.seq its.toArray n }):=by simpa using hp
  subst e'
  refine ⟨e,nn,?_,?_,fun v z=>nomatch z⟩
  .rw [a0];exact yAI (yBW _)
  .rw [a9];exact ad _ (yAB _)
 have I4:=aa I3 an (Z.hok.fresh (yAB _))
 have a6:∀ {H':Hp} {o:Obj},(∀ b∈fp,H' b=none)->∀ b∈fp,FpOk X' [(s2.heap.objs.size,o)] H' b:=fun {H' o} hn b U=>by
  have aw:=ag b U
  refine ⟨hn b U,?_,?_,.inl (by rw [<- hX'];exact U),fun x c e z=>?_,fun p hp z=>?_⟩
  .rw [a0];exact ZDV aw (yBB _)
  .rw [a9]
   intro z
   rcases yAE.mp (Z.stkSub b z) with q | q
   .exact (f2 b U).2.1 q
   .exact (f2 b U).2.2.1 q
  .have q:=I3.ok.exf b (by rw [<- hX'];exact U)
   exact q.2 x c e z
  .rw [show X'.pn=[] by rw [<- hX'];rfl] at hp
   have e':p=(s2.heap.objs.size,o):=by simpa using hp
   subst e'
   exact absurd aw (by rw [<- z];exact yBK _)
 have al:∀ {L:St} {H':Hp} {s':Shared} {its:List Value} {n:Nat} {ys:List V},Inv X' [(s2.heap.objs.size,{ cls:=.type "list",data:=.seq its.toArray n })] L H' s'->Vals ys its->ys.length <= sizeLine->(∀ p,H' p=none->Q (.ref p) (upd H' p (.lst ys))) ->
   compPost (model X.prog X.w) X.A X.xe use Q' (.ref s2.heap.objs.size) (s2.heap.objs.size+1) (.ok .next) s':=fun {L H' s' its n ys} J hv hz hq=>by
  obtain ⟨m,hn,_⟩:=id J.loc
  rw [a0] at hn
  have nC:H' (s2.heap.objs.size+1)=none:=by rw [<- a0];exact J.free
  have J':Inv (ZBt X N' scope (s2.heap.objs.size+1) fp s2 H2) [(s2.heap.objs.size,{ cls:=.type "list",data:=.seq its.toArray n })] L H' s':=by rw [hX'];exact J
  obtain ⟨nD,E⟩:=comp_end Z f2 (yBB _) (yAB _) (yAI (yBW _)) J' hv hz
  refine fin _ _ s' m H' ys hn ?_ (Z.nofs (yBB _)) (yAI (yBW _)) nC (yAG Z.sz (yBB _)) (fun x c e z=>?_) (fun p hp z=>?_) E (hq _ nD)
  .exact (ZDV Z.lt (yBB _)).symm
  .obtain ⟨v,q⟩:=Z.cell x c e
   exact absurd z (ZDV q.lt (yBB _))
  .exact absurd z (ZDV (Heap.lt_size (Z.pin p hp).1) (yBB _))
 have O:X'.prog=X.prog:=by rw [<- hX'];rfl
 have hw:X'.w=X.w:=by rw [<- hX'];rfl
 have hK:X'.K=X.K:=by rw [<- hX'];rfl
 have Y:X'.calm=true:=by rw [<- hX'];exact ai
 have hA:X'.A=X.A:=by rw [<- hX'];rfl
 have ak:ZDw scope (closFrom X.env.cells scope.names []) (s2.heap.objs.size+1) X.env=X'.env:=by rw [<- hX'];rfl
 have aj:=hg (s2.heap.objs.size+1) fp s2 H2
 have ax:=ht (s2.heap.objs.size+1) fp s2 H2
 have au:=he (s2.heap.objs.size+1) fp s2 H2
 rw [hX'] at aj ax au
 have ac:∀ e s',X'.xe e s'->False:=fun e s' z=>by rw [<- hX'] at z;exact z
 have b5:X'.pn=[]:=by rw [<- hX'];rfl
 have b7:X'.s₀.heap.objs.size=s2.heap.objs.size:=by rw [<- hX'];rfl
 have a8:codeAny (model X.prog X.w) X.A (.compLoop (.ListComp elt [⟨tg,iter,ifs,0⟩] scope pos) 0 (.ref it) (.ref s2.heap.objs.size) X'.env) (compPost (model X.prog X.w) X.A X.xe use Q' (.ref s2.heap.objs.size) (s2.heap.objs.size+1)) s4:=by
  refine codeAny_compLoop_any (fun n s'=>∃ i L H' its nn ys,Inv X' [(s2.heap.objs.size,{ cls:=.type "list",data:=.seq its.toArray nn })] L H' s' /\ tn i s'.heap /\ (∀ b∈fp,H' b=none) /\ Vals ys its /\ W i n ys L H') ?_ m0
   ⟨0,_,H2,[],0,[],I4,T.keep _ _ _ st2 (fun b _ o e=>a5 b o e),fun b U=>(f2 b U).1,.nil,w0⟩
  rintro n s5 ⟨i,a7,H5,its,nn,ys,I5,b1,ar,hv,w5⟩
  rcases av i n ys a7 H5 w5 with ⟨ap,hz,hq⟩ | ⟨go,hz,step⟩
  .have d:=T.done X' O hw hK Y i _ s5 a7 H5 (fun _ _=>False) I5 (a6 ar) b1 ap
   rw [hA] at d
   refine wpAny_mono d (fun r s6 ⟨hr,I6⟩=>?_) fun _ _ z=>z.elim
   subst hr
   exact al I6 hv hz hq
  .have d:=T.item X' O hw hK Y i _ s5 a7 H5 (fun _ _=>False) I5 (a6 ar) b1 go
   rw [hA] at d
   refine wpAny_mono d (fun r s6 ⟨u,hr,h6⟩=>?_) fun _ _ z=>z.elim
   subst hr
   refine wpAny_mono h6 (fun _ s7 zz=>?_) fun _ _ z=>z.elim
   obtain ⟨x,H7,I7,r7,y7,ae,b8⟩:=zz
   have b2:=I7.pinned (a6 b8) (T.obj _ _ ae)
   have a1:=aj _ s7 a7 H7 x u _ b2 r7 (step x H7 y7)
   rw [O,hw,hA] at a1
   refine wpAny_mono a1 (fun _ s8 zz=>?_) fun _ _ z=>(ac _ _ z).elim
   obtain ⟨a4,H8,I8,q8⟩:=zz
   have a2:=ax _ s8 a4 H8 _ I8 q8
   rw [O,hw,hA] at a2
   refine wpAny_mono a2 (fun ok s9 ⟨H9,I9,q9⟩=>?_) fun _ _ z=>(ac _ _ z).elim
   have back:∀ {L:St} {H':Hp} {s':Shared},Inv X' ([(s2.heap.objs.size,({ cls:=.type "list",data:=.seq its.toArray nn }:Obj))]++ZDy fp s7.heap) L H' s'->tn (i+1) s'.heap /\ (∀ b∈fp,H' b=none):=fun {L H' s'} J=>by
    refine ⟨T.keep _ _ _ ae fun b U o e=>(J.pin (b,o) (yAZ _ (yAZ _ (ZCR U e)))).1,fun b U=>?_⟩
    obtain ⟨o,e,d⟩:=T.obj _ _ ae b U
    exact (J.pin (b,o) (yAZ _ (yAZ _ (ZCR U e)))).2.1
   cases ok with
   | false=>
    rw [if_neg yBG] at q9 ⊢
    obtain ⟨m',hm,w9⟩:=q9
    obtain ⟨t9,f9⟩:=back I9
    exact ⟨m',hm,i+1,a4,H9,its,nn,ys,I9.unpinned,t9,f9,hv,w9⟩
   | true=>
    rw [if_pos rfl] at q9 ⊢
    have a3:=au _ s9 a4 H9 _ I9 q9
    rw [O,hw,hA] at a3
    refine wpAny_mono a3 (fun uy s10 zz=>?_) fun _ _ z=>(ac _ _ z).elim
    obtain ⟨y,aq,b0,b9,m',hm,ba⟩:=zz
    obtain ⟨bd,bc⟩:=back b0
    have az:=b0.unpinned
    obtain ⟨eD,nD,_,_,_⟩:=az.pin (s2.heap.objs.size,{ cls:=.type "list",data:=.seq its.toArray nn }) (yAZ _ yAF)
    dsimp only at eD nD
    have hsz:its.length < sizeLine:=by rw [<- hv.length];exact hz
    refine wpAny_list_append_plain ⟨nn,eD⟩ (fun h' b4 ay=>?_) (by rw [yAS];omega)
    obtain ⟨n',e'⟩:=b4
    have b3:h'.get? s2.heap.objs.size=some { cls:=.type "list",data:=.seq (its++[uy]).toArray n' }:=by rw [e'];simp
    have be:Inv X' [] a4 aq s10:=az.pins_of fun p hp=>absurd hp (by simp)
    have b6:=be.turned (h':=h') (t':=s10.toks) (it:=s2.heap.objs.size) (fun b o U e=>(ay.2 b U).trans e) nD (by rw [a0];exact yAI (yBW _)) (.inr (by rw [b7];exact yAB _)) af (fun p hp=>absurd hp (by rw [b5];simp))
    refine ⟨m',hm,i+1,a4,aq,its++[uy],n',ys++[y],aa b6 b3 nD,T.keep _ _ _ bd fun b U o e=>?_,bc,hv.append (.cons b9 .nil),ba⟩
    exact (ay.2 b (ZDV (ag b U) (yAB _))).trans e
 have am:codeAny (model X.prog X.w) X.A (.compStart (.ListComp elt [⟨tg,iter,ifs,0⟩] scope pos) 0 (.ref it) (.ref s2.heap.objs.size) X'.env) (compPost (model X.prog X.w) X.A X.xe use Q' (.ref s2.heap.objs.size) (s2.heap.objs.size+1)) s4 :=
  codeAny_compStart_list a8 (T.self X.A 0 s4 _ _ (T.keep _ _ _ st2 (fun b _ o e=>a5 b o e)) a8)
 rw [<- ak] at am
 exact am
theorem ZB1 (z:X.calm=true) (hc:ZDB X.N X.env.scope k js N' scope=true) (hi:PI X tg iter wi)
  (Y:∀ C fp s2 H2,PG (ZBt X N' scope C fp s2 H2) tg g) (O:∀ C fp s2 H2,PIfs (ZBt X N' scope C fp s2 H2) ifs tt) (L:∀ C fp s2 H2,PE (ZBt X N' scope C fp s2 H2) elt te)
  (U:∀ x,foldedSetIterable iter X.env x=pure x:=by intro _;rfl):PE X (.ListComp elt [⟨tg,iter,ifs,0⟩] scope pos) (ZEF k js wi g tt te):=by
 intro pins s σ H Q I h
 rw [eval_ListComp]
 refine comp_core (use:=none) z (cmpOk hc) hi Y O L I h (fun C D s' m H' ys hn _ _ _ _ _ _ _ E q=>?_) U _
 exact ⟨m,hn,fun h' J=>⟨.ref D,_,E h' J,rfl,q⟩⟩
theorem ZBp {i:Nat} {x:Str} {px O:Pos} (hN:X.N.Nodup) (a1:X.N[i]?=some x) (hx:Loc X.env.scope x) (U:X.calm=true) (hc:ZDB X.N X.env.scope k js N' scope=true) (hi:PI X tg iter wi)
  (hg:∀ C fp s2 H2,PG (ZBt X N' scope C fp s2 H2) tg g) (ht:∀ C fp s2 H2,PIfs (ZBt X N' scope C fp s2 H2) ifs tt) (he:∀ C fp s2 H2,PE (ZBt X N' scope C fp s2 H2) elt te)
  (hs:∀ x,foldedSetIterable iter X.env x=pure x:=by intro _;rfl) (a2:swapsWith (.ListComp elt [⟨tg,iter,ifs,0⟩] scope pos) (some (.Name x px)) O.line X.env=pure true:=by rfl)
  (hf:X.fn x=true∨X.env.scope.names.lookup x=some .local:=by first | exact .inl rfl | exact .inr rfl | assumption) :
  PS X (.Assign [.Name x px] (.ListComp elt [⟨tg,iter,ifs,0⟩] scope pos) O) (tAsg (ZEF k js wi g tt te) (ZD4 i)):=by
 intro pins s σ H D I h
 rw [exec_Assign_Name_used _ _ _ _ a2]
 refine wpAny_bind (wpAny_standAt (wpAny_bind ?_))
 show wpAny _ X.A (do let _ <- comprehension (.ListComp elt [⟨tg,iter,ifs,0⟩] scope pos) scope X.env _ (newList []) false (eval iter X.env) (some (assign (.Name x px) X.env))) _ _ s
 refine wpAny_bind (wpAny_mono (comp_core (use:=some (assign (.Name x px) X.env)) (Q':=fun _ s'=>SP X pins D .next s') U (cmpOk hc) hi hg ht he I h (fun C Z s' m H' ys hn c1 c2 c3 c4 c5 c6 c7 E q=>?_) hs _) (fun _ s' hq=>wpAny_pure (wpAny_pure hq)) fun _ _ e=>e)
 have J:=E s'.heap (.refl ..)
 obtain ⟨Y,es,ep,eC,dC,rC⟩:=id hn
 have J':Inv X (pins++[(C,Y)]) σ (upd H' Z (.lst ys)) s':=J.pins_of fun p hp=>by
  rcases yAR.mp hp with z | z
  .exact J.pin p (yAZ _ z)
  .have e':p=(C,Y):=by simpa using z
   subst e'
   refine ⟨eC,?_,c1,c2,fun v z=>?_⟩
   .show upd H' Z _ C=none
    rw [ZAG (Ne.symm c3)]
    exact c4
   .have z':Y.data=.cell v:=z
    rw [dC] at z'
    cases z'
 show wpAny _ X.A (assign (.Name x px) X.env (.ref Z)) _ _ _
 refine wpAny_assign_Name (ZC5 (Q:=fun _ L=>∃ m,L.heap.Ns C m /\ ∀ h',Heap.SameBut C L.heap h'->SP X pins D .next { L with heap:=h' }) J' hN a1 hx (v:=.ref Z) (u:=.ref Z) rfl (fun L K'=>?_) hf)
 obtain ⟨e2,n2,_,_,_⟩:=K'.pin (C,Y) (yAZ _ (yAZ _ yAF))
 dsimp only at e2 n2
 refine ⟨m,⟨Y,es,ep,e2,dC,rC⟩,fun h' a0=>⟨_,_,K'.unpinned.turned (it:=C) (t':=L.toks) (fun b o hb e=>(a0.2 b hb).trans e) n2 c1 (.inr c5) c6 c7,q⟩⟩
end
mutual
noncomputable def Dp (K:W.Frag) (H:Hp):PyData->V->Prop
 | .none,v=>v=.non
 | .bool b,v=>v=.bl b
 | .int i,v=>v=.int i
 | .str x,v=>v=.str x
 | .list ds,v=>∃ a xs,v=.ref a /\ SqL K H a xs /\ DpAll K H ds xs
 | .tuple ds,v=>∃ a xs,v=.ref a /\ SqT K H a xs /\ DpAll K H ds xs
 | .dict _,_=>False
noncomputable def DpAll (K:W.Frag) (H:Hp):List PyData->List V->Prop
 | [],vs=>vs=[]
 | d::ds,vs=>∃ v r,vs=v::r /\ Dp K H d v /\ DpAll K H ds r
end
theorem DpAll.nil {K:W.Frag} {H:Hp}:DpAll K H [] []:=by unfold DpAll;rfl
theorem DpAll.cons {K:W.Frag} {H:Hp} {d:PyData} {ds:List PyData} {v:V} {vs:List V} (a:Dp K H d v) (t:DpAll K H ds vs):DpAll K H (d::ds) (v::vs):=by unfold DpAll;exact ⟨v,vs,rfl,a,t⟩
theorem DpAll.two {K:W.Frag} {H:Hp} {d e:PyData} {v u:V} (a:Dp K H d v) (b:Dp K H e u):DpAll K H [d,e] [v,u]:=.cons a (.cons b .nil)
theorem DpAll.ints {K:W.Frag} {H:Hp}:∀ (ns:List Int),DpAll K H (ns.map PyData.int) (ns.map V.int)
 | []=>.nil
 | n::r=>.cons (by unfold Dp;rfl) (DpAll.ints r)
theorem dp_int {K:W.Frag} {H:Hp} (i:Int):Dp K H (.int i) (.int i):=by unfold Dp;rfl
theorem dp_bl {K:W.Frag} {H:Hp} (i:Bool):Dp K H (.bool i) (.bl i):=by unfold Dp;rfl
theorem ZD6 {K:W.Frag} {H:Hp} {a:Addr} {xs:List V} {ds:List PyData} (h:SqL K H a xs) (t:DpAll K H ds xs):Dp K H (.list ds) (.ref a):=by unfold Dp;exact ⟨a,xs,rfl,h,t⟩
theorem dp_tup {K:W.Frag} {H:Hp} {a:Addr} {xs:List V} {ds:List PyData} (h:SqT K H a xs) (t:DpAll K H ds xs):Dp K H (.tuple ds) (.ref a):=by unfold Dp;exact ⟨a,xs,rfl,h,t⟩
section
variable {X:Cx} {pins:List (Addr×Obj)} {σ:St} {H:Hp} {s:Shared}
mutual
theorem Inv.reads (I:Inv X pins σ H s):∀ {d:PyData} {v:V} {u:Value},Dp X.K H d v->RelV v u->∃ as,Reads s.heap u d as
 | .none,_,_,h,r=>by unfold Dp at h;subst h;cases (show _=Value.none from r);exact ⟨_,.none⟩
 | .bool b,_,_,h,r=>by unfold Dp at h;subst h;cases (show _=Value.bool b from r);exact ⟨_,.bool b⟩
 | .int i,_,_,h,r=>by unfold Dp at h;subst h;obtain ⟨t,q⟩:=(show ∃ t,_=Value.int i t from r);subst q;exact ⟨_,.int i t⟩
 | .str x,_,_,h,r=>by unfold Dp at h;subst h;obtain ⟨t,q⟩:=(show ∃ t,_=Value.str x t from r);subst q;exact ⟨_,.str x t⟩
 | .list ds,_,_,h,r=>by
  unfold Dp at h
  obtain ⟨a,xs,q,L,t⟩:=h
  subst q
  cases (show _=Value.ref a from r)
  obtain ⟨its,rv,pl,_⟩:=I.list L
  obtain ⟨as,O⟩:=Inv.readsAll I t rv
  obtain ⟨o,n,U,z,_,J⟩:=pl
  exact ⟨_,.list U z J (by simpa using O)⟩
 | .tuple ds,_,_,h,r=>by
  unfold Dp at h
  obtain ⟨a,xs,q,L,t⟩:=h
  subst q
  cases (show _=Value.ref a from r)
  obtain ⟨its,rv,pl,_⟩:=I.tuple L
  obtain ⟨as,O⟩:=Inv.readsAll I t rv
  obtain ⟨o,U,z,n,J⟩:=pl
  exact ⟨_,.tuple U z J (by simpa using O)⟩
 | .dict _,_,_,h,_=>by unfold Dp at h;exact h.elim
theorem Inv.readsAll (I:Inv X pins σ H s):∀ {ds:List PyData} {vs:List V} {us:List Value},DpAll X.K H ds vs->Vals vs us->∃ as,ReadsAll s.heap us ds as
 | [],_,_,h,r=>by unfold DpAll at h;subst h;cases r;exact ⟨_,.nil⟩
 | _::_,_,_,h,r=>by
  unfold DpAll at h
  obtain ⟨v,q,e,a,t⟩:=h
  subst e
  cases r with
  | cons r1 r2=>
   obtain ⟨as,h1⟩:=Inv.reads I a r1
   obtain ⟨bs,h2⟩:=Inv.readsAll I t r2
   exact ⟨_,.cons h1 h2⟩
end
noncomputable def rEqD (K:W.Frag):R2:=fun x y H Q=>∃ d e,Dp K H d x /\ Dp K H e y /\ d.canLay0=true /\ e.canLay0=true /\ d.depth <= 64 /\ Q (.bl (PyData.eqv d e)) H
noncomputable def rNeD (K:W.Frag):R2:=fun x y H Q=>∃ d e,Dp K H d x /\ Dp K H e y /\ d.canLay0=true /\ e.canLay0=true /\ d.depth <= 64 /\ Q (.bl (!PyData.eqv d e)) H
theorem op_eqD (U:X.A.units+64 < cLine):OpR X (compareOp .Eq) (rEqD X.K):=by
 intro pins s σ H x y v u Q I J L h
 obtain ⟨d,e,h1,h2,c1,c2,dp,q⟩:=h
 obtain ⟨as,O⟩:=I.reads h1 J
 obtain ⟨bs,z⟩:=I.reads h2 L
 exact SeqAt.compareEq_reads O z c1 c2 (by omega) ⟨.bl _,H,I,rfl,q⟩
theorem ZEc (U:X.A.units+64 < cLine):OpR X (compareOp .NotEq) (rNeD X.K):=by
 intro pins s σ H x y v u Q I J L h
 obtain ⟨d,e,h1,h2,c1,c2,dp,q⟩:=h
 obtain ⟨as,O⟩:=I.reads h1 J
 obtain ⟨bs,z⟩:=I.reads h2 L
 exact SeqAt.compareNe_reads O z c1 c2 (by omega) ⟨.bl _,H,I,rfl,q⟩
end
section
variable {X:Cx} {x:Str} {pos:Pos}
theorem ZEL {C:Addr} (J:Gl X x) (h:X.mg x=some (.ref C)) (z:(x == ("__debug__":Str))=false:=by decide):PE X (.Name x pos) (tC (.ref C)):=pe_glob J h rfl z
theorem pe_bty {n:String} (J:Gl X x) (hm:X.mg x=none) (z:bootBuiltins x=some (.type n)) (hn:x≠"__name__":=by decide) (L:(x == ("__debug__":Str))=false:=by decide):PE X (.Name x pos) (tC (.ty n)):=pe_bltn J hm z rfl hn L
end
structure Fn (P:Program) (w:World) (K:W.Frag) (mg:Str->Option Value) (base:Heap) (CX:CXT) (x:Str) (k:Nat) (ps:List Str) (sp:Sp):Prop where
 ex:∃ f fd,FnOk P w K mg base CX k f fd ps sp /\ Binds K fd ps [] /\ W.keepIn K (.ref f)=true /\ mg x=some (.ref f)
structure Mt (P:Program) (w:World) (K:W.Frag) (mg:Str->Option Value) (base:Heap) (CX:CXT) (C:Addr) (m:Str) (k:Nat) (ps:List Str) (sp:Sp):Prop where
 cl:Cls K C
 ex:∃ f fd,FnOk P w K mg base CX k f fd ps sp /\ Binds K fd ps [] /\ Meth K C m f
structure Kl (P:Program) (w:World) (K:W.Frag) (mg:Str->Option Value) (base:Heap) (CX:CXT) (x:Str) (C:Addr) (k:Nat) (ps:List Str) (sp:Sp):Prop where
 mgC:mg x=some (.ref C)
 ex:∃ f fd,FnOk P w K mg base CX k f fd ps sp /\ Binds K fd ps [] /\ Mk K C f
section
variable {X:Cx} {CX:CXT} {k:Nat} {ps:List Str} {sp:Sp} {E:XK} {x m:Str} {C:Addr} {p pos apos:Pos} {e o:Expr} {es:List Expr} {ta:TE} {t:TA}
theorem ZAs (F:Fn X.prog X.w X.K X.mg X.base CX x k ps sp) (L:Room k X.A) (O:Gl X x) (hx:ZBF CX X E) (ha:PA X (e::es) t) (z:(x == ("__debug__":Str))=false:=by decide) (U:starEach (e::es) X.env=(false,eval e X.env)::starEach es X.env:=by rfl) (J:(backTo pos (starEach es X.env)).any (·.1)=false:=by rfl) :
  PE X (.Call (.Name x p) (e::es) [] pos) (ZFO sp [] E t):=by
 obtain ⟨f,fd,h1,h2,h3,Y⟩:=F.ex
 exact pe_call h1 L O Y h3 h2 .nil hx ha z U J
theorem ZDI {pl:Sem Bool} (F:Mt X.prog X.w X.K X.mg X.base CX C m k ps sp) (L:Room k X.A) (hx:ZBF CX X E) (O:PE X o ta) (ha:PA X (e::es) t)
  (z:starEach (e::es) X.env=(false,eval e X.env)::starEach es X.env:=by rfl) (J:(backTo pos (starEach es X.env)).any (·.1)=false:=by rfl)
  (U:eval (.Call (.Attribute o m apos) (e::es) [] pos) X.env=(do
   let ov <- eval o X.env
   standAt apos.atName
   let (f,first) <- holding [ov] (getMethod ov m pl)
   callWith pos f first (backTo pos (starEach (e::es) X.env)) (backToKw pos (keywordEach [] X.env))):=by rfl) :
  PE X (.Call (.Attribute o m apos) (e::es) [] pos) (ZEm C m sp [] E ta t):=by
 obtain ⟨f,fd,h1,h2,h3⟩:=F.ex
 exact pe_meth O F.cl h3 h1 L h2 .nil hx ha z J U
theorem ZAt {pl:Sem Bool} (F:Mt X.prog X.w X.K X.mg X.base CX C m k ps sp) (z:Room k X.A) (hx:ZBF CX X E) (J:PE X o ta)
  (L:eval (.Call (.Attribute o m apos) [] [] pos) X.env=(do
   let ov <- eval o X.env
   standAt apos.atName
   let (f,first) <- holding [ov] (getMethod ov m pl)
   callWith pos f first (backTo pos (starEach [] X.env)) (backToKw pos (keywordEach [] X.env))):=by rfl) :
  PE X (.Call (.Attribute o m apos) [] [] pos) (ZEm C m sp [] E ta tNil):=by
 obtain ⟨f,fd,h1,h2,h3⟩:=F.ex
 exact pe_meth0 J F.cl h3 h1 z h2 .nil hx L
theorem ZFl (F:Kl X.prog X.w X.K X.mg X.base CX x C k ps sp) (L:Room (k+1) X.A) (O:Gl X x) (hx:ZBF CX X E) (ha:PA X (e::es) t) (z:(x == ("__debug__":Str))=false:=by decide) (U:starEach (e::es) X.env=(false,eval e X.env)::starEach es X.env:=by rfl) (J:(backTo pos (starEach es X.env)).any (·.1)=false:=by rfl) :
  PE X (.Call (.Name x p) (e::es) [] pos) (ZEv C sp [] E t):=by
 obtain ⟨f,fd,h1,h2,h3⟩:=F.ex
 exact pe_make h3 h1 L O F.mgC h2 .nil hx ha z U J
end
noncomputable def ZDr:V->Bool
 | .ty _=>true
 | .ref _=>true
 | _=>false
noncomputable def cval:V->Value
 | .ty n=>.type n
 | .ref a=>.ref a
 | _=>.none
section
variable {X:Cx}
theorem call_isinst:ZCA X (.builtin "isinstance") (fun xs H Q=>∃ x c ty b,xs=[x,c] /\ ZDr c=true /\ TyOf X.K H x ty /\ PySem.W.kitOne X.K ty (cval c)=some b /\ Q (.bl b) H):=by
 intro pins s σ H xs us Q I r h
 obtain ⟨x,c,ty,b,rfl,hc,z,e,q⟩:=h
 obtain ⟨u,w',rfl,O,J⟩:=ZEA r
 have L:w'=cval c:=by
  cases c <;> first | (cases hc;done) | exact J
 subst L
 exact isinst_ok I O z e fun tk=>⟨.bl b,H,I.tok tk,rfl,q⟩
end
theorem ZAf {v:V} {σ:St} {H:Hp} {Q:VK}:tVar 0 (some v::σ) H Q=Q v H:=by
 apply propext;unfold tVar;simp
theorem ZAj {i:Nat} {a:Option V} {σ:St} {H:Hp} {Q:VK}:tVar (i+1) (a::σ) H Q=tVar i σ H Q:=by
 apply propext;unfold tVar;simp
theorem rI0_int {g:Int->Int->V} {i j:Int} {H:Hp} {Q:VK}:rI0 g (.int i) (.int j) H Q=Q (g i j) H:=by
 apply propext;unfold rI0;simp
theorem rI_int {C:Int->Int->Prop} {g:Int->Int->V} {i j:Int} {H:Hp} {Q:VK}:rI C g (.int i) (.int j) H Q=(C i j /\ Q (g i j) H):=by
 apply propext;unfold rI;simp
theorem rU_int {g:Int->V} {i:Int} {H:Hp} {Q:VK}:rU g (.int i) H Q=Q (g i) H:=by
 apply propext;unfold rU;simp
theorem rEq_int {i j:Int} {H:Hp} {Q:VK}:rEq (.int i) (.int j) H Q=Q (.bl (decide (i=j))) H:=by
 exact propext ⟨fun h=>by simpa using h.2,fun h=>⟨rfl,by simpa using h⟩⟩
theorem rNe_int {i j:Int} {H:Hp} {Q:VK}:rNe (.int i) (.int j) H Q=Q (.bl (!decide (i=j))) H:=by
 exact propext ⟨fun h=>by simpa using h.2,fun h=>⟨rfl,by simpa using h⟩⟩
theorem rEq_bl {i j:Bool} {H:Hp} {Q:VK}:rEq (.bl i) (.bl j) H Q=Q (.bl (decide (i=j))) H:=by
 exact propext ⟨fun h=>by simpa using h.2,fun h=>⟨rfl,by simpa using h⟩⟩
theorem rNe_bl {i j:Bool} {H:Hp} {Q:VK}:rNe (.bl i) (.bl j) H Q=Q (.bl (!decide (i=j))) H:=by
 exact propext ⟨fun h=>by simpa using h.2,fun h=>⟨rfl,by simpa using h⟩⟩
theorem rEq_str {i j:Str} {H:Hp} {Q:VK}:rEq (.str i) (.str j) H Q=Q (.bl (decide (i=j))) H:=by
 exact propext ⟨fun h=>by simpa using h.2,fun h=>⟨rfl,by simpa using h⟩⟩
theorem rNe_str {i j:Str} {H:Hp} {Q:VK}:rNe (.str i) (.str j) H Q=Q (.bl (!decide (i=j))) H:=by
 exact propext ⟨fun h=>by simpa using h.2,fun h=>⟨rfl,by simpa using h⟩⟩
theorem ex_bl {c:Bool} {Q:Bool->Prop}:(∃ k,V.bl c=V.bl k /\ Q k)=Q c:=by
 apply propext;simp
theorem ex_int {c:Int} {Q:Int->Prop}:(∃ k,V.int c=V.int k /\ Q k)=Q c:=by
 apply propext;simp
theorem ZAb {n:Nat} (h:n <= 1000):n <= sizeLine:=yBP (ZBA h)
theorem ZAK {H:Hp} {p:Addr} (h:H p=none) (o:HO):Same H (upd H p o):=fun b u q=>by rw [ZAG (ZAB q h)];exact q
noncomputable def getF (K:W.Frag) (f:Str) (x:V) (H:Hp) (Q:VK):Prop:=∃ a C dx fs v,x=.ref a /\ H a=some (.ins C dx fs) /\ Cls K C /\ NoAttr K C f /\ fs.lookup f=some v /\ Q v H
theorem tFld_eq {K:W.Frag} {ta:TE} {f:Str} {σ:St} {H:Hp} {Q:VK}:tFld K ta f σ H Q=ta σ H (fun x H1=>getF K f x H1 Q):=rfl
theorem getF_of {K:W.Frag} {f:Str} {a C dx:Addr} {fs:List (Str×V)} {v:V} {H:Hp} {Q:VK} (h:H a=some (.ins C dx fs)) (cl:Cls K C) (n:NoAttr K C f) (l:fs.lookup f=some v) (q:Q v H):getF K f (.ref a) H Q:=⟨a,C,dx,fs,v,rfl,h,cl,n,l,q⟩
noncomputable def setF (K:W.Frag) (f:Str) (x y:V) (H:Hp) (Q:Hp->Prop):Prop:=∃ a C dx fs,x=.ref a /\ H a=some (.ins C dx fs) /\ Cls K C /\ NoAttr K C f /\ fs.length < 1000 /\ Q (upd H a (.ins C dx (putF f y fs)))
theorem sFld_eq {K:W.Frag} {ta tv:TE} {f:Str} {D:Ends} {σ:St} {H:Hp}:sFld K ta tv f D σ H=tv σ H (fun y H1=>ta σ H1 fun x H2=>setF K f x y H2 (D.nx σ)):=rfl
theorem setF_of {K:W.Frag} {f:Str} {a C dx:Addr} {fs:List (Str×V)} {y:V} {H:Hp} {Q:Hp->Prop} (h:H a=some (.ins C dx fs)) (cl:Cls K C) (n:NoAttr K C f) (l:fs.length < 1000) (q:Q (upd H a (.ins C dx (putF f y fs)))):setF K f (.ref a) y H Q:=⟨a,C,dx,fs,rfl,h,cl,n,l,q⟩
theorem ZBi {K:W.Frag} {p:Addr} {xs:List V} {i:Int} {v:V} {H:Hp} {Q:VK} (h:SqL K H p xs) (e:atI xs i=some v) (q:Q v H):rIxL K (.ref p) (.int i) H Q:=⟨p,xs,i,v,rfl,rfl,h,e,q⟩
theorem ZBh {K:W.Frag} {p:Addr} {xs:List V} {i:Int} {v:V} {H:Hp} {Q:VK} (h:SqT K H p xs) (e:atI xs i=some v) (q:Q v H):rIxT K (.ref p) (.int i) H Q:=⟨p,xs,i,v,rfl,rfl,h,e,q⟩
theorem ZAq {α:Type} {xs:List α} {i:Int} {v:α} (z:0 <= i) (h:xs[i.toNat]?=some v):atI xs i=some v:=by
 have q:=atI_nat h
 rwa [Int.toNat_of_nonneg z] at q
theorem ZCw {xs:List Int} {i:Int} {v:Int} (z:0 <= i) (h:xs[i.toNat]?=some v):atI (xs.map V.int) i=some (.int v):=ZAq z (by rw [yAJ,h];rfl)
noncomputable def Nxt (P:Nat->List V->St->Hp->Prop) (n i:Nat) (ys:List V) (σ:St) (H:Hp):Prop:=∃ m',m' < n-i /\ m'=n-(i+1) /\ i+1 <= n /\ P (i+1) ys σ H
theorem Nxt.of {P:Nat->List V->St->Hp->Prop} {n i:Nat} {ys:List V} {σ:St} {H:Hp} (h:i < n) (p:P (i+1) ys σ H):Nxt P n i ys σ H:=⟨n-(i+1),by omega,rfl,h,p⟩
theorem comp_list {K:W.Frag} {a:Addr} {xs:List V} {g:TG} {tt:TT} {te:TE} {Q:VK} {σ0:St} {H:Hp} (P:Nat->List V->St->Hp->Prop) (U:P 0 [] σ0 H) (hl:∀ i ys σ H,i <= xs.length->P i ys σ H->SqL K H a xs /\ ys.length <= i) (Z:xs.length <= sizeLine)
  (L:∀ i ys x σ H,i < xs.length->xs[i]?=some x->P i ys σ H->g x σ H fun z H2=>tt z H2 fun b H3=>if b=true then te z H3 fun y H4=>Nxt P xs.length i (ys++[y]) z H4 else Nxt P xs.length i ys z H3)
  (O:∀ ys σ H,P xs.length ys σ H->∀ p,H p=none->Q (.ref p) (upd H p (.lst ys))) :
  ∃ W:Nat->Nat->List V->St->Hp->Prop,(∃ m,W 0 m [] σ0 H) /\ ∀ i m ys σ H,W i m ys σ H ->
   ((Itl K a).stop i H /\ ys.length <= sizeLine /\ ∀ p,H p=none->Q (.ref p) (upd H p (.lst ys))) ∨
   ((Itl K a).go i H /\ ys.length < sizeLine /\ ∀ x H',(Itl K a).yld i H x H'->g x σ H' fun z H2=>tt z H2 fun b H3=>if b=true then te z H3 fun y H4=>∃ J,J < m /\ W (i+1) J (ys++[y]) z H4 else ∃ J,J < m /\ W (i+1) J ys z H3):=by
 refine ⟨fun i m ys σ H=>m=xs.length-i /\ i <= xs.length /\ P i ys σ H,⟨xs.length,by simp,yAH _,U⟩,?_⟩
 rintro i m ys σ H ⟨rfl,hi,p⟩
 obtain ⟨q,Y⟩:=hl i ys σ H hi p
 by_cases hlt:i < xs.length
 .refine .inr ⟨⟨xs,xs[i],q,by simp [hlt]⟩,by omega,fun x H' y=>?_⟩
  obtain ⟨e,y⟩:=y
  subst e
  exact L i ys x σ _ hlt (y xs q) p
 .have e:i=xs.length:=by omega
  subst e
  exact .inl ⟨⟨xs,q,yAB _⟩,by omega,O ys σ H p⟩
theorem comp_range {lo:Int} {n:Nat} {g:TG} {tt:TT} {te:TE} {Q:VK} {σ0:St} {H:Hp} (P:Nat->List V->St->Hp->Prop) (U:P 0 [] σ0 H) (hl:∀ i ys σ H,P i ys σ H->ys.length <= i) (Z:n <= sizeLine)
  (L:∀ i ys σ H,i < n->P i ys σ H->g (.int (lo+i)) σ H fun z H2=>tt z H2 fun b H3=>if b=true then te z H3 fun y H4=>Nxt P n i (ys++[y]) z H4 else Nxt P n i ys z H3)
  (O:∀ ys σ H,P n ys σ H->∀ p,H p=none->Q (.ref p) (upd H p (.lst ys))) :
  ∃ W:Nat->Nat->List V->St->Hp->Prop,(∃ m,W 0 m [] σ0 H) /\ ∀ i m ys σ H,W i m ys σ H ->
   ((Itr lo n).stop i H /\ ys.length <= sizeLine /\ ∀ p,H p=none->Q (.ref p) (upd H p (.lst ys))) ∨
   ((Itr lo n).go i H /\ ys.length < sizeLine /\ ∀ x H',(Itr lo n).yld i H x H'->g x σ H' fun z H2=>tt z H2 fun b H3=>if b=true then te z H3 fun y H4=>∃ J,J < m /\ W (i+1) J (ys++[y]) z H4 else ∃ J,J < m /\ W (i+1) J ys z H3):=by
 refine ⟨fun i m ys σ H=>m=n-i /\ i <= n /\ P i ys σ H,⟨n,by simp,yAH _,U⟩,?_⟩
 rintro i m ys σ H ⟨rfl,hi,p⟩
 have Y:=hl i ys σ H p
 by_cases hlt:i < n
 .refine .inr ⟨hlt,by omega,fun x H' y=>?_⟩
  obtain ⟨e,y⟩:=y
  subst e y
  exact L i ys σ _ hlt p
 .have e:i=n:=by omega
  subst e
  exact .inl ⟨yAB _,by omega,O ys σ H p⟩
theorem Same.upd {H H':Hp} {p:Addr} {o:HO} (e:Same H H') (h:H p=none):Same H (upd H' p o):=fun b u q=>by rw [ZAG (ZAB q h)];exact e b u q
theorem Same.new {H H':Hp} {p:Addr} {o:HO} (e:Same H H') (h:H' p=none):Same H (L2.upd H' p o):=e.upd (e.free h)
theorem kit_same {K:W.Frag} {t:Value} (h:(t == t)=true):PySem.W.kitOne K t t=some true:=by unfold PySem.W.kitOne;rw [if_pos h]
theorem ZDQ (ns:List Int) (lo hi:Option Int):cutV (ns.map V.int) lo hi=(((ns.drop (HT.sIx ns.length 0 lo)).take (HT.sIx ns.length ns.length hi-HT.sIx ns.length 0 lo)).map V.int):=by
 unfold cutV
 rw [yAA,List.map_take,List.map_drop]
theorem ZCr {ns:List Int} {i:Nat} {x:V} (h:(ns.map V.int)[i]?=some x):∃ n,ns[i]?=some n /\ x=.int n:=by
 rw [yAJ] at h
 cases e:ns[i]? with
 | none=>rw [e] at h;cases h
 | some n=>rw [e] at h;exact ⟨n,rfl,(Option.some.inj h).symm⟩
theorem ixN_of {n:Nat} {i:Int} (z:0 <= i) (h:i < n):ixN n i=some i.toNat:=by unfold ixN;rw [if_pos z,if_pos h]
theorem ZCW {K:W.Frag} {a:Addr} {xs:List V} {lo hi:Option Int} {H:Hp} {Q:VK} (h:SqL K H a xs) (q:∀ p,H p=none->Q (.ref p) (upd H p (.lst (cutV xs lo hi)))):rSlL K (.ref a) lo hi H Q:=⟨a,xs,rfl,h,q⟩
noncomputable def forL (K:W.Frag) (g:TG) (tb:TS) (D:Ends) (σ:St) (x:V) (H1:Hp):Prop:=∃ a,x=.ref a /\ (∃ xs,SqL K H1 a xs) /\ ∃ W:Nat->Nat->St->Hp->Prop,(∃ m,W 0 m σ H1) /\ ∀ i m σ H,W i m σ H ->
 ((Itl K a).stop i H /\ D.nx σ H)∨((Itl K a).go i H /\ ∃ N:St->Hp->Prop,(∀ σ' H',N σ' H'->∃ m',m' < m /\ W (i+1) m' σ' H') /\ ∀ x H',(Itl K a).yld i H x H'->g x σ H' fun σ2 H2=>tb { D with nx:=N,ct:=N,bk:=D.nx } σ2 H2)
theorem tForL_eq {K:W.Frag} {tl:TE} {g:TG} {tb:TS} {D:Ends} {σ:St} {H:Hp}:tFor (ZFT K tl) g tb D σ H=tl σ H (fun x H1=>forL K g tb D σ x H1):=rfl
theorem ZCg {K:W.Frag} {g:TG} {tb:TS} {D:Ends} {σ:St} {H:Hp} {a:Addr} {xs:List V} (h:SqL K H a xs) (z:Nat->St->Hp->Prop) (L:z 0 σ H) (hl:∀ i σ H,i <= xs.length->z i σ H->SqL K H a xs)
  (U:∀ i x σ H,xs[i]?=some x->z i σ H->g x σ H fun J H2=>tb { D with nx:=z (i+1),ct:=z (i+1),bk:=D.nx } J H2) (O:∀ σ H,z xs.length σ H->D.nx σ H):forL K g tb D σ (.ref a) H :=
 ⟨a,rfl,⟨xs,h⟩,for_list z L hl U O⟩
noncomputable def forR (lo:Int) (g:TG) (tb:TS) (D:Ends) (σ:St) (n:Nat) (H1:Hp):Prop:=∃ W:Nat->Nat->St->Hp->Prop,(∃ m,W 0 m σ H1) /\ ∀ i m σ H,W i m σ H ->
 ((Itr lo n).stop i H /\ D.nx σ H)∨((Itr lo n).go i H /\ ∃ N:St->Hp->Prop,(∀ σ' H',N σ' H'->∃ m',m' < m /\ W (i+1) m' σ' H') /\ ∀ x H',(Itr lo n).yld i H x H'->g x σ H' fun σ2 H2=>tb { D with nx:=N,ct:=N,bk:=D.nx } σ2 H2)
noncomputable def forR1 (g:TG) (tb:TS) (D:Ends) (σ:St) (x:V) (H1:Hp):Prop:=∃ j:Int,[x]=[.int j] /\ -(2 ^ 62) <= j /\ j < 2 ^ 62 /\ forR 0 g tb D σ j.toNat H1
noncomputable def forR2 (g:TG) (tb:TS) (D:Ends) (σ:St) (x y:V) (H1:Hp):Prop:=∃ i j:Int,[x,y]=[.int i,.int j] /\ (-(2 ^ 62) <= i /\ i < 2 ^ 62 /\ -(2 ^ 62) <= j /\ j < 2 ^ 62) /\ forR i g tb D σ (j-i).toNat H1
theorem tForR1_eq {t:TE} {g:TG} {tb:TS} {D:Ends} {σ:St} {H:Hp}:tFor (ZFm (ZCl t tNil)) g tb D σ H=t σ H (fun x H1=>forR1 g tb D σ x H1):=rfl
theorem tForR2_eq {t u:TE} {g:TG} {tb:TS} {D:Ends} {σ:St} {H:Hp}:tFor (iRng2 (ZCl t (ZCl u tNil))) g tb D σ H=t σ H (fun x H1=>u σ H1 fun y H2=>forR2 g tb D σ x y H2):=rfl
theorem ZER {lo:Int} {n:Nat} {g:TG} {tb:TS} {D:Ends} {σ:St} {H:Hp} (z:Nat->St->Hp->Prop) (L:z 0 σ H)
  (U:∀ i σ H,i < n->z i σ H->g (.int (lo+i)) σ H fun J H2=>tb { D with nx:=z (i+1),ct:=z (i+1),bk:=D.nx } J H2) (O:∀ σ H,z n σ H->D.nx σ H):forR lo g tb D σ n H:=for_range z L U O
theorem ZDt {j:Int} {g:TG} {tb:TS} {D:Ends} {σ:St} {H:Hp} (h:-1000 <= j /\ j <= 1000) (q:forR 0 g tb D σ j.toNat H):forR1 g tb D σ (.int j) H:=⟨j,rfl,by omega,by omega,q⟩
noncomputable def ZFI (K:W.Frag) (g:TG) (tt:TT) (te:TE) (σ0:St) (Q:VK) (x:V) (H1:Hp):Prop:=∃ a,x=.ref a /\ (∃ xs,SqL K H1 a xs) /\ ∃ W:Nat->Nat->List V->St->Hp->Prop,(∃ m,W 0 m [] σ0 H1) /\ ∀ i m ys σ H,W i m ys σ H ->
 ((Itl K a).stop i H /\ ys.length <= sizeLine /\ ∀ p,H p=none->Q (.ref p) (upd H p (.lst ys))) ∨
 ((Itl K a).go i H /\ ys.length < sizeLine /\ ∀ x H',(Itl K a).yld i H x H'->g x σ H' fun σ2 H2=>tt σ2 H2 fun b H3=>if b=true then te σ2 H3 fun y H4=>∃ m',m' < m /\ W (i+1) m' (ys++[y]) σ2 H4 else ∃ m',m' < m /\ W (i+1) m' ys σ2 H3)
theorem tCompL_eq {k:Nat} {js:List Nat} {K:W.Frag} {tl:TE} {g:TG} {tt:TT} {te:TE} {σ:St} {H:Hp} {Q:VK}:ZEF k js (ZFT K tl) g tt te σ H Q=tl σ H (fun x H1=>ZFI K g tt te (up k js σ) Q x H1):=rfl
theorem ZBT {K:W.Frag} {a:Addr} {xs:List V} {g:TG} {tt:TT} {te:TE} {Q:VK} {σ0:St} {H:Hp} (h:SqL K H a xs) (U:xs.length <= 1000) (P:Nat->List V->St->Hp->Prop) (O:P 0 [] σ0 H) (hl:∀ i ys σ H,i <= xs.length->P i ys σ H->SqL K H a xs /\ ys.length <= i)
  (J:∀ i ys x σ H,i < xs.length->xs[i]?=some x->P i ys σ H->g x σ H fun z H2=>tt z H2 fun b H3=>if b=true then te z H3 fun y H4=>Nxt P xs.length i (ys++[y]) z H4 else Nxt P xs.length i ys z H3)
  (L:∀ ys σ H,P xs.length ys σ H->∀ p,H p=none->Q (.ref p) (upd H p (.lst ys))):ZFI K g tt te σ0 Q (.ref a) H:=⟨a,rfl,⟨xs,h⟩,comp_list P O hl (ZAb U) J L⟩
noncomputable def compR (lo:Int) (g:TG) (tt:TT) (te:TE) (σ0:St) (Q:VK) (n:Nat) (H1:Hp):Prop:=∃ W:Nat->Nat->List V->St->Hp->Prop,(∃ m,W 0 m [] σ0 H1) /\ ∀ i m ys σ H,W i m ys σ H ->
 ((Itr lo n).stop i H /\ ys.length <= sizeLine /\ ∀ p,H p=none->Q (.ref p) (upd H p (.lst ys))) ∨
 ((Itr lo n).go i H /\ ys.length < sizeLine /\ ∀ x H',(Itr lo n).yld i H x H'->g x σ H' fun σ2 H2=>tt σ2 H2 fun b H3=>if b=true then te σ2 H3 fun y H4=>∃ m',m' < m /\ W (i+1) m' (ys++[y]) σ2 H4 else ∃ m',m' < m /\ W (i+1) m' ys σ2 H3)
noncomputable def compR1 (g:TG) (tt:TT) (te:TE) (σ0:St) (Q:VK) (x:V) (H1:Hp):Prop:=∃ j:Int,[x]=[.int j] /\ -(2 ^ 62) <= j /\ j < 2 ^ 62 /\ compR 0 g tt te σ0 Q j.toNat H1
theorem tCompR1_eq {k:Nat} {js:List Nat} {t:TE} {g:TG} {tt:TT} {te:TE} {σ:St} {H:Hp} {Q:VK}:ZEF k js (ZFm (ZCl t tNil)) g tt te σ H Q=t σ H (fun x H1=>compR1 g tt te (up k js σ) Q x H1):=rfl
theorem compR1_of {j:Int} {g:TG} {tt:TT} {te:TE} {Q:VK} {σ0:St} {H:Hp} (h:-1000 <= j /\ j <= 1000) (P:Nat->List V->St->Hp->Prop) (O:P 0 [] σ0 H) (hl:∀ i ys σ H,P i ys σ H->ys.length <= i)
  (J:∀ i ys σ H,i < j.toNat->P i ys σ H->g (.int (0+i)) σ H fun z H2=>tt z H2 fun b H3=>if b=true then te z H3 fun y H4=>Nxt P j.toNat i (ys++[y]) z H4 else Nxt P j.toNat i ys z H3)
  (L:∀ ys σ H,P j.toNat ys σ H->∀ p,H p=none->Q (.ref p) (upd H p (.lst ys))):compR1 g tt te σ0 Q (.int j) H:=⟨j,rfl,by omega,by omega,comp_range P O hl (ZAb (by omega)) J L⟩
section
variable {X:Cx}
end
theorem gCons_eq {t:TG} {u:TGs} {v:V} {r:List V} {σ:St} {H:Hp} {Q:St->Hp->Prop}:ZFo t u (v::r) σ H Q=t v σ H (fun z H'=>u r z H' Q):=by
 apply propext;unfold ZFo;constructor
 .rintro ⟨J,L,e,q⟩;cases e;exact q
 .exact fun q=>⟨v,r,rfl,q⟩
theorem gNil_eq {σ:St} {H:Hp} {Q:St->Hp->Prop}:gNil [] σ H Q=Q σ H:=by
 apply propext;unfold gNil;simp
theorem ZDP {K:W.Frag} {n:Nat} {t:TGs} {a:Addr} {xs:List V} {σ:St} {H:Hp} {Q:St->Hp->Prop} (h:SqT K H a xs) (l:xs.length=n) (q:t xs σ H Q):gTup K n t (.ref a) σ H Q:=⟨a,xs,rfl,h,l,q⟩
section
variable {X:Cx} {tg l e o:Expr} {es:List Expr} {tl te to:TE} {t:TA} {pos apos cpos:Pos} {f:Str}
theorem ix_listK (K:W.Frag) (h:X.K=K:=by rfl):IxR X (rIxL K):=h ▸ ZBK
theorem ZEO (K:W.Frag) (h:X.K=K:=by rfl):IxR X (rIxT K):=h ▸ ZCD
theorem pi_listK (K:W.Frag) (hl:PE X l tl) (h:X.K=K:=by rfl):PI X tg l (ZFT K tl):=h ▸ ZAv hl
theorem call_len_seqK (K:W.Frag) (h:X.K=K:=by rfl):ZCA X (.builtin "len") (fun xs H Q=>∃ p ys,xs=[.ref p] /\ (SqL K H p ys∨SqT K H p ys) /\ Q (.int ys.length) H):=h ▸ ZAJ
theorem ZB9 (K:W.Frag) (h:X.K=K:=by rfl):ZCA X (.type "list") (fun xs H Q=>∃ p ys,xs=[.ref p] /\ (SqL K H p ys∨SqT K H p ys) /\ ∀ l,H l=none->Q (.ref l) (upd H l (.lst ys))):=h ▸ call_list_of
theorem pg_tupK (K:W.Frag) {k:Nat} {z:TGs} {n:Nat} (hc:X.calm=true) (L:PGs X es z)
  (hn:(assignEach es X.env).length=n:=by rfl) (J:(assignEach es X.env).findIdx? (·.1)=none:=by rfl) (h:X.K=K:=by rfl):PG X (.Tuple es k pos) (gTup K n z):=h ▸ ZEa hc L hn J
end
section
variable {X:Cx}
noncomputable def rBits:V->List V->Hp->VK->Prop:=fun x vs H Q=>∃ i,x=.int i /\ vs=[] /\ Q (.int (Builtin.Int.intBits i:Nat)) H
theorem mt_bitlen:MtR X "int.bit_length" rBits:=by
 intro pins s σ H x vs v us Q I z rv h
 obtain ⟨i,rfl,rfl,q⟩:=h
 obtain ⟨t,rfl⟩:=z
 cases rv.zero
 refine call_gives F.slot_int_bit_length (typeIs_int s i t) F.entry_int_bit_length (F.args_int_bit_length_1 _) (PySem.AutoIntG2.int_bit_length_int_0 i t) ?_
 exact ⟨.int (Builtin.Int.intBits i:Nat),_,I.tok _,⟨_,rfl⟩,q⟩
theorem bits_nat (n:Nat) (h:n≠0):Builtin.Int.intBits (n:Int)=n.log2+1:=by
 unfold Builtin.Int.intBits
 rw [if_neg (by simpa using h)]
 rfl
theorem bits_le {n:Int} {k:Nat} (z:0 <= n):Builtin.Int.intBits n <= k↔n < 2 ^ k:=by
 obtain ⟨m,rfl⟩:∃ m:Nat,n=m:=⟨n.toNat,by omega⟩
 rcases Nat.eq_zero_or_pos m with e | e
 .subst e
  have:(0:Int) < 2 ^ k:=Int.pow_pos (by decide)
  exact ⟨fun _=>this,fun _=>yAH _⟩
 .rw [bits_nat _ (by omega),Nat.succ_le_iff,Nat.log2_lt (by omega)]
  have:((2 ^ k:Nat):Int)=2 ^ k:=by simp
  omega
theorem tAug_eq {i:Nat} {te:TE} {ti:TIp} {D:Ends} {σ:St} {H:Hp}:tAug i te ti D σ H=tVar i σ H (fun x J=>te σ J fun y H1=>ti x y H1 fun z H2=>D.nx (σ.set i (some z)) H2):=rfl
theorem ipI_int {f:Int->Int->Int} {i j:Int} {H:Hp} {Q:VK}:ipI f (.int i) (.int j) H Q=Q (.int (f i j)) H:=by
 refine propext ⟨?_,fun q=>⟨i,j,rfl,rfl,q⟩⟩
 rintro ⟨a,b,z,J,q⟩
 cases z;cases J;exact q
theorem cx_K {CX:CXT} {P:Program} {w:World} {K:W.Frag} {mg:Str->Option Value} {base:Heap} {N:List Str} {qual:Str} {scope:Scope} {f:Addr} {cd:Value} {A:Around} {outer:List Env} {s:Shared} {H:Hp} {E:XK}:(cxOf CX P w K mg base N qual scope f cd A outer s H E).K=K:=rfl
noncomputable def insV (xs:List V) (i:Int) (y:V):List V:=let k:=if i < 0 then (i+(xs.length:Int)).toNat else min i.toNat xs.length;xs.take k++y::xs.drop k
noncomputable def rInsert:V->List V->Hp->VK->Prop:=fun x vs H Q=>∃ l xs i y,x=.ref l /\ vs=[.int i,y] /\ H l=some (.lst xs) /\ xs.length < sizeLine /\ (-(2 ^ 62) <= i /\ i < 2 ^ 62) /\ Q .non (upd H l (.lst (insV xs i y)))
theorem ins_arr (its:List Value) (k:Nat) (u:Value) (z:k <= its.length):(its.toArray.extract 0 k).push u++its.toArray.extract k=(its.take k++u::its.drop k).toArray:=by
 apply Array.ext'
 simp
 exact yBH (by rw [yBR];exact yAB _)
theorem insV_length (xs:List V) (i:Int) (y:V):(insV xs i y).length=xs.length+1:=by
 unfold insV
 dsimp only
 rw [yAC,yAQ,yAP,yBR]
 omega
theorem Vals.ins {xs:List V} {us:List Value} {y:V} {u:Value} (r:Vals xs us) (q:RelV y u) (k:Nat):Vals (xs.take k++y::xs.drop k) (us.take k++u::us.drop k):=(r.take k).append (.cons q (r.drop k))
theorem mt_insert:MtM X "list.insert" rInsert:=by
 intro pins s σ H x vs v us Q I Z rv h
 obtain ⟨l,xs,i,y,rfl,rfl,U,hz,hi,q⟩:=h
 cases Z
 obtain ⟨u,J,rfl,ru,L⟩:=rv.two
 obtain ⟨t,rfl⟩:=ru
 obtain ⟨z,its,n,r,hl,e⟩:=I.lstM U
 have O:¬(!Builtin.List.listFitsIndex i)=true:=by
  unfold Builtin.List.listFitsIndex
  have:(decide (-(2 ^ 63:Int) <= i) && decide (i < 2 ^ 63))=true:=by
   rw [yCE];exact ⟨decide_eq_true (by omega),decide_eq_true (by omega)⟩
  simpa using this
 refine call_meets F.slot_list_insert ⟨_,e,rfl⟩ F.entry_list_insert (F.args_list_insert_3 _ _ _) (PySem.AutoListH.list_insert_list_int_val_1 l its.toArray n i t J O (by rw [yAS];omega)) ⟨e,?_⟩
 have Y:(if i < 0 then (i+(its.length:Int)).toNat else min i.toNat its.length) <= its.length:=by split <;> omega
 refine ⟨.non,_,I.lset (its':=its.take (if i < 0 then (i+(its.length:Int)).toNat else min i.toNat its.length)++J::its.drop (if i < 0 then (i+(its.length:Int)).toNat else min i.toNat its.length)) U e ?_ (ys:=insV xs i y) ?_ ?_,rfl,q⟩
 .show (its.toArray.extract 0 _).push J++its.toArray.extract _=_
  rw [yAS]
  exact ins_arr its _ J Y
 .unfold insV
  rw [hl]
  exact r.ins L _
 .rw [insV_length];omega
end
structure Enc {α:Type} [DecidableEq α] (e:α->PyData) (n:Nat):Prop where
 eq:∀ a b,PyData.eqv (e a) (e b)=decide (a=b)
 lay:∀ a,(e a).canLay0=true
 dep:∀ a,(e a).depth <= n
theorem Enc.int:Enc PyData.int 0:=⟨fun a b=>by unfold PyData.eqv;rw [Bool.eq_iff_iff];simp,fun a=>by unfold PyData.canLay0;rfl,fun a=>by unfold PyData.depth;exact yAB _⟩
section
variable {α β γ:Type} [DecidableEq α] [DecidableEq β] [DecidableEq γ] {e:α->PyData} {f:β->PyData} {g:γ->PyData} {n m k:Nat}
theorem Enc.all (h:Enc e n):∀ xs ys:List α,PyData.eqvAll (xs.map e) (ys.map e)=decide (xs=ys)
 | [],[]=>by simp [PyData.eqvAll]
 | x::xs,[]=>by simp [PyData.eqvAll]
 | [],y::ys=>by simp [PyData.eqvAll]
 | x::xs,y::ys=>by
  rw [yAV,yAV]
  unfold PyData.eqvAll
  rw [h.eq,h.all xs ys,<- Bool.decide_and]
  exact decide_eq_decide.mpr (by rw [List.cons.injEq])
theorem Enc.layAll (h:Enc e n):∀ xs:List α,PyData.canLayAll0 (xs.map e)=true
 | []=>by simp [PyData.canLayAll0]
 | x::xs=>by rw [yAV];unfold PyData.canLayAll0;rw [h.lay,h.layAll xs];rfl
theorem Enc.depAll (h:Enc e n):∀ xs:List α,PyData.depthAll (xs.map e) <= n
 | []=>by simp [PyData.depthAll]
 | x::xs=>by
  rw [yAV];unfold PyData.depthAll
  have a:=h.dep x
  have b:=h.depAll xs
  omega
theorem Enc.list (h:Enc e n):Enc (fun xs:List α=>PyData.list (xs.map e)) (n+1) :=
 ⟨fun a b=>by unfold PyData.eqv;exact h.all a b,fun a=>by unfold PyData.canLay0;exact h.layAll a,fun a=>by unfold PyData.depth;have:=h.depAll a;omega⟩
theorem neD_of {K:W.Frag} {H:Hp} {x y:V} {a b:α} {Q:VK} (h:Enc e n) (hn:n <= 64) (dx:Dp K H (e a) x) (z:Dp K H (e b) y) (q:Q (.bl (!decide (a=b))) H):rNeD K x y H Q :=
 ⟨_,_,dx,z,h.lay a,h.lay b,yAG (h.dep a) hn,by rw [h.eq];exact q⟩
end
theorem dp_ints {K:W.Frag} {H:Hp} {a:Addr} {xs:List Int} (h:SqL K H a (xs.map V.int)):Dp K H (.list (xs.map PyData.int)) (.ref a):=ZD6 h (DpAll.ints xs)
section
variable {K:W.Frag} {H:Hp} {R:Bool->Prop}
theorem inst_of {x c:V} {ty:Value} {b:Bool} (hc:ZDr c=true) (t:TyOf K H x ty) (k:PySem.W.kitOne K ty (cval c)=some b) (q:R b):∃ z c' ty b,[x,c]=[z,c'] /\ ZDr c'=true /\ TyOf K H z ty /\ PySem.W.kitOne K ty (cval c')=some b /\ R b:=⟨x,c,ty,b,rfl,hc,t,k,q⟩
theorem inst_int {i:Int} (q:R true):∃ z c' ty b,[V.int i,V.ty "int"]=[z,c'] /\ ZDr c'=true /\ TyOf K H z ty /\ PySem.W.kitOne K ty (cval c')=some b /\ R b:=inst_of rfl (.int i) (kit_same rfl) q
theorem inst_int_bl {i:Int} (k:PySem.W.kitOne K (.type "int") (.type "bool")=some false) (q:R false):∃ z c' ty b,[V.int i,V.ty "bool"]=[z,c'] /\ ZDr c'=true /\ TyOf K H z ty /\ PySem.W.kitOne K ty (cval c')=some b /\ R b:=inst_of rfl (.int i) k q
end
structure FunD (K:W.Frag) (x qual:Str) (st:Stmt) (f:Addr) (fd:FuncData) (dv:List Value):Prop where
 ex:∃ (oc:Value) (od:Option Addr) (T:Addr) (kV doc pm:Value) (an:Option Addr) (cdv ct:Value) (osl:Array (Option Value)),
  fd=W.fnOf x qual (ZAP st) (ZAM st) (ZAD st) (.ref T) kV doc pm an cdv ct /\ K.lookup f=some ⟨oc,od,.func fd,osl⟩ /\ W.codeIn K cdv qual=true /\ ∃ o n,K.lookup T=some o /\ o.data=.seq dv.toArray n
 kp:W.keepIn K (.ref f)=true
section
variable {P:Program} {w:World} {K:W.Frag} {mg:Str->Option Value} {base:Heap}
theorem FunD.ok {x qual:Str} {st:Stmt} {f:Addr} {fd:FuncData} {dv:List Value} {N ps:List Str} {k:Nat} {sp:Sp} (F:FunD K x qual st f fd dv) (S:FnScope N ps (ZAD st)) (len:∀ vs H Q E,sp vs H Q E->vs.length=ps.length)
  (J:∀ (z:Value) (A:Around) (outer:List Env) (s:Shared) (H:Hp) (vs:List V) (Q:VK) (E:XK),Room k (A.deeper (envOfC qual (ZAD st) s.heap.objs.size f z))->sp vs H Q E ->
   ∃ t,PSs (cxOf CX0 P w K mg base N qual (ZAD st) f z A outer s H E).nox (ZAM st) t /\ t { nx:=fun _ H'=>Q .non H',rt:=Q } (start N vs) H):FnOk P w K mg base CX0 (k+1) f fd ps sp:=by
 obtain ⟨oc,od,T,kV,Z,pm,an,z,ct,Y,rfl,lk,L,_⟩:=F.ex
 refine ZFp lk L S len fun A outer s H vs Q E U O=>?_
 obtain ⟨t,h,q⟩:=J z A outer s H vs Q E U O
 exact ⟨t,h.nox,q⟩
theorem FunD.binds {x qual:Str} {st:Stmt} {f:Addr} {fd:FuncData} {dv ds:List Value} {ps:List Str} (F:FunD K x qual st f fd dv)
  (h:∀ (T:Addr) (kV z O:Value) (L:Option Addr) (J ct:Value) (us:List Value),(us++ds).length=ps.length->∃ k,bindArgs (W.fnOf x qual (ZAP st) (ZAM st) (ZAD st) (.ref T) kV z O L J ct) ⟨us,[]⟩=seqItems? (.ref T) >>= k /\ k (some dv.toArray)=pure (ps.zip (us++ds))):Binds K fd ps ds:=by
 obtain ⟨oc,od,T,kV,z,O,L,J,ct,Z,rfl,lk,a0,o,n,Y,ho⟩:=F.ex
 intro s us U hl
 obtain ⟨k,h1,h2⟩:=h T kV z O L J ct us hl
 exact PySem.W.binds_K U rfl Y ho h1 h2
theorem funD_mk {x qual:Str} {st:Stmt} {f T:Addr} {oc:Value} {od U:Option Addr} {L:Array (Option Value)} {kV J pm z ct:Value} {dv:List Value} {O:Value} {Z:Option Addr} {nT:Nat} {Y:Array (Option Value)} (l:K.lookup f=some ⟨oc,od,.func (W.fnOf x qual (ZAP st) (ZAM st) (ZAD st) (.ref T) kV J pm U z ct),L⟩)
  (c:W.codeIn K z qual=true) (k:W.keepIn K (.ref f)=true) (t:K.lookup T=some ⟨O,Z,.seq dv.toArray nT,Y⟩):FunD K x qual st f (W.fnOf x qual (ZAP st) (ZAM st) (ZAD st) (.ref T) kV J pm U z ct) dv:=⟨⟨oc,od,T,kV,J,pm,U,z,ct,L,rfl,l,c,_,nT,t,rfl⟩,k⟩
end
structure KlD (P:Program) (w:World) (K:W.Frag) (mg:Str->Option Value) (base:Heap) (CX:CXT) (x:Str) (C:Addr) (k:Nat) (ps:List Str) (sp:Sp) (dvs:List V):Prop where
 mgC:mg x=some (.ref C)
 ex:∃ f fd ds,FnOk P w K mg base CX k f fd ps sp /\ Binds K fd ps ds /\ Vals dvs ds /\ Mk K C f
section
variable {X:Cx} {CX:CXT} {k:Nat} {ps:List Str} {sp:Sp} {dvs:List V} {E:XK} {x m:Str} {C:Addr} {p pos apos:Pos} {e o:Expr} {es:List Expr} {ta:TE} {t:TA}
theorem pe_mkD (F:KlD X.prog X.w X.K X.mg X.base CX x C k ps sp dvs) (L:Room (k+1) X.A) (O:Gl X x) (hx:ZBF CX X E) (ha:PA X (e::es) t) (z:(x == ("__debug__":Str))=false:=by decide) (Y:starEach (e::es) X.env=(false,eval e X.env)::starEach es X.env:=by rfl) (J:(backTo pos (starEach es X.env)).any (·.1)=false:=by rfl) :
  PE X (.Call (.Name x p) (e::es) [] pos) (ZEv C sp dvs E t):=by
 obtain ⟨f,fd,ds,h1,h2,U,h3⟩:=F.ex
 exact pe_make h3 h1 L O F.mgC h2 U hx ha z Y J
end
section
variable {X:Cx}
theorem ZCp (ns:List Int):∀ n,n <= ns.length->preSum (fun i=>ns.getD i 0) n=(ns.take n).sum
 | 0,_=>by simp [preSum]
 | n+1,h=>by
  show preSum (fun i=>ns.getD i 0) n+ns.getD n 0=_
  rw [ZCp ns n (by omega),List.take_succ]
  rw [yBI,yAD (show n < ns.length by omega),List.sum_append]
  simp
noncomputable def SumOk (ns:List Int):Prop:=ns.length <= 1000 /\ ∀ x∈ns,-1000000000 <= x /\ x <= 1000000000
theorem sum_bound:∀ (ns:List Int),(∀ x∈ns,-1000000000 <= x /\ x <= 1000000000)->-(ns.length * 1000000000:Int) <= ns.sum /\ ns.sum <= ns.length * 1000000000
 | [],_=>by simp
 | x::r,h=>by
  have a:=h x yAF
  have b:=sum_bound r fun y z=>h y (yAM _ z)
  rw [List.sum_cons,yAQ]
  omega
theorem call_sum (hc:X.calm=true):ZCA X (.builtin "sum") (fun xs H Q=>∃ (p:Addr) (ns:List Int),xs=[.ref p] /\ SqL X.K H p (ns.map V.int) /\ SumOk ns /\ Q (.int ns.sum) H):=by
 intro pins s σ H xs us Q I r h
 obtain ⟨p,ns,rfl,hq,Z,q⟩:=h
 obtain ⟨u,rfl,rx⟩:=ZDT r
 cases rx
 obtain ⟨its,r',pl,hz⟩:=I.list hq
 have J:=r'.length
 rw [yAA] at J
 have hh:X.A.handled=none:=I.ok.hd hc
 have hl:=pl.isList
 have O:p < s.heap.objs.size:=by obtain ⟨_,e,_⟩:=hl;exact Heap.lt_size e
 refine call_sum_walk (wpAny_pyIter_list hl ⟨s.heap.objs.size,_,_,_,_,_,fun i=>ns.getD i 0,rfl,Walks.list (A:=X.A.in1) hh s.heap.objs.size p (yAI O) its.toArray,⟨⟨_,Heap.get?_push_size _ rfl,rfl,rfl⟩,hl.push _⟩,fun b Y=>?_,fun i v hP=>?_,fun j hj=>?_,fun h' tk t' hk=>?_⟩)
 .have a0:b=s.heap.objs.size∨b=p:=by simpa using Y
  show b < (s.heap.push _).objs.size
  rw [Heap.size_push]
  rcases a0 with rfl | rfl
  .exact yBW _
  .exact Nat.lt_succ_of_lt O
 .have U:its[i]?=some v:=by simpa using hP
  have hi:i < its.length:=(yAK.mp U).1
  obtain ⟨b,Y⟩:∃ b,ns[i]?=some b:=⟨_,yAD (by omega)⟩
  obtain ⟨u,hu,ru⟩:=r'.get (i:=i) (x:=.int b) (by rw [yAJ,Y];rfl)
  rw [U] at hu
  cases hu
  obtain ⟨t,rfl⟩:=ru
  refine ⟨t,?_⟩
  show _=Value.int (ns.getD i 0) t
  rw [yBI,Y]
  rfl
 .have L:j < ns.length:=by simp at hj;omega
  have a1:ns.getD j 0∈ns:=by
   rw [yBI,yAD L]
   exact List.getElem_mem L
  have b1:=Z.2 _ a1
  have b2:=sum_bound (ns.take (j+1)) fun y hy=>Z.2 y (List.mem_of_mem_take hy)
  have b3:(ns.take (j+1)).length <= 1000:=by rw [yAP];have:=Z.1;omega
  rw [ZCp ns (j+1) L]
  show (-(2 ^ 63) <= ns.getD j 0 /\ ns.getD j 0 < 2 ^ 63) /\ (-(2 ^ 63) <= (ns.take (j+1)).sum /\ (ns.take (j+1)).sum < 2 ^ 63)
  refine ⟨⟨by omega,by omega⟩,?_⟩
  omega
 .refine ⟨.int ns.sum,H,I.kept (t':=tk) (fun b o e=>hk b o ?_ (Heap.get?_push_of_some _ e)),⟨t',?_⟩,q⟩
  .intro z
   have:b=s.heap.objs.size:=by simpa using z
   exact absurd (Heap.lt_size e) (by rw [this];exact yBK _)
  .have:its.toArray.size=ns.length:=by simp [J]
   rw [this,ZCp ns ns.length (yAB _),List.take_length]
theorem ZB8:ZCA X (.builtin "sorted") (fun xs H Q=>∃ (p:Addr) (ns:List Int),xs=[.ref p] /\ SqL X.K H p (ns.map V.int) /\ ns.length < 64 /\ ∀ (l:Addr) (ms:List Int),H l=none->ms.Perm ns->ms.Pairwise (· <= ·)->Q (.ref l) (upd H l (.lst (ms.map V.int)))):=by
 intro pins s σ H xs us Q I r h
 obtain ⟨p,ns,rfl,hq,hn,q⟩:=h
 obtain ⟨u,rfl,Z⟩:=ZDT r
 cases Z
 obtain ⟨its,U,pl,hz⟩:=I.list hq
 have J:=U.length
 rw [yAA] at J
 refine sorted_ints pl.isList (intsAre_of U) (by omega) fun L z a1 O a3=>?_
 obtain ⟨e,Y⟩:=sortedAll_at s.heap its L
 have a0:z.length=ns.length:=O.length_eq
 refine ⟨.ref (s.heap.objs.size+1),_,I.laid (t':=s.toks) (fun b o e=>sortedAll_old e) (yBB _) (o:=.lst (z.map V.int)) ⟨?_,L.toList,e,ZDD a1,by simpa using Y⟩,rfl,q _ z (I.hok.fresh (yBB _)) O a3⟩
 rw [yAA]
 exact yAG (show z.length <= 1000 by omega) (by decide)
end
theorem Same.get {H H':Hp} {b:Addr} {o:HO} (s:Same H H') (h:H b=some o):H' b=some o:=s b o h
theorem newH {H:Hp} {p:Addr} (h:H p=none) (o:HO):∃ H',upd H p o=H' /\ Same H H' /\ H' p=some o:=⟨_,rfl,ZAK h o,ZAF⟩
section
variable {K:W.Frag} {a:Addr} {xs:List V} {te:TE} {Q:VK} {σ0 rest:St} {H:Hp}
theorem compL_gen (h:SqL K H a xs) (hz:xs.length <= 1000) (e0:σ0=none::rest) (R:V->V->Hp->Prop) (mono:∀ x y H1 H2,Same H1 H2->R x y H1->R x y H2)
  (hs:∀ (i:Nat) x H',xs[i]?=some x->Same H H'->∀ Q':VK,(∀ y H4,Same H' H4->R x y H4->Q' y H4)->te (some x::rest) H' Q')
  (hd:∀ ys H' p,ys.length=xs.length->(∀ (j:Nat) x y,xs[j]?=some x->ys[j]?=some y->R x y H')->Same H H'->H' p=none->Q (.ref p) (upd H' p (.lst ys))):ZFI K (ZD4 0) tYes te σ0 Q (.ref a) H:=by
 subst e0
 refine ZBT h hz (fun i ys σ H'=>∃ v,σ=v::rest /\ Same H H' /\ ys.length=i /\ ∀ (j:Nat) x y,xs[j]?=some x->ys[j]?=some y->R x y H') ⟨_,rfl,.refl _,rfl,fun j x y _ q=>by cases q⟩ ?_ ?_ ?_
 .rintro i ys σ H' _ ⟨v,rfl,e,hl,_⟩
  exact ⟨e.seq h,Nat.le_of_eq hl⟩
 .rintro i ys x σ H' hi hx ⟨v,rfl,e,hl,O⟩
  show te (some x::rest) H' _
  refine hs i x H' hx e _ fun y H4 U Z=>?_
  refine Nxt.of hi ⟨_,rfl,e.trans U,by rw [yAC,hl];rfl,fun j Y y' L J=>?_⟩
  by_cases hj:j < ys.length
  .rw [yAX hj] at J
   exact mono _ _ _ _ U (O j Y y' L J)
  .rw [yAW (by omega)] at J
   have:j-ys.length=0:=by
    rcases Nat.eq_zero_or_pos (j-ys.length) with z | z
    .exact z
    .rw [yBE (show [y].length <= j-ys.length from z)] at J
     cases J
   rw [this] at J
   cases J
   rw [show j=i by omega,hx] at L
   cases L
   exact Z
 .rintro ys σ H' ⟨v,rfl,e,hl,O⟩ p hp
  exact hd ys H' p hl O e hp
theorem compI_gen {ms:List Int} (h:SqL K H a (ms.map V.int)) (L:ms.length <= 1000) (e0:σ0=none::rest) (R:Int->Int->Prop)
  (hs:∀ c H',c∈ms->Same H H'->∀ Q':VK,(∀ r H4,Same H' H4->R c r->Q' (.int r) H4)->te (some (.int c)::rest) H' Q')
  (hd:∀ (rs:List Int) (H':Hp) (p:Addr),rs.length=ms.length->(∀ (j:Nat) c r,ms[j]?=some c->rs[j]?=some r->R c r)->Same H H'->H' p=none->Q (.ref p) (upd H' p (.lst (rs.map V.int)))):ZFI K (ZD4 0) tYes te σ0 Q (.ref a) H:=by
 refine compL_gen h (by rw [yAA];exact L) e0 (fun x y _=>∃ c r,x=.int c /\ y=.int r /\ R c r) (fun _ _ _ _ _ q=>q) (fun i x H' hx e Q' k=>?_) fun ys H' p hl O e Y=>?_
 .obtain ⟨c,hc,rfl⟩:=ZCr hx
  exact hs c H' (yAL hc) e Q' fun r H4 q1 q2=>k _ _ q1 ⟨c,r,rfl,rfl,q2⟩
 .have J:∀ y∈ys,∃ r,y=.int r:=fun y J=>by
   obtain ⟨j,U⟩:=yCF J
   have a0:j < ys.length:=(yAK.mp U).1
   obtain ⟨c,r,_,e,_⟩:=O j _ y (yAD (by omega)) U
   exact ⟨r,e⟩
  have:∃ rs:List Int,ys=rs.map V.int:=by
   clear hl O Y
   induction ys with
   | nil=>exact ⟨[],rfl⟩
   | cons y t ih=>
    obtain ⟨r,rfl⟩:=J y yAF
    obtain ⟨rs,rfl⟩:=ih fun z L=>J z (yAM _ L)
    exact ⟨r::rs,rfl⟩
  obtain ⟨rs,rfl⟩:=this
  rw [yAA,yAA] at hl
  refine hd rs H' p hl (fun j c r hc Z=>?_) e Y
  obtain ⟨c',r',e1,e2,q⟩:=O j (.int c) (.int r) (by rw [yAJ,hc];rfl) (by rw [yAJ,Z];rfl)
  cases e1
  cases e2
  exact q
end
section
variable {X:Cx} {pins:List (Addr×Obj)} {σ:St} {H:Hp} {s:Shared}
theorem Inv.turn2 (I:Inv X pins σ H s) {ch:List Addr} {h':Heap} {p:Addr} {o:HO} {t':Nat} (U:∀ b∈ch,FpOk X pins H b) (k:∀ b ob,b∉ch->s.heap.get? b=some ob->h'.get? b=some ob)
  (O:s.heap.objs.size <= p) (new:ObjOk X.prog X.w (upd H p o) h' p o):Inv X pins σ (upd H p o) { s with heap:=h',toks:=t' }:=by
 have hn:H p=none:=I.hok.fresh O
 have L:∀ b u,H b=some u->b∉ch:=fun b u e z=>by rw [(U b z).1] at e;cases e
 refine I.call (g':=s.gens) (t':=t') (d':=s.drawn) (ch:=ch) ⟨fun b ob e n _ hx=>k b ob hx e,fun b ob e n _ hx=>⟨ob.slots,k b ob hx e⟩,fun b ob e n _=>?_,fun b ob e hx=>⟨ob,k b ob hx e⟩,fun b xs e=>?_,fun b ob u e=>?_,fun b qs e=>⟨#[],?_⟩⟩ (fun b u e=>?_) I.bare fun b J=>?_
 .rw [ZAG (yAI (yAU (Heap.lt_size e) O))];exact n
 .rw [ZAG (ZAB e hn)];exact e
 .rw [ZAG (ZAB e hn)];exact e
 .rw [ZAG (ZAB e hn),e];simp
 .by_cases J:b=p
  .subst J;rw [ZAF] at e;cases e;exact new
  .rw [ZAG J] at e
   refine (I.hok b u e).stay (fun c v hc q=>k c v ?_ q) (fun c q=>by rw [ZAG (ZAB q hn)];exact q) fun c xs q=>by rw [ZAG (ZAB q hn)];exact q
   rcases hc with z | z
   .rw [z];exact L b u e
   .exact L c _ z
 .obtain ⟨a1,Y,a3,Z,a5,a6⟩:=U b J
  exact ⟨Z,Y,a5,a6⟩
end
noncomputable def Ite (K:W.Frag) (a:Addr):It :=
 ⟨fun i H=>∃ xs x,SqL K H a xs /\ xs[i]?=some x,fun i H v H'=>∃ p x,H p=none /\ (∀ xs,SqL K H a xs->xs[i]?=some x) /\ H'=upd H p (.tup [.int i,x]) /\ v=.ref p,fun i H=>∃ xs,SqL K H a xs /\ xs.length <= i⟩
theorem turn_enum {P:Program} {w:World} {K:W.Frag} {a2:List Expr} {x1} {tpos:Pos} (a e it:Addr) (a1:e≠it):Turn P w K (.Tuple a2 x1 tpos) (Ite K a) [e,it] e (fun i h=>(∃ J,IsEnum h e it ((i:Nat):Int) J) /\ h.IsListIter it a i) where
 mem:=by simp
 obj:=fun i h st b Y=>by
  obtain ⟨⟨J,O⟩,o,e2,c,d⟩:=st
  have Z:b=e∨b=it:=by simpa using Y
  rcases Z with rfl | rfl
  .exact ⟨_,O,fun v z=>by cases z⟩
  .exact ⟨o,e2,fun v z=>by rw [d] at z;cases z⟩
 keep:=fun i h h' st k=>⟨let ⟨J,O⟩:=st.1;⟨J,k e (by simp) _ O⟩,st.2.at fun o q=>k it (by simp) o q⟩
 item:=by
  intro X hP hw hK hc i pins s σ H E I hf st hg
  subst hP hw hK
  obtain ⟨xs,x,hq,hx⟩:=hg
  obtain ⟨its,rv,p,hz⟩:=I.list hq
  obtain ⟨u,hu,ru⟩:=rv.get hx
  obtain ⟨⟨J,O⟩,U⟩:=st
  refine wpAny_pyNext_enum_item O U p.isList (x:=u) (by simpa using hu) a1 fun h1 a9 a4 a6 af ad=>⟨_,rfl,?_⟩
  refine wpAny_letOwnedTupleGo_enum a9 fun h2 a7 L=>?_
  replace L:Heap.SameBut e h1 h2:=L
  have a0:e < s.heap.objs.size:=Heap.lt_size O
  have ae:h2.get? s.heap.objs.size=some { cls:=.type "tuple",data:=.seq #[.int i s.toks,u] }:=(L.2 _ (yCJ a0)).trans a6
  have a3:H s.heap.objs.size=none:=I.hok.fresh (yAB _)
  refine ⟨.ref s.heap.objs.size,upd H s.heap.objs.size (.tup [.int i,x]),I.turn2 (ch:=[e,it]) (t':=s.toks+1) hf (fun b ob Y q=>?_) (yAB _) ?_,rfl,⟨_,x,a3,fun ys hy=>by rw [I.list_inj hy hq];exact hx,rfl,rfl⟩,⟨⟨u,?_⟩,?_⟩,fun b Y=>?_⟩
  .have a5:b≠e:=fun z=>Y (by simp [z])
   have a8:b≠it:=fun z=>Y (by simp [z])
   exact (L.2 b a5).trans (ad b ob a5 a8 q)
  .exact ⟨ZAb (show 2 <= 1000 by decide),[.int i s.toks,u],.cons ⟨_,rfl⟩ (.cons ru .nil),_,ae,rfl,0,rfl⟩
  .have:((i+1:Nat):Int)=(i:Int)+1:=by push_cast;rfl
   rw [this];exact a7
  .exact a4.at fun o q=>(L.2 it (Ne.symm a1)).trans q
  .have hn:=(hf b Y).1
   have Z:b=e∨b=it:=by simpa using Y
   obtain ⟨oi,aa,_⟩:=U
   have ac:b < s.heap.objs.size:=by
    rcases Z with rfl | rfl
    .exact a0
    .exact Heap.lt_size aa
   rw [ZAG (yAI ac)];exact hn
 done:=by
  intro X hP hw hK hc i pins s σ H E I hf st hg
  subst hP hw hK
  obtain ⟨xs,hq,hx⟩:=hg
  obtain ⟨its,rv,p,hz⟩:=I.list hq
  obtain ⟨⟨J,O⟩,U⟩:=st
  obtain ⟨f0,f1,f2,f3,f4,f5⟩:=hf it (by simp)
  have hl:=rv.length
  exact wpAny_pyNext_enum_end (I.ok.hd hc) O U p.isList (by rw [List.getElem?_toArray];exact yBE (by omega)) fun h' eb=>⟨rfl,I.turned (t':=s.toks) (fun b o Y e=>eb b o Y e) f0 f1 f3 f4 f5⟩
 self:=fun _ _ _ _ _ st h=>let ⟨_,O⟩:=st.1;wpAny_pyIter_enum O h
section
variable {X:Cx}
noncomputable def ZFn (K:W.Frag) (ta:TA):TI:=fun σ H R=>ta σ H fun vs H1=>∃ a,vs=[.ref a] /\ (∃ xs,SqL K H1 a xs) /\ R (Ite K a) H1
theorem pi_enum {z:List Expr} {x1} {tpos:Pos} {l:Expr} {ta:TA} {p pos:Pos} (hg:Gl X "enumerate") (hm:X.mg "enumerate"=none) (ha:PA X [l] ta) (hs:starEach [l] X.env=[(false,eval l X.env)]:=by rfl) :
  PI X (.Tuple z x1 tpos) (.Call (.Name "enumerate" p) [l] [] pos) (ZFn X.K ta):=by
 intro pins s σ H R I h
 refine Call_ (ZDK I hg hm boot_enumerate (PyProof.Rows.callWith_type1 (thn (ha pos pins s σ H _ I h) fun us s1 zz=>?_) hs rfl))
 obtain ⟨vs,H1,L,r1,q1⟩:=zz
 obtain ⟨a,e,⟨xs,hq⟩,q⟩:=q1
 subst e
 obtain ⟨u,rfl,ru⟩:=ZDT r1
 cases ru
 obtain ⟨its,rv,pl,hz⟩:=L.list hq
 refine call_enumerate_list pl.isList fun h' Y O hsz Z=>wpAny_pyIter_enum Y ?_
 have I2:Inv X pins σ H1 { s1 with heap:=h' }:=L.kept (t':=s1.toks) Z
 refine ⟨s1.heap.objs.size+1,[s1.heap.objs.size+1,s1.heap.objs.size],_,Ite X.K a,H1,rfl,I2,turn_enum a _ _ (Nat.succ_ne_self _),⟨⟨_,Y⟩,O⟩,fun b hb=>?_,q⟩
 have U:b=s1.heap.objs.size+1∨b=s1.heap.objs.size:=by simpa using hb
 have J:s1.heap.objs.size <= b:=by
  rcases U with rfl | rfl
  .exact yBB _
  .exact yAB _
 exact L.fpOk J (L.hok.fresh J)
end
section
variable {K:W.Frag} {a:Addr} {xs:List V} {g:TG} {tb:TS} {D:Ends} {σ:St} {H:Hp}
noncomputable def forE (K:W.Frag) (g:TG) (tb:TS) (D:Ends) (σ:St) (x:V) (H1:Hp):Prop:=∃ a,[x]=[.ref a] /\ (∃ xs,SqL K H1 a xs) /\ ∃ W:Nat->Nat->St->Hp->Prop,(∃ m,W 0 m σ H1) /\ ∀ i m σ H,W i m σ H ->
 ((Ite K a).stop i H /\ D.nx σ H)∨((Ite K a).go i H /\ ∃ N:St->Hp->Prop,(∀ σ' H',N σ' H'->∃ m',m' < m /\ W (i+1) m' σ' H') /\ ∀ x H',(Ite K a).yld i H x H'->g x σ H' fun σ2 H2=>tb { D with nx:=N,ct:=N,bk:=D.nx } σ2 H2)
theorem tForE_eq {t:TE}:tFor (ZFn K (ZCl t tNil)) g tb D σ H=t σ H (fun x H1=>forE K g tb D σ x H1):=rfl
variable {tt:TT} {te:TE} {Q:VK} {σ0:St}
noncomputable def compE (K:W.Frag) (g:TG) (tt:TT) (te:TE) (σ0:St) (Q:VK) (x:V) (H1:Hp):Prop:=∃ a,[x]=[.ref a] /\ (∃ xs,SqL K H1 a xs) /\ ∃ W:Nat->Nat->List V->St->Hp->Prop,(∃ m,W 0 m [] σ0 H1) /\ ∀ i m ys σ H,W i m ys σ H ->
 ((Ite K a).stop i H /\ ys.length <= sizeLine /\ ∀ p,H p=none->Q (.ref p) (upd H p (.lst ys))) ∨
 ((Ite K a).go i H /\ ys.length < sizeLine /\ ∀ x H',(Ite K a).yld i H x H'->g x σ H' fun σ2 H2=>tt σ2 H2 fun b H3=>if b=true then te σ2 H3 fun y H4=>∃ m',m' < m /\ W (i+1) m' (ys++[y]) σ2 H4 else ∃ m',m' < m /\ W (i+1) m' ys σ2 H3)
theorem tCompE_eq {k:Nat} {js:List Nat} {t:TE}:ZEF k js (ZFn K (ZCl t tNil)) g tt te σ H Q=t σ H (fun x H1=>compE K g tt te (up k js σ) Q x H1):=rfl
theorem compE_of (h:SqL K H a xs) (hz:xs.length <= 1000) (P:Nat->List V->St->Hp->Prop) (Z:P 0 [] σ0 H) (hl:∀ i ys σ H,i <= xs.length->P i ys σ H->SqL K H a xs /\ ys.length <= i)
  (O:∀ (i:Nat) ys x σ H p,i < xs.length->xs[i]?=some x->P i ys σ H->H p=none->g (.ref p) σ (upd H p (.tup [.int i,x])) fun z H2=>tt z H2 fun b H3=>if b=true then te z H3 fun y H4=>Nxt P xs.length i (ys++[y]) z H4 else Nxt P xs.length i ys z H3)
  (Y:∀ ys σ H,P xs.length ys σ H->∀ p,H p=none->Q (.ref p) (upd H p (.lst ys))):compE K g tt te σ0 Q (.ref a) H:=by
 have U:=ZAb hz
 refine ⟨a,rfl,⟨xs,h⟩,fun i m ys σ H=>m=xs.length-i /\ i <= xs.length /\ P i ys σ H,⟨xs.length,by simp,yAH _,Z⟩,?_⟩
 rintro i m ys σ H ⟨rfl,hi,p⟩
 obtain ⟨q,ly⟩:=hl i ys σ H hi p
 by_cases hlt:i < xs.length
 .refine .inr ⟨⟨xs,xs[i],q,by simp [hlt]⟩,by omega,fun x H' y=>?_⟩
  obtain ⟨J,L,hn,y,rfl,rfl⟩:=y
  exact O i ys L σ _ J hlt (y xs q) p hn
 .have e:i=xs.length:=by omega
  subst e
  exact .inl ⟨⟨xs,q,yAB _⟩,by omega,Y ys σ H p⟩
end
noncomputable abbrev FZ (o:Obj):HO:=.frz o (.ext fun _=>True)
theorem ZFF {P:Program} {w:World} {H:Hp} {h:Heap} {a:Addr} {o:Obj} (e:h.get? a=some o):ObjOk P w H h a (FZ o):=⟨e,trivial,⟨o,e⟩,fun _ _ _ _=>trivial⟩
theorem ZDf {P:Program} {w:World} {H:Hp} {h:Heap} {a:Addr} {o:Obj} (x:HOk P w H h) (e:H a=some (FZ o)):h.get? a=some o:=(x a _ e).1
noncomputable def CodeAt (H:Hp) (c:Addr) (qual:Str):Prop:=∃ oc vs t,H c=some (FZ oc) /\ oc.data=.fields vs /\ vs[1]?=some (.str qual t)
theorem CodeAt.rec {P:Program} {w:World} {H:Hp} {h:Heap} {c:Addr} {qual:Str} (x:HOk P w H h) (k:CodeAt H c qual):h.CodeRec (.ref c) qual :=
 let ⟨oc,vs,t,e,d,v⟩:=k;⟨c,oc,vs,t,rfl,ZDf x e,d,v⟩
structure CloL (H:Hp) (g:Addr) (iname iq:Str) (ip:Arguments) (ib:List Stmt) (isc:Scope) (fr:List Str) (cs:List V) (cl:List (Str×Addr)):Prop where
 obj:∃ (doc pm ctv:Value) (c':Addr),H g=some (FZ (PySem.W.fnMade iname iq ip ib isc cl doc pm c' ctv)) /\ CodeAt H c' iq
 keys:∀ x c,cl.lookup x=some c->x∈fr
 inj:∀ x y c,cl.lookup x=some c->cl.lookup y=some c->x=y
 cell:∀ (i:Nat) (x:Str),fr[i]?=some x->∃ v c u o,cs[i]?=some v /\ cl.lookup x=some c /\ RelV v u /\ H c=some (FZ o) /\ o.data=.cell (some u)
 len:cs.length=fr.length
noncomputable def Clo (H:Hp) (g:Addr) (iname iq:Str) (ip:Arguments) (ib:List Stmt) (isc:Scope) (fr:List Str) (cs:List V):Prop:=∃ cl,CloL H g iname iq ip ib isc fr cs cl
noncomputable def ZEl (H H':Hp):Prop:=∀ b o,H b=some (FZ o)->H' b=some (FZ o)
theorem CodeAt.mono {H H':Hp} {c:Addr} {q:Str} (e:ZEl H H') (k:CodeAt H c q):CodeAt H' c q:=let ⟨oc,vs,t,a,d,v⟩:=k;⟨oc,vs,t,e _ _ a,d,v⟩
theorem CloL.mono {H H':Hp} {g:Addr} {iname iq:Str} {ip:Arguments} {ib:List Stmt} {isc:Scope} {fr:List Str} {cs:List V} {cl:List (Str×Addr)} (e:ZEl H H') (k:CloL H g iname iq ip ib isc fr cs cl):CloL H' g iname iq ip ib isc fr cs cl where
 obj:=let ⟨doc,pm,ctv,c',a,b⟩:=k.obj;⟨doc,pm,ctv,c',e _ _ a,b.mono e⟩
 keys:=k.keys
 inj:=k.inj
 cell:=fun i x h=>let ⟨v,c,u,o,a1,a2,a3,a4,a5⟩:=k.cell i x h;⟨v,c,u,o,a1,a2,a3,e _ _ a4,a5⟩
 len:=k.len
theorem Clo.mono {H H':Hp} {g:Addr} {iname iq:Str} {ip:Arguments} {ib:List Stmt} {isc:Scope} {fr:List Str} {cs:List V} (e:ZEl H H') (k:Clo H g iname iq ip ib isc fr cs):Clo H' g iname iq ip ib isc fr cs:=let ⟨cl,x⟩:=k;⟨cl,x.mono e⟩
theorem CloL.inj' {H:Hp} {g:Addr} {iname iq:Str} {ip:Arguments} {ib:List Stmt} {isc:Scope} {fr:List Str} {cs cs':List V} {cl cl':List (Str×Addr)} (k:CloL H g iname iq ip ib isc fr cs cl) (k':CloL H g iname iq ip ib isc fr cs' cl'):cs=cs':=by
 obtain ⟨d1,p1,t1,c1,e1,_⟩:=k.obj
 obtain ⟨d2,p2,t2,c2,O,_⟩:=k'.obj
 rw [e1] at O
 have z:cl=cl':=by
  have:=Option.some.inj O
  injection this with h1 h2
  injection h1 with h3 h4 h5
  injection h5 with h6
  injection h6
 subst z
 refine yCK fun i=>?_
 by_cases hi:i < fr.length
 .obtain ⟨v,c,u,o,a1,Y,a3,Z,a5⟩:=k.cell i _ (yAD hi)
  obtain ⟨v',c',u',o',b1,J,b3,L,U⟩:=k'.cell i _ (yAD hi)
  rw [Y] at J
  cases J
  rw [Z] at L
  have eo:o=o':=by
   have:=Option.some.inj L
   injection this
  subst eo
  rw [a5] at U
  have eu:u=u':=by injection U with h;injection h
  subst eu
  rw [a1,b1,a3.inj b3]
 .rw [yBE (by rw [k.len];omega),yBE (by rw [k'.len];omega)]
open Classical in
noncomputable def hid (cl:List (Str×Addr)) (H:Hp):Hp:=fun b=>if ∃ x,cl.lookup x=some b then none else H b
open Classical in
noncomputable def back (cl:List (Str×Addr)) (H H1:Hp):Hp:=fun b=>if ∃ x,cl.lookup x=some b then H b else H1 b
theorem ZEP {cl:List (Str×Addr)} {H:Hp} {x:Str} {b:Addr} (h:cl.lookup x=some b):hid cl H b=none:=by unfold hid;rw [if_pos ⟨x,h⟩]
theorem ZDO {cl:List (Str×Addr)} {H:Hp} {b:Addr} (h:¬ ∃ x,cl.lookup x=some b):hid cl H b=H b:=by unfold hid;rw [if_neg h]
theorem ZDg {cl:List (Str×Addr)} {H H1:Hp} {x:Str} {b:Addr} (h:cl.lookup x=some b):back cl H H1 b=H b:=by unfold back;rw [if_pos ⟨x,h⟩]
theorem ZCZ {cl:List (Str×Addr)} {H H1:Hp} {b:Addr} (h:¬ ∃ x,cl.lookup x=some b):back cl H H1 b=H1 b:=by unfold back;rw [if_neg h]
theorem hid_le {cl:List (Str×Addr)} {H:Hp} {b:Addr} {o:HO} (h:hid cl H b=some o):H b=some o:=by
 by_cases q:∃ x,cl.lookup x=some b
 .obtain ⟨x,q⟩:=q;rw [ZEP q] at h;cases h
 .rw [ZDO q] at h;exact h
noncomputable def ZFr (cl:List (Str×Addr)) (H:Hp):Prop:=∀ x c,cl.lookup x=some c->∃ u o,H c=some (FZ o) /\ o.data=.cell u
theorem CloL.cells {H:Hp} {g:Addr} {iname iq:Str} {ip:Arguments} {ib:List Stmt} {isc:Scope} {fr:List Str} {cs:List V} {cl:List (Str×Addr)} (k:CloL H g iname iq ip ib isc fr cs cl):ZFr cl H:=fun x c h=>by
 obtain ⟨i,hi⟩:=yCF (k.keys x c h)
 obtain ⟨v,c2,u,o,_,h2,_,J,z⟩:=k.cell i x hi
 rw [h] at h2
 cases h2
 exact ⟨_,o,J,z⟩
theorem ZB5 {cl:List (Str×Addr)} {H:Hp} {b:Addr} {o:HO} (C:ZFr cl H) (h:H b=some o) (n:∀ ob,o≠FZ ob):hid cl H b=some o:=by
 rw [ZDO,h]
 rintro ⟨x,q⟩
 obtain ⟨u,ob,e,_⟩:=C x b q
 rw [h] at e
 exact n ob (Option.some.inj e)
theorem hid_none {cl:List (Str×Addr)} {H:Hp} {b:Addr} (C:ZFr cl H) (h:hid cl H b=none) (n:¬ ∃ x,cl.lookup x=some b):H b=none:=by rw [ZDO n] at h;exact h
theorem back_upd {cl:List (Str×Addr)} {H H1:Hp} {l:Addr} {o:HO} (n:¬ ∃ x,cl.lookup x=some l):back cl H (upd H1 l o)=upd (back cl H H1) l o:=by
 funext b
 by_cases q:∃ x,cl.lookup x=some b
 .have:b≠l:=fun e=>n (e ▸ q)
  obtain ⟨x,q⟩:=q
  rw [ZDg q,ZAG this,ZDg q]
 .rw [ZCZ q]
  by_cases e:b=l
  .subst e;rw [ZAF,ZAF]
  .rw [ZAG e,ZAG e,ZCZ q]
theorem back_hid {cl:List (Str×Addr)} {H:Hp}:back cl H (hid cl H)=H:=by
 funext b
 by_cases q:∃ x,cl.lookup x=some b
 .obtain ⟨x,q⟩:=q;rw [ZDg q]
 .rw [ZCZ q,ZDO q]
noncomputable def NoC (cl:List (Str×Addr)) (H:Hp):Prop:=∀ x c,cl.lookup x=some c->H c=none
structure CloScope (N ps fr:List Str) (sc:Scope):Prop where
 kind:sc.kind=.function
 co:sc.isCoroutine=false
 gen:sc.isGenerator=false
 nd:N.Nodup
 pre:N.take ps.length=ps
 suf:N.drop (N.length-fr.length)=fr
 two:ps.length+fr.length <= N.length
 par:∀ x∈ps,sc.names.lookup x=some .local
 nocell:∀ y∈sc.names,y.2≠.cell
 free:∀ x∈fr,sc.names.lookup x=some .free
 only:∀ x,sc.names.lookup x=some .free->x∈fr
noncomputable def ZCm (N:List Str) (vs cs:List V):St:=vs.map some++(List.replicate (N.length-vs.length-cs.length) none++cs.map some)
noncomputable def ZEq (P:Program) (w:World) (K:W.Frag) (mg:Str->Option Value) (base:Heap) (N:List Str) (qual:Str) (scope:Scope) (f:Addr) (cd:Value) (cl:List (Str×Addr)) (A:Around) (outer:List Env) (s:Shared) (H:Hp):Cx where
 prog:=P
 w:=w
 K:=K
 mg:=mg
 base:=base
 A:=A.deeper (PySem.W.envX qual scope s.heap.objs.size f cd cl)
 N:=N
 s₀:=s
 H₀:=H
 env:=PySem.W.envX qual scope s.heap.objs.size f cd cl
 outer:=outer
 stack:=PySem.W.envX qual scope s.heap.objs.size f cd cl::outer
 ex:=[]
 calm:=true
 fn:=fun _=>false
 pn:=[]
 xe:=fun _ _=>False
theorem startC_get {N:List Str} {vs cs:List V} {i:Nat} {v:V} (hl:vs.length+cs.length <= N.length) (h:(ZCm N vs cs)[i]?=some (some v)) :
  vs[i]?=some v∨(N.length-cs.length <= i /\ cs[i-(N.length-cs.length)]?=some v):=by
 unfold ZCm at h
 by_cases h1:i < vs.length
 .rw [yAX (by simpa using h1),yAJ] at h
  cases e:vs[i]? with
  | none=>rw [e] at h;cases h
  | some a=>rw [e] at h;cases h;exact .inl rfl
 .rw [yAW (by simpa using Nat.le_of_not_lt h1),yAA] at h
  by_cases h2:i-vs.length < N.length-vs.length-cs.length
  .rw [yAX (by simpa using h2),List.getElem?_replicate,if_pos h2] at h
   cases h
  .rw [yAW (by simpa using Nat.le_of_not_lt h2),yBX,yAJ] at h
   right
   refine ⟨by omega,?_⟩
   rw [show i-(N.length-cs.length)=i-vs.length-(N.length-vs.length-cs.length) by omega]
   cases e:cs[i-vs.length-(N.length-vs.length-cs.length)]? with
   | none=>rw [e] at h;cases h
   | some a=>rw [e] at h;cases h;rfl
theorem zip_fst_sub:∀ (ps:List Str) (us:List Value),((ps.zip us).map (·.1)).Sublist ps
 | [],_=>by simp
 | p::ps,[]=>by simp
 | p::ps,u::us=>by rw [List.zip_cons_cons,yAV];exact (zip_fst_sub ps us).cons₂ p
theorem lookup_nodup {α:Type}:∀ {cs:List (Str×α)} {n:Str} {c:α},(cs.map (·.1)).Nodup->(n,c)∈cs->cs.lookup n=some c
 | (m,d)::r,n,c,hn,h=>by
  rw [yAV] at hn
  have J:=yCQ.mp hn
  rw [yBY]
  rcases yAE.mp h with e | h
  .cases e;simp
  .have:n≠m:=fun z=>J.1 (z ▸ List.mem_map_of_mem (f:=(·.1)) h)
   have:(n == m)=false:=by simpa using this
   rw [this]
   exact lookup_nodup J.2 h
theorem zip_lookup {ps:List Str} {us:List Value} (J:ps.Nodup) {i:Nat} {x:Str} {u:Value} (h1:ps[i]?=some x) (h2:us[i]?=some u):((ps.zip us).reverse).lookup x=some u:=by
 have hm:(x,u)∈(ps.zip us).reverse:=by
  rw [yCG]
  refine yAL (i:=i) ?_
  rw [List.getElem?_zip_eq_some]
  exact ⟨h1,h2⟩
 have z:((ps.zip us).reverse.map (·.1)).Nodup:=by
  rw [yCS]
  exact List.pairwise_reverse.mpr (List.Pairwise.imp (fun h=>Ne.symm h) (J.sublist (zip_fst_sub ps us)))
 exact lookup_nodup z hm
section
variable {P:Program} {w:World} {K:W.Frag} {mg:Str->Option Value} {base:Heap} {A:Around} {outer:List Env} {s:Shared} {H:Hp} {g:Addr} {iname iq:Str} {ip:Arguments} {ib:List Stmt} {isc:Scope} {N ps fr:List Str} {cs vs:List V} {us:List Value} {cl:List (Str×Addr)} {k:Nat}
theorem clo_call {Q:VK} (C:CloL H g iname iq ip ib isc fr cs cl) (S:CloScope N ps fr isc) (hr:Room (k+1) A) (Y:Env0 P w K mg base A outer s H) (hl:vs.length=ps.length) (r:Vals vs us)
  (aa:∀ (a0 pm a6:Value) (c':Addr),bindArgs (PySem.W.fnX iname iq ip ib isc cl .none .none a0 pm none (.ref c') a6) ⟨us,[]⟩=pure (ps.zip us))
  (a9:∀ (cd:Value) (A':Around),Room k A'->∃ t,PSs (ZEq P w K mg base N iq isc g cd cl A outer s (hid cl H)) ib t /\ t { nx:=fun _ H'=>NoC cl H'->Q .non (back cl H H'),rt:=fun v H'=>NoC cl H'->Q v (back cl H H') } (ZCm N vs cs) (hid cl H)) :
  codeAny (model P w) A (.call (.ref g) ⟨us,[]⟩) (fun r s'=>match r with | .ok (.ret u)=>CE outer P w H s Q u s' | _=>False) s:=by
 obtain ⟨a0,pm,a6,c',hg,hc⟩:=C.obj
 have ac:=ZDf Y.hok hg
 have ah:s.heap.NoLimit:=Y.mod.nolimit.keeps fun b o e=>(Y.bs b o e).1
 have ai:ps.Nodup:=by rw [<- S.pre];exact S.nd.sublist (List.take_sublist _ _)
 refine codeAny_call_def (o:=PySem.W.fnMade iname iq ip ib isc cl a0 pm c' a6) (fd:=PySem.W.fnX iname iq ip ib isc cl .none .none a0 pm none (.ref c') a6) (body:=ib) (binds:=ps.zip us) hr.depth ac rfl ah (hc.rec Y.hok) rfl (.of_eq (aa a0 pm a6 c')) S.nocell (fun y hy=>S.par _ (List.of_mem_zip hy).1) (fun h₁ ag U=>?_) S.co S.gen S.kind
 obtain ⟨t,ht,hq⟩:=a9 (.ref c') _ (hr.deeper (PySem.W.envX iq isc s.heap.objs.size g (.ref c') cl))
 have L:∀ x c,cl.lookup x=some c->∃ o u,H c=some (FZ o) /\ s.heap.get? c=some o /\ o.data=.cell u:=fun x c h=>by
  obtain ⟨u,o,e,d⟩:=C.cells x c h
  exact ⟨o,u,e,ZDf Y.hok e,d⟩
 have af:∀ x c,cl.lookup x=some c->c∉frs outer:=fun x c h hb=>by
  obtain ⟨o,u,e,_⟩:=L x c h
  rw [Y.frf c hb] at e;cases e
 have ak:ps.length <= N.length:=by have:=S.two;omega
 have I:Inv (ZEq P w K mg base N iq isc g (.ref c') cl A outer s (hid cl H)) [] (ZCm N vs cs) (hid cl H) { s with heap:=h₁,toks:=s.toks+(ps.zip us).length }:=by
  refine ⟨⟨Y.mod,S.kind,rfl,rfl,yAB _,C.inj,fun x hx=>?_,fun y c h=>absurd h (by simp [ZEq]),fun _=>hr.hd,Around.frames_deeper Y.frames,.inr ⟨rfl,rfl⟩,fun b z=>absurd (show b∈([]:List Addr) from z) (by simp),fun b o e=>?_,Y.bsz,fun b _ _ z=>absurd (show b∈([]:List Addr) from z) (by simp),fun b z=>absurd (show b∈([]:List Addr) from z) (by simp),Y.funs,fun b hb=>?_⟩,
   rfl,Y.bare,Un.kept U,⟨_,ag,fun i x v h1 h2 h3=>?_⟩,fun x c h=>?_,?_,fun x c h=>ZEP h,fun p hp=>absurd (show p∈([]:List (Addr×Obj)) from hp) (by simp),?_,?_⟩
  .have hx:isc.names.lookup x=some .cell∨isc.names.lookup x=some .free:=hx
   rcases hx with hx | hx
   .exact absurd rfl (S.nocell _ (PySem.mem_of_lookup hx))
   .obtain ⟨i,hi⟩:=yCF (S.only x hx)
    obtain ⟨v,c,u,o,_,h2,_⟩:=C.cell i x hi
    exact ⟨c,h2⟩
  .refine ⟨(Y.bs b o e).1,?_⟩
   show hid cl H b=none
   by_cases q:∃ x,cl.lookup x=some b
   .obtain ⟨x,q⟩:=q;exact ZEP q
   .rw [ZDO q];exact (Y.bs b o e).2
  .show hid cl H b=none
   rw [ZDO]
   .exact Y.frf b hb
   .rintro ⟨x,q⟩;exact af x b q hb
  .have h1:N[i]?=some x:=h1
   have ad:=C.len
   rcases startC_get (by rw [hl,ad];exact S.two) h2 with h4 | ⟨h4,h5⟩
   .obtain ⟨u,hu,rv⟩:=r.get h4
    have hi:i < vs.length:=(yAK.mp h4).1
    have hp:ps[i]?=some x:=by rw [<- S.pre,List.getElem?_take_of_lt (by omega)];exact h1
    exact ⟨u,rv,.inl ⟨S.par x (yAL hp),zip_lookup ai hp hu⟩⟩
   .have hf:fr[i-(N.length-cs.length)]?=some x:=by
     rw [<- S.suf,List.getElem?_drop,<- ad,show N.length-cs.length+(i-(N.length-cs.length))=i by omega]
     exact h1
    obtain ⟨v',c,u,o,a1,a2,a3,a4,a5⟩:=C.cell _ x hf
    rw [h5] at a1
    cases a1
    refine ⟨u,a3,.inr ⟨.inr (S.free x (yAL hf)),c,a2,o,U _ _ (ZDf Y.hok a4),a5⟩⟩
  .obtain ⟨o,u,e,Z,d⟩:=L x c h
   exact ⟨u,o,U _ _ Z,d⟩
  .show hid cl H s.heap.objs.size=none
   have hn:=Y.hok.fresh (yAB _)
   rw [ZDO]
   .exact hn
   .rintro ⟨x,q⟩
    obtain ⟨o,u,e,_⟩:=L x _ q
    rw [hn] at e;cases e
  .intro b o e
   have e':=hid_le e
   refine (Y.hok b o e').stay (fun c v _ q=>U c v q) (fun c q=>?_) fun c xs q=>?_
   .exact ZB5 C.cells q (fun ob z=>by cases z)
   .exact ZB5 C.cells q (fun ob z=>by cases z)
  .unfold ZCm
   show _=N.length
   have:=S.two
   have:=C.len
   simp only [yAC,yAA,yBX]
   omega
 refine wpAny_mono (ht [] _ (ZCm N vs cs) (hid cl H) _ I hq) (fun fl s' hs=>?_) fun e s' hs=>False.elim hs
 have fin:∀ {a7:St} {H':Hp} {v:V} {u:Value},Inv (ZEq P w K mg base N iq isc g (.ref c') cl A outer s (hid cl H)) [] a7 H' s'->RelV v u->(NoC cl H'->Q v (back cl H H'))->CE outer P w H s Q u s' :=
  fun {a7 H' v u} J rv q=>by
   have un:Un (frs outer) [] (hid cl H) H' s.heap s'.heap:=J.base
   have ae:∀ b:Addr,b∉([]:List Addr):=fun b=>by simp
   have a8:∀ x c o,cl.lookup x=some c->s.heap.get? c=some o->s'.heap.get? c=some o:=fun x c o h e=>un.keep c o e (ZEP h) (af x c h) (ae c)
   have O:∀ x c,cl.lookup x=some c->H' c=none:=fun x c h=>by
    obtain ⟨o,u,e,Z,d⟩:=L x c h
    exact un.free c o Z (ZEP h) (ae c)
   refine ⟨v,back cl H H',J.os,J.bare,⟨fun b o e n hb hx=>?_,fun b o e n hb hx=>?_,fun b o e n hx=>?_,un.there,fun b xs e=>?_,fun b o u' e=>?_,fun b aj e=>?_⟩,fun b o e=>?_,rv,q O⟩
   .refine un.keep b o e ?_ hb hx
    by_cases q:∃ x,cl.lookup x=some b
    .obtain ⟨x,q⟩:=q;exact ZEP q
    .rw [ZDO q];exact n
   .refine un.slot b o e ?_ hb hx
    by_cases q:∃ x,cl.lookup x=some b
    .obtain ⟨x,q⟩:=q;exact ZEP q
    .rw [ZDO q];exact n
   .have nc:¬ ∃ x,cl.lookup x=some b:=by
     rintro ⟨x,q⟩
     obtain ⟨o,u,e,_⟩:=L x b q
     rw [n] at e;cases e
    rw [ZCZ nc]
    exact un.free b o e (by rw [ZDO nc];exact n) hx
   .have Z:=un.tups b xs (ZB5 C.cells e (fun ob z=>by cases z))
    rw [ZCZ]
    .exact Z
    .rintro ⟨x,q⟩;rw [O x b q] at Z;cases Z
   .by_cases q:∃ x,cl.lookup x=some b
    .obtain ⟨x,q⟩:=q;rw [ZDg q];exact e
    .rw [ZCZ q];exact un.frzs b o u' (by rw [ZDO q];exact e)
   .obtain ⟨more,Z⟩:=un.tbls b aj (ZB5 C.cells e (fun ob z=>by cases z))
    refine ⟨more,?_⟩
    rw [ZCZ]
    .exact Z
    .rintro ⟨x,q⟩;rw [O x b q] at Z;cases Z
   .have up:∀ c oc,H' c=some oc->back cl H H' c=some oc:=fun c oc q=>by
     rw [ZCZ]
     .exact q
     .rintro ⟨x,z⟩;rw [O x c z] at q;cases q
    by_cases q:∃ x,cl.lookup x=some b
    .obtain ⟨x,q⟩:=q
     rw [ZDg q] at e
     obtain ⟨o2,u2,Z,e3,d⟩:=L x b q
     rw [e] at Z
     cases Z
     exact ZFF (a8 x b _ q e3)
    .rw [ZCZ q] at e
     exact (J.hok b o e).stay (fun c v _ q=>q) (fun c q=>up c _ q) fun c xs q=>up c _ q
 cases fl with
 | ret u=>
  obtain ⟨v,a7,H',J,rv,q⟩:=hs
  exact fin J rv q
 | next=>
  obtain ⟨a7,H',J,q⟩:=hs
  exact fin (v:=V.non) (u:=Value.none) J rfl q
 | brk=>
  obtain ⟨_,_,_,q⟩:=hs
  exact False.elim q
 | cont=>
  obtain ⟨_,_,_,q⟩:=hs
  exact False.elim q
end
noncomputable def ZEy (r:V->List V->Hp->VK->Prop) (ta:TE) (t:TA):TE:=fun σ H Q=>ta σ H fun f H1=>(∃ g o,f=.ref g /\ H1 g=some (FZ o) /\ ∃ fd,o.data=.func fd) /\ t σ H1 fun vs H2=>r f vs H2 Q
noncomputable def CloR (X:Cx) (r:V->List V->Hp->VK->Prop):Prop :=
 ∀ (pins:List (Addr×Obj)) (s:Shared) (σ:St) (H:Hp) (f:Addr) (vs:List V) (us:List Value) (Q:VK),Inv X pins σ H s->Vals vs us->r (.ref f) vs H Q ->
  PySem.W.FnAt f s.heap /\ wpAny (model X.prog X.w) X.A (call (.ref f) us) (EP X pins σ Q) X.xe s
theorem fnAt_of {h:Heap} {g:Addr} {o:Obj} {fd:FuncData} (e:h.get? g=some o) (d:o.data=.func fd):PySem.W.FnAt g h:=by
 obtain ⟨oc,od,z,J⟩:=o
 have d':z=.func fd:=d
 subst d'
 exact ⟨oc,od,fd,J,e⟩
theorem pe_callV {X:Cx} {x:Str} {p pos:Pos} {e:Expr} {es:List Expr} {ta:TE} {t:TA} {r:V->List V->Hp->VK->Prop} (hc:CloR X r) (hx:PE X (.Name x p) ta) (ha:PA X (e::es) t)
  (L:starEach (e::es) X.env=(false,eval e X.env)::starEach es X.env:=by rfl) (z:(backTo pos (starEach es X.env)).any (·.1)=false:=by rfl):PE X (.Call (.Name x p) (e::es) [] pos) (ZEy r ta t):=by
 intro pins s σ H Q I h
 refine wpAny_Call_Name_kw (thn (hx pins s σ H _ I h) fun v s1 zz=>?_)
 obtain ⟨f,H1,J,O,⟨g,o,eg,Z,fd,hd⟩,q⟩:=zz
 subst eg
 cases O
 refine PySem.W.callWith_F (fnAt_of (ZDf J.hok Z) hd) (thn (ha pos pins s1 σ H1 _ J q) fun us s2 zz=>?_) L z
 obtain ⟨vs,H2,I2,Y,U⟩:=zz
 exact hc pins s2 σ H2 g vs us Q I2 Y U
structure CloOk (P:Program) (w:World) (K:W.Frag) (mg:Str->Option Value) (base:Heap) (k:Nat) (r:V->List V->Hp->VK->Prop):Prop where
 run:∀ (A:Around) (outer:List Env) (s:Shared) (H:Hp) (f:Addr) (vs:List V) (us:List Value) (Q:VK),Room k A->Env0 P w K mg base A outer s H->Vals vs us->r (.ref f) vs H Q ->
  PySem.W.FnAt f s.heap /\ codeAny (model P w) A (.call (.ref f) ⟨us,[]⟩) (fun r s'=>match r with | .ok (.ret u)=>CE outer P w H s Q u s' | _=>False) s
theorem CloOk.at {X:Cx} {k:Nat} {r:V->List V->Hp->VK->Prop} (C:CloOk X.prog X.w X.K X.mg X.base k r) (J:Room k X.A):CloR X r:=by
 intro pins s σ H f vs us Q I rv h
 obtain ⟨h1,h2⟩:=C.run X.A X.stack s H f vs us Q J I.env0 rv h
 refine ⟨h1,wpAny_call (codeAny_mono h2 fun r s' z=>?_)⟩
 cases r with
 | error e=>exact False.elim z
 | ok fl=>
  cases fl with
  | ret u=>exact I.after z
  | next=>exact False.elim z
  | brk=>exact False.elim z
  | cont=>exact False.elim z
theorem Clo.fnAt {P:Program} {w:World} {H:Hp} {h:Heap} {g:Addr} {iname iq:Str} {ip:Arguments} {ib:List Stmt} {isc:Scope} {fr:List Str} {cs:List V} {cl:List (Str×Addr)} (x:HOk P w H h) (C:CloL H g iname iq ip ib isc fr cs cl):PySem.W.FnAt g h:=by
 obtain ⟨z,L,J,c',e,_⟩:=C.obj
 exact fnAt_of (ZDf x e) rfl
theorem clo_of {P:Program} {w:World} {K:W.Frag} {mg:Str->Option Value} {base:Heap} {iname iq:Str} {ip:Arguments} {ib:List Stmt} {isc:Scope} {N ps fr:List Str} {k:Nat} {r:V->List V->Hp->VK->Prop} (S:CloScope N ps fr isc)
  (U:∀ f vs H Q,r f vs H Q->∃ g cs,f=.ref g /\ Clo H g iname iq ip ib isc fr cs) (len:∀ f vs H Q,r f vs H Q->vs.length=ps.length)
  (L:∀ (cl:List (Str×Addr)) (J Y O:Value) (c':Addr) (us:List Value),us.length=ps.length->bindArgs (PySem.W.fnX iname iq ip ib isc cl .none .none J Y none (.ref c') O) ⟨us,[]⟩=pure (ps.zip us))
  (z:∀ (g:Addr) (cs:List V) (cl:List (Str×Addr)) (cd:Value) (A:Around) (outer:List Env) (s:Shared) (H:Hp) (vs:List V) (Q:VK),Room k (A.deeper (PySem.W.envX iq isc s.heap.objs.size g cd cl))->CloL H g iname iq ip ib isc fr cs cl->r (.ref g) vs H Q ->
   ∃ t,PSs (ZEq P w K mg base N iq isc g cd cl A outer s (hid cl H)) ib t /\ t { nx:=fun _ H'=>NoC cl H'->Q .non (back cl H H'),rt:=fun v H'=>NoC cl H'->Q v (back cl H H') } (ZCm N vs cs) (hid cl H)):CloOk P w K mg base (k+1) r:=by
 refine ⟨fun A outer s H f vs us Q Z e0 rv h=>?_⟩
 obtain ⟨g,cs,eg,cl,C⟩:=U _ _ _ _ h
 cases eg
 have hl:=len _ _ _ _ h
 refine ⟨Clo.fnAt e0.hok C,clo_call (k:=k) C S Z e0 hl rv (fun J Y O c'=>L cl J Y O c' us (by rw [<- rv.length];exact hl)) fun cd A' a0=>?_⟩
 exact z f cs cl cd A outer s H vs Q (Z.deeper _) C h
theorem NoC.ne {cl:List (Str×Addr)} {H:Hp} {b:Addr} {o:HO} (n:NoC cl H) (h:H b=some o):¬ ∃ x,cl.lookup x=some b:=fun ⟨x,e⟩=>by rw [n x b e] at h;cases h
noncomputable def TabSt (H:Hp) (Pt:Addr) (pos:Pos) (iq:Str):Prop:=H Pt=some (.tbl #[])∨∃ c',H Pt=some (.tbl #[rawInt pos.line,rawInt pos.col,.ref c']) /\ CodeAt H c' iq
theorem TabSt.mono {H H':Hp} {Pt:Addr} {pos:Pos} {iq:Str} (e:H' Pt=H Pt) (f:ZEl H H') (k:TabSt H Pt pos iq):TabSt H' Pt pos iq:=by
 rcases k with k | ⟨c',k,q⟩
 .exact .inl (e.trans k)
 .exact .inr ⟨c',e.trans k,q.mono f⟩
noncomputable def ZD8 (mg:Str->Option Value) (h:Heap):Prop:=∃ bm ob,mg "__builtins__"=some (.ref bm) /\ bm≠builtinsNs /\ h.get? bm=some ob /\ ob.cls=.type "module" /\ ob.dict=some builtinsNs /\ ob.data=.plain
structure MadeDef (H H':Hp) (Pt:Addr) (pos:Pos) (g:Addr) (iname iq:Str) (ip:Arguments) (ib:List Stmt) (isc:Scope) (fr:List Str) (cs:List V):Prop where
 same:∀ b o,b≠Pt->H b=some o->H' b=some o
 tab:TabSt H' Pt pos iq
 clo:Clo H' g iname iq ip ib isc fr cs
 fresh:H g=none
section
variable {X:Cx} {pins:List (Addr×Obj)} {σ:St} {H:Hp} {s:Shared}
structure MadeMid (H H':Hp) (Pt:Addr) (pos:Pos) (g:Addr) (iname iq:Str) (ip:Arguments) (ib:List Stmt) (isc:Scope) (cl:List (Str×Addr)):Prop where
 same:∀ b o,b≠Pt->H b=some o->H' b=some o
 tab:TabSt H' Pt pos iq
 obj:∃ (doc pm ctv:Value) (c':Addr),H' g=some (FZ (PySem.W.fnMade iname iq ip ib isc cl doc pm c' ctv)) /\ CodeAt H' c' iq
 fresh:H g=none
theorem Inv.made3 (I:Inv X pins σ H s) {Pt c':Addr} {ps more:Array Value} {h':Heap} {oc fo:Obj} {tk:Nat} (O:H Pt=some (.tbl ps)) (hx:Heap.ExtBut Pt s.heap h') (L:s.heap.objs.size <= c') (U:c' < h'.objs.size) (a2:h'.get? c'=some oc)
  (Y:h'.get? Pt=some (PySem.W.tabObj (ps++more))) (a1:fo.isFreed=false):Inv X pins σ (upd (upd (upd H Pt (.tbl (ps++more))) c' (FZ oc)) h'.objs.size (FZ fo)) { s with heap:=h'.push fo,toks:=tk }:=by
 have gn:∀ b o,s.heap.get? b=some o->b≠h'.objs.size /\ b≠c':=fun b o e=>by
  have l:=Heap.lt_size e
  exact ⟨yAI (Nat.lt_trans (yAU l L) U),yAI (yAU l L)⟩
 have Z:∀ b o,H b=some o->b≠h'.objs.size /\ b≠c':=fun b o e=>by
  have l:=I.hok.lt e
  exact ⟨yAI (Nat.lt_trans (yAU l L) U),yAI (yAU l L)⟩
 have np:∀ b,H b=none->b≠Pt:=fun b n z=>by rw [z,O] at n;cases n
 have cg:c'≠h'.objs.size:=yAI U
 have J:∀ b o,b≠Pt->H b=some o->upd (upd (upd H Pt (.tbl (ps++more))) c' (FZ oc)) h'.objs.size (FZ fo) b=some o:=fun b o n e=>by
  rw [ZAG (Z b o e).1,ZAG (Z b o e).2,ZAG n];exact e
 have a0:upd (upd (upd H Pt (.tbl (ps++more))) c' (FZ oc)) h'.objs.size (FZ fo) Pt=some (.tbl (ps++more)):=by
  rw [ZAG (Z Pt _ O).1,ZAG (Z Pt _ O).2,ZAF]
 refine I.un (h':=h'.push fo) (t':=tk) ⟨fun b o e n _ _=>?_,fun b o e n _ _=>?_,fun b o e n _=>?_,fun b o e _=>?_,fun b xs e=>?_,fun b o u e=>?_,fun b qs e=>?_⟩ fun b o e=>?_
 .exact Heap.get?_push_of_some _ (hx b o (np b n) e)
 .exact ⟨o.slots,Heap.get?_push_of_some _ (hx b o (np b n) e)⟩
 .rw [ZAG (gn b o e).1,ZAG (gn b o e).2,ZAG (np b n)];exact n
 .by_cases q:b=Pt
  .subst q;exact ⟨_,Heap.get?_push_of_some _ Y⟩
  .exact ⟨o,Heap.get?_push_of_some _ (hx b o q e)⟩
 .exact J b _ (fun z=>by rw [z,O] at e;cases e) e
 .exact J b _ (fun z=>by rw [z,O] at e;cases e) e
 .by_cases q:b=Pt
  .subst q
   rw [O] at e
   cases e
   exact ⟨more,a0⟩
  .exact ⟨#[],by rw [J b _ q e];simp⟩
 .by_cases q1:b=h'.objs.size
  .subst q1;rw [ZAF] at e;cases e;exact ZFF (Heap.get?_push_size _ a1)
  .rw [ZAG q1] at e
   by_cases q2:b=c'
   .subst q2;rw [ZAF] at e;cases e;exact ZFF (Heap.get?_push_of_some _ a2)
   .rw [ZAG q2] at e
    by_cases q3:b=Pt
    .subst q3;rw [ZAF] at e;cases e;exact Heap.get?_push_of_some _ Y
    .rw [ZAG q3] at e
     refine (I.hok b o e).stay (fun c u hc q=>?_) (fun c q=>?_) fun c xs q=>?_
     .refine Heap.get?_push_of_some _ (hx c u ?_ q)
      rcases hc with z | z
      .rw [z];exact q3
      .intro z2;rw [z2,O] at z;cases z
     .exact J c _ (fun z=>by rw [z,O] at q;cases q) q
     .exact J c _ (fun z=>by rw [z,O] at q;cases q) q
theorem Inv.made1 (I:Inv X pins σ H s) {h':Heap} {fo:Obj} {tk:Nat} (J:∀ b o,s.heap.get? b=some o->h'.get? b=some o) (hsz:s.heap.objs.size <= h'.objs.size) (z:fo.isFreed=false):Inv X pins σ (upd H h'.objs.size (FZ fo)) { s with heap:=h'.push fo,toks:=tk } :=
 I.laid (fun b u q=>Heap.get?_push_of_some _ (J b u q)) hsz (ZFF (Heap.get?_push_size _ z))
noncomputable def tDef (i:Nat) (Pt:Addr) (pos:Pos) (iname iq:Str) (ip:Arguments) (ib:List Stmt) (isc:Scope) (cl:List (Str×Addr)):TS:=fun D σ H=>TabSt H Pt pos iq /\ ∀ g H',MadeMid H H' Pt pos g iname iq ip ib isc cl->D.nx (σ.set i (some (.ref g))) H'
theorem ps_def {i:Nat} {Pt c:Addr} {pos:Pos} {iname iq:Str} {ip:Arguments} {ib:List Stmt} {isc:Scope} (hN:X.N.Nodup) (hi:X.N[i]?=some iname) (hx:Loc X.env.scope iname) (hf:X.fn iname=true∨X.env.scope.names.lookup iname=some .local)
  (U:X.env.code=.ref c) (C:PySem.W.CodeHd X.base c Pt) (B:ZD8 X.mg X.base) (hq:qualnameIn X.env iname iname=iq) (hd0:ip.defaults=[]) (a9:ip.kw_defaults=[]) (ha:annTrees ip none X.env=[])
  (af:∀ x,(x,NameKind.free)∈isc.names->∃ c,X.env.cells.lookup x=some c) :
  PS X (.FunctionDef iname ip ib [] none [] isc none iname pos) (tDef i Pt pos iname iq ip ib isc (closFrom X.env.cells isc.names [])):=by
 intro pins s σ H D I h
 obtain ⟨Y,h⟩:=h
 refine PySem.W.nestDef_K hd0 a9 ha ?_
 rw [hq]
 have a3:=I.ok.mod.glob.keeps I.bk
 have hC:=C.keeps I.bk
 have a5:=closureFor_eq (scope:=isc) (env:=X.env) af
 obtain ⟨bm,ob,b1,b2,b3,b4,b5,b6⟩:=B
 have a8:bm≠mainGlobals:=fun q=>by
  obtain ⟨o,es,ep,e,hd,_⟩:=I.ok.mod.glob
  rw [q,e] at b3;cases b3;rw [hd] at b6;cases b6
 have apart:∀ {qs:Array Value},s.heap.get? Pt=some (PySem.W.tabObj qs)->mainGlobals≠Pt /\ s.heap.BuiltinsAt X.mg Pt:=fun {qs} hm=>by
  refine ⟨fun q=>?_,bm,ob,b1,b2,a8,fun q=>?_,I.bk _ _ b3,b4,b5,b6⟩
  .obtain ⟨o,es,ep,e,hd,_⟩:=a3
   rw [q,hm] at e;cases e;cases hd
  .have e:=I.bk _ _ b3
   rw [q,hm] at e;cases e;cases b4
 have fin:∀ {g:Addr} {H':Hp} {s':Shared},Inv X pins σ H' s'->MadeMid H H' Pt pos g iname iq ip ib isc (closFrom X.env.cells isc.names []) ->
   wpAny (model X.prog X.w) X.A (storeName X.env iname (.ref g)) (fun _ a6=>SP X pins D .next a6) X.xe s':=fun {g H' s'} J M=>
  ZC5 J hN hi hx (v:=.ref g) rfl (fun a6 J'=>⟨_,H',J',h g H' M⟩) hf
 rcases Y with Y | ⟨c1,Y,aa⟩
 .have hP:s.heap.get? Pt=some (PySem.W.tabObj #[]):=I.hok Pt _ Y
  obtain ⟨a1,a2⟩:=apart hP
  refine PySem.W.makeFunction_K a5 I.ok.glob a3 U hC hP trivial rfl a1 a2 fun c' L z h' tk ad Z a0 a7 ac=>?_
  obtain ⟨c2,oc,vs,t,e2,ae,hd,hv⟩:=a7
  cases e2
  have J:=I.made3 (tk:=tk) (fo:=PySem.W.fnMade iname iq ip ib isc (closFrom X.env.cells isc.names []) z ((X.mg "__name__").getD .none) c' L) Y ad Z a0 ae ac rfl
  have gt:∀ b o,H b=some o->b≠h'.objs.size /\ b≠c':=fun b o e=>by
   have l:=I.hok.lt e
   exact ⟨yAI (Nat.lt_trans (yAU l Z) a0),yAI (yAU l Z)⟩
  have O:CodeAt (upd (upd (upd H Pt (.tbl (#[]++#[rawInt pos.line,rawInt pos.col,.ref c']))) c' (FZ oc)) h'.objs.size (FZ (PySem.W.fnMade iname iq ip ib isc (closFrom X.env.cells isc.names []) z ((X.mg "__name__").getD .none) c' L))) c' iq :=
   ⟨oc,vs,t,by rw [ZAG (yAI a0),ZAF],hd,hv⟩
  refine fin J ⟨fun b o n e=>?_,.inr ⟨c',?_,O⟩,⟨z,_,L,c',ZAF,O⟩,?_⟩
  .rw [ZAG (gt b o e).1,ZAG (gt b o e).2,ZAG n];exact e
  .rw [ZAG (gt Pt _ Y).1,ZAG (gt Pt _ Y).2,ZAF];rfl
  .exact I.hok.fresh (yAG Z (yBP a0))
 .have hP:s.heap.get? Pt=some (PySem.W.tabObj #[rawInt pos.line,rawInt pos.col,.ref c1]):=I.hok Pt _ Y
  obtain ⟨a1,a2⟩:=apart hP
  refine PySem.W.makeFunction_hit (cv:=.ref c1) a5 I.ok.glob a3 U hC hP trivial ?_ a2 fun L z h' tk hk hsz=>?_
  .simp [codeAmong,rawInt]
  have J:=I.made1 (tk:=tk) (fo:=PySem.W.fnMade iname iq ip ib isc (closFrom X.env.cells isc.names []) z ((X.mg "__name__").getD .none) c1 L) hk hsz rfl
  have gt:∀ b o,H b=some o->b≠h'.objs.size:=fun b o e=>yAI (yAU (I.hok.lt e) hsz)
  have a4:∀ b o,H b=some o->upd H h'.objs.size (FZ (PySem.W.fnMade iname iq ip ib isc (closFrom X.env.cells isc.names []) z ((X.mg "__name__").getD .none) c1 L)) b=some o:=fun b o e=>by rw [ZAG (gt b o e)];exact e
  have O:=aa.mono (H':=upd H h'.objs.size (FZ (PySem.W.fnMade iname iq ip ib isc (closFrom X.env.cells isc.names []) z ((X.mg "__name__").getD .none) c1 L))) fun b o e=>a4 b _ e
  exact fin J ⟨fun b o _ e=>a4 b o e,.inr ⟨c1,a4 _ _ Y,O⟩,⟨z,_,L,c1,ZAF,O⟩,I.hok.fresh hsz⟩
end
noncomputable def ZEX (Pt:Addr) (pos:Pos) (iname iq:Str) (ip:Arguments) (ib:List Stmt) (isc:Scope) (fr:List Str) (ix:List Nat) (n:Nat):Sp:=fun vs H Q _=>
 vs.length=n /\ TabSt H Pt pos iq /\ ∀ g H',MadeDef H H' Pt pos g iname iq ip ib isc fr (ix.map fun i=>vs.getD i .non)->Q (.ref g) H'
theorem teller_ok {P:Program} {w:World} {K:W.Frag} {mg:Str->Option Value} {base:Heap} {x qual:Str} {st:Stmt} {f c Pt:Addr} {fd:FuncData} {ps:List Str} {iname iq:Str} {ip:Arguments} {ib:List Stmt} {isc:Scope} {pos rp af:Pos} {fr:List Str} {ix:List Nat}
  (F:Fun K x qual st f fd) (S:FnScope (ps++[iname]) ps (ZAD st)) (ao:fd.code=.ref c) (C:PySem.W.CodeHd base c Pt) (B:ZD8 mg base)
  (hb:ZAM st=[.FunctionDef iname ip ib [] none [] isc none iname pos,.Return (some (.Name iname rp)) af]) (au:∀ L cd,qualnameIn (envOfC qual (ZAD st) L f cd) iname iname=iq) (hd0:ip.defaults=[]) (ax:ip.kw_defaults=[]) (ha:∀ L cd,annTrees ip none (envOfC qual (ZAD st) L f cd)=[])
  (a0:(ZAD st).names.lookup iname=some .local) (am:(iname == ("__debug__":Str))=false) (ae:(iname == ("__classdict__":Str))=false)
  (Z:∀ y∈isc.names,y.2=.free->y.1∈fr) (aj:∀ y∈fr,(y,NameKind.free)∈isc.names) (a7:∀ y∈fr,(ZAD st).names.lookup y=some .cell) (ay:∀ (j:Nat) (y:Str),fr[j]?=some y->∃ i,ix[j]?=some i /\ ps[i]?=some y) (ai:ix.length=fr.length) :
  FnOk P w K mg base CX0 1 f fd ps (ZEX Pt pos iname iq ip ib isc fr ix ps.length):=by
 obtain ⟨oc,od,kV,b1,pm,an,a6,ct,b0,rfl,lk,ag⟩:=F.ex
 have aa:a6=.ref c:=ao
 refine ⟨fun vs H Q E h=>h.1,fun A outer s H args us vs Q E hr e0 ar r aw=>?_⟩
 obtain ⟨hl,hT,hQ⟩:=aw
 have KX:K.In s.heap:=e0.mod.kin.keeps fun b o e=>(e0.bs b o e).1
 have av:s.heap.NoLimit:=e0.mod.nolimit.keeps fun b o e=>(e0.bs b o e).1
 have a8:∀ y∈ps.zip us,(ZAD st).names.lookup y.1=some .local∨((ZAD st).names.lookup y.1=some .cell /\ ((cellsFrom (s.heap.objs.size+1) (ZAD st).names []).lookup y.1).isSome=true):=fun ⟨n,v⟩ hy=>by
  rcases S.par n (List.of_mem_zip hy).1 with q | q
  .exact .inl q
  .exact .inr ⟨q,PySem.W.cellsFrom_some _ _ _ (.inl q)⟩
 refine codeAny_call_function hr.depth (KX _ _ lk) rfl S.co S.gen rfl (PySem.W.codeRec_of KX ag) (ar _ _ _ _ ?_)
 refine wpAny_newFunctionEnv_cells S.kind a8 fun env he s1 xx=>?_
 subst he
 refine ⟨av.keeps xx.toInCall.keep,codeAny_func ?_⟩
 have I:Inv (cxOf CX0 P w K mg base (ps++[iname]) qual (ZAD st) f a6 A outer s H E).nox [] (start (ps++[iname]) vs) H s1:=(inv_start S hr.hd e0 hl r xx).wish _
 have O:∀ y∈fr,∃ cc,(cellsFrom (s.heap.objs.size+1) (ZAD st).names []).lookup y=some cc:=fun y hy=>ZDC (a7 y hy)
 rw [hb]
 have al:(ps++[iname])[ps.length]?=some iname:=by simp
 have d1:=ps_def (X:=(cxOf CX0 P w K mg base (ps++[iname]) qual (ZAD st) f a6 A outer s H E).nox) (i:=ps.length) (pos:=pos) (Pt:=Pt) (c:=c) (iq:=iq) (ip:=ip) (ib:=ib) (isc:=isc) S.nd al (.inl a0) (.inr a0) aa C B (au _ _) hd0 ax (ha _ _) fun y hy=>O y (Z _ hy rfl)
 have a9:(start (ps++[iname]) vs).length=ps.length+1:=by
  unfold start
  simp only [yAC,yAA,yBX,yAQ,yBL]
  omega
 have run:=d1 [] s1 (start (ps++[iname]) vs) H { nx:=fun ad H'=>∃ g,ad=(start (ps++[iname]) vs).set ps.length (some (.ref g)) /\ MadeMid H H' Pt pos g iname iq ip ib isc (closFrom (cellsFrom (s.heap.objs.size+1) (ZAD st).names []) isc.names []),rt:=fun _ _=>False } I ⟨hT,fun g H' M=>⟨g,rfl,M⟩⟩
 refine wpAny_execs_cons (wpAny_mono run (fun fl s2 q=>?_) fun e s' z=>z.elim)
 cases fl with
 | ret v=>obtain ⟨_,_,_,_,_,q⟩:=q;exact q.elim
 | brk=>obtain ⟨_,_,_,q⟩:=q;exact q.elim
 | cont=>obtain ⟨_,_,_,q⟩:=q;exact q.elim
 | next=>
  obtain ⟨ad,H',J,g,rfl,M⟩:=q
  have v1:=pe_var (pos:=rp) (X:=(cxOf CX0 P w K mg base (ps++[iname]) qual (ZAD st) f a6 A outer s H E).nox) al (.inl a0) am ae [] s2 _ H' (fun v H2=>v=.ref g /\ H2=H') J ⟨.ref g,by rw [List.getElem?_set_self (by rw [a9];omega)],rfl,rfl⟩
  refine wpAny_execs_cons (wpAny_Return_some (wpAny_mono v1 (fun u s3 q=>?_) fun e s' z=>z.elim))
  obtain ⟨v,H2,J2,rv,rfl,rfl⟩:=q
  cases rv
  have un:Un (frs outer) [] H H2 s.heap s3.heap:=J2.base
  have az:∀ b:Addr,b∉([]:List Addr):=fun b=>by simp
  have inj:=J2.ok.inj
  have aq:∀ (j:Nat) (y:Str),fr[j]?=some y->∃ v cc uu,(ix.map fun i=>vs.getD i .non)[j]?=some v /\ (cellsFrom (s.heap.objs.size+1) (ZAD st).names []).lookup y=some cc /\ RelV v uu /\ s3.heap.IsCell cc (some uu):=fun j y hj=>by
   obtain ⟨i,h1,h2⟩:=ay j y hj
   have hi:i < ps.length:=(yAK.mp h2).1
   obtain ⟨v,hv⟩:∃ v,vs[i]?=some v:=⟨_,yAD (by omega)⟩
   obtain ⟨m,_,hm⟩:=J2.loc
   have hs:((start (ps++[iname]) vs).set ps.length (some (.ref g)))[i]?=some (some v):=by
    rw [List.getElem?_set_ne (by omega)]
    unfold start
    rw [yAX (by rw [yAA];omega),yAJ,hv]
    rfl
   have hN:(ps++[iname])[i]?=some y:=by rw [yAX hi];exact h2
   obtain ⟨uu,ru,ap⟩:=hm i y v hN hs (.inr (.inl (a7 y (yAL hj))))
   refine ⟨v,?_⟩
   rcases ap with ⟨k1,_⟩ | ⟨_,cc,e1,e2⟩
   .have k2:(ZAD st).names.lookup y=some .local:=k1
    rw [a7 y (yAL hj)] at k2
    cases k2
   .refine ⟨cc,uu,?_,e1,ru,e2⟩
    rw [yAJ,h1]
    show some (vs.getD i .non)=some v
    rw [yBI,hv]
    rfl
  have Y:∀ y cc,(closFrom (cellsFrom (s.heap.objs.size+1) (ZAD st).names []) isc.names []).lookup y=some cc->y∈fr /\ (cellsFrom (s.heap.objs.size+1) (ZAD st).names []).lookup y=some cc:=fun y cc h=>by
   rcases ZBj _ _ y cc (PySem.mem_of_lookup h) with z | ⟨z1,z2⟩
   .cases z
   .have hy:=Z _ z1 rfl
    obtain ⟨c3,h3⟩:=O y hy
    rw [h3] at z2
    exact ⟨hy,by rw [h3];exact congrArg some z2.symm⟩
  have ak:∀ y cc,y∈fr->(cellsFrom (s.heap.objs.size+1) (ZAD st).names []).lookup y=some cc->(closFrom (cellsFrom (s.heap.objs.size+1) (ZAD st).names []) isc.names []).lookup y=some cc:=fun y cc hy h=>by
   obtain ⟨c3,h3⟩:=ZBS (ZBk (cells:=cellsFrom (s.heap.objs.size+1) (ZAD st).names []) isc.names [] y (aj y hy))
   have:=(Y y c3 h3).2
   rw [h] at this
   rw [h3,Option.some.inj this]
  have U:∀ y cc,(closFrom (cellsFrom (s.heap.objs.size+1) (ZAD st).names []) isc.names []).lookup y=some cc->s.heap.objs.size <= cc /\ H2 cc=none /\ ∃ o u,s3.heap.get? cc=some o /\ o.data=.cell u:=fun y cc h=>by
   obtain ⟨hy,h2⟩:=Y y cc h
   obtain ⟨u,o,e1,e2⟩:=J2.cell y cc h2
   exact ⟨yBP (xx.above y cc (PySem.mem_of_lookup h2)),J2.freeC y cc h2,o,u,e1,e2⟩
  generalize closFrom (cellsFrom (s.heap.objs.size+1) (ZAD st).names []) isc.names []=cl at M Y ak U
  have tr:∀ b,¬ (∃ y,cl.lookup y=some b)->back cl (fun b=>(s3.heap.get? b).map FZ) H2 b=H2 b:=fun b n=>ZCZ n
  have tc:∀ y b o,cl.lookup y=some b->s3.heap.get? b=some o->back cl (fun b=>(s3.heap.get? b).map FZ) H2 b=some (FZ o):=fun y b o h e=>by rw [ZDg h,e];rfl
  have ac:∀ b,b < s.heap.objs.size->¬ ∃ y,cl.lookup y=some b:=fun b hb ⟨y,z⟩=>absurd (U y b z).1 (Nat.not_le.mpr hb)
  have up:∀ b o,H2 b=some o->back cl (fun b=>(s3.heap.get? b).map FZ) H2 b=some o:=fun b o e=>by
   rw [tr b fun ⟨y,z⟩=>by rw [(U y b z).2.1] at e;cases e];exact e
  refine ⟨.ref g,back cl (fun b=>(s3.heap.get? b).map FZ) H2,J2.os,J2.bare,⟨un.keep,un.slot,fun b o e n hx=>?_,un.there,fun b xs e=>up _ _ (un.tups b xs e),fun b o u e=>up _ _ (un.frzs b o u e),fun b qs e=>?_⟩,fun b o e=>?_,rfl,hQ g _ ⟨fun b o n e=>up _ _ (M.same b o n e),?_,⟨cl,?_,fun y cc h=>(Y y cc h).1,fun y z cc h1 h2=>inj y z cc (Y y cc h1).2 (Y z cc h2).2,fun j y hj=>?_,?_⟩,M.fresh⟩⟩
  .rw [tr b (ac b (Heap.lt_size e))];exact un.free b o e n hx
  .obtain ⟨more,e2⟩:=un.tbls b qs e
   exact ⟨more,up _ _ e2⟩
  .by_cases q:∃ y,cl.lookup y=some b
   .obtain ⟨y,q⟩:=q
    obtain ⟨_,_,o2,u2,e2,_⟩:=U y b q
    rw [tc y b o2 q e2] at e
    cases e
    exact ZFF e2
   .rw [tr b q] at e
    exact (J2.hok b o e).stay (fun c v _ q=>q) (fun c q=>up c _ q) fun c xs q=>up c _ q
  .exact M.tab.mono (by
    rcases M.tab with z | ⟨_,z,_⟩
    .rw [z];exact up _ _ z
    .rw [z];exact up _ _ z) fun b o e=>up b _ e
  .obtain ⟨d1,d2,d3,c3,e1,e2⟩:=M.obj
   exact ⟨d1,d2,d3,c3,up _ _ e1,e2.mono fun b o e=>up b _ e⟩
  .obtain ⟨v,cc,uu,a1,a2,a3,o,a4,a5⟩:=aq j y hj
   have ah:=ak y cc (yAL hj) a2
   exact ⟨v,cc,uu,o,a1,ah,a3,tc y cc o ah a4,a5⟩
  .rw [yAA];exact ai
noncomputable def ZFq (tabs:List (Addr×Addr)) (H:Hp):Prop:=∀ q∈tabs,H q.2=some (.tbl #[])
theorem law_callT {P:Program} {w:World} {K:W.Frag} {mg mb:Str->Option Value} {CX:CXT} {k:Nat} {fa a:Addr} {fd:FuncData} {x:Str} {sp:Sp} {s₁:Shared} {vs:List Value} {ns:List Int} {tabs:List (Addr×Addr)}
  (KX:K.In s₁.heap) (a6:s₁.heap.Ns mainGlobals mg) (U:s₁.heap.Ns builtinsNs mb) (ak:∀ x:Str,x≠"__name__"->mb x=bootBuiltins x) (a7:s₁.heap.NoLimit) (hg:s₁.gens=#[])
  (ha:s₁.heap.get? a=some { cls:=.type "list",data:=.seq vs.toArray }) (hi:IntsAre vs ns) (hl:ns.length <= sizeLine) (hr:Room k callerA)
  (Z:∀ q∈tabs,PySem.W.CodeHd s₁.heap q.1 q.2 /\ s₁.heap.get? q.2=some (PySem.W.tabObj #[])) (nt:PySem.W.noTabs K=true) (ai:ZD8 mg s₁.heap)
  (F:∀ base:Heap,K.In base->base.Ns mainGlobals mg->(∀ q∈tabs,PySem.W.CodeHd base q.1 q.2)->ZD8 mg base->FnOk P w K mg base CX k fa fd [x] sp) (a5:∀ (s:Shared) (u:Value),BindsTo s fd ⟨[u],[]⟩ [(x,u)])
  (aj:∀ H:Hp,ZFq tabs H->SqL K H a (ns.map V.int)->sp [.ref a] H (fun v _=>v=.bl true) fun _ _ _=>False)
  (ah:∀ H e s',CX [] H s₁ (fun _ _ _=>False) e s'->False) :
  codeAny (model P w) callerA (.call (.ref fa) ⟨[.ref a],[]⟩) (fun r s'=>r=.ok (.ret (.bool true)) /\ OldK s₁.heap s'.heap /\ s'.os=s₁.os /\ AllBare s'.gens) s₁:=by
 have rv:=ZDD hi
 have a8:=hi.length
 have a1:∀ H:Hp,SqL K H a (ns.map V.int)->HOk P w H s₁.heap->(∀ b o,H b=some o->(b=a /\ K.lookup a=none /\ ∃ ob xs,o=.frz ob (.lst xs))∨(o=.tbl #[] /\ ∃ q∈tabs,q.2=b))->ZFq tabs H ->
   codeAny (model P w) callerA (.call (.ref fa) ⟨[.ref a],[]⟩) (fun r s'=>r=.ok (.ret (.bool true)) /\ OldK s₁.heap s'.heap /\ s'.os=s₁.os /\ AllBare s'.gens) s₁:=by
  intro H hS aa hA hO
  have J:∀ {b:Addr} {o:Obj},s₁.heap.get? b=some o->H b=none->(hidT s₁.heap H).get? b=some o:=fun e n=>hidT_get e n
  have Y:∀ {b:Addr} {o:Obj},s₁.heap.get? b=some o->(∀ a3 n',o.data≠.seq a3 n')->(o.cls=.none->∀ a3,o.data≠.fields a3)->H b=none:=fun {b o} e d1 d2=>by
   cases q:H b with
   | none=>rfl
   | some u=>
    rcases hA b u q with ⟨e',_⟩ | ⟨_,q',L,e'⟩
    .subst e'
     rw [ha] at e;cases e
     exact absurd rfl (d1 _ _)
    .subst e'
     rw [(Z q' L).2] at e;cases e
     exact absurd rfl (d2 rfl _)
  have a0:∀ {b:Addr} {m:Str->Option Value},s₁.heap.Ns b m->(hidT s₁.heap H).Ns b m:=fun {b m} ⟨o,es,ep,e,d,r⟩=>⟨o,es,ep,J e (Y e (by rw [d];intro _ _ z;cases z) (fun _=>by rw [d];intro _ z;cases z)),d,r⟩
  have ad:K.In (hidT s₁.heap H):=fun b o e=>J (KX b o e) (by
   cases q:H b with
   | none=>rfl
   | some u=>
    rcases hA b u q with ⟨e',n,_⟩ | ⟨_,q',L,e'⟩
    .subst e';rw [n] at e;cases e
    .subst e'
     have e2:=KX _ _ e
     rw [(Z q' L).2] at e2
     cases e2
     have h2:=List.all_eq_true.mp nt _ (PySem.W.mem_of_lookupK e)
     exact absurd (show false=true from h2) yBG)
  have hM:Mod K mg (hidT s₁.heap H):=⟨ad,a0 a6,⟨mb,a0 U,ak⟩,let ⟨mc,h1,h2⟩:=a7;⟨mc,a0 h1,h2⟩⟩
  have e0:Env0 P w K mg (hidT s₁.heap H) callerA [] s₁ H:=⟨rfl,hM,fun b o e=>of_hidT e,Nat.le_of_eq (hidT_size _ _),trivial,fun b U=>absurd (show b∈([]:List Addr) from U) (by simp),aa,.of_eq hg⟩
  have hC:∀ q∈tabs,PySem.W.CodeHd (hidT s₁.heap H) q.1 q.2:=fun q L=>by
   obtain ⟨o,vs,ac,tf,a4,tg,ag,af,tt,e1,e2,e3,r⟩:=(Z q L).1
   exact ⟨o,vs,ac,tf,a4,tg,ag,af,tt,J e1 (Y e1 (by rw [e3];intro _ _ z;cases z) (fun z=>by rw [e2] at z;cases z)),e2,e3,r⟩
  have hB:ZD8 mg (hidT s₁.heap H):=by
   obtain ⟨bm,ob,b1,b2,b3,b4,b5,b6⟩:=ai
   exact ⟨bm,ob,b1,b2,J b3 (Y b3 (by rw [b6];intro _ _ z;cases z) (fun z=>by rw [b4] at z;cases z)),b4,b5,b6⟩
  refine codeAny_mono ((F _ ad (a0 a6) hC hB).run callerA [] s₁ H ⟨[.ref a],[]⟩ [.ref a] [.ref a] _ _ hr e0 (a5 s₁ (.ref a)) (.cons rfl .nil) (aj H hO hS)) fun r s' h=>?_
  cases r with
  | error e=>exact (ah H e s' h).elim
  | ok fl=>
   cases fl with
   | next=>exact False.elim h
   | brk=>exact False.elim h
   | cont=>exact False.elim h
   | ret u=>
    obtain ⟨v,H',os,ae,un,a2,r',q⟩:=h
    have q':v=.bl true:=q
    subst q'
    obtain rfl:u=Value.bool true:=r'
    have al:∀ b:Addr,b∉frs ([]:List Env):=fun b z=>absurd (show b∈([]:List Addr) from z) (by simp)
    refine ⟨rfl,⟨fun b o e=>?_,fun b o e=>un.there b o e (by simp)⟩,os,ae⟩
    cases q:H b with
    | none=>exact .inl (un.keep b o e q (al b) (by simp))
    | some u=>
     rcases hA b u q with ⟨_,_,ob,xs,z⟩ | ⟨z,q',L,e'⟩
     .subst z
      have z2:=un.frzs b ob _ q
      obtain ⟨e1,_⟩:=aa b _ q
      obtain ⟨e2,_⟩:=a2 b _ z2
      rw [e] at e1;cases e1
      exact .inl e2
     .subst z
      subst e'
      obtain ⟨more,z2⟩:=un.tbls _ _ q
      have e2:s'.heap.get? q'.2=some (PySem.W.tabObj (#[]++more)):=a2 _ _ z2
      have e3:=(Z q' L).2
      rw [e] at e3
      have e4:o=PySem.W.tabObj #[]:=Option.some.inj e3
      subst e4
      exact .inr (.inl ⟨((Z q' L).1.tab (Z q' L).2).isCodeTable,rfl,#[],more,rfl,e2⟩)
 have a9:∀ q∈tabs,q.2≠a:=fun q L z=>by
  have e:=(Z q L).2
  rw [z,ha] at e;cases e
 cases hk:K.lookup a with
 | some o=>
  have e:=KX a o hk
  rw [ha] at e
  cases e
  refine a1 (fun b=>if b∈tabs.map (·.2) then some (.tbl #[]) else none) (.inr ⟨_,vs.toArray,_,hk,rfl,rfl,rfl,by rw [yAS,a8];exact hl,by simpa using rv⟩) (fun b u z=>?_) (fun b u z=>?_) fun q L=>if_pos (List.mem_map_of_mem L)
  .by_cases U:b∈tabs.map (·.2)
   .have O:=(if_pos U).symm.trans z
    cases O
    obtain ⟨q,L,rfl⟩:=yBF.mp U
    exact (Z q L).2
   .have O:=(if_neg U).symm.trans z
    cases O
  .by_cases U:b∈tabs.map (·.2)
   .have O:=(if_pos U).symm.trans z
    cases O
    obtain ⟨q,L,e⟩:=yBF.mp U
    exact .inr ⟨rfl,q,L,e⟩
   .have O:=(if_neg U).symm.trans z
    cases O
 | none=>
  refine a1 (fun b=>if b∈tabs.map (·.2) then some (.tbl #[]) else if b=a then some (.frz { cls:=.type "list",data:=.seq vs.toArray } (.lst (ns.map V.int))) else none) (.inl (.inr ⟨{ cls:=.type "list",data:=.seq vs.toArray },?_⟩)) (fun b u z=>?_) (fun b u z=>?_) fun q L=>if_pos (List.mem_map_of_mem L)
  .dsimp only
   rw [if_neg,if_pos rfl]
   intro z
   obtain ⟨q,L,e⟩:=yBF.mp z
   exact a9 q L e
  .by_cases U:b∈tabs.map (·.2)
   .have O:=(if_pos U).symm.trans z
    cases O
    obtain ⟨q,L,rfl⟩:=yBF.mp U
    exact (Z q L).2
   .have O:=(if_neg U).symm.trans z
    by_cases hba:b=a
    .have O:=(if_pos hba).symm.trans O
     cases O
     subst hba
     exact ⟨ha,by rw [yAA];exact hl,vs,_,rv,ha⟩
    .have O:=(if_neg hba).symm.trans O
     cases O
  .by_cases U:b∈tabs.map (·.2)
   .have O:=(if_pos U).symm.trans z
    cases O
    obtain ⟨q,L,e⟩:=yBF.mp U
    exact .inr ⟨rfl,q,L,e⟩
   .have O:=(if_neg U).symm.trans z
    by_cases hba:b=a
    .have O:=(if_pos hba).symm.trans O
     cases O
     exact .inl ⟨hba,hk,_,_,rfl⟩
    .have O:=(if_neg hba).symm.trans O
     cases O
noncomputable def ZE1 (K:W.Frag) (tabs:List (Addr×Addr)):Sp:=fun vs H Q _=>∃ (a:Addr) (ns:List Int),vs=[.ref a] /\ SqL K H a (ns.map V.int) /\ ns.length <= 63 /\ ZFq tabs H /\ ∀ H',Q (.bl true) H'
theorem tabIn_of {K:W.Frag} {x:Str} {f c Pt:Addr} {oc z:Value} {od L:Option Addr} {fd:FuncData} {Y J:Array (Option Value)} {vs:Array Value} (a:W.nsIn K mainGlobals x=some (some (.ref f))) (l:K.lookup f=some ⟨oc,od,.func fd,Y⟩) (hc:fd.code=.ref c)
  (U:K.lookup c=some ⟨z,L,.fields vs,J⟩) (O:vs[11]?=some (.ref Pt)):PySem.W.tabIn K x=some (c,Pt):=by
 unfold PySem.W.tabIn
 rw [a]
 dsimp only
 rw [l]
 dsimp only
 rw [hc]
 dsimp only
 rw [U]
 dsimp only
 rw [O]
theorem walk_ofT2 {l:PySem.W.OpenLaw} {k:Nat} {q:Program} {loose:List Str} {XP:(Str->Option Value)->Heap->Prop} {YP:World->Heap->Prop} {d:DefRec} {K:Params->W.Frag} {x:Str} {names:List Str}
  (hn:l.most=some 63) (a1:d.params.defaults=[]) (hr:Room k callerA)
  (hY:∀ (w:World) (h:Heap),YP w h->(K w.params).In h) (O:∀ y∈names,∃ dr,(recsOf q).find? (fun e=>e.name == y)=some dr)
  (F:∀ (w:World) (mg:Str->Option Value) (Z:Addr) (h:Heap),(K w.params).In h->h.Ns mainGlobals mg->mg d.name=some (.ref Z) ->
   ∃ (tabs:List (Addr×Addr)) (fd:FuncData),PySem.W.noTabs (K w.params)=true /\ (∀ t∈tabs,∃ y∈names,PySem.W.tabIn (K w.params) y=some t) /\ (∀ (s:Shared) (u:Value),BindsTo s fd ⟨[u],[]⟩ [(x,u)]) /\
    ∀ base:Heap,(K w.params).In base->base.Ns mainGlobals mg->(∀ t∈tabs,PySem.W.CodeHd base t.1 t.2)->ZD8 mg base->FnOk l.prog w (K w.params) mg base CX0 k Z fd [x] (ZE1 (K w.params) tabs)) :
  PySem.W.WalkO q loose XP YP l.row.toRowW d [] (fun f vs=>PySem.call f vs):=by
 refine Att.attach_call hn a1 fun w s₀ s₁ mg mb Z o pm cd a2 a vs ns G Y ho hd a3 a0 U L J hg=>?_
 have KX:=hY w _ Y
 obtain ⟨tabs,fd,nt,ht,hb,hF⟩:=F w mg Z _ KX G.T.g a0
 refine law_callT (tabs:=tabs) KX G.T.g G.T.b G.T.builtins G.T.nolimit hg U L (yAG J (by decide)) hr (fun t h2=>?_) nt G.T.bmain hF hb (fun H hO hS=>⟨a,ns,rfl,hS,J,hO,fun _=>rfl⟩) fun H e s' z=>z
 obtain ⟨y,hy,e2⟩:=ht t h2
 obtain ⟨dr,e1⟩:=O y hy
 exact PySem.W.tab_of G.T KX e1 e2
theorem hix_of {z:List Nat} {ps fr:List Str} (h:z.map (fun i=>ps[i]?)=fr.map some):∀ (j:Nat) (y:Str),fr[j]?=some y->∃ i,z[j]?=some i /\ ps[i]?=some y:=fun j y e=>by
 have:=congrArg (fun l=>l[j]?) h
 simp only [yAJ,e,yCD] at this
 cases q:z[j]? with
 | none=>rw [q] at this;cases this
 | some i=>rw [q] at this;exact ⟨i,rfl,by simpa using this⟩
noncomputable def inBody (s:Stmt) (j:Nat):Stmt:=(ZAM s).getD j (.Pass ⟨0,0,0,0⟩)
noncomputable def ZEj (s:Stmt):Pos:=match s with
 | .FunctionDef _ _ _ _ _ _ _ _ _ pos=>pos
 | _=>⟨0,0,0,0⟩
theorem cx_cloK {P:Program} {w:World} {K:W.Frag} {mg:Str->Option Value} {base:Heap} {N:List Str} {qual:Str} {scope:Scope} {f:Addr} {cd:Value} {cl:List (Str×Addr)} {A:Around} {outer:List Env} {s:Shared} {H:Hp}:(ZEq P w K mg base N qual scope f cd cl A outer s H).K=K:=rfl
section
variable {prog:Program} {w:World} {A:Around} {R:Result->Shared->Prop} {I:Addr} {fp wr:List Addr} {n:Nat} {P:Nat->Value->Prop} {St:Nat->Heap->Prop}
end
section
variable {prog:Program} {w:World} {A:Around} {E:Value->Shared->Prop} {s:Shared} {l:Addr}
end
noncomputable def maxD (d:Int):List Int->Int
 | []=>d
 | x::r=>r.foldl (fun m y=>if m < y then y else m) x
section
variable {X:Cx} {e d:Expr} {te td:TE} {p pos:Pos} {kpos:Pos}
noncomputable def tMaxD (K:W.Frag) (te td:TE):TE:=fun σ H Q=>te σ H fun x H1=>td σ H1 fun y H2=>∃ a ns dd,x=.ref a /\ y=.int dd /\ SqL K H2 a (ns.map V.int) /\ Q (.int (maxD dd ns)) H2
end
theorem lkc {k k':Str} {v:V} {r:List (Str×V)}:List.lookup k ((k',v)::r)=if k=k' then some v else List.lookup k r:=by
 rw [yBY]
 by_cases h:k=k'
 .subst h;simp
 .have:(k == k')=false:=by simpa using h
  rw [this,if_neg h]
theorem ZBL {f:Str} {v u:V}:∀ {fs:List (Str×V)},fs.lookup f=some u->(putF f v fs).length=fs.length
 | [],h=>by cases h
 | (g,w)::r,h=>by
  unfold putF
  by_cases e:g=f
  .rw [if_pos e];rfl
  .rw [if_neg e,yAQ,yAQ]
   rw [lkc,if_neg (fun z=>e z.symm)] at h
   rw [ZBL h]
structure Ins (H:Hp) (a C:Addr) (fl:List (Str×V)):Prop where
 ex:∃ dx fs,H a=some (.ins C dx fs) /\ fs.length <= 50 /\ ∀ f,fs.lookup f=fl.lookup f
theorem Ins.of {H:Hp} {a C dx:Addr} {fl:List (Str×V)} (h:H a=some (.ins C dx fl)) (hl:fl.length <= 50):Ins H a C fl:=⟨dx,fl,h,hl,fun _=>rfl⟩
theorem Ins.congr {H:Hp} {a C:Addr} {fl fl':List (Str×V)} (h:Ins H a C fl) (e:∀ f,fl.lookup f=fl'.lookup f):Ins H a C fl':=let ⟨dx,fs,h1,h2,h3⟩:=h.ex;⟨dx,fs,h1,h2,fun f=>(h3 f).trans (e f)⟩
theorem Ins.mono {H H':Hp} {a C:Addr} {fl:List (Str×V)} (h:Ins H a C fl) (s:Same H H'):Ins H' a C fl:=let ⟨dx,fs,h1,h2,h3⟩:=h.ex;⟨dx,fs,s _ _ h1,h2,h3⟩
theorem Ins.keep {H H':Hp} {a C:Addr} {fl:List (Str×V)} (h:Ins H a C fl) (s:H' a=H a):Ins H' a C fl:=let ⟨dx,fs,h1,h2,h3⟩:=h.ex;⟨dx,fs,s.trans h1,h2,h3⟩
theorem Ins.ne {H:Hp} {a b C:Addr} {fl:List (Str×V)} {o:HO} (h:Ins H a C fl) (J:H b=some o) (n:∀ C dx fs,o≠.ins C dx fs):b≠a:=fun z=>by
 obtain ⟨dx,fs,h1,_⟩:=h.ex
 rw [z,h1] at J
 exact n _ _ _ (Option.some.inj J).symm
theorem Ins.neN {H:Hp} {a b C:Addr} {fl:List (Str×V)} (h:Ins H a C fl) (J:H b=none):b≠a:=fun z=>by
 obtain ⟨dx,fs,h1,_⟩:=h.ex
 rw [z,h1] at J;cases J
section
variable {K:W.Frag} {f:Str} {a C:Addr} {fl:List (Str×V)} {v:V} {H:Hp}
theorem Ins.get {Q:VK} (h:Ins H a C fl) (cl:Cls K C) (n:NoAttr K C f) (l:fl.lookup f=some v) (q:Q v H):getF K f (.ref a) H Q:=by
 obtain ⟨dx,fs,h1,h2,h3⟩:=h.ex
 exact getF_of h1 cl n ((h3 f).trans l) q
theorem Ins.set {Q:Hp->Prop} (h:Ins H a C fl) (cl:Cls K C) (n:NoAttr K C f) (q:∀ H',Ins H' a C (putF f v fl)->(∀ b,b≠a->H' b=H b)->Q H') (hl:∃ u,fl.lookup f=some u):setF K f (.ref a) v H Q:=by
 obtain ⟨dx,fs,h1,h2,h3⟩:=h.ex
 obtain ⟨u,J⟩:=hl
 refine setF_of h1 cl n (by omega) (q _ ⟨dx,_,ZAF,?_,fun g=>?_⟩ fun b z=>ZAG z)
 .rw [ZBL ((h3 f).trans J)];exact h2
 .rw [ZAV,ZAV,h3]
theorem Ins.meth {m:Str} {R:Prop} (h:Ins H a C fl) (l:fl.lookup m=none) (q:R):∃ b dx fs,V.ref a=.ref b /\ H b=some (.ins C dx fs) /\ fs.lookup m=none /\ R:=by
 obtain ⟨dx,fs,h1,h2,h3⟩:=h.ex
 exact ⟨a,dx,fs,rfl,h1,(h3 m).trans l,q⟩
end
noncomputable def augA (K:W.Frag) (tv:TE) (rd:V->V->Hp->VK->Prop) (f:Str) (D:Ends) (σ:St) (x:V) (H1:Hp):Prop:=∃ a C dx fs v,x=.ref a /\ H1 a=some (.ins C dx fs) /\ Cls K C /\ NoAttr K C f /\ fs.lookup f=some v /\
 tv σ H1 fun y H2=>rd v y H2 fun z H3=>∃ dx' fs',H3 a=some (.ins C dx' fs') /\ fs'.length < 1000 /\ D.nx σ (upd H3 a (.ins C dx' (putF f z fs')))
theorem sFldAug_eq {K:W.Frag} {ta tv:TE} {rd:V->V->Hp->VK->Prop} {f:Str} {D:Ends} {σ:St} {H:Hp}:sFldAug K ta tv rd f D σ H=ta σ H (fun x H1=>augA K tv rd f D σ x H1):=rfl
theorem Ins.aug {K:W.Frag} {f:Str} {a C:Addr} {fl:List (Str×V)} {i j:Int} {H:Hp} {D:Ends} {σ:St} (h:Ins H a C fl) (cl:Cls K C) (n:NoAttr K C f) (l:fl.lookup f=some (.int i))
  (q:∀ H',Ins H' a C (putF f (.int (i+j)) fl)->(∀ b,b≠a->H' b=H b)->D.nx σ H'):augA K (tC (.int j)) rAdd f D σ (.ref a) H:=by
 obtain ⟨dx,fs,h1,h2,h3⟩:=h.ex
 refine ⟨a,C,dx,fs,_,rfl,h1,cl,n,(h3 f).trans l,i,j,rfl,rfl,dx,fs,h1,by omega,q _ ⟨dx,_,ZAF,?_,fun g=>?_⟩ fun b z=>ZAG z⟩
 .rw [ZBL ((h3 f).trans l)];exact h2
 .rw [ZAV,ZAV,h3]
theorem setX {K:W.Frag} {f:Str} {a C dx:Addr} {fs:List (Str×V)} {v:V} {H:Hp} {Q:Hp->Prop} (h:H a=some (.ins C dx fs)) (cl:Cls K C) (n:NoAttr K C f) (hl:fs.length <= 20) (q:∀ H',H' a=some (.ins C dx (putF f v fs))->(∀ b,b≠a->H' b=H b)->Q H'):setF K f (.ref a) v H Q :=
 setF_of h cl n (by omega) (q _ ZAF fun b z=>ZAG z)
theorem ZAn {f:Str} {v:V} {fs:List (Str×V)} {n:Nat} (h:fs.length <= n):(putF f v fs).length <= n+1:=yAG (ZCf f v fs) (Nat.succ_le_succ h)
theorem ZFk {f0:Str} {z:V}:(putF f0 z []).length <= 20:=yAG (ZAn (yAB 0)) (by decide)
theorem ZFj {f0 f1:Str} {z J:V}:(putF f1 J (putF f0 z [])).length <= 20:=yAG (ZAn (ZAn (yAB 0))) (by decide)
theorem ZFi {f0 f1 L:Str} {z O J:V}:(putF L J (putF f1 O (putF f0 z []))).length <= 20:=yAG (ZAn (ZAn (ZAn (yAB 0)))) (by decide)
theorem putL4 {f0 f1 O J:Str} {z Y L U:V}:(putF J U (putF O L (putF f1 Y (putF f0 z [])))).length <= 20:=yAG (ZAn (ZAn (ZAn (ZAn (yAB 0))))) (by decide)
theorem putL5 {f0 f1 Y L U:Str} {z v1 O Z J:V}:(putF U J (putF L Z (putF Y O (putF f1 v1 (putF f0 z []))))).length <= 20:=yAG (ZAn (ZAn (ZAn (ZAn (ZAn (yAB 0)))))) (by decide)
theorem mx_eq (p q:Int):(if q > p then q else p)=max p q:=by split <;> omega
theorem mn_eq (p q:Int):(if q < p then q else p)=min p q:=by split <;> omega
end L2
namespace PySem
open Sem (wp)
theorem ZBe (o : Obj) (f) : (o.mapFields f).dict = o.dict := by
  unfold Obj.mapFields
  split <;> rfl
structure Kpo (o o' : Obj) : Prop where
  fr : o'.isFreed = o.isFreed
  di : o'.dict = o.dict
theorem Kpo.refl (o : Obj) : Kpo o o := ⟨rfl, rfl⟩
theorem Kpo.set (i : Nat) (v : Value) (o : Obj) : Kpo o (o.mapFields (·.setIfInBounds i v)) := by
  unfold Obj.mapFields
  split
  · exact ⟨rfl, rfl⟩
  · exact .refl _
def Kph (h h' : Heap) : Prop := ∀ b o, h.get? b = some o → ∃ u, h'.get? b = some u ∧ Kpo o u
theorem Kph.trans {h h' k : Heap} (x : Kph h h') (y : Kph h' k) : Kph h k := fun b o e => by
  obtain ⟨u, e1, q1⟩ := x b o e
  obtain ⟨w, e2, q2⟩ := y b u e1
  exact ⟨w, e2, q2.fr.trans q1.fr, q2.di.trans q1.di⟩
theorem Kph.upd (h : Heap) (a : Addr) {f : Obj → Obj} (hf : ∀ o, Kpo o (f o)) : Kph h (h.update a f) := fun b o e => by
  by_cases q : a = b
  · subst q
    exact ⟨_, Heap.get?_update_self f e ((hf o).fr.trans (Heap.get?_some_iff.mp e).2), hf o⟩
  · exact ⟨o, (Heap.get?_update_other h f q).trans e, .refl o⟩
inductive Tame {α : Type} : Sem α → Prop
  | pure (a) : Tame (.pure a)
  | no (w) : Tame (.unsupported w)
  | load {a p k} : (∀ o, Tame (k o)) → Tame (.load a p k)
  | upd {a p f k} : (∀ o, Kpo o (f o)) → Tame (k ()) → Tame (.update a p f k)
  | new {o k} : (∀ a, Tame (k a)) → Tame (.alloc o k)
  | stack {k} : (∀ l, Tame (k l)) → Tame (.stack k)
section
variable {α β : Type} {M : Model} {Γ : Ctx} {A : Around} {E : Value → Shared → Prop} {s : Shared}
theorem Tame.wp {t : Sem α} (T : Tame t) {Q : α → Pos → Shared → Prop} {E : Value → Pos → Shared → Prop} {p : Pos} : ∀ {s : Shared}, wp M Γ t Q E p s → wp M Γ t (fun a p z => Q a p z ∧ Kph s.heap z.heap) E p s := by
  have go : ∀ {t : Sem α} {s s1 : Shared}, Kph s.heap s1.heap → (∀ {s : Shared}, Sem.wp M Γ t Q E p s → Sem.wp M Γ t (fun a p z => Q a p z ∧ Kph s.heap z.heap) E p s) → Sem.wp M Γ t Q E p s1 → Sem.wp M Γ t (fun a p z => Q a p z ∧ Kph s.heap z.heap) E p s1 :=
    fun k ih h => Sem.wp_mono M Γ _ (fun _ _ _ z => ⟨z.1, k.trans z.2⟩) (fun _ _ _ z => z) _ _ (ih h)
  induction T with
  | pure => exact fun h => ⟨h, fun b o e => ⟨o, e, .refl o⟩⟩
  | no => exact id
  | load _ ih => exact fun ⟨o, e, h⟩ => ⟨o, e, ih o h⟩
  | upd f _ ih => exact fun ⟨e, h⟩ => ⟨e, go (Kph.upd _ _ f) ih h⟩
  | @new o k _ ih => exact fun {s} h => go (t := k s.heap.objs.size) (s1 := { s with heap := s.heap.push o }) (fun b u e => ⟨u, Heap.get?_push_of_some _ e, .refl u⟩) (ih _) h
  | stack _ ih => exact fun h => ih _ h
theorem Tame.any {t : Sem α} (T : Tame t) {Q : α → Shared → Prop} (h : wpAny M A t Q E s) : wpAny M A t (fun a z => Q a z ∧ Kph s.heap z.heap) E s := fun Γ p hΓ => T.wp (h Γ p hΓ)
theorem Tame.bind {m : Sem α} {f : α → Sem β} (x : Tame m) (y : ∀ a, Tame (f a)) : Tame (m >>= f) := by
  show Tame (m.bind f)
  induction x with
  | pure a => exact y a
  | no w => exact .no w
  | load _ ih => exact .load ih
  | upd h _ ih => exact .upd h ih
  | new _ ih => exact .new ih
  | stack _ ih => exact .stack ih
theorem Tame.ite {c : Prop} [Decidable c] {x y : Sem α} (hx : Tame x) (hy : Tame y) : Tame (if c then x else y) := by split <;> assumption
theorem tame_field (v : Value) (i : Nat) : Tame (field v i) := by
  refine .bind (m := fieldsOf v) ?_ fun a => ?_
  · unfold fieldsOf
    split
    · refine .bind (.load fun o => .pure o) fun o => ?_
      split
      · exact .pure _
      · exact .no _
    · exact .no _
  · split
    · exact .pure _
    · exact .no _
theorem tame_setField (i : Nat) (v x : Value) : Tame (setField v i x) := by
  unfold setField
  split
  · unfold updateField
    refine .bind (.load fun o => .pure o) fun o => ?_
    split
    · exact .ite (.upd (Kpo.set i x) (.pure _)) (.no _)
    · exact .no _
  · exact .no _
theorem tame_ready (l : List Env) : Tame (readyFrames l) := by
  induction l with
  | nil => exact .pure _
  | cons env r ih =>
    unfold readyFrames
    split
    next f hf =>
      refine .bind (.load fun o => .pure o) fun o => .ite (.pure _) (.bind ?_ fun b => .bind ?_ fun c => .bind (.upd (fun o => ⟨by cases o with | mk a b d c => cases d <;> rfl, rfl⟩) (.pure _)) fun _ => ih)
      · unfold behindIsImport
        exact .ite (.pure _) (.ite (.pure _) (.bind (tame_field _ _) fun _ => .pure _))
      · unfold keptBack
        split
        · exact .ite (.pure _) (.bind (.bind (.stack fun l => .pure l) fun _ => .pure _) fun _ => .pure _)
        · exact .pure _
    · exact .no _
theorem tame_note (e : Value) (env : Env) : Tame (noteFrame e env) := by
  unfold noteFrame
  split
  next f hf =>
    have rest : ∀ head b, Tame (do setField e 1 (← EntryCells.newEntry head (← frameOf env) .none (rawInt f) .none (← entryPlaceOf f b))) := fun head b => by
      refine .bind ?_ fun a => .bind ?_ fun pl => .bind ?_ fun n => tame_setField _ _ _
      · unfold frameOf
        refine .bind (.bind (.stack fun l => .pure l) fun _ => .pure _) fun l => .bind ?_ fun o => ?_
        · unfold frameObject
          split
          · exact .pure _
          · exact .bind (tame_ready _) fun _ => .pure _
        · split
          · exact .pure _
          · exact .no _
      · unfold entryPlaceOf
        refine .bind (.stack fun l => .pure l) fun l => ?_
        split <;> exact .pure _
      · unfold EntryCells.newEntry newFields newObj
        exact .ite (.bind (.no _) fun _ => .bind (.new fun a => .pure a) fun a => .pure _) (.bind (.new fun a => .pure a) fun a => .pure _)
    refine .bind (tame_field _ _) fun head => .ite (.bind (tame_field _ _) fun y => .ite (.pure _) (.bind (tame_setField _ _ _) fun _ => rest _ _)) (rest _ _)
  · exact .no _
theorem tame_flight (e : Value) (o : Option Addr) : Tame (setFlight e o) := .bind (tame_field _ _) fun _ => .ite (tame_setField _ _ _) (.pure _)
theorem tame_leaving (env : Env) (e : Value) : Tame (leaving env e) := .bind (tame_note _ _) fun _ => tame_flight _ _
def Heap.Dx (h : Heap) (e : Addr) (d : Option Addr) : Prop := ∃ o, h.get? e = some o ∧ o.dict = d
theorem Heap.Dx.kept {h h' : Heap} {e : Addr} {d : Option Addr} (x : h.Dx e d) (k : Kph h h') : h'.Dx e d := by
  obtain ⟨o, h1, h3⟩ := x
  obtain ⟨u, h5, q⟩ := k e o h1
  exact ⟨u, h5, q.di.trans h3⟩
def Heap.TracedAtD (h base : Heap) (e : Addr) (cls : Value) (a0 : Value × Option Addr) (fl : Value) : Prop := h.TracedAtW base e cls a0.1 fl ∧ h.Dx e a0.2
abbrev Heap.TracedD (h base : Heap) (e : Addr) (cls : Value) (a0 : Value × Option Addr) : Prop := h.TracedAtD base e cls a0 .none
abbrev Heap.FlyD (base : Heap) (l : List Env) (e : Addr) (cls : Value) (a0 : Value × Option Addr) (fl : Value) (h : Heap) : Prop := base.StaysIn h ∧ base.get? e = none ∧ h.FunFrames base l ∧ h.TracedAtD base e cls a0 fl
abbrev Heap.FlyingD (base : Heap) (l : List Env) (e : Addr) (cls : Value) (a0 : Value × Option Addr) (h : Heap) : Prop := Heap.FlyD base l e cls a0 .none h
abbrev Heap.HeldD (base : Heap) (l : List Env) (e : Addr) (cls : Value) (a0 : Value × Option Addr) (L : Addr) (h : Heap) : Prop := Heap.FlyD base l e cls a0 (rawInt L) h
theorem Heap.FlyingD.thereD {base h : Heap} {l : List Env} {e : Addr} {cls : Value} {a0 : Value × Option Addr} (x : Heap.FlyingD base l e cls a0 h) : ∃ ob, h.get? e = some ob ∧ ob.cls = cls ∧ ob.dict = a0.2 ∧ ∃ vs, ob.data = .fields vs := by
  obtain ⟨_, _, _, ⟨oe, vs, _, _, _, he, hc, hd, _⟩, o, h1, h2⟩ := x
  rw [he] at h1
  cases h1
  exact ⟨oe, he, hc.1, h2, vs, hd⟩
theorem Heap.FlyingD.there {base h : Heap} {l : List Env} {e : Addr} {cls : Value} {a0 : Value × Option Addr} (x : Heap.FlyingD base l e cls a0 h) : ∃ ob, h.get? e = some ob ∧ ob.cls = cls :=
  let ⟨ob, h1, h2, _⟩ := Heap.FlyingD.thereD x
  ⟨ob, h1, h2⟩
variable {base : Heap} {env : Env} {l outer : List Env} {L e : Addr} {cls : Value} {a0 : Value × Option Addr} {Q : Unit → Shared → Prop}
theorem Tame.go {t : Sem Unit} (T : Tame t) {P : Heap → Prop} (w : wpAny M A t (fun _ z => ∃ h', z = { s with heap := h' } ∧ P h') E s) (hQ : ∀ h', P h' → Kph s.heap h' → Q () { s with heap := h' }) : wpAny M A t Q E s :=
  wpAny_mono (T.any w) (fun _ _ z => by
    obtain ⟨⟨h', rfl, p⟩, k⟩ := z
    exact hQ h' p k) fun _ _ z => z
theorem wpAny_leaves_onD (hfr : A.frames = some (env :: outer)) (hf : env.frame = some L) (x : Heap.FlyingD base (env :: outer) e cls a0 s.heap) (hQ : ∀ h', Heap.FlyingD base outer e cls a0 h' → s.heap.UpToSlots h' → Q () { s with heap := h' }) : wpAny M A (leaving env (.ref e)) Q E s := by
  obtain ⟨f1, f2, f3, f4, d⟩ := x
  refine (tame_leaving _ _).go (P := fun h' => Heap.FlyingW base outer e cls a0.1 h' ∧ s.heap.UpToSlots h') (wpAny_leaves_onW hfr hf ⟨f1, f2, f3, f4⟩ fun h' y u => ⟨h', rfl, y, u⟩) fun h' ⟨⟨y1, y2, y3, y4⟩, u⟩ k => hQ h' ⟨y1, y2, y3, y4, d.kept k⟩ u
theorem ZBY (hfr : A.frames = some (env :: outer)) (hf : env.frame = some L) (x : Heap.FlyingD base (env :: outer) e cls a0 s.heap) (hQ : ∀ h', Heap.HeldD base (env :: outer) e cls a0 L h' → s.heap.UpToSlots h' → Q () { s with heap := h' }) : wpAny M A (noteFrame (.ref e) env) Q E s := by
  obtain ⟨f1, f2, f3, f4, d⟩ := x
  refine (tame_note _ _).go (P := fun h' => Heap.HeldW base (env :: outer) e cls a0.1 L h' ∧ s.heap.UpToSlots h') (wpAny_looks_onW hfr hf ⟨f1, f2, f3, f4⟩ fun h' y u => ⟨h', rfl, y, u⟩) fun h' ⟨⟨y1, y2, y3, y4⟩, u⟩ k => hQ h' ⟨y1, y2, y3, y4, d.kept k⟩ u
theorem wpAny_noteFrame_againD (hf : env.frame = some L) (x : s.heap.TracedAtD base e cls a0 (rawInt L)) (h : Q () s) : wpAny M A (noteFrame (.ref e) env) Q E s := wpAny_noteFrame_againW hf x.1 h
theorem flightD_ {fl : Value} (o : Option Addr) (f1 : base.StaysIn s.heap) (f3 : s.heap.FunFrames base l) (f4 : s.heap.TracedAtD base e cls a0 fl)
    (hQ : ∀ h', base.StaysIn h' → h'.FunFrames base l → h'.TracedAtD base e cls a0 (o.elim .none fun f => rawInt f) → (∀ b o, s.heap.get? b = some o → (∀ vs, o.data ≠ .fields vs) → h'.get? b = some o) → Q () { s with heap := h' }) : wpAny M A (setFlight (.ref e) o) Q E s := by
  obtain ⟨⟨oe, vs, T, oT, ts, he, hc, hd, h1, hnT, hTe, hT, hdT, h3⟩, d⟩ := f4
  refine (tame_flight _ _).go (P := fun h' => h' = s.heap.update T (Obj.mapFields (·.setIfInBounds 3 (o.elim .none fun f => rawInt f)))) ?_ fun h' z k => ?_
  · refine wpAny_bind (wpAny_field he hd h1 ?_)
    show wpAny M A (setField (.ref T) 3 _) _ E s
    exact wpAny_setField hT hdT (Array.getElem?_eq_some_iff.mp h3).1 ⟨_, rfl, rfl⟩
  · subst z
    have ot : ∀ b u, s.heap.get? b = some u → b ≠ T → (s.heap.update T (Obj.mapFields (·.setIfInBounds 3 (o.elim .none fun f => rawInt f)))).get? b = some u := fun b u h n => (Heap.get?_update_other _ _ (Ne.symm n)).trans h
    have nt : ∀ b u, s.heap.get? b = some u → (∀ vs, u.data ≠ .fields vs) → b ≠ T := fun b u h n z => by
      subst z
      rw [hT] at h
      cases h
      exact n ts hdT
    exact hQ _ (fun b u h => ot b u (f1 b u h) (fun z => by subst z; rw [hnT] at h; cases h)) (f3.of_keeps fun b u h n => ⟨u, ot b u h (nt b u h n), rfl⟩)
      ⟨⟨oe, vs, T, _, _, ot e oe he (Ne.symm hTe), hc, hd, h1, hnT, hTe, Heap.get?_update_self _ hT (Obj.isFreed_of_fields (Obj.data_mapFields hdT _)), Obj.data_mapFields hdT _, by
        have := (Array.getElem?_eq_some_iff.mp h3).1
        simp [this]⟩, d.kept k⟩ fun b u h n => ot b u h (nt b u h n)
theorem ZCE (hh : Heap.HeldD base l e cls a0 L s.heap) (hQ : ∀ h', Heap.FlyingD base l e cls a0 h' → s.heap.UpToSlots h' → Q () { s with heap := h' }) : wpAny M A (setFlight (.ref e) none) Q E s :=
  flightD_ none hh.1 hh.2.2.1 hh.2.2.2 fun h' k1 k2 k3 k4 => hQ h' ⟨k1, hh.2.1, k2, k3⟩ fun b o y n => ⟨o.slots, k4 b o y n⟩
theorem LANDS2_ (hh : Heap.FlyingD base l e cls a0 s.heap) (hQ : ∀ h', Heap.FlyingD base l e cls a0 h' → s.heap.UpToSlots h' → Q () { s with heap := h' }) : wpAny M A (setFlight (.ref e) none) Q E s :=
  flightD_ none hh.1 hh.2.2.1 hh.2.2.2 fun h' k1 k2 k3 k4 => hQ h' ⟨k1, hh.2.1, k2, k3⟩ fun b o y n => ⟨o.slots, k4 b o y n⟩
theorem wpAny_setFlight_someD {fl : Value} (hkb : base.StaysIn s.heap) (hl : s.heap.FunFrames base l) (ht : s.heap.TracedAtD base e cls a0 fl)
    (h : ∀ h', base.StaysIn h' → h'.FunFrames base l → h'.TracedAtD base e cls a0 (rawInt L) → (∀ b o, s.heap.get? b = some o → (∀ vs, o.data ≠ .fields vs) → h'.get? b = some o) → Q () { s with heap := h' }) : wpAny M A (setFlight (.ref e) (some L)) Q E s := flightD_ (some L) hkb hl ht h
theorem wpAny_leaving_firstD {oe : Obj} {vs : Array Value} (hfr : A.frames = some (env :: outer)) (hl : s.heap.FunFrames base (env :: outer)) (hf : env.frame = some L) (he : s.heap.get? e = some oe) (hkb : base.StaysIn s.heap) (hen : base.get? e = none) (hd : oe.data = .fields vs) (h1 : vs[1]? = some .none)
    (h0 : vs[0]? = some a0.1 ∧ oe.dict = a0.2) (hQ : ∀ h', (base.StaysIn h' ∧ h'.FunFrames base (env :: outer) ∧ h'.TracedD base e oe.cls a0 ∧ s.heap.UpToSlots h') → Q () { s with heap := h' }) : wpAny M A (leaving env (.ref e)) Q E s :=
  (tame_leaving _ _).go (P := fun h' => Heap.LeftW base (env :: outer) e oe.cls a0.1 s.heap h') (wpAny_leaving_firstW hfr hl hf he hkb hen hd h1 h0.1 fun h' y => ⟨h', rfl, y⟩) fun h' ⟨y1, y2, y3, y4⟩ k => hQ h' ⟨y1, y2, ⟨y3, Heap.Dx.kept ⟨oe, he, h0.2⟩ k⟩, y4⟩
end
end PySem
namespace L2
open PySem PySem.Spec PyProof.Rows
noncomputable def Fly (l:List Env) (H:Hp) (h0:Heap) (e:Addr) (cls:Value) (dd:Option Addr) (h:Heap):Prop :=
 ∃ B a0,Heap.FlyingD B l e cls (a0,dd) h /\ H e=none /\ h0.get? e=none /\ ∀ b o,h.get? b=some o->b∉frs l->(H b≠none∨∃ o0,h0.get? b=some o0)->B.get? b=some o
noncomputable def CXE (P:Program) (w:World):CXT:=fun outer H s E e s'=>
 ∃ ea cls dd H',e=.ref ea /\ s'.os=s.os /\ AllBare s'.gens /\ Un (frs outer) [] H H' s.heap s'.heap /\ HOk P w H' s'.heap /\ Fly outer H' s.heap ea cls dd s'.heap /\ E cls dd H'
theorem ZFQ {P:Program} {w:World} {X:Cx}:ZBF (CXE P w) X E0:=fun _ _ _ _ _ _ _ z=>by
 obtain ⟨_,_,_,_,_,_,_,_,_,_,h⟩:=z
 exact h.elim
section
variable {P:Program} {w:World} {l:List Env} {H H':Hp} {h h1 h2 B base:Heap}
theorem Un.fly (u:Un (frs l) [] H H' h h1) (Z:∀ b o,h1.get? b=some o->b∉frs l->(H' b≠none∨∃ o0,h.get? b=some o0)->B.get? b=some o) (st:B.StaysIn h2) (up:h1.UpToSlots h2) (hf:h1.FunFrames base l):Un (frs l) [] H H' h h2 where
 keep b o e n hb hx:=st b o (Z b o (u.keep b o e n hb hx) hb (.inr ⟨o,e⟩))
 slot b o e n hb hx:=by
  obtain ⟨sl,z⟩:=u.slot b o e n hb hx
  obtain ⟨_,o',J,O⟩:=hf.mem hb
  rw [z] at J
  cases J
  obtain ⟨Y,U⟩:=up b _ z O
  exact ⟨Y,U⟩
 free:=u.free
 there b o e hx:=by
  obtain ⟨o',z⟩:=u.there b o e hx
  by_cases hb:b∈frs l
  .obtain ⟨_,o2,L,O⟩:=hf.mem hb
   rw [z] at L
   cases L
   obtain ⟨sl,U⟩:=up b _ z O
   exact ⟨_,U⟩
  .exact ⟨o',st b o' (Z b o' z hb (.inr ⟨o,e⟩))⟩
 tups:=u.tups
 frzs:=u.frzs
 tbls:=u.tbls
theorem HOk.fly (x:HOk P w H' h1) (J:∀ b o,h1.get? b=some o->b∉frs l->(H' b≠none∨∃ L,h.get? b=some L)->B.get? b=some o) (st:B.StaysIn h2) (hn:∀ b∈frs l,H' b=none):HOk P w H' h2:=fun a o e=>by
 have k:∀ b o,H' b=some o->b∉frs l:=fun b o z m=>by rw [hn b m] at z;cases z
 refine (x a o e).stay (fun b v hc q=>?_) (fun _ q=>q) fun _ _ q=>q
 rcases hc with z | z
 .exact st b v (J b v q (by rw [z];exact k _ _ e) (.inl (by rw [z,e];exact fun y=>nomatch y)))
 .exact st b v (J b v q (k _ _ z) (.inl (by rw [z];exact fun y=>nomatch y)))
theorem Inv.stkFree2 {X:Cx} {pins:List (Addr×Obj)} {σ:St} {s:Shared} (I:Inv X pins σ H s) (u:Un (frs X.stack) [] H H' s.heap h1):∀ b∈frs X.stack,H' b=none:=fun b z=>by
 obtain ⟨_,o,J,_⟩:=I.stack.mem z
 exact u.free b o J (I.stkFree b z) yBC
end
section
variable {P:Program} {w:World} {K:W.Frag} {mg:Str->Option Value} {base:Heap} {N:List Str} {qual:Str} {scope:Scope} {f:Addr} {cd:Value} {A:Around} {outer:List Env} {s:Shared} {H:Hp} {E:XK}
theorem ZEk {pins:List (Addr×Obj)} {σ:St} {H1 H':Hp} {s1 s2:Shared} {hm h' B B':Heap} {ea:Addr} {cls a0:Value} {dd:Option Addr} (I:Inv (cxOf (CXE P w) P w K mg base N qual scope f cd A outer s H E) pins σ H1 s1)
  (un:Un (frs (cxOf (CXE P w) P w K mg base N qual scope f cd A outer s H E).stack) [] H1 H' s1.heap hm) (O:HOk P w H' hm)
  (hB:∀ b o,hm.get? b=some o->b∉frs (cxOf (CXE P w) P w K mg base N qual scope f cd A outer s H E).stack->(H' b≠none∨∃ U,s1.heap.get? b=some U)->B.get? b=some o)
  (ff:hm.FunFrames B' (cxOf (CXE P w) P w K mg base N qual scope f cd A outer s H E).stack) (up:hm.UpToSlots h') (fl:Heap.FlyingD B outer ea cls (a0,dd) h') (Z:H' ea=none) (Y:s1.heap.get? ea=none) (os:s2.os=s1.os) (L:AllBare s2.gens) (hE:E cls dd H') :
  CXE P w outer H s E (.ref ea) { s2 with heap:=h' }:=by
 have fr:=I.stkFree2 un
 have a4:=un.fly hB fl.1 up ff
 have J:=O.fly hB fl.1 fr
 have I2:=I.call' (s':={ s2 with heap:=h' }) os a4 J L fun b z=>nomatch z
 have a2:∀ b o,s.heap.get? b=some o->∃ o1,s1.heap.get? b=some o1:=fun b o q=>I.base.there b o q (fun z=>nomatch z)
 refine ⟨ea,cls,dd,H',rfl,I2.os,L,I2.base,J,⟨B,a0,fl,Z,?_,fun b o ho hb a1=>?_⟩,hE⟩
 .cases q:s.heap.get? ea with
  | none=>rfl
  | some o=>
   obtain ⟨o1,h1⟩:=a2 ea o q
   rw [Y] at h1;cases h1
 .have a3:b∉frs (cxOf (CXE P w) P w K mg base N qual scope f cd A outer s H E).stack:=fun m=>by
   rcases yAE.mp (I2.stkSub b m) with z | z
   .rcases a1 with y | ⟨U,y⟩
    .exact y (by rw [z];exact I2.free)
    .exact absurd (yAU (Heap.lt_size y) I.ok.above) (by rw [z];exact yBK _)
   .exact hb z
  have:∃ o1,hm.get? b=some o1 /\ (H' b≠none∨∃ U,s1.heap.get? b=some U):=by
   rcases a1 with y | ⟨U,y⟩
   .obtain ⟨u,hu⟩:=Option.ne_none_iff_exists'.mp y
    have:=(O b u hu).lt
    cases z:hm.get? b with
    | some o1=>exact ⟨o1,rfl,.inl y⟩
    | none=>
     exfalso
     have st2:=O b u hu
     cases u with
     | lst xs=>obtain ⟨_,_,_,_,e⟩:=st2;rw [z] at e;cases e
     | tup xs=>obtain ⟨_,_,_,ob,e,_⟩:=st2;rw [z] at e;cases e
     | dK kvs=>obtain ⟨_,_,_,_,ob,es,ep,e,_⟩:=st2;rw [z] at e;cases e
     | dT kvs=>obtain ⟨_,_,_,_,ob,es,ep,e,_⟩:=st2;rw [z] at e;cases e
     | set S n=>obtain ⟨ob,es,ep,t,e,_⟩:=st2;rw [z] at e;cases e
     | ins C dx fs=>obtain ⟨_,_,_,e,_⟩:=st2;rw [z] at e;cases e
     | own y=>obtain ⟨_,e⟩:=st2;rw [z] at e;cases e
     | xd fs=>obtain ⟨_,⟨_,_,_,e,_⟩,_⟩:=st2;rw [z] at e;cases e
     | rng lo hi=>obtain ⟨_,_,_,e⟩:=st2;rw [z] at e;cases e
     | frz ob u=>obtain ⟨e,_⟩:=st2;rw [z] at e;cases e
     | tbl ps=>have e:hm.get? b=some _:=st2;rw [z] at e;cases e
     | met f y=>have e:hm.get? b=some _:=st2;rw [z] at e;cases e
     | ext φ=>obtain ⟨_,⟨_,e⟩,_⟩:=st2;rw [z] at e;cases e
   .obtain ⟨o1,h1⟩:=a2 b U y
    obtain ⟨o2,h2⟩:=un.there b o1 h1 (fun z=>nomatch z)
    exact ⟨o2,h2,.inr ⟨o1,h1⟩⟩
  obtain ⟨o1,q1,q2⟩:=this
  have q3:=hB b o1 q1 a3 q2
  have q4:=fl.1 b o1 q3
  rw [ho] at q4
  cases q4
  exact q3
theorem ZFA:ZBF (CXE P w) (cxOf (CXE P w) P w K mg base N qual scope f cd A outer s H E) E:=by
 intro pins σ H1 s1 e s2 I hc
 obtain ⟨ea,cls,dd,H',rfl,os,L,un,O,⟨B,a0,fl,J,z,U⟩,Y⟩:=hc
 refine wpAny_leaves_onD (base:=B) I.ok.frames rfl fl fun h' fl' up=>?_
 exact ZEk I un O U fl.2.2.1 up fl' J z os L Y
theorem raisedD {pins:List (Addr×Obj)} {σ:St} {H1 H2:Hp} {s1 s2:Shared} {ea:Addr} {oe:Obj} {vs:Array Value} {cls a0:Value} {dd:Option Addr} (I:Inv (cxOf (CXE P w) P w K mg base N qual scope f cd A outer s H E) pins σ H1 s1)
  (un:Un (frs (cxOf (CXE P w) P w K mg base N qual scope f cd A outer s H E).stack) [] H1 H2 s1.heap s2.heap) (U:HOk P w H2 s2.heap) (os:s2.os=s1.os) (O:AllBare s2.gens) (J:s1.heap.get? ea=none) (L:H2 ea=none)
  (Y:s2.heap.get? ea=some oe) (hc:oe.cls=cls) (hd:oe.dict=dd) (hv:oe.data=.fields vs) (h1:vs[1]?=some .none) (h0:vs[0]?=some a0) (hE:E cls dd H2) :
  (cxOf (CXE P w) P w K mg base N qual scope f cd A outer s H E).xe (.ref ea) s2:=by
 have I2:=I.call' (s':=s2) os un U O fun b z=>nomatch z
 have Z:∀ env∈(cxOf (CXE P w) P w K mg base N qual scope f cd A outer s H E).stack,∀ b,env.frame=some b->b∈ea::frs (cxOf (CXE P w) P w K mg base N qual scope f cd A outer s H E).stack:=fun env Y b hb=>yAM _ (List.mem_filterMap.mpr ⟨env,Y,hb⟩)
 subst hc
 have eh:∀ b∈ea::frs (cxOf (CXE P w) P w K mg base N qual scope f cd A outer s H E).stack,(PySem.W.hideAll s2.heap (ea::frs (cxOf (CXE P w) P w K mg base N qual scope f cd A outer s H E).stack)).get? b=none:=fun b hb=>by
  exact PySem.W.hideAll_none _ hb
 refine wpAny_leaving_firstD (a0:=(a0,dd)) (base:=PySem.W.hideAll s2.heap (ea::frs (cxOf (CXE P w) P w K mg base N qual scope f cd A outer s H E).stack)) I.ok.frames (PySem.W.funFrames_hide I2.stack Z) rfl Y (fun b o q=>PySem.W.of_hideAll _ q) (eh ea yAF) hv h1 ⟨h0,hd⟩ fun h' hL=>?_
 obtain ⟨k1,⟨_,_,k2⟩,k3,k4⟩:=hL
 refine ZEk (s2:=s2) (B:=PySem.W.hideAll s2.heap (ea::frs (cxOf (CXE P w) P w K mg base N qual scope f cd A outer s H E).stack)) I un U (fun b o q nb a1=>PySem.W.hideAll_get _ q fun z=>?_) I2.stack k4 ⟨k1,eh ea yAF,k2,k3⟩ L J os O hE
 rcases yAE.mp z with z | z
 .subst z
  rcases a1 with y | ⟨o0,y⟩
  .exact y L
  .rw [J] at y;cases y
 .exact nb z
end
open PySem PySem.Spec PySem.W PySem.Calls PyProof.Rows Builtin.Getset_descriptor Builtin.ObjectAttr
structure ExcC (K:W.Frag) (C:Addr):Prop where
 ga:W.findIn K (.ref C) "__getattribute__"=some (some (.builtin "BaseException.__getattribute__"))
 gt:W.findIn K (.ref C) "__getattr__"=some none
 ca:W.findIn K (.ref C) "__class__"=some (some (.builtin "object.__class__"))
 sg:PySem.W.specialIn K (.builtin "object.__class__") "__get__"=some (some (.builtin "getset_descriptor.__get__"))
 tk:PySem.W.takesIn K (.builtin "object.__class__")=some true
 mo:PySem.W.mroIn K C (.type "object")=some true
 mb:PySem.W.mroIn K C (.type "BaseException")=some true
section
variable {prog:Program} {w:World} {A:Around} {E:Value->Shared->Prop} {K:W.Frag} {a C:Addr} {o:Obj} {h:Heap} {g:Array GenState} {d:Drawn} {t:Nat} {os:OsState}
theorem ZEi {M:Model} (hx:h.get? a=some o) (hc:o.cls=.ref C):Looks M h (typeOf (.ref a)) (.ref C):=hc ▸ (Looks.ld hx).andThen .now
theorem exc_get {R:Result->Shared->Prop} (X:K.In h) (F:ExcC K C) (hx:h.get? a=some o) (hc:o.cls=.ref C) (z:R (.ok (.ret (.ref C))) ⟨h,g,d,t,os⟩) :
  codeAny (model prog w) A (.call (.builtin "getset_descriptor.__get__") ⟨[.builtin "object.__class__",.ref a,.ref C],[]⟩) R ⟨h,g,d,t,os⟩:=by
 have J:=ZEi (M:=model prog w) hx hc
 have L:=looks_mroIn (M:=model prog w) X F.mo
 refine codeAny_call_builtin KF.slot_gs.plain KF.entry_gs (KF.slot_gs.check _ _ _ _ _ _ _ _ KF.type_class (KF.args_gs _ _ _) ?_)
 simp only [Builtin.«getset_descriptor.__get__»,descrGet]
 rw [dga_obj]
 refine wpAny_bind (wpAny_pure ?_)
 simp only [descrGetter,descrCheckInstance,descrNameAndClass,isInstance,KF.owner_class]
 repeat lk
 refine ⟨Code.quiet_builtin _ (by decide +kernel),codeAny_builtin KF.entry_class ?_⟩
 simp only [Builtin.«object.__class__»,shownTypeOf]
 repeat lk
 exact z
theorem exc_ga_check {M:Model} {z:Value} {Q:Unit->Shared->Prop} (X:K.In h) (F:ExcC K C) (hx:h.get? a=some o) (hc:o.cls=.ref C) (J:Q () ⟨h,g,d,t,os⟩) :
  wpAny M A (checkBuiltinCall "BaseException.__getattribute__" ⟨[.ref a,z],[]⟩) Q E ⟨h,g,d,t,os⟩:=by
 have L:=ZEi (M:=M) hx hc
 have O:=looks_mroIn (M:=M) X F.mb
 have k1:builtinKind "BaseException.__getattribute__"=some .slot:=by decide +kernel
 have k2:splitId "BaseException.__getattribute__"=some ("BaseException","__getattribute__"):=by decide +kernel
 have k3:=PySem.F.args_bexc_ga (.ref a) z
 simp only [checkBuiltinCall,k1,k2]
 refine wpAny_bind ?_
 unfold isInstance
 repeat lk
 exact J
theorem exc_class {Q:Option Value->Shared->Prop} (X:K.In h) (F:ExcC K C) (hx:h.get? a=some o) (hc:o.cls=.ref C) (O:Q (some (.ref C)) ⟨h,g,d,t+1,os⟩) :
  wpAny (model prog w) A (getAttr? (.ref a) "__class__") Q E ⟨h,g,d,t,os⟩:=by
 have z:=ZEi (M:=model prog w) hx hc
 have y1:=looks_findIn (M:=model prog w) X F.ga
 have J:=looks_findIn (M:=model prog w) X F.gt
 have U:=looks_findIn (M:=model prog w) X F.ca
 have Y:=looks_specialIn (M:=model prog w) X F.sg
 have Z:=looks_takesIn (M:=model prog w) X F.tk
 have L:=PySem.F.attr_ValueError.ga.bind (.ref a)
 simp only [getAttr?,getAttrBy?,getAttrBy]
 refine wpAny_bind (wpAny_mkText (wpAny_bind (wpAny_attempt (wpAny_holding (wpAny_bind (z.at (wpAny_bind (y1.at ?_))))))))
 show wpAny _ _ (getAttrByItsOwn _ _ _ _ _ _) _ _ _
 unfold getAttrByItsOwn
 refine wpAny_bind ?_
 show wpAny _ _ (typeLookup (.ref C) "__getattr__") _ _ _
 refine J.at (wpAny_bind (wpAny_attempt (wpAny_holding ?_)))
 show wpAny _ _ (boundAndCalled _ _ _) _ _ _
 unfold boundAndCalled
 rw [L]
 refine wpAny_bind (wpAny_pure (wpAny_call (codeAny_call_builtin PySem.F.attr_ValueError.ga.plain PySem.F.entry_bexc_ga (exc_ga_check X F hx hc ?_))))
 unfold Builtin.«object.__getattribute__»
 refine wpAny_bind (wpAny_pure (wpAny_bind (wpAny_pure (wpAny_bind (z.at (wpAny_bind ?_))))))
 unfold find
 refine wpAny_bind (U.at (wpAny_bind ?_))
 show wpAny _ _ (specialOf (.builtin "object.__class__") "__get__") _ _ _
 refine Y.at (wpAny_bind ?_)
 unfold dataDescriptor?
 refine wpAny_bind (Z.at ?_)
 rw [if_pos rfl]
 refine wpAny_pure (wpAny_bind (wpAny_rule (wpAny_pure ?_)))
 show wpAny _ _ (holding [_] (call (.builtin "getset_descriptor.__get__") [.builtin "object.__class__",.ref a,.ref C]) >>= ret) _ _ _
 refine wpAny_bind (wpAny_holding (wpAny_call (exc_get X F hx hc ?_)))
 exact wpAny_pure (handed_on rfl (wpAny_pure O))
theorem kitx_exc {D:Addr} (F:ExcC K D) (hdct:hasDictIn K D=true):KitX K (.ref a) (.ref D) (fun h=>∃ o,h.get? a=some o /\ o.cls=.ref D) where
 ty:=fun _ _ _ ⟨_,h1,h2⟩=>ZEi h1 h2
 it:=fun _ _ X _=>by
  obtain ⟨O,J,_⟩:=any_some hdct
  unfold clsIn at J
  split at J
  .rename_i z
   intro Y Q1 Z s1 k1 U
   simp only [isType,loadHead]
   exact wpAny_bind (wpAny_loadPart (k1 _ _ (X _ _ z)) (wpAny_pure U))
  .cases J
 ne:=fun h tp dd its n sl X L=>by
  obtain ⟨O,J,_⟩:=any_some hdct
  refine Bool.eq_false_iff.mpr fun q=>?_
  cases Value.ref.inj (beq_iff_eq.mp q)
  unfold clsIn at J
  split at J
  .rename_i z
   have y:=(X _ _ z).symm.trans L
   cases y
  .cases J
 ca:=fun {_ _ _ _ _ s} X ⟨_,h1,h2⟩ k=>by
  obtain ⟨hh,g,d,t,os⟩:=s
  exact exc_class X F h1 h2 k
end
noncomputable def excO (a:Addr) (cls:Value) (dd:Option Addr):HO:=.ext fun h=>∃ o,h.get? a=some o /\ o.cls=cls /\ o.dict=dd /\ ∃ vs,o.data=.fields vs
section
variable {X:Cx}
theorem call_isExc:ZCA X (.builtin "isinstance") (fun xs H Q=>∃ a C c b dd,xs=[.ref a,c] /\ ZDr c=true /\ H a=some (excO a (.ref C) dd) /\ ExcC X.K C /\ PySem.W.hasDictIn X.K C=true /\ PySem.W.kitOne X.K (.ref C) (cval c)=some b /\ Q (.bl b) H):=by
 intro pins s σ H xs us Q I r h
 obtain ⟨a,C,c,b,dd,rfl,hc,ha,F,U,e,q⟩:=h
 obtain ⟨u,w',rfl,Z,L⟩:=ZEA r
 have O:w'=cval c:=by
  cases c <;> first | (cases hc;done) | exact L
 subst O
 cases (show u=Value.ref a from Z)
 obtain ⟨⟨o,J,Y,_⟩,_,_⟩:=(show ObjOk X.prog X.w H s.heap a (excO a (.ref C) dd) from I.hok a _ ha)
 have z:∃ o,s.heap.get? a=some o /\ o.cls=.ref C:=⟨o,J,Y⟩
 exact kia_one (kitx_exc F U) I.kIn z e (fun z=>nomatch z) fun tk=>⟨.bl b,H,I.tok tk,rfl,q⟩
end
open PySem PySem.Spec PySem.W PySem.Calls PyProof.Rows
theorem ZCh {X:Cx} (K:W.Frag) (h:X.K=K:=by rfl):ZCA X (.builtin "isinstance") (fun xs H Q=>∃ a C c b dd,xs=[.ref a,c] /\ ZDr c=true /\ H a=some (excO a (.ref C) dd) /\ ExcC K C /\ PySem.W.hasDictIn K C=true /\ PySem.W.kitOne K (.ref C) (cval c)=some b /\ Q (.bl b) H):=h ▸ call_isExc
section
variable {X:Cx}
end
abbrev bmV:List Value:=[.type "ValueError",.type "Exception",.type "BaseException",.type "object"]
noncomputable def tRaise (E:XK) (C:Addr):TS:=fun _ _ H=>E (.ref C) none H
section
variable {P:Program} {w:World} {K:W.Frag} {mg:Str->Option Value} {base:Heap} {N:List Str} {qual:Str} {scope:Scope} {f:Addr} {cd:Value} {A:Around} {outer:List Env} {s:Shared} {H:Hp} {E:XK}
theorem Fun.okX {x:Str} {st:Stmt} {fd:FuncData} {ps:List Str} {k:Nat} {sp:Sp} (F:Fun K x qual st f fd) (S:FnScope N ps (ZAD st)) (len:∀ vs H Q E,sp vs H Q E->vs.length=ps.length)
  (J:∀ (z:Value) (A:Around) (outer:List Env) (s:Shared) (H:Hp) (vs:List V) (Q:VK) (E:XK),Room k (A.deeper (envOfC qual (ZAD st) s.heap.objs.size f z))->sp vs H Q E ->
   ∃ t,PSs (cxOf (CXE P w) P w K mg base N qual (ZAD st) f z A outer s H E) (ZAM st) t /\ t { nx:=fun _ H'=>Q .non H',rt:=Q } (start N vs) H):FnOk P w K mg base (CXE P w) (k+1) f fd ps sp:=by
 obtain ⟨oc,od,kV,Z,pm,an,z,ct,Y,rfl,lk,L⟩:=F.ex
 exact ZFp lk L S len fun A outer s H vs Q E U O=>J z A outer s H vs Q E U O
end
theorem PS.nox {X:Cx} {st:Stmt} {t:TS} (h:PS X.nox st t):PS X st t:=fun pins s σ H D I hw=>
 wpAny_mono (h pins s σ H D (I.wish _) hw) (fun _ _ q=>q.unwish) fun _ _ z=>False.elim z
noncomputable def ZDS (CX:CXT) (X:Cx) (E:St->XK):Prop:=∀ (pins:List (Addr×Obj)) (σ:St) (H:Hp) (s:Shared) (e:Value) (s':Shared),Inv X pins σ H s->CX X.stack H s (E σ) e s'->X.xe e s'
noncomputable def tCallS (sp:Sp) (dvs:List V) (E:St->XK) (t:TA):TE:=fun σ H Q=>t σ H fun vs H1=>sp (vs++dvs) H1 Q (E σ)
section
variable {X:Cx} {CX:CXT} {k:Nat} {f:Addr} {fd:FuncData} {ps:List Str} {sp:Sp} {dvs:List V} {ds:List Value} {E:St->XK} {x:Str} {p pos:Pos} {e:Expr} {es:List Expr} {t:TA}
theorem run_fnS {pins:List (Addr×Obj)} {σ:St} {H:Hp} {s:Shared} {Q:VK} {E:XK} {us:List Value} {vs:List V} (F:FnOk X.prog X.w X.K X.mg X.base CX k f fd ps sp) (L:Room k X.A) (O:Binds X.K fd ps ds) (U:Vals dvs ds) (hx:∀ e s',CX X.stack H s E e s'->X.xe e s')
  (I:Inv X pins σ H s) (r:Vals vs us) (h:sp (vs++dvs) H Q E):wpAny (model X.prog X.w) X.A (call (.ref f) us) (EP X pins σ Q) X.xe s:=by
 have J:Vals (vs++dvs) (us++ds):=r.append U
 have hl:(us++ds).length=ps.length:=by rw [<- J.length];exact F.len _ _ _ _ h
 refine wpAny_call (codeAny_mono (F.run X.A X.stack s H ⟨us,[]⟩ (us++ds) (vs++dvs) Q E L I.env0 (O s us I.kIn hl) J h) fun r s' z=>?_)
 cases r with
 | error e=>exact hx e s' z
 | ok fl=>
  cases fl with
  | ret u=>exact I.after z
  | next=>exact False.elim z
  | brk=>exact False.elim z
  | cont=>exact False.elim z
end
noncomputable abbrev Cx.tries (X:Cx) (pn:List (Addr×Obj)) (xe:Value->Shared->Prop):Cx:={ X with pn:=pn,xe:=xe }
noncomputable abbrev Cx.handles (X:Cx) (e:Addr):Cx:={ X with A:=X.A.mark (some (.ref e)),calm:=false,xe:=fun _ _=>False }
section
variable {X:Cx} {pins pins':List (Addr×Obj)} {σ:St} {H:Hp} {s:Shared} {xe:Value->Shared->Prop} {e:Addr}
theorem Inv.toTry (I:Inv X pins σ H s):Inv (X.tries (X.pn++pins) xe) [] σ H s :=
 ⟨⟨I.ok.mod,I.ok.kind,I.ok.glob,I.ok.blt,I.ok.above,I.ok.inj,I.ok.has,I.ok.cab,I.ok.hd,I.ok.frames,I.ok.stk,I.ok.exf,I.ok.bs,I.ok.bsz,I.ok.noex,I.ok.exfs,I.ok.funs,I.ok.frf⟩,I.os,I.bare,I.base,I.loc,I.cell,I.free,I.freeC,fun p z=>I.pin p (by simpa using z),I.hok,I.len⟩
theorem Inv.ofTry (I:Inv (X.tries (X.pn++pins) xe) pins' σ H s):Inv X pins σ H s :=
 ⟨⟨I.ok.mod,I.ok.kind,I.ok.glob,I.ok.blt,I.ok.above,I.ok.inj,I.ok.has,I.ok.cab,I.ok.hd,I.ok.frames,I.ok.stk,I.ok.exf,I.ok.bs,I.ok.bsz,I.ok.noex,I.ok.exfs,I.ok.funs,I.ok.frf⟩,I.os,I.bare,I.base,I.loc,I.cell,I.free,I.freeC,fun p z=>I.pin p (yBQ _ z),I.hok,I.len⟩
theorem Inv.toH (I:Inv X pins σ H s) (e:Addr):Inv (X.handles e) pins σ H s :=
 ⟨⟨I.ok.mod,I.ok.kind,I.ok.glob,I.ok.blt,I.ok.above,I.ok.inj,I.ok.has,I.ok.cab,(fun z=>nomatch z),I.ok.frames,I.ok.stk,I.ok.exf,I.ok.bs,I.ok.bsz,I.ok.noex,I.ok.exfs,I.ok.funs,I.ok.frf⟩,I.os,I.bare,I.base,I.loc,I.cell,I.free,I.freeC,I.pin,I.hok,I.len⟩
theorem Inv.ofH (I:Inv (X.handles e) pins σ H s) (ok:X.Ok):Inv X pins σ H s:=⟨ok,I.os,I.bare,I.base,I.loc,I.cell,I.free,I.freeC,I.pin,I.hok,I.len⟩
theorem SP.ofTry {D:Ends} {f:Flow} (h:SP (X.tries (X.pn++pins) xe) pins' D f s):SP X pins D f s:=by
 cases f with
 | next=>obtain ⟨z,H',I,q⟩:=h;exact ⟨z,H',I.ofTry,q⟩
 | brk=>obtain ⟨z,H',I,q⟩:=h;exact ⟨z,H',I.ofTry,q⟩
 | cont=>obtain ⟨z,H',I,q⟩:=h;exact ⟨z,H',I.ofTry,q⟩
 | ret u=>obtain ⟨v,z,H',I,r,q⟩:=h;exact ⟨v,z,H',I.ofTry,r,q⟩
theorem Inv.track {o:HO} (I:Inv X pins σ H s) (h0:X.s₀.heap.get? e=none) (Y:e≠X.env.locals) (hC:∀ x c,X.env.cells.lookup x=some c->c≠e) (hp:∀ p∈X.pn++pins,p.1≠e) (hn:H e=none) (new:ObjOk X.prog X.w (upd H e o) s.heap e o):Inv X pins σ (upd H e o) s:=by
 have k:∀ b u,H b=some u->upd H e o b=some u:=fun b u q=>by rw [ZAG (ZAB q hn)];exact q
 refine ⟨I.ok,I.os,I.bare,⟨I.base.keep,I.base.slot,fun b ob q n hx=>?_,I.base.there,fun b xs q=>k _ _ (I.base.tups b xs q),fun b ob u q=>k _ _ (I.base.frzs b ob u q),fun b ps q=>?_⟩,I.loc,I.cell,?_,fun x c q=>?_,fun p J=>?_,fun b u q=>?_,I.len⟩
 .rw [ZAG (fun z=>by rw [z,h0] at q;cases q)]
  exact I.base.free b ob q n hx
 .obtain ⟨m,hm⟩:=I.base.tbls b ps q
  exact ⟨m,k _ _ hm⟩
 .rw [ZAG (Ne.symm Y)];exact I.free
 .rw [ZAG (hC x c q)];exact I.freeC x c q
 .obtain ⟨O,U,L,Z,q5⟩:=I.pin p J
  exact ⟨O,by rw [ZAG (hp p J)];exact U,L,Z,q5⟩
 .by_cases z:b=e
  .subst z
   rw [ZAF] at q
   cases q
   exact new
  .rw [ZAG z] at q
   exact (I.hok b u q).stay (fun _ _ _ y=>y) (fun c y=>k _ _ y) fun c xs y=>k _ _ y
theorem Inv.gone {i t':Nat} {x:Str} {m:Str->Option Value} {v:Option Value} {h':Heap} (I:Inv X pins σ H s) (hN:X.N.Nodup) (hi:X.N[i]?=some x) (hn:s.heap.Ns X.env.locals m) (a2:h'.Ns X.env.locals (fun y=>if y=x then v else m y)) (J:Heap.SameBut X.env.locals s.heap h') :
  Inv X pins (σ.set i none) H { s with heap:=h',toks:=t' }:=by
 obtain ⟨m0,Z,hl⟩:=I.loc
 obtain ⟨oL,_,_,a9,_⟩:=id hn
 have hm:m0=m:=by
  obtain ⟨o1,a6,a8,a3,a1,_,a0⟩:=Z
  obtain ⟨o2,a5,a7,U,Y,_,a4⟩:=hn
  rw [a3] at U
  cases U
  rw [a1] at Y
  cases Y
  funext y
  rw [<- a0 y,<- a4 y]
 subst hm
 have nL:∀ b ob,X.s₀.heap.get? b=some ob->b≠X.env.locals:=fun b ob q=>yAI (yAU (Heap.lt_size q) I.ok.above)
 refine ⟨I.ok,I.os,I.bare,⟨fun b o q n hb hx=>(J.2 b (nL b o q)).trans (I.base.keep b o q n hb hx),fun b o q n hb hx=>?_,I.base.free,fun b o q hx=>?_,I.base.tups,I.base.frzs,I.base.tbls⟩,⟨_,a2,fun j y v' L O q3=>?_⟩,fun y c q=>?_,I.free,I.freeC,fun p hp=>?_,fun b u q=>?_,by simpa using I.len⟩
 .obtain ⟨sl,L⟩:=I.base.slot b o q n hb hx
  exact ⟨sl,(J.2 b (nL b o q)).trans L⟩
 .obtain ⟨o',L⟩:=I.base.there b o q hx
  exact ⟨o',(J.2 b (nL b o q)).trans L⟩
 .by_cases hj:j=i
  .subst hj
   by_cases hlen:j < σ.length
   .rw [List.getElem?_set_self hlen] at O;cases O
   .rw [yBE (by rw [yCB];omega)] at O;cases O
  .rw [List.getElem?_set_ne (Ne.symm hj)] at O
   obtain ⟨u',r',q⟩:=hl j y v' L O q3
   refine ⟨u',r',?_⟩
   rcases q with ⟨k,q⟩ | ⟨k,c,q,z⟩
   .have:y≠x:=fun z=>hj (ZDq hN L (z ▸ hi))
    exact .inl ⟨k,by simp [this,q]⟩
   .exact .inr ⟨k,c,q,z.sameBut J (I.cne y c q)⟩
 .obtain ⟨w',z⟩:=I.cell y c q
  exact ⟨w',z.sameBut J (I.cne y c q)⟩
 .obtain ⟨q,n,ne,nf,d⟩:=I.pin p hp
  exact ⟨(J.2 p.1 ne).trans q,n,ne,nf,d⟩
 .refine (I.hok b u q).stay (fun c w' hc z=>(J.2 c ?_).trans z) (fun _ z=>z) fun _ _ z=>z
  rintro rfl
  rcases hc with y | y
  .rw [<- y,I.free] at q;cases q
  .rw [I.free] at y;cases y
end
noncomputable def Ehit (K:W.Frag) (HC:Addr) (i:Nat) (ts:TS) (D:Ends):St->XK:=fun σ cls dd H'=>exmOne K cls (.ref HC)=some true /\ ∀ ea,H' ea=none ->
 ts { nx:=fun σ' H''=>D.nx (σ'.set i none) H'',rt:=D.rt,bk:=fun σ' H''=>D.bk (σ'.set i none) H'',ct:=fun σ' H''=>D.ct (σ'.set i none) H'' } (σ.set i (some (.ref ea))) (upd H' ea (excO ea cls dd))
noncomputable def tTry (K:W.Frag) (HC:Addr) (i:Nat) (tb:(St->XK)->TS) (ts:TS):TS:=fun D σ H=>tb (Ehit K HC i ts D) D σ H
theorem ps_try {X:Cx} {body Z:List Stmt} {a3:Stmt} {x n:Str} {i:Nat} {HC:Addr} {np ah pos:Pos} {tb:(St->XK)->TS} {ts:TS} (a7:X.stack=X.env::X.outer /\ X.env.frame=some X.env.locals) (ak:X.ex=[]) (hg:Gl X x) (hm:X.mg x=some (.ref HC))
  (hN:X.N.Nodup) (hi:X.N[i]?=some n) (hl:X.env.scope.names.lookup n=some .local)
  (hb:∀ (pn:List (Addr×Obj)) (xe:Value->Shared->Prop) (E:St->XK),ZDS (CXE X.prog X.w) (X.tries pn xe) E->PSs (X.tries pn xe) body (tb E)) (hs:∀ e,PSs (X.handles e) (a3::Z) ts) (aj:(x == ("__debug__":Str))=false:=by decide) :
  PS X (.Try body [.ExceptHandler (some (.Name x np)) (some n) (a3::Z) ah] [] [] pos) (tTry X.K HC i tb ts):=by
 intro pins s σ H D I hw
 refine wpAny_Try_except ?_
 refine wpAny_mono (hb (X.pn++pins) _ (Ehit X.K HC i ts D) ?_ [] s σ H D I.toTry hw) (fun f s1 q=>?_) fun e s1 q=>q
 .intro pins' ac H1 s1 e s2 I1 hc
  obtain ⟨ea,cls,dd,H',rfl,os,ae,un,an,⟨B,a0,fl,a2,Y,hB⟩,aq,hE⟩:=hc
  have J:Inv X pins ac H1 s1:=I1.ofTry
  obtain ⟨e1,e2⟩:=a7
  have un:Un (frs X.stack) [] H1 H' s1.heap s2.heap:=un
  have fr:=J.stkFree2 un
  have af:X.A.frames=some (X.env::X.outer):=by rw [<- e1];exact J.ok.frames
  have fl:Heap.FlyingD B (X.env::X.outer) ea cls (a0,dd) s2.heap:=by rw [<- e1];exact fl
  have ff:s2.heap.FunFrames B X.stack:=by rw [e1];exact fl.2.2.1
  have nx:∀ h5,Heap.FlyingD B (X.env::X.outer) ea cls (a0,dd) h5->s2.heap.UpToSlots h5->Inv X pins ac H' { s2 with heap:=h5 }:=fun h5 f5 u5=>J.call' os (un.fly hB f5.1 u5 ff) (an.fly hB f5.1 fr) ae fun b z=>nomatch z
  refine ZBY af e2 fl fun h3 ag aa=>?_
  refine ZCE ag fun h4 a5 ai=>?_
  have I4:=nx h4 a5 (aa.trans ai)
  obtain ⟨ob,ao,al⟩:=a5.there
  refine wpAny_handleBy_cons (codeAny_handlers_test ?_) (by intro q;cases q)
  refine ZCI (X:=X.handles ea) (I4.toH ea) hg hm ?_ aj
  refine (exm_one I4.kIn (al ▸ (Looks.ld ao).andThen .now) aq).here ?_
  refine codeAny_handlers_suite_as ?_
  refine PySem.LANDS2_ a5 fun h6 a8 am=>?_
  have I6:=nx h6 a8 ((aa.trans ai).trans am)
  obtain ⟨ob6,ad,a9,a6⟩:=a8.thereD
  refine store_ok2 I6 hN hi (.inl hl) (show RelV (.ref ea) (.ref ea) from rfl) (fun s7 I7 ap=>?_) (.inr hl)
  have nL:ea≠X.env.locals:=fun z=>by
   obtain ⟨m,⟨o,_,_,ho,_⟩,_⟩:=J.loc
   rw [<- z,Y] at ho;cases ho
  have nC:∀ x c,X.env.cells.lookup x=some c->c≠ea:=fun x c q z=>by
   obtain ⟨v,o,ho,_⟩:=J.cell x c q
   rw [z,Y] at ho;cases ho
  have a1:s7.heap.get? ea=some ob6:=by
   obtain ⟨a,sb,z⟩:=ap
   refine (sb.2 ea ?_).trans ad
   rcases z with z | z
   .rw [z];exact nL
   .exact Ne.symm (nC _ _ z)
  have I8:=(I7.track (e:=ea) (o:=excO ea cls dd) (by
   cases q:X.s₀.heap.get? ea with
   | none=>rfl
   | some o=>
    obtain ⟨o1,z⟩:=J.base.there ea o q (by rw [ak];exact yBC)
    rw [Y] at z;cases z) nL nC (fun p hp z=>by
   have:=(J.pin p hp).1
   rw [z,Y] at this;cases this) a2 ⟨⟨ob6,a1,a9,a6⟩,⟨ob6,a1⟩,fun g1 g2 ⟨o,z1,z2⟩ k=>⟨o,k o z1,z2⟩⟩).toH ea
  refine wpAny_mono (hs ea pins s7 _ _ _ I8 (hE ea a2)) (fun f s8 q8=>?_) fun _ _ z=>z.elim
  have kd:(X.env.scope.kind == .class || (X.env.scope.kind == .module && X.env.locals != X.env.globals))=false:=by rw [J.ok.kind];rfl
  cases f with
  | next=>
   obtain ⟨a4,H'',L,q⟩:=q8
   have L:=L.ofH J.ok
   obtain ⟨m,hn,_⟩:=L.loc
   exact wpAny_nameGoes_keeps hl hn kd fun h9 v O U=>⟨_,_,L.gone hN hi hn O U,q⟩
  | brk=>
   obtain ⟨a4,H'',L,q⟩:=q8
   have L:=L.ofH J.ok
   obtain ⟨m,hn,_⟩:=L.loc
   exact wpAny_nameGoes_keeps hl hn kd fun h9 v O U=>⟨_,_,L.gone hN hi hn O U,q⟩
  | cont=>
   obtain ⟨a4,H'',L,q⟩:=q8
   have L:=L.ofH J.ok
   obtain ⟨m,hn,_⟩:=L.loc
   exact wpAny_nameGoes_keeps hl hn kd fun h9 v O U=>⟨_,_,L.gone hN hi hn O U,q⟩
  | ret u=>
   obtain ⟨v',a4,H'',L,r,q⟩:=q8
   have L:=L.ofH J.ok
   obtain ⟨m,hn,_⟩:=L.loc
   exact wpAny_nameGoes_keeps hl hn kd fun h9 v O U=>⟨_,_,_,L.gone hN hi hn O U,r,q⟩
 .have q':SP X pins D f s1:=q.ofTry
  cases f with
  | next=>exact wpAny_execs_nil q'
  | brk=>exact q'
  | cont=>exact q'
  | ret u=>exact q'
open PySem PySem.Spec PySem.W PySem.Calls PyProof.Rows Builtin.Getset_descriptor Builtin.ObjectAttr
section
variable {prog:Program} {w:World} {A:Around} {E:Value->Shared->Prop} {K:W.Frag} {a C:Addr} {o:Obj} {h:Heap} {g:Array GenState} {d:Drawn} {t:Nat} {os:OsState}
theorem exc_value {name:Str} {v:Value} {od:Option Obj} {z:Bool} {Q:Value->Shared->Prop} (X:K.In h) (F:ExcC K C) (I:PySem.W.InstAt h a o C od) (hf:findObj K C od name=some (.value v)) (Y:handedIn v=true) (Z:Q v ⟨h,g,d,t+1,os⟩) :
  wpAny (model prog w) A (getAttr (.ref a) name z) Q E ⟨h,g,d,t,os⟩:=by
 have L:=I.type (M:=model prog w)
 have y1:=looks_findIn (M:=model prog w) X F.ga
 have O:=looks_findIn (M:=model prog w) X F.gt
 have y3:=looks_find (M:=model prog w) X I hf
 have U:=PySem.F.attr_ValueError.ga.bind (.ref a)
 have J:(z && onTheHeap (Value.builtin "BaseException.__getattribute__"))=false:=by cases z <;> rfl
 simp only [getAttr,getAttrBy]
 refine wpAny_bind (wpAny_mkText (wpAny_holding (wpAny_bind (L.at (wpAny_bind (y1.at ?_))))))
 show wpAny _ _ (getAttrByItsOwn _ _ _ _ _ _) _ _ _
 unfold getAttrByItsOwn
 refine wpAny_bind ?_
 show wpAny _ _ (typeLookup (.ref C) "__getattr__") _ _ _
 refine O.at (wpAny_bind (wpAny_attempt (wpAny_holding ?_)))
 unfold callGetattribute
 rw [J]
 show wpAny _ _ (boundAndCalled _ _ _) _ _ _
 unfold boundAndCalled
 rw [U]
 refine wpAny_bind (wpAny_pure (wpAny_call (codeAny_call_builtin PySem.F.attr_ValueError.ga.plain PySem.F.entry_bexc_ga (exc_ga_check X F I.at_ I.cls ?_))))
 unfold Builtin.«object.__getattribute__»
 refine wpAny_bind (wpAny_pure (wpAny_bind (wpAny_pure (wpAny_bind (L.at (wpAny_bind (y3.at ?_)))))))
 refine wpAny_pure ?_
 show wpAny _ _ (handedOut v) _ _ _
 rw [handedOut_of Y]
 exact wpAny_pure Z
end
open PySem PySem.Spec PySem.W PySem.Calls PyProof.Rows
section
variable {prog:Program} {w:World} {A:Around} {E:Value->Shared->Prop} {h:Heap} {g:Array GenState} {d:Drawn} {t:Nat} {os:OsState}
variable {nm q:Str} {C N:Addr} {bs bm bmB:List Value} {hdct:Bool} {sn:List Str} {sub:List Value} {ab:Bool} {col:Option Bool} {dd:Option Addr} {k0 k1 k2 k3 k5:Option Value} {B Bn newId nid initId inN:String} {bmN:List Value}
theorem type_call_initU (Fn:ExcBaseFacts Bn newId inN bmN) (a0:bmB.contains (.type Bn)=true) (F:ExcBaseFacts B nid initId bmB) (T:OwnTail h bmB bm) {mN:Str->Option Value} {rest:List Value} {fI:Addr} {oI:Obj} {Q:Fin->Shared->Prop}
  (Z:h.get? C=some (excClassObj nm q C N bs bm hdct sn sub ab col dd k0 k1 k2 k3 k5 newId)) (hn:h.Ns N mN) (hi:mN "__init__"=some (.ref fI)) (a2:h.get? fI=some oI) (a3:oI.cls=.type "function")
  (hq:∀ h' e,Heap.MadeExcOf h h' e (.ref C) rest->e=h.objs.size+1->wpAny (model prog w) A (call (.ref fI) (.ref e::rest)) (fun r s'=>r=.none /\ Q (.done (.ret (.ref e))) s') E ⟨h',g,d,t,os⟩) (hrest:rest.length <= sizeLine:=by size_fits) :
  wpAny (model prog w) A (Builtin.«type.__call__» ⟨.ref C::rest,[]⟩) Q E ⟨h,g,d,t,os⟩:=by
 repeat (first | with_reducible refine wpAny_loadPart_at Z ?_ | with_reducible refine wpAny_madeBy_exc Z ?_ | wp_step)
 refine codeAny_call_builtin_code (Code.quiet_builtin _ Fn.quiet) (wpAny_check_new_subU Fn a0 T Z ?_)
 refine codeAny_exc_new_subU Fn a0 F T Z ?_ hrest
 show wpAny _ _ _ _ _ _
 have Y:∀ b o,h.get? b=some o->((h.push { cls:=.type "tuple",data:=.seq rest.toArray }).push { cls:=.ref C,data:=.fields #[.ref h.objs.size,.none,.none,.none,.bool false,.none] }).get? b=some o:=fun b o e=>Heap.get?_push_of_some _ (Heap.get?_push_of_some _ e)
 have z:=Y _ _ Z
 have J:=Y _ _ a2
 have O:=hn.keeps Y
 have L:((h.push { cls:=.type "tuple",data:=.seq rest.toArray }).push
   { cls:=.ref C,data:=.fields #[.ref h.objs.size,.none,.none,.none,.bool false,.none] }).get? (h.objs.size+1)=some
   { cls:=.ref C,data:=.fields #[.ref h.objs.size,.none,.none,.none,.bool false,.none] }:=by heap_get
 have a1:(Value.ref C::bm).contains (.ref C)=true:=by simp
 have U:=T.keeps Y
 unfold isInstance
 repeat (first | with_reducible refine wpAny_loadPart_at L ?_ | (with_reducible refine wpAny_isSubtype_exc z ?_;rw [a1]) | wp_step)
 show wpAny _ _ (typeLookup (.ref C) _) _ _ _
 refine wpAny_typeLookup_tail z O U F.mroIs F.init.lookup ?_
 rw [hi]
 refine wpAny_holding (wpAny_bind ?_)
 unfold bindSpecial
 refine wpAny_bind (wpAny_typeOf (T:="function") ⟨_,J,a3⟩ ?_)
 rw [if_pos (by decide)]
 refine wpAny_pure (wpAny_bind (wpAny_mono (hq _ (h.objs.size+1) ⟨Y,Heap.get?_none_of_le (yBB _),h.objs.size,L,Heap.get?_none_of_le (yAB _),?_⟩ rfl) (fun r s' hr=>?_) fun _ _ x=>x))
 .exact Heap.get?_push_of_some _ (Heap.get?_push_at rfl rfl)
 .obtain ⟨rfl,hQ⟩:=hr
  wp_walk
  exact hQ
theorem call_exc_initU (Fn:ExcBaseFacts Bn newId inN bmN) (O:bmB.contains (.type Bn)=true) (F:ExcBaseFacts B nid initId bmB) (T:OwnTail h bmB bm) {U:Str->Option Value} {rest:List Value} {fI:Addr} {Y:Obj} {Q:Value->Shared->Prop}
  (z:h.get? C=some (excClassObj nm q C N bs bm hdct sn sub ab col dd k0 k1 k2 k3 k5 newId)) (hn:h.Ns N U) (hi:U "__init__"=some (.ref fI)) (J:h.get? fI=some Y) (L:Y.cls=.type "function")
  (hq:∀ h' e,Heap.MadeExcOf h h' e (.ref C) rest->e=h.objs.size+1->wpAny (model prog w) (A.under (.builtin "type.__call__" ⟨.ref C::rest,[]⟩)) (call (.ref fI) (.ref e::rest)) (fun r s'=>r=.none /\ Q (.ref e) s') E ⟨h',g,d,t,os⟩) (hrest:rest.length <= sizeLine:=by size_fits) :
  wpAny (model prog w) A (call (.ref C) rest) Q E ⟨h,g,d,t,os⟩:=by
 have f1:=tc_lookup
 have f2:=tc_bind (.ref C)
 have hT:(⟨h,g,d,t,os⟩:Shared).TypeIs (.ref C) "type":=⟨_,z,rfl⟩
 refine wpAny_call (codeAny_of_tree ?_)
 show wpAny _ _ (callAny (.ref C) _) _ _ _
 repeat (any_goals (first | assumption | with_reducible refine wpAny_loadPart_at z ?_ | wp_step))
 refine ⟨rfl,?_⟩
 refine codeAny_call_builtin_at (Code.quiet_builtin _ (by decide +kernel)) entry_typeCall (wpAny_check_type_call_sub z (type_call_initU (hrest:=hrest) Fn O F T z hn hi J L fun h' e hm Z=>?_))
 exact hq h' e hm Z
end
section
variable {M:Model} {A:Around} {E:Value->Shared->Prop} {env:Env}
variable {nm q:Str} {C N:Addr} {bs bm:List Value} {hdct:Bool} {sn:List Str} {sub:List Value} {ab:Bool} {col:Option Bool} {dd:Option Addr} {k0 k1 k2 k3 k5:Option Value} {newId:String}
theorem raiseStmt_madeD {s:Shared} {x:Sem Value} {Q:Flow->Shared->Prop} (z:bm.contains (.type "BaseException")=true) (hh:A.handled=none)
  (h:wpAny M A x (fun v s₁=>∃ e oe vs,v=.ref e /\ s₁.heap.get? C=some (excClassObj nm q C N bs bm hdct sn sub ab col dd k0 k1 k2 k3 k5 newId) /\
   s₁.heap.get? e=some oe /\ oe.cls=.ref C /\ oe.data=.fields vs /\ vs[1]?=some .none /\ E (.ref e) s₁) E s) :
  wpAny M A (raiseStmt env (some x) none) Q E s:=by
 have J:(Value.ref C::bm).contains (.type "BaseException")=true:=by rw [List.contains_cons,z,Bool.or_true]
 unfold raiseStmt
 refine wpAny_bind (wpAny_mono h (fun v s₁ h₁=>?_) fun _ _ x=>x)
 obtain ⟨e,oe,vs,rfl,O,U,hc,L,h1,hE⟩:=h₁
 obtain ⟨oc,od,Y,Z⟩:=oe
 dsimp only at hc L
 subst hc L
 obtain ⟨hp,g,d,tk,os⟩:=s₁
 repeat (first | with_reducible refine wpAny_loadPart_at U ?_ | with_reducible refine wpAny_loadPart_at O ?_ | (with_reducible refine wpAny_isSubtype_exc O ?_;rw [J]) | wp_step)
 rw [h1]
 exact wpAny_pure (by rw [if_neg (by decide)];exact wpAny_pure (wpAny_raiseNew_none hh hE))
end
noncomputable def ZC3 (K:W.Frag) (C fI:Addr) (bmB:List Value) (newId:String):Bool:=match K.lookup C with
 | none=>false
 | some o=>match o.data with
  | .cls cd=>o.cls == .type "type" && cd.mro.head? == some (.ref C) && o.slots.size == 6 && o.slots[4]? == some (some (.builtin newId)) && !cd.hasDel && tailIn K bmB cd.mro.tail && nsOkIn K cd.ns && nsIn K cd.ns "__init__" == some (some (.ref fI))
  | _=>false
theorem ns_some_of {K:W.Frag} {h:Heap} {N:Addr} {mg:Str->Option Value} {n:Str} {v:Value} (X:K.In h) (G:h.Ns N mg) (e:W.nsIn K N n=some (some v)):mg n=some v:=by
 obtain ⟨o,es,O,z,J,_,L⟩:=G
 unfold nsIn at e
 split at e
 .rename_i hl
  rw [X _ _ hl] at z
  cases z
  cases J
  split at e
  .rename_i y he
   rw [<- L]
   unfold nsFind findBy
   rw [<- Array.find?_toList,he]
   exact (Option.some.inj e)
  .split at e <;> cases e
 .cases e
theorem six_of {α:Type} {l:List α} {x:α} (h:l.length=6) (e:l[4]?=some x):∃ k0 k1 k2 k3 k5,l=[k0,k1,k2,k3,x,k5]:=by
 rcases l with _ | ⟨k0,_ | ⟨k1,_ | ⟨k2,_ | ⟨k3,_ | ⟨z,_ | ⟨k5,_ | ⟨J,l⟩⟩⟩⟩⟩⟩⟩
 case cons.cons.cons.cons.cons.cons.nil=>cases e;exact ⟨_,_,_,_,_,rfl⟩
 all_goals simp at h
theorem ZDv {K:W.Frag} {h:Heap} {C fI:Addr} {bmB:List Value} {newId:String} (X:K.In h) (q:ZC3 K C fI bmB newId=true):∃ bm N nm J bs hdct sn sub ab col dd k0 k1 k2 k3 k5 mN,
  h.get? C=some (excClassObj nm J C N bs bm hdct sn sub ab col dd k0 k1 k2 k3 k5 newId) /\ h.Ns N mN /\ mN "__init__"=some (.ref fI) /\ OwnTail h bmB bm /\ K.lookup C=some (excClassObj nm J C N bs bm hdct sn sub ab col dd k0 k1 k2 k3 k5 newId):=by
 unfold ZC3 at q
 cases ho:K.lookup C with
 | none=>rw [ho] at q;cases q
 | some o=>
  rw [ho] at q
  obtain ⟨oc,dd,dt,⟨sl⟩⟩:=o
  cases dt with
  | cls cd=>
   simp only [yCE,beq_iff_eq,Bool.not_eq_true'] at q
   obtain ⟨⟨⟨⟨⟨⟨⟨O,L⟩,y2⟩,y7⟩,U⟩,Y⟩,Z⟩,y6⟩:=q
   obtain ⟨nm,bs,z,ns,J,hd,sn,sub,ab,col,a0⟩:=cd
   dsimp only at O L U Y Z y6
   subst O U
   obtain ⟨bm,rfl⟩:∃ bm,z=.ref C::bm:=by
    cases z with
    | nil=>cases L
    | cons m bm=>cases L;exact ⟨bm,rfl⟩
   obtain ⟨k0,k1,k2,k3,k5,rfl⟩:∃ k0 k1 k2 k3 k5,sl=[k0,k1,k2,k3,some (.builtin newId),k5]:=six_of (by simpa using y2) (by simpa using y7)
   have G:h.Ns ns (h.nsMap ns):=.of_isNs (isNs_of_in X Z)
   exact ⟨bm,ns,nm,J,bs,hd,sn,sub,ab,col,dd,k0,k1,k2,k3,k5,_,X _ _ ho,G,ns_some_of X G y6,tail_of_in X Y,rfl⟩
  | _=>cases q
open PySem PySem.Spec PySem.W PySem.Calls PyProof.Rows Builtin.Getset_descriptor Builtin.ObjectAttr
noncomputable def excM (a:Addr) (cls:Value) (dd:Option Addr):HO:=.ext fun h=>∃ o,h.get? a=some o /\ o.cls=cls /\ o.dict=dd /\ ∃ vs,o.data=.fields vs /\ vs[1]?=some .none /\ ∃ a0,vs[0]?=some a0
theorem ZEU {P:Program} {w:World} {H:Hp} {h:Heap} {a:Addr} {cls:Value} {dd:Option Addr} {o:Obj} {vs:Array Value} {a0:Value} (e:h.get? a=some o) (Z:o.cls=cls) (O:o.dict=dd) (L:o.data=.fields vs) (J:vs[1]?=some .none) (Y:vs[0]?=some a0):ObjOk P w H h a (excM a cls dd) :=
 ⟨⟨o,e,Z,O,vs,L,J,a0,Y⟩,⟨o,e⟩,fun h1 h2 ⟨o,z,U⟩ k=>⟨o,k o z,U⟩⟩
theorem ZCt {P:Program} {w:World} {H:Hp} {h:Heap} {a:Addr} {cls:Value} {dd:Option Addr} (x:HOk P w H h) (e:H a=some (excM a cls dd)):∃ o vs a0,h.get? a=some o /\ o.cls=cls /\ o.dict=dd /\ o.data=.fields vs /\ vs[1]?=some .none /\ vs[0]?=some a0 :=
 let ⟨⟨o,e1,e2,e3,vs,e4,e5,a0,e6⟩,_⟩:=x a _ e;⟨o,vs,a0,e1,e2,e3,e4,e5,e6⟩
theorem upd_self {H:Hp} {a:Addr} {o:HO} (h:H a=some o):upd H a o=H:=funext fun b=>by
 by_cases z:b=a
 .rw [z,ZAF,h]
 .rw [ZAG z]
section
variable {X:Cx}
theorem call_verr (fI:Addr):ZCA X (.builtin "ValueError.__init__") (fun xs H Q=>∃ e C dd v,xs=[.ref e,v] /\ H e=some (excM e (.ref C) dd) /\ ZC3 X.K C fI bmV "ValueError.__new__"=true /\ Q .non H):=by
 intro pins s σ H xs us Q I r h
 obtain ⟨e,C,dd,v,rfl,U,hm,q⟩:=h
 obtain ⟨u,w',rfl,r1,r2⟩:=ZEA r
 cases (show u=Value.ref e from r1)
 obtain ⟨o,vs,a0,Z,z2,z3,O,z5,Y⟩:=ZCt I.hok U
 have F:=PySem.F.excBase_ValueError
 obtain ⟨bm,N',nm,qn,bs,hdct,sn,sub,ab,col,d0,k0,k1,k2,k3,k5,mN,hC,hN,a3,T,a2⟩:=ZDv I.kIn hm
 obtain ⟨z,g,d,t,os⟩:=s
 refine wpAny_call (codeAny_call_builtin F.init.plain F.initEntry (wpAny_check_init_subU F T hC Z z2 ?_))
 show wpAny _ _ (do Builtin.BaseException.bexcPut (.ref e) 0 (<- newTuple [w']);ret .none) _ _ _
 refine wpAny_bind (wpAny_newTuple ?_ (by rw [sizeLine_eq];simp))
 have L:(z.push { cls:=.type "tuple",data:=.seq [w'].toArray }).get? e=some o:=Heap.get?_push_of_some _ Z
 have hsz:0 < vs.size:=by
  cases hv:vs.size with
  | zero=>rw [Array.getElem?_eq_none (by omega)] at Y;cases Y
  | succ n=>omega
 unfold Builtin.BaseException.bexcPut
 refine wpAny_bind (wpAny_bind (wpAny_field L O Y (wpAny_bind (wpAny_setField L O hsz ?_))))
 have h2:((z.push { cls:=.type "tuple",data:=.seq [w'].toArray }).update e (Obj.mapFields (·.setIfInBounds 0 (.ref z.objs.size)))).get? e=some (o.mapFields (·.setIfInBounds 0 (.ref z.objs.size))) :=
  Heap.get?_update_self _ L (by obtain ⟨oc,od,a1,a4⟩:=o;cases O;rfl)
 have fin:∀ tk,EP X pins σ Q .none ⟨(z.push { cls:=.type "tuple",data:=.seq [w'].toArray }).update e (Obj.mapFields (·.setIfInBounds 0 (.ref z.objs.size))),g,d,tk,os⟩:=fun tk=>by
  refine ⟨.non,H,?_,rfl,q⟩
  have J:=I.write (x:=e) (e:=e) (o:=excM e (.ref C) dd) (t':=tk) (h':=(z.push { cls:=.type "tuple",data:=.seq [w'].toArray }).update e (Obj.mapFields (·.setIfInBounds 0 (.ref z.objs.size)))) (by rw [U];exact True.intro) (.inl rfl)
   (fun b u hb q=>(Heap.get?_update_ne _ _ _ _ hb).trans (Heap.get?_push_of_some _ q)) ⟨_,h2⟩ (ZEU (vs:=vs.setIfInBounds 0 (.ref z.objs.size)) (a0:=.ref z.objs.size) h2 (by rw [Obj.cls_mapFields];exact z2) (by rw [ZBe];exact z3) (Obj.data_mapFields O _) (by rw [Array.getElem?_setIfInBounds_ne (by decide)];exact z5) (by rw [Array.getElem?_setIfInBounds_self_of_lt hsz]))
  rw [upd_self U] at J
  exact J
 cases a0 with
 | ref b=>exact wpAny_letGo (wpAny_pure (fin t))
 | _=>exact wpAny_pure (wpAny_pure (fin t))
end
section
variable {X:Cx} {x name:Str} {C:Addr} {np apos pos:Pos} {e:Expr} {es:List Expr} {t:TA} {r:List V->Hp->VK->Prop} {id:String}
theorem pe_clsB {pl:Sem Bool} (hc:ZCA X (.builtin id) r) (hg:Gl X x) (hm:X.mg x=some (.ref C)) (L:specialIn X.K (.ref C) "__getattribute__"=some (some (.builtin "type.__getattribute__"))) (O:readsIn X.K C (.type "type")=true)
  (hf:findCls X.K (.ref C) (.type "type") name=some (.val (.builtin id))) (hid:handedIn (.builtin id)=true) (ha:PA X (e::es) t) (z:(x == ("__debug__":Str))=false:=by decide)
  (Y:starEach (e::es) X.env=(false,eval e X.env)::starEach es X.env:=by rfl) (J:(backTo pos (starEach es X.env)).any (·.1)=false:=by rfl)
  (Z:eval (.Call (.Attribute (.Name x np) name apos) (e::es) [] pos) X.env=(do
   let ov <- eval (.Name x np) X.env
   standAt apos.atName
   let (f,first) <- holding [ov] (getMethod ov name pl)
   callWith pos f first (backTo pos (starEach (e::es) X.env)) (backToKw pos (keywordEach [] X.env))):=by rfl):PE X (.Call (.Attribute (.Name x np) name apos) (e::es) [] pos) (tCB r t):=by
 intro pins s σ H Q I h
 refine PySem.W.methodCall_KW (pl:=pl) (ZCI I hg hm ?_ z) Z
 refine method_cls I.kIn L (cls_value I.kIn O hf hid ?_)
 exact PyProof.Rows.callWith_builtin1 (thn (ha pos pins _ σ H _ (I.tok _) h) fun us s1 ⟨vs,H1,U,r1,q1⟩=>hc pins s1 σ H1 vs us Q U r1 q1) Y J
end
noncomputable def tFS (te:TE):TE:=fun σ H Q=>te σ H fun x H1=>∃ i:Int,x=.int i /\ i.natAbs.log2 < 1920 /\ ∀ y,Q (.str y) H1
section
variable {X:Cx} {v c1 c2:Expr} {s1 s2:Str} {te:TE} {p pos:Pos}
theorem pe_fs1 (h1:PE X c1 (tC (.str s1))) (Z:PE X v te) (hl:s1.length <= 1000:=by decide):PE X (.JoinedStr [c1,.FormattedValue v (-1) none p] pos) (tFS te):=by
 intro pins s σ H Q I h
 refine JoinedStr_many (joinParts_cons (thn (h1 pins s σ H (fun x H1=>x=.str s1 /\ H1=H) I ⟨rfl,rfl⟩) fun u J zz=>?_))
 obtain ⟨y,H1,U,L,O,Y⟩:=zz
 subst O Y
 obtain ⟨tk,rfl⟩:=(show ∃ t,u=Value.str s1 t from L)
 refine ⟨by rw [strLen_append,sizeLine_eq];show 0+s1.length <= _;omega,joinParts_cons (FormattedValue_plain (thn (Z pins J σ H1 _ U h) fun u2 st2 zz=>?_))⟩
 obtain ⟨y,H2,I2,L,i,O,hi,q⟩:=zz
 subst O
 obtain ⟨a0,rfl⟩:=(show ∃ t,u2=Value.int i t from L)
 refine formatField_int_small hi ?_
 have hz:=int_text_length_le (k:=1920) (by decide) hi
 have z:(Str.empty++s1++Str.ofString (toString i)).length <= sizeLine:=by rw [strLen_append,strLen_append,PySem.ofString_length,sizeLine_eq];show 0+s1.length+_ <= _;omega
 exact ⟨z,joinParts_nil ⟨.str _,H2,I2.tok _,⟨_,rfl⟩,q _⟩ z⟩
end
noncomputable def ZC8:List Value->Bool
 | .ref c::r=>ZC8 r
 | l=>l == bmV
theorem over_pass (self:Value):∀ {l:List Value},ZC8 l=true->refuseLoop self "__setattr__" l=pure ()
 | .ref c::r,e=>by rw [refuseLoop_ref];exact over_pass self e
 | [],e=>by cases (beq_iff_eq.mp (show ([] == bmV)=true from e))
 | .type n::r,e=>by rw [show (Value.type n::r)=bmV from beq_iff_eq.mp e];exact PySem.F.store_ValueError.passes self
 | .none::r,e=>by cases (beq_iff_eq.mp (show (Value.none::r == bmV)=true from e))
 | .bool b::r,e=>by cases (beq_iff_eq.mp (show (Value.bool b::r == bmV)=true from e))
 | .int i t::r,e=>by cases (beq_iff_eq.mp (show (Value.int i t::r == bmV)=true from e))
 | .float b t::r,e=>by cases (beq_iff_eq.mp (show (Value.float b t::r == bmV)=true from e))
 | .str x t::r,e=>by cases (beq_iff_eq.mp (show (Value.str x t::r == bmV)=true from e))
 | .bytes x t::r,e=>by cases (beq_iff_eq.mp (show (Value.bytes x t::r == bmV)=true from e))
 | .ellipsis::r,e=>by cases (beq_iff_eq.mp (show (Value.ellipsis::r == bmV)=true from e))
 | .notImplemented::r,e=>by cases (beq_iff_eq.mp (show (Value.notImplemented::r == bmV)=true from e))
 | .builtin n::r,e=>by cases (beq_iff_eq.mp (show (Value.builtin n::r == bmV)=true from e))
theorem ZDp:∀ {l:List Value},ZC8 l=true->l.contains (.type "object")=true /\ l.isEmpty=false
 | .ref c::r,e=>⟨by rw [List.contains_cons,(ZDp (l:=r) e).1,Bool.or_true],rfl⟩
 | [],e=>by cases (beq_iff_eq.mp (show ([] == bmV)=true from e))
 | .type n::r,e=>by rw [show (Value.type n::r)=bmV from beq_iff_eq.mp e];exact ⟨by decide,rfl⟩
 | .none::r,e=>by cases (beq_iff_eq.mp (show (Value.none::r == bmV)=true from e))
 | .bool b::r,e=>by cases (beq_iff_eq.mp (show (Value.bool b::r == bmV)=true from e))
 | .int i t::r,e=>by cases (beq_iff_eq.mp (show (Value.int i t::r == bmV)=true from e))
 | .float b t::r,e=>by cases (beq_iff_eq.mp (show (Value.float b t::r == bmV)=true from e))
 | .str x t::r,e=>by cases (beq_iff_eq.mp (show (Value.str x t::r == bmV)=true from e))
 | .bytes x t::r,e=>by cases (beq_iff_eq.mp (show (Value.bytes x t::r == bmV)=true from e))
 | .ellipsis::r,e=>by cases (beq_iff_eq.mp (show (Value.ellipsis::r == bmV)=true from e))
 | .notImplemented::r,e=>by cases (beq_iff_eq.mp (show (Value.notImplemented::r == bmV)=true from e))
 | .builtin n::r,e=>by cases (beq_iff_eq.mp (show (Value.builtin n::r == bmV)=true from e))
noncomputable def ZET (K:Frag) (C:Addr):Bool:=(clsIn K C).any fun cd=>ZC8 cd.mro
section
variable {prog:Program} {w:World} {A:Around} {R:Result->Shared->Prop} {s:Shared} {K:Frag} {x C:Addr}
theorem osa_openX {Y:Obj} {od:Option Obj} {name:Str} {tk:Tok} {v:Value} {r:Option Value} (X:K.In s.heap) (I:InstAt s.heap x Y C od) (hp:ZET K C=true) (U:takerIn K C name=some r)
  (h:∀ b,wpAny (model prog w) A.in1 (match r with | some a=>setByDescriptor a (.ref x) v | none=>storeInOwnDict (.ref x) (.ref C) (.str name tk) name v b)
   (fun fin s'=>match fin with | Fin.done f=>R (.ok f) s' | Fin.again c'=>c'.quiet=true /\ codeAny (model prog w) A c' R s') (fun e s'=>R (.error e) s') s) :
  codeAny (model prog w) A (.call (.builtin "object.__setattr__") ⟨[.ref x,.str name tk,v],[]⟩) R s:=by
 have J:=PySem.F.store_object
 obtain ⟨cd,hc,L⟩:=any_some hp
 have ne:cd.mro.isEmpty=false:=(ZDp L).2
 have sub:Looks (model prog w) s.heap (isInstance (.ref x) (.type "object")) true:=I.type.andThen (looks_mroIn X (by unfold mroIn;rw [hc,Option.bind_some,if_neg (by rw [ne];decide),(ZDp L).1]))
 refine codeAny_call_builtin J.slot.plain J.entry (@check_slot (model prog w) _ _ s "object.__setattr__" "object" "__setattr__" (.ref x) [.str name tk,v] [] _ J.kind J.split sub (J.args (.ref x) (.str name tk) v) ?_)
 obtain ⟨z,ha,O⟩:=Option.bind_eq_some_iff.mp U
 have hm:Looks (model prog w) s.heap (mroOf (.ref C)) cd.mro:=(looks_clsIn X hc).andThen .now
 have Z:Looks (model prog w) s.heap (storeTaker? z) r:=by
  cases z with
  | none=>cases O;exact .now
  | some a=>
   obtain ⟨b,hb,rfl⟩:=yBM.mp O
   refine (looks_takesIn X hb).andThen ?_
   cases b <;> exact .now
 rw [osa_eq,refuse_eq]
 refine wpAny_bind (wpAny_bind (I.type.here (wpAny_bind (hm.here ?_))))
 rw [over_pass _ L]
 refine wpAny_pure (wpAny_bind (I.type.here (wpAny_bind ((looks_findIn X ha).here (wpAny_bind (Z.here ?_))))))
 exact h _
end
noncomputable def xdM (d:Addr) (fs:List (Str×V)):HO:=.ext fun h=>∃ mA,h.Ns1 d mA /\ ∀ f,RelO (fs.lookup f) (mA f)
theorem xdM_ok {P:Program} {w:World} {H:Hp} {h:Heap} {d:Addr} {fs:List (Str×V)} {mA:Str->Option Value} (n:h.Ns1 d mA) (r:∀ f,RelO (fs.lookup f) (mA f)):ObjOk P w H h d (xdM d fs) :=
 ⟨⟨mA,n,r⟩,let ⟨o,_,_,e,_⟩:=n;⟨o,e⟩,fun h1 h2 ⟨mA,⟨o,es,z,e,c⟩,r⟩ k=>⟨mA,⟨o,es,z,k _ e,c⟩,r⟩⟩
structure XCls (K:Frag) (C:Addr):Prop where
 hd:hasDictIn K C=true
 ov:ZET K C=true
 sa:findIn K (.ref C) "__setattr__"=some (some (.builtin "object.__setattr__"))
section
variable {X:Cx} {pins:List (Addr×Obj)} {σ:St} {H:Hp} {s:Shared} {A:Around} {E:Value->Shared->Prop} {a C:Addr} {f:Str}
theorem excset0 {y:V} {u:Value} {Q:Unit->Shared->Prop} (I:Inv X pins σ H s) (e:H a=some (excM a (.ref C) none)) (c:XCls X.K C) (n:NoAttr X.K C f) (ry:RelV y u)
  (h:∀ d s',H d=none->d≠a->Inv X pins σ (upd (upd H d (xdM d [(f,y)])) a (excM a (.ref C) (some d))) s'->Q () s'):wpAny (model X.prog X.w) A (setAttr (.ref a) f u) Q E s:=by
 obtain ⟨o,vs,a0,L,z2,z3,z4,z5,z6⟩:=ZCt I.hok e
 have J:InstAt s.heap a o C none:=⟨L,z2,by unfold notCls;rw [z4],by rw [z3];trivial⟩
 refine set_plain I.kIn J c.sa (osa_openX (s:={ s with toks:=s.toks+1 }) (r:=none) I.kIn J c.ov n.taker fun b=>?_)
 obtain ⟨cd,hc,a6⟩:=any_some c.hd
 obtain ⟨oc,od,ad,O⟩:=o
 dsimp only at z2 z3 z4
 subst z2 z3 z4
 refine wpAny_bind (wpAny_pure (wpAny_bind (wpAny_bind (wpAny_loadPart (s:={ s with toks:=s.toks+1 }) L (wpAny_bind (Looks.here (s:={ s with toks:=s.toks+1 }) (looks_clsIn I.kIn hc) ?_))))))
 rw [a6]
 have z:a≠s.heap.objs.size:=yAI (Heap.lt_size L)
 have Z:(s.heap.push { cls:=.type "dict",data:=.dict #[] }).get? a=some ⟨.ref C,none,.fields vs,O⟩:=Heap.get?_push_of_some _ L
 rw [if_neg (by decide)]
 show wpAny _ _ (do
  let d <- alloc { cls:=Value.type "dict",data:=Data.dict #[] }
  update a fun o=>{ cls:=o.cls,dict:=some d,data:=o.data,slots:=o.slots }
  dictMade (.ref C) a d) _ _ _
 refine wpAny_bind (wpAny_alloc' ?_)
 refine wpAny_bind (wpAny_update' Z ?_)
 refine wpAny_pure ?_
 have a5:((s.heap.push { cls:=.type "dict",data:=.dict #[] }).update a fun o=>{ cls:=o.cls,dict:=some s.heap.objs.size,data:=o.data,slots:=o.slots }).get? s.heap.objs.size=some { cls:=.type "dict",data:=.dict #[] } :=
  (Heap.get?_update_ne _ _ _ _ (Ne.symm z)).trans (Heap.get?_push_at rfl rfl)
 have a9:((s.heap.push { cls:=.type "dict",data:=.dict #[] }).update a fun o=>{ cls:=o.cls,dict:=some s.heap.objs.size,data:=o.data,slots:=o.slots }).Ns s.heap.objs.size (fun _=>none) :=
  ⟨_,#[],_,a5,rfl,fun e he=>absurd he (by simp),fun _=>rfl⟩
 have a3:((s.heap.push { cls:=.type "dict",data:=.dict #[] }).update a fun o=>{ cls:=o.cls,dict:=some s.heap.objs.size,data:=o.data,slots:=o.slots }).get? a=some ⟨.ref C,some s.heap.objs.size,.fields vs,O⟩:=Heap.get?_update_self _ Z rfl
 show wpAny _ _ (storeInDict s.heap.objs.size (.str f s.toks) f u) _ _ _
 unfold storeInDict newKeyGuard
 refine wpAny_bind (wpAny_pure (wpAny_bind (wpAny_nsSet1 (Heap.Ns1.of_empty a9) fun h' a1 hs=>?_)))
 obtain ⟨oD,af,ae,a4,a8,aa⟩:=a1.count (Within.cons f u Within.nil)
 refine wpAny_bind (wpAny_lookBehind a4 (by rw [a8];exact pastItsLine_dict (yAG aa (by rw [yAQ,yBL,sizeLine_eq];omega))) ?_)
 refine wpAny_pure ?_
 have a7:H s.heap.objs.size=none:=I.hok.fresh (yAB _)
 have Y:∀ b ob,b≠a->s.heap.get? b=some ob->h'.get? b=some ob:=fun b ob U q=>(hs.2 b (yAI (Heap.lt_size q))).trans ((Heap.get?_update_ne _ _ _ _ U).trans (Heap.get?_push_of_some _ q))
 have a2:h'.get? a=some ⟨.ref C,some s.heap.objs.size,.fields vs,O⟩:=(hs.2 a z).trans a3
 have ac:∀ g,RelO ([(f,y)].lookup g) (if g=f then some u else none):=fun g=>by
  by_cases q:g=f
  .rw [if_pos q,q,List.lookup_cons_self];exact ry
  .rw [if_neg q,yBY,show (g == f)=false from by simpa using q];trivial
 have J1:=I.write (x:=a) (e:=a) (o:=excM a (.ref C) (some s.heap.objs.size)) (t':=s.toks+1+1) (h':=(s.heap.update a fun o=>{ cls:=o.cls,dict:=some s.heap.objs.size,data:=o.data,slots:=o.slots })) (by rw [e];exact True.intro) (.inl rfl)
  (fun b ob U q=>(Heap.get?_update_ne _ _ _ _ U).trans q) ⟨_,Heap.get?_update_self _ L rfl⟩ (ZEU (Heap.get?_update_self _ L rfl) rfl rfl rfl z5 z6)
 have hsz:(s.heap.update a fun o=>{ cls:=o.cls,dict:=some s.heap.objs.size,data:=o.data,slots:=o.slots }).objs.size=s.heap.objs.size:=Heap.size_update ..
 have J2:=J1.laid (a:=s.heap.objs.size) (o:=xdM s.heap.objs.size [(f,y)]) (t':=s.toks+1+1) (h':=h') (fun b ob q=>?_) (by rw [show ({ s with heap:=(s.heap.update a fun o=>{ cls:=o.cls,dict:=some s.heap.objs.size,data:=o.data,slots:=o.slots }),toks:=s.toks+1+1 }:Shared).heap.objs.size=_ from hsz];exact yAB _) (xdM_ok a1 ac)
 .have:=h s.heap.objs.size _ a7 (Ne.symm z) (by
   have e2:upd (upd H s.heap.objs.size (xdM s.heap.objs.size [(f,y)])) a (excM a (.ref C) (some s.heap.objs.size))=upd (upd H a (excM a (.ref C) (some s.heap.objs.size))) s.heap.objs.size (xdM s.heap.objs.size [(f,y)]):=funext fun b=>by
    by_cases q1:b=a
    .rw [q1,ZAF,ZAG z,ZAF]
    .rw [ZAG q1]
     by_cases q2:b=s.heap.objs.size
     .rw [q2,ZAF,ZAF]
     .rw [ZAG q2,ZAG q2,ZAG q1]
   rw [e2]
   exact J2)
  exact this
 .by_cases U:b=a
  .rw [U] at q ⊢
   rw [Heap.get?_update_self _ L rfl] at q
   rw [a2,<- q]
  .exact Y b ob U ((Heap.get?_update_ne _ _ _ _ U).symm.trans q)
theorem excset1 {y:V} {u:Value} {Q:Unit->Shared->Prop} {d:Addr} {fs:List (Str×V)} (I:Inv X pins σ H s) (e:H a=some (excM a (.ref C) (some d))) (ac:d≠a) (ed:H d=some (xdM d fs)) (hl:fs.length < 1000) (c:XCls X.K C) (n:NoAttr X.K C f) (ry:RelV y u)
  (h:∀ s',Inv X pins σ (upd H d (xdM d (putF f y fs))) s'->Q () s'):wpAny (model X.prog X.w) A (setAttr (.ref a) f u) Q E s:=by
 obtain ⟨o,vs,a0,z1,z2,Y,U,z5,z6⟩:=ZCt I.hok e
 obtain ⟨⟨mA,z,r⟩,_,_⟩:=(show ObjOk X.prog X.w H s.heap d (xdM d fs) from I.hok d _ ed)
 obtain ⟨od,a4,aa⟩:=ZDJ z
 have J:InstAt s.heap a o C (some od):=⟨z1,z2,by unfold notCls;rw [U],by rw [Y];exact a4⟩
 refine set_plain I.kIn J c.sa (osa_openX (s:={ s with toks:=s.toks+1 }) (r:=none) I.kIn J c.ov n.taker fun b=>?_)
 obtain ⟨cd,hc,Z⟩:=any_some c.hd
 obtain ⟨oc,a8,a5,a7⟩:=o
 dsimp only at z2 Y U
 subst z2 Y U
 refine wpAny_bind (wpAny_pure (wpAny_bind (wpAny_bind (wpAny_loadPart (s:={ s with toks:=s.toks+1 }) z1 (wpAny_bind (Looks.here (s:={ s with toks:=s.toks+1 }) (looks_clsIn I.kIn hc) ?_))))))
 rw [Z,if_neg (by decide)]
 refine wpAny_pure (a:=some d) (wpAny_bind (wpAny_pure (wpAny_bind ?_)))
 refine wpAny_nsSet1 (s:={ s with toks:=s.toks+1 }) z fun h' L a2=>?_
 have hw:Within mA (fs.map (·.1)):=fun g hg=>by
  have:=r g
  cases hg2:fs.lookup g with
  | none=>rw [hg2] at this;cases hm:mA g with
   | none=>exact absurd hm hg
   | some u=>rw [hm] at this;exact this.elim
  | some v=>exact yBF.mpr ⟨(g,v),PySem.mem_of_lookup hg2,rfl⟩
 obtain ⟨oD,a9,a6,O,a1,a3⟩:=L.count (PySem.Within.cons f u hw)
 refine wpAny_bind (wpAny_lookBehind O (by rw [a1];exact pastItsLine_dict (yAG a3 (by rw [yAQ,yAA,sizeLine_eq];omega))) ?_)
 refine wpAny_pure (h _ ?_)
 exact I.write (x:=d) (e:=d) (o:=xdM d (putF f y fs)) (t':=s.toks+1+1) (h':=h') (by rw [ed];exact True.intro) (.inl rfl) (fun b ob hb q=>(a2.2 b hb).trans q) ⟨oD,O⟩ (xdM_ok L fun g=>by
  rw [ZAV]
  by_cases q:g=f
  .rw [if_pos q,if_pos q];exact ry
  .rw [if_neg q,if_neg q];exact r g)
end
noncomputable def ZFf (K:Frag) (ta tv:TE) (f:Str):TS:=fun D σ H=>tv σ H fun y H1=>ta σ H1 fun x H2=>∃ a C dd,x=.ref a /\ H2 a=some (excM a (.ref C) dd) /\ XCls K C /\ NoAttr K C f /\
 ((dd=none /\ ∀ d,H2 d=none->d≠a->D.nx σ (upd (upd H2 d (xdM d [(f,y)])) a (excM a (.ref C) (some d))))∨∃ d fs,dd=some d /\ d≠a /\ H2 d=some (xdM d fs) /\ fs.length < 1000 /\ D.nx σ (upd H2 d (xdM d (putF f y fs))))
theorem ps_xfld {X:Cx} {o value:Expr} {f:Str} {pos pos':Pos} {ta tv:TE} (ha:PE X o ta) (hv:PE X value tv) (hs:swapsWith value (some (.Attribute o f pos')) pos.line X.env=pure false):PS X (.Assign [.Attribute o f pos'] value pos) (ZFf X.K ta tv f):=by
 intro pins s σ H D I h
 refine plainObj_wpAny_Assign_Attribute (thn (hv pins s σ H _ I h) fun u s1 ⟨y,H1,Y,U,q⟩=>thn (ha pins s1 σ H1 _ Y q) fun ov s2 zz=>?_) hs
 obtain ⟨x,H2,O,rx,a,C,dd,ex,ea,c,n,J⟩:=zz
 subst ex
 obtain rfl:ov=Value.ref a:=rx
 rcases J with ⟨rfl,J⟩ | ⟨d,fs,rfl,z,ed,hl,J⟩
 .exact excset0 O ea c n U fun d Z hd z L=>⟨σ,_,L,J d hd z⟩
 .exact excset1 O ea z ed hl c n U fun Z L=>⟨σ,_,L,J⟩
structure XMk (K:Frag) (C f:Addr):Prop where
 ii:ZC3 K C f bmV "ValueError.__new__"=true
 fn:isFn K (.ref f)=true
 kp:keepIn K (.ref C)=true
section
variable {X:Cx} {CX:CXT} {k:Nat} {f C:Addr} {fd:FuncData} {ps:List Str} {sp:Sp} {x:Str} {p pos:Pos} {e:Expr} {es:List Expr} {t:TA} {E:XK}
theorem run_xmake {pins:List (Addr×Obj)} {σ:St} {H:Hp} {s:Shared} {Q:VK} {R:Value->Shared->Prop} {us:List Value} {vs:List V} (M:XMk X.K C f) (F:FnOk X.prog X.w X.K X.mg X.base CX k f fd ps sp) (hr:Room (k+1) X.A) (hb:Binds X.K fd ps [])
  (hx:ZBF CX X E) (I:Inv X pins σ H s) (r:Vals vs us) (hz:us.length <= sizeLine)
  (h:∀ x,H x=none->sp (.ref x::vs) (upd H x (excM x (.ref C) none)) (fun v H2=>v=.non /\ Q (.ref x) H2) E)
  (fin:∀ a H2 s2,s.heap.get? a=none->H a=none->Un (frs X.stack) [] H H2 s.heap s2.heap->HOk X.prog X.w H2 s2.heap->s2.os=s.os->AllBare s2.gens->Q (.ref a) H2->R (.ref a) s2) :
  wpAny (model X.prog X.w) X.A (call (.ref C) us) R X.xe s:=by
 obtain ⟨bm,N',nm,qn,bs,hdct,sn,sub,ab,col,d0,k0,k1,k2,k3,k5,mN,hC,hN,U,T,a3⟩:=ZDv I.kIn M.ii
 obtain ⟨oI,a1,a0⟩:∃ oI,s.heap.get? f=some oI /\ oI.cls=.type "function":=by
  have ht:=beq_iff_eq.mp M.fn
  unfold typeIn at ht
  obtain ⟨o,h1,h2⟩:=yBM.mp ht
  exact ⟨o,I.kIn _ _ h1,h2⟩
 obtain ⟨h0,g,d,tk,os⟩:=s
 refine call_exc_initU (hrest:=hz) PySem.F.excBase_ValueError PySem.F.excBase_ValueError.hasB PySem.F.excBase_ValueError T hC hN U a1 a0 fun h' a hm ha=>?_
 obtain ⟨t0,Z,_⟩:=hm.there
 have J:h0.objs.size <= a:=by rw [ha];exact yBB _
 have L:H a=none:=I.hok.fresh J
 have Y:=I.laid (a:=a) (o:=excM a (.ref C) none) (h':=h') (t':=tk) hm.keeps J (ZEU Z rfl rfl rfl rfl rfl)
 have hq:=h a L
 have r2:Vals (V.ref a::vs) (Value.ref a::us):=.cons rfl r
 have hl:(Value.ref a::us).length=ps.length:=by rw [<- r2.length];exact F.len _ _ _ _ hq
 have O:=hb ⟨h',g,d,tk,os⟩ (Value.ref a::us) Y.kIn (by rw [yBA];exact hl)
 rw [yBA] at O
 refine wpAny_call (codeAny_mono (F.run _ X.stack ⟨h',g,d,tk,os⟩ _ ⟨Value.ref a::us,[]⟩ (Value.ref a::us) _ _ E (hr.make C us []) (Y.env0.make C us []) O r2 hq) fun r s' z=>?_)
 cases r with
 | error e=>exact hx pins σ _ _ e s' Y z
 | ok fl=>
  cases fl with
  | ret u=>
   obtain ⟨v,H2,ho,a2,un,hok,rv,ev,q3⟩:=z
   subst ev
   exact ⟨rv,fin a H2 s' hm.new L (Un.trans (Un.laid hm.keeps J L) un) hok ho a2 q3⟩
  | next=>exact False.elim z
  | brk=>exact False.elim z
  | cont=>exact False.elim z
noncomputable def tXMk (C:Addr) (sp:Sp) (E:XK) (t:TA):TE:=fun σ H Q=>t σ H fun vs H1=>vs.length <= 1000 /\ ∀ x,H1 x=none->sp (.ref x::vs) (upd H1 x (excM x (.ref C) none)) (fun v H2=>v=.non /\ Q (.ref x) H2) E
end
noncomputable def forget (H:Hp) (a:Addr):Hp:=fun b=>if b=a then none else H b
theorem ZBB {H:Hp} {a b:Addr} (h:b≠a):forget H a b=H b:=if_neg h
theorem forget_same {H:Hp} {a:Addr}:forget H a a=none:=if_pos rfl
theorem Un.forget {fs:List Addr} {H H2:Hp} {h h2:Heap} {a:Addr} (u:Un fs [] H H2 h h2) (hn:h.get? a=none) (J:H a=none):Un fs [] H (L2.forget H2 a) h h2 where
 keep:=u.keep
 slot:=u.slot
 free:=fun b o q n hx=>by
  rw [ZBB (fun z=>by rw [z,hn] at q;cases q)]
  exact u.free b o q n hx
 there:=u.there
 tups:=fun b xs q=>by rw [ZBB (ZAB q J)];exact u.tups b xs q
 frzs:=fun b o xs q=>by rw [ZBB (ZAB q J)];exact u.frzs b o xs q
 tbls:=fun b ps q=>by
  obtain ⟨m,hm⟩:=u.tbls b ps q
  exact ⟨m,by rw [ZBB (ZAB q J)];exact hm⟩
theorem HOk.forget {P:Program} {w:World} {H:Hp} {h:Heap} {a:Addr} {φ:Heap->Prop} (x:HOk P w H h) (ha:H a=some (.ext φ)):HOk P w (L2.forget H a) h:=fun b o q=>by
 by_cases z:b=a
 .rw [z,forget_same] at q;cases q
 .rw [ZBB z] at q
  refine (x b o q).stay (fun _ _ _ y=>y) (fun c y=>?_) fun c xs y=>?_
  .rw [ZBB (fun z=>by rw [z,ha] at y;cases y)];exact y
  .rw [ZBB (fun z=>by rw [z,ha] at y;cases y)];exact y
noncomputable def ZDj (E:XK) (C:Addr) (sp:Sp) (t:TA):TS:=fun _ σ H=>t σ H fun vs H1=>vs.length <= 1000 /\ ∀ x,H1 x=none->sp (.ref x::vs) (upd H1 x (excM x (.ref C) none)) (fun v H2=>v=.non /\ ∃ dd,H2 x=some (excM x (.ref C) dd) /\ E (.ref C) dd (forget H2 x)) E0
section
variable {P:Program} {w:World} {K:W.Frag} {mg:Str->Option Value} {base:Heap} {N:List Str} {qual:Str} {scope:Scope} {f:Addr} {cd:Value} {A:Around} {outer:List Env} {s:Shared} {H:Hp} {E:XK}
variable {CX:CXT} {k:Nat} {fI C:Addr} {fd:FuncData} {ps:List Str} {sp:Sp} {x:Str} {np cpos pos:Pos} {e:Expr} {es:List Expr} {t:TA}
theorem ps_raiseX (M:XMk K C fI) (F:FnOk P w K mg base CX k fI fd ps sp) (hr:Room (k+1) (cxOf (CXE P w) P w K mg base N qual scope f cd A outer s H E).A) (hg:Gl (cxOf (CXE P w) P w K mg base N qual scope f cd A outer s H E) x) (hm:mg x=some (.ref C)) (hb:Binds K fd ps []) (hx:ZBF CX (cxOf (CXE P w) P w K mg base N qual scope f cd A outer s H E) E0)
  (ha:PA (cxOf (CXE P w) P w K mg base N qual scope f cd A outer s H E) (e::es) t) (Z:(x == ("__debug__":Str))=false:=by decide) (he:starEach (e::es) (cxOf (CXE P w) P w K mg base N qual scope f cd A outer s H E).env=(false,eval e (cxOf (CXE P w) P w K mg base N qual scope f cd A outer s H E).env)::starEach es (cxOf (CXE P w) P w K mg base N qual scope f cd A outer s H E).env:=by rfl) (a1:(backTo cpos (starEach es (cxOf (CXE P w) P w K mg base N qual scope f cd A outer s H E).env)).any (·.1)=false:=by rfl) :
  PS (cxOf (CXE P w) P w K mg base N qual scope f cd A outer s H E) (.Raise (some (.Call (.Name x np) (e::es) [] cpos)) none pos) (ZDj E C sp t):=by
 intro pins s1 σ H1 D I h
 obtain ⟨bm,N',nm,qn,bs,hdct,sn,sub,ab,col,d0,k0,k1,k2,k3,k5,mN,hC,hN,a3,T,Y⟩:=ZDv I.kIn M.ii
 rw [arm_exec_Raise]
 simp only [evalOpt,Option.map]
 refine wpAny_bind (wpAny_standAt (raiseStmt_madeD (C:=C) (nm:=nm) (q:=qn) (N:=N') (bs:=bs) (bm:=bm) (hdct:=hdct) (sn:=sn) (sub:=sub) (ab:=ab) (col:=col) (dd:=d0) (k0:=k0) (k1:=k1) (k2:=k2) (k3:=k3) (k5:=k5) (newId:="ValueError.__new__") (T.hasType PySem.F.excBase_ValueError.hasBase) (I.ok.hd rfl) ?_))
 refine wpAny_bind (wpAny_Call_Name_kw (ZCI I hg hm ?_ Z))
 refine PySem.W.callWith_K (h₀:=base) I.ok.mod.kin M.kp (thn (ha cpos pins s1 σ H1 _ I h) fun us s2 ⟨vs,H2,U,r,hl,q⟩=>⟨U.kIn,?_⟩) he a1
 refine run_xmake (us:=us) (Q:=fun v H3=>match v with | .ref x=>∃ dd,H3 x=some (excM x (.ref C) dd) /\ E (.ref C) dd (forget H3 x) | _=>False) M F hr hb hx U r (by rw [<- r.length,sizeLine_eq];omega) q fun a H3 s3 hn hH un J ho L q2=>?_
 obtain ⟨dd,O,hE⟩:=q2
 obtain ⟨o,a2,a0,z1,z2,z3,z4,z5,z6⟩:=ZCt J O
 have I3:=U.call' (s':=s3) ho un J L fun b z=>nomatch z
 refine wpAny_bind (wpAny_standAt (wpAny_pure ?_))
 refine ⟨a,o,a2,rfl,I3.kIn _ _ Y,z1,z2,z4,z5,?_⟩
 exact raisedD (s2:=s3) U (un.forget hn hH) (J.forget O) ho L hn forget_same z1 z2 z3 z4 z5 z6 hE
end
section
variable {X:Cx}
end
theorem us_len {us ds:List Value} {ps:List Str} {n:Nat} (h:(us++ds).length=ps.length) (e:n+ds.length=ps.length):us.length=n:=by
 rw [yAC] at h;omega
noncomputable def Fr (S:List Addr) (H H':Hp):Prop:=∀ b o,b∉S->H b=some o->H' b=some o
theorem Fr.refl {S:List Addr} {H:Hp}:Fr S H H:=fun _ _ _ h=>h
theorem Fr.trans {S:List Addr} {H H' H'':Hp} (e:Fr S H H') (f:Fr S H' H''):Fr S H H'':=fun b o n h=>f b o n (e b o n h)
theorem Same.fr {S:List Addr} {H H':Hp} (e:Same H H'):Fr S H H':=fun b o _ h=>e b o h
end L2
namespace PySem
namespace F
theorem nolen_lri:typeLookup (.type "list_reverseiterator") "__len__"=pure none:=by rw [typeLookup_type,builtinLookup_eq_fast];kernel_rfl
theorem hint_lri:typeLookup (.type "list_reverseiterator") "__length_hint__"=pure (some (.builtin "list_reverseiterator.__length_hint__")):=by rw [typeLookup_type,builtinLookup_eq_fast];kernel_rfl
end F
section
variable {prog:Program} {w:World} {A:Around} {s:Shared} {R:Result->Shared->Prop}
variable {I:Addr} {fp wr:List Addr} {G:Array GenState->Array GenState->Prop} {n:Nat} {P:Nat->Value->Prop} {St:Nat->Shared->Prop}
theorem wpAny_extend_rev (W:WalksS prog w A.in1 I fp wr G n P St) (Y:∀ i s,St i s->s.TypeIs (.ref I) "list_reverseiterator") (S:Addr) (res:Value) (L:Nat) (J:St 0 s) (O:S∉fp) (hI:I∈fp)
  (hS:s.heap.get? S=some { cls:=.type "list",data:=.seq #[] L })
  (hR:∀ s' z c',Moved (S::wr) G s s'->s'.heap.get? S=some { cls:=.type "list",dict:=none,data:=.seq z c',slots:=#[] }->ItemsOf P z n->R (.ok (.ret res)) s') (hn:n <= sizeLine) :
  wpAny (model prog w) A.in1 (Builtin.List.listExtendWith (.ref S) (.ref I) res)
   (fun fin s'=>match fin with | .done f=>R (.ok f) s' | .again c'=>c'.quiet=true /\ codeAny (model prog w) A c' R s') (fun e s'=>R (.error e) s') s:=by
 have Z:S≠I:=fun e=>O (e ▸ hI)
 unfold Builtin.List.listExtendWith
 refine wpAny_bind (wpAny_typeOf (Y 0 _ J) ?_)
 have h1:Builtin.List.listSameRef (.ref S) (.ref I)=false:=by simp [Builtin.List.listSameRef,Z]
 rw [if_neg (by rw [h1];decide)]
 refine wpAny_bind (W.self 0 _ _ _ J ?_)
 refine wpAny_bind (wpAny_holding ?_)
 unfold Builtin.List.listLengthHint
 refine wpAny_bind (wpAny_specialOf (Y 0 _ J) F.nolen_lri ?_)
 show wpAny _ A.in1 (specialOf (Value.ref I) (Str.ofString "__length_hint__") >>= _) _ _ _
 refine wpAny_bind (wpAny_specialOf (Y 0 _ J) F.hint_lri ?_)
 (generalize hid:("list_reverseiterator.__length_hint__":String)=id0;(fail_if_success (clear hid id0));wp_delta;rw [show splitId id0=some ("list_reverseiterator","__length_hint__") from by subst hid;decide +kernel];subst hid)
 refine wpAny_bind (wpAny_isInstance (b:=true) (Y 0 _ J) (by rw [isSubtype_type];kernel_rfl) ?_)
 refine wpAny_pure ?_
 rw [if_neg (by decide)]
 refine wpAny_pure ⟨plainId_quiet F.plain_extend_loop _,codeAny_extend_loopS W hn _ O _ n 0 _ _ _ rfl (yAH _) J hS (ItemsOf.nil P) fun s' z c' hm a0 U=>?_⟩
 exact hR s' z c' hm a0 U
theorem wpAny_list_init_rev (W:WalksS prog w A.in1 I fp wr G n P St) (hT:∀ i s,St i s->s.TypeIs (.ref I) "list_reverseiterator") (S:Addr) (a0:St 0 s) (L:S∉fp) (hI:I∈fp)
  (hS:s.heap.get? S=some { cls:=.type "list",data:=.seq #[] })
  (hR:∀ s' z c',Moved (S::wr) G s s'->s'.heap.get? S=some { cls:=.type "list",dict:=none,data:=.seq z c',slots:=#[] }->ItemsOf P z n->R (.ok (.ret .none)) s') (hn:n <= sizeLine) :
  wpAny (model prog w) A.in1 (Builtin.«list.__init__» ⟨[.ref S,.ref I],[]⟩)
   (fun fin s'=>match fin with | .done f=>R (.ok f) s' | .again c'=>c'.quiet=true /\ codeAny (model prog w) A c' R s') (fun e s'=>R (.error e) s') s:=by
 show wpAny _ A.in1 (do let old <- Builtin.List.listItems (.ref S);Builtin.List.listUpdate (.ref S) (fun _=>#[]);letGo old.toList.reverse;Builtin.List.listExtendWith (.ref S) (.ref I) .none) _ _ s
 refine wpAny_bind ?_
 unfold Builtin.List.listItems
 refine wpAny_bind (wpAny_seqItems hS rfl (wpAny_pure ?_))
 show wpAny _ A.in1 (updateSeq S (fun _=>#[]) >>= fun _=>letGo (#[]:Array Value).toList.reverse >>= fun _=>Builtin.List.listExtendWith (.ref S) (.ref I) .none) _ _ s
 refine wpAny_bind (wpAny_updateSeq hS rfl ?_)
 have J:=Heap.get?_update_self (Obj.mapSeq (fun _=>(#[]:Array Value))) hS rfl
 have U:∀ b o,b≠S->s.heap.get? b=some o->(s.heap.update S (Obj.mapSeq (fun _=>(#[]:Array Value)))).get? b=some o :=
  fun b o Y e=>(Heap.get?_update_other _ _ (Ne.symm Y)).trans e
 refine wpAny_bind (wpAny_letGo ?_)
 refine wpAny_extend_rev (hn:=hn) W hT S .none _ (W.frame 0 s _ s.toks a0 (yAB _) fun b Y o e=>U b o (fun h=>L (h ▸ Y)) e) L hI J fun s' z c' hm Z O=>?_
 exact hR s' z c' (Moved.trans W.gtrans ((Moved.refl W.grefl).then_heap (yAB _) fun b o Y e=>U b o (fun h=>Y (h ▸ yAF)) e) hm) Z O
end
section
variable {prog:Program} {w:World} {A:Around} {E:Value->Shared->Prop} {s:Shared}
variable {I:Addr} {fp wr:List Addr} {G:Array GenState->Array GenState->Prop} {n:Nat} {P:Nat->Value->Prop} {St:Nat->Shared->Prop}
theorem call_list_revW {Q:Value->Shared->Prop} (W:WalksS prog w A.in1.in1 I fp wr G n P St) (hT:∀ i s,St i s->s.TypeIs (.ref I) "list_reverseiterator") (Y:St 0 s) (O:∀ b∈fp,b < s.heap.objs.size) (hI:I∈fp)
  (hQ:∀ s' z c',Moved (s.heap.objs.size::wr) G { s with heap:=s.heap.push { cls:=.type "list",data:=.seq #[] } } s' ->
   s'.heap.get? s.heap.objs.size=some { cls:=.type "list",dict:=none,data:=.seq z c',slots:=#[] }->ItemsOf P z n->Q (.ref s.heap.objs.size) s') (hn:n <= sizeLine) :
  wpAny (model prog w) A (call (.type "list") [.ref I]) Q E s:=by
 have L:s.heap.objs.size∉fp:=fun hm=>yBK _ (O _ hm)
 refine callType_codes (Q₁:=fun obj s₁=>obj=.ref s.heap.objs.size /\ s₁={ s with heap:=s.heap.push { cls:=.type "list",data:=.seq #[] } }) F.called_list (F.typeCall_list_1 _) F.entry_list_init
  (code_list_new _ ⟨rfl,rfl⟩) fun obj s₁ h₁=>?_
 obtain ⟨rfl,rfl⟩:=h₁
 have Z:(s.heap.push { cls:=.type "list",data:=.seq #[] }).get? s.heap.objs.size=some { cls:=.type "list",data:=.seq #[] }:=Heap.get?_push_size _ rfl
 refine ⟨⟨_,Z,rfl⟩,F.args_list_init_2 _ _,wpAny_list_init_rev (hn:=hn) W hT _ (W.frame 0 s _ s.toks Y (yAB _) fun b _ o e=>Heap.get?_push_of_some _ e) L hI Z fun s' z c' hm U J=>?_⟩
 exact ⟨rfl,hQ s' z c' hm U J⟩
end
end PySem
namespace L2
open PySem PySem.Spec PyProof.Rows
noncomputable def ZFY (K:W.Frag) (t:TA):TE:=fun σ H Q=>t σ H fun vs H1=>∃ (l:Addr) (ys:List V),vs=[.ref l] /\ SqL K H1 l ys /\ ∀ r,H1 r=none->Q (.ref r) (upd H1 r (.lst ys.reverse))
section
variable {X:Cx} {e:Expr} {ta:TA} {p p2 pos pos2:Pos}
theorem pe_list_rev (hc:X.calm=true) (hg:Gl X "list") (hm:X.mg "list"=none) (a6:Gl X "reversed") (a0:X.mg "reversed"=none) (ha:PA X [e] ta)
  (he:starEach [.Call (.Name "reversed" p2) [e] [] pos2] X.env=(false,eval (.Call (.Name "reversed" p2) [e] [] pos2) X.env)::starEach [] X.env:=by rfl) (a4:(backTo pos (starEach [] X.env)).any (·.1)=false:=by rfl)
  (a3:starEach [e] X.env=(false,eval e X.env)::starEach [] X.env:=by rfl) (Y:(backTo pos2 (starEach [] X.env)).any (·.1)=false:=by rfl) :
  PE X (.Call (.Name "list" p) [.Call (.Name "reversed" p2) [e] [] pos2] [] pos) (ZFY X.K ta):=by
 intro pins s σ H Q I h
 refine wpAny_Call_Name_kw (ZDK I hg hm PyProof.Rows.boot_list ?_ (by decide) (by decide))
 refine PyProof.Rows.callWith_type1 ?_ he a4
 rw [he]
 show wpAny _ _ (spliced ((false,eval (.Call (.Name "reversed" p2) [e] [] pos2) X.env)::backTo pos (starEach [] X.env))) _ _ s
 refine Calls.spliced_cons ?_
 refine wpAny_Call_Name_kw (ZDK I a6 a0 PyProof.Rows.boot_reversed ?_ (by decide) (by decide))
 refine PyProof.Rows.callWith_type1 (thn (ha pos2 pins s σ H _ I h) fun us s1 zz=>?_) a3 Y
 obtain ⟨vs,H1,Z,r1,q1⟩:=zz
 obtain ⟨l,ys,rfl,hl,q⟩:=q1
 obtain ⟨u,rfl,rx⟩:=ZDT r1
 cases rx
 obtain ⟨its,r',pl,hz⟩:=Z.list hl
 have a5:l < s1.heap.objs.size:=by obtain ⟨o,ho,_⟩:=pl.isList;exact Heap.lt_size ho
 refine call_reversed_list pl.isList ?_
 refine Calls.spliced_nil ?_
 have hh:X.A.handled=none:=Z.ok.hd hc
 have a2:l≠s1.heap.objs.size:=yAI a5
 have W:=(Walks.listRev (prog:=X.prog) (w:=X.w) (A:=X.A.in1.in1) hh s1.heap.objs.size l a2 its.toArray).toS
 have hsz:its.toArray.size=its.length:=yAS ..
 have a7:=r'.length
 refine call_list_revW W (fun i s st=>st.2.1.typeIs) ⟨yAH _,⟨_,Heap.get?_push_size _ rfl,rfl,by simp [revObj]⟩,pl.isList.at fun o e=>Heap.get?_push_of_some _ e⟩ (fun b hb=>?_) yAF (fun s' J c' hm a1 O=>?_) (by rw [hsz];omega)
 .rcases yAE.mp hb with z | z
  .rw [z];exact Heap.lt_size (Heap.get?_push_size _ rfl)
  .rw [yAN.mp z]
   obtain ⟨o,ho,_⟩:=pl.isList
   exact Heap.lt_size (Heap.get?_push_of_some _ ho)
 .rw [Moved.eq_with hm]
  have U:s1.heap.objs.size <= (s1.heap.push (revObj l ((its.toArray.size:Int)-1))).objs.size:=yBP (Heap.lt_size (Heap.get?_push_size _ rfl))
  have e:J.toList=its.reverse:=by
   refine yCK fun j=>?_
   have sz:J.toList.length=its.length:=by rw [yAO,O.1,hsz]
   by_cases hj:j < its.length
   .have h1:J.toList[j]?=some (J.toList[j]'(by omega)):=yAD (by omega)
    have h2:=O.2 j _ (by rw [<- yBD];exact h1)
    rw [h1,<- h2,List.getElem?_reverse hj,hsz]
    simp
   .rw [yBE (by omega),yBE (by rw [yBS];omega)]
  refine ⟨.ref _,_,Z.laid (h':=s'.heap) (t':=s'.toks) (o:=.lst ys.reverse) (a:=(s1.heap.push (revObj l ((its.toArray.size:Int)-1))).objs.size) (fun b u hb=>hm.heap b u (fun z=>?_) (Heap.get?_push_of_some _ (Heap.get?_push_of_some _ hb))) U ⟨by rw [yBS];exact hz,J.toList,c',by rw [e];exact r'.reverse,by simpa using a1⟩,rfl,q _ (Z.hok.fresh U)⟩
  have L:=Heap.lt_size hb
  rcases yAE.mp z with z | z
  .rw [z] at L;exact absurd L (Nat.not_lt.mpr U)
  .rw [yAN.mp z] at L;exact yBK _ L
end
theorem eqD_refl {K:W.Frag} {H:Hp} {x y:V} {d:PyData} {Q:VK} (hx:Dp K H d x) (J:Dp K H d y) (hc:d.canLay0=true) (z:d.depth <= 64) (q:Q (.bl true) H):rEqD K x y H Q :=
 ⟨d,d,hx,J,hc,hc,z,by rw [PySem.SeqAt.eqv_refl d hc];exact q⟩
theorem neD_refl {K:W.Frag} {H:Hp} {x y:V} {d:PyData} {Q:VK} (hx:Dp K H d x) (J:Dp K H d y) (hc:d.canLay0=true) (z:d.depth <= 64) (q:Q (.bl false) H):rNeD K x y H Q :=
 ⟨d,d,hx,J,hc,hc,z,by rw [PySem.SeqAt.eqv_refl d hc];exact q⟩
noncomputable def compR2 (g:TG) (tt:TT) (te:TE) (σ0:St) (Q:VK) (x y:V) (H1:Hp):Prop:=∃ i j:Int,[x,y]=[.int i,.int j] /\ (-(2 ^ 62) <= i /\ i < 2 ^ 62 /\ -(2 ^ 62) <= j /\ j < 2 ^ 62) /\ compR i g tt te σ0 Q (j-i).toNat H1
theorem tCompR2_eq {k:Nat} {js:List Nat} {t u:TE} {g:TG} {tt:TT} {te:TE} {σ:St} {H:Hp} {Q:VK}:ZEF k js (iRng2 (ZCl t (ZCl u tNil))) g tt te σ H Q=t σ H (fun x H1=>u σ H1 fun y H2=>compR2 g tt te (up k js σ) Q x y H2):=rfl
section
variable {X:Cx}
theorem call_sumB (hc:X.calm=true):ZCA X (.builtin "sum") (fun xs H Q=>∃ (p:Addr) (ns:List Int),xs=[.ref p] /\ SqL X.K H p (ns.map V.int) /\ Q (.int ns.sum) H):=by
 intro pins s σ H xs us Q I r h
 obtain ⟨p,ns,rfl,hq,q⟩:=h
 obtain ⟨u,rfl,rx⟩:=ZDT r
 cases rx
 obtain ⟨its,r',pl,hz⟩:=I.list hq
 have J:=r'.length
 rw [yAA] at J
 have hh:X.A.handled=none:=I.ok.hd hc
 have hl:=pl.isList
 have L:p < s.heap.objs.size:=by obtain ⟨_,e,_⟩:=hl;exact Heap.lt_size e
 refine call_sum_walkG (wpAny_pyIter_list hl ⟨s.heap.objs.size,_,_,_,_,_,fun i=>ns.getD i 0,rfl,Walks.list (A:=X.A.in1) hh s.heap.objs.size p (yAI L) its.toArray,⟨⟨_,Heap.get?_push_size _ rfl,rfl,rfl⟩,hl.push _⟩,fun b U=>?_,fun i v hP=>?_,fun h' tk t' hk=>?_⟩)
 .have Y:b=s.heap.objs.size∨b=p:=by simpa using U
  show b < (s.heap.push _).objs.size
  rw [Heap.size_push]
  rcases Y with rfl | rfl
  .exact yBW _
  .exact Nat.lt_succ_of_lt L
 .have O:its[i]?=some v:=by simpa using hP
  have hi:i < its.length:=(yAK.mp O).1
  obtain ⟨b,U⟩:∃ b,ns[i]?=some b:=⟨_,yAD (by omega)⟩
  obtain ⟨u,Z,ru⟩:=r'.get (i:=i) (x:=.int b) (by rw [yAJ,U];rfl)
  rw [O] at Z
  cases Z
  obtain ⟨t,rfl⟩:=ru
  refine ⟨t,?_⟩
  show _=Value.int (ns.getD i 0) t
  rw [yBI,U]
  rfl
 .refine ⟨.int ns.sum,H,I.kept (t':=tk) (fun b o e=>hk b o ?_ (Heap.get?_push_of_some _ e)),⟨t',?_⟩,q⟩
  .intro z
   have:b=s.heap.objs.size:=by simpa using z
   exact absurd (Heap.lt_size e) (by rw [this];exact yBK _)
  .have:its.toArray.size=ns.length:=by simp [J]
   rw [this,ZCp ns ns.length (yAB _),List.take_length]
end
noncomputable def Itz (K:W.Frag) (a b:Addr):It :=
 ⟨fun i H=>∃ xs x ys y,SqL K H a xs /\ xs[i]?=some x /\ SqL K H b ys /\ ys[i]?=some y,fun i H v H'=>∃ p x y,H p=none /\ (∀ xs,SqL K H a xs->xs[i]?=some x) /\ (∀ ys,SqL K H b ys->ys[i]?=some y) /\ H'=upd H p (.tup [x,y]) /\ v=.ref p,fun i H=>∃ xs ys,SqL K H a xs /\ SqL K H b ys /\ (xs.length <= i∨ys.length <= i)⟩
section
variable {X:Cx}
noncomputable def iZip (K:W.Frag) (ta:TA):TI:=fun σ H R=>ta σ H fun vs H1=>∃ a b,vs=[.ref a,.ref b] /\ (∃ xs,SqL K H1 a xs) /\ (∃ xs,SqL K H1 b xs) /\ R (Itz K a b) H1
end
section
variable {K:W.Frag} {a b:Addr} {xs ys:List V} {g:TG} {tb:TS} {D:Ends} {σ:St} {H:Hp}
noncomputable def forZ (K:W.Frag) (g:TG) (tb:TS) (D:Ends) (σ:St) (x y:V) (H1:Hp):Prop:=∃ a b,[x,y]=[.ref a,.ref b] /\ (∃ xs,SqL K H1 a xs) /\ (∃ xs,SqL K H1 b xs) /\ ∃ W:Nat->Nat->St->Hp->Prop,(∃ m,W 0 m σ H1) /\ ∀ i m σ H,W i m σ H ->
 ((Itz K a b).stop i H /\ D.nx σ H)∨((Itz K a b).go i H /\ ∃ N:St->Hp->Prop,(∀ σ' H',N σ' H'->∃ m',m' < m /\ W (i+1) m' σ' H') /\ ∀ x H',(Itz K a b).yld i H x H'->g x σ H' fun σ2 H2=>tb { D with nx:=N,ct:=N,bk:=D.nx } σ2 H2)
theorem tForZ_eq {t u:TE}:tFor (iZip K (ZCl t (ZCl u tNil))) g tb D σ H=t σ H (fun x H1=>u σ H1 fun y H2=>forZ K g tb D σ x y H2):=rfl
end
section
open PySem.SeqAt
open PySem.AutoSeq1 (wpAny_loadPart')
open PySem.MeetsSeq PySem.MeetsSeq2 PySem.MeetsSeq3 HT
end
section
variable {prog:Program} {w:World} {A:Around} {E:Value->Shared->Prop} {s:Shared}
end
section
variable {X:Cx}
end
section
variable {κ:Type} [DecidableEq κ]
noncomputable def valV (kvs:List (κ×V)) (k:κ):Option V:=(kvs.find? fun kv=>decide (kv.1=k)).map (·.2)
noncomputable def putK (kvs:List (κ×V)) (k:κ) (v:V):List (κ×V) :=
 if (kvs.any fun kv=>decide (kv.1=k))=true then kvs.map (fun kv=>if kv.1=k then (kv.1,v) else kv) else kvs++[(k,v)]
theorem ZA8 {p:κ×V} {r:List (κ×V)} {k:κ} (e:p.1=k):valV (p::r) k=some p.2:=by simp [valV,yCT,e]
theorem ZA9 {p:κ×V} {r:List (κ×V)} {k:κ} (e:¬ p.1=k):valV (p::r) k=valV r k:=by simp [valV,yCT,e]
theorem ZCk (k:κ):∀ kvs:List (κ×V),(kvs.any fun z=>decide (z.1=k))=(valV kvs k).isSome
 | []=>rfl
 | p::r=>by
  rw [List.any_cons]
  by_cases e:p.1=k
  .simp only [ZA8 e,decide_eq_true e,Bool.true_or,Option.isSome_some]
  .rw [ZA9 e,decide_eq_false e,Bool.false_or];exact ZCk k r
theorem valV_map (k j:κ) (y:V):∀ kvs:List (κ×V),valV (kvs.map fun J=>if J.1=k then (J.1,y) else J) j=(valV kvs j).map fun x=>if j=k then y else x
 | []=>rfl
 | p::r=>by
  have L:=valV_map k j y r
  rw [yAV]
  by_cases h:p.1=k
  .rw [if_pos h]
   by_cases e:p.1=j
   .rw [ZA8 (p:=(p.1,y)) e,ZA8 e,yCD,if_pos (e.symm.trans h)]
   .rw [ZA9 (p:=(p.1,y)) e,ZA9 e,L]
  .rw [if_neg h]
   by_cases e:p.1=j
   .rw [ZA8 (p:=p) e,ZA8 e,yCD,if_neg (fun z=>h (e.trans z))]
   .rw [ZA9 (p:=p) e,ZA9 e,L]
theorem valV_snoc (k j:κ) (y:V):∀ kvs:List (κ×V),valV kvs k=none->valV (kvs++[(k,y)]) j=if j=k then some y else valV kvs j
 | [],_=>by
  by_cases e:k=j
  .rw [if_pos e.symm];exact ZA8 (p:=(k,y)) e
  .rw [if_neg (fun z=>e z.symm)];exact ZA9 (p:=(k,y)) e
 | p::r,hn=>by
  rw [List.cons_append]
  have J:¬ p.1=k:=fun z=>by rw [ZA8 z] at hn;cases hn
  rw [ZA9 J] at hn
  have L:=valV_snoc k j y r hn
  by_cases e:p.1=j
  .rw [ZA8 e,ZA8 e,if_neg (fun z=>J (e.trans z))]
  .rw [ZA9 e,ZA9 e,L]
theorem valV_put (kvs:List (κ×V)) (k j:κ) (y:V):valV (putK kvs k y) j=if j=k then some y else valV kvs j:=by
 unfold putK
 by_cases a:(kvs.any fun z=>decide (z.1=k))=true
 .rw [if_pos a,valV_map]
  rw [ZCk] at a
  by_cases e:j=k
  .obtain ⟨x,hx⟩:=Option.isSome_iff_exists.mp a
   rw [if_pos e,e,hx,yCD,if_pos rfl]
  .rw [if_neg e]
   cases valV kvs j with
   | none=>rfl
   | some x=>rw [yCD,if_neg e]
 .rw [if_neg a]
  refine valV_snoc k j y kvs ?_
  rw [ZCk] at a
  cases q:valV kvs k with
  | none=>rfl
  | some x=>rw [q] at a;exact (a rfl).elim
theorem ZCe (kvs:List (κ×V)) (k:κ) (v:V):(putK kvs k v).length <= kvs.length+1:=by
 unfold putK
 split
 .rw [yAA];omega
 .rw [yAC,yAQ,yBL];omega
theorem RelO.isSome_eq {o:Option V} {u:Option Value} (r:RelO o u):o.isSome=u.isSome:=by
 cases o with
 | none=>cases u with
  | none=>rfl
  | some _=>exact (show False from r).elim
 | some _=>cases u with
  | none=>exact (show False from r).elim
  | some _=>rfl
theorem RelO.getD {o:Option V} {u:Option Value} {d:V} {d':Value} (r:RelO o u) (rd:RelV d d'):RelV (o.getD d) (u.getD d'):=by
 cases o with
 | none=>cases u with
  | none=>exact rd
  | some _=>exact (show False from r).elim
 | some _=>cases u with
  | none=>exact (show False from r).elim
  | some _=>exact r
theorem KV.val {kvs:List (κ×V)} {vs:List (κ×Value)} (r:KV kvs vs) (k:κ):RelO (valV kvs k) (valueAt vs k):=by
 unfold KV at r
 induction r with
 | nil=>exact True.intro
 | @cons p q ps qs h t ih=>
  obtain ⟨h1,h2⟩:=h
  by_cases e:p.1=k
  .have J:q.1=k:=h1.symm.trans e
   have b:valueAt (q::qs) k=some q.2:=by simp [valueAt,yCT,J]
   rw [ZA8 e,b];exact h2
  .have J:¬ q.1=k:=fun z=>e (h1.trans z)
   have b:valueAt (q::qs) k=valueAt qs k:=by simp [valueAt,yCT,J]
   rw [ZA9 e,b];exact ih
theorem KV.any {kvs:List (κ×V)} {vs:List (κ×Value)} (r:KV kvs vs) (k:κ):(kvs.any fun z=>decide (z.1=k))=vs.any fun z=>decide (z.1=k):=by
 unfold KV at r
 induction r with
 | nil=>rfl
 | cons h t ih=>rw [List.any_cons,List.any_cons,ih,h.1]
theorem KV.repl {kvs:List (κ×V)} {vs:List (κ×Value)} (r:KV kvs vs) (k:κ) {y:V} {u:Value} (L:RelV y u) :
  KV (kvs.map fun J=>if J.1=k then (J.1,y) else J) (vs.map fun J=>if J.1=k then (J.1,u) else J):=by
 unfold KV at r ⊢
 induction r with
 | nil=>exact .nil
 | @cons p q ps qs h t ih=>
  rw [yAV,yAV]
  refine .cons ?_ ih
  obtain ⟨h1,h2⟩:=h
  by_cases e:p.1=k
  .rw [if_pos e,if_pos (h1.symm.trans e)];exact ⟨h1,L⟩
  .rw [if_neg e,if_neg (fun z=>e (h1.trans z))];exact ⟨h1,h2⟩
theorem KV.put {kvs:List (κ×V)} {vs:List (κ×Value)} (r:KV kvs vs) (k:κ) {y:V} {u:Value} (z:RelV y u):KV (putK kvs k y) (stored vs k u):=by
 unfold putK stored
 rw [r.any k]
 by_cases e:(vs.any fun J=>decide (J.1=k))=true
 .rw [if_pos e,if_pos e];exact r.repl k z
 .rw [if_neg e,if_neg e];exact Paired.snoc r ⟨rfl,z⟩
theorem KV.length {kvs:List (κ×V)} {vs:List (κ×Value)} (r:KV kvs vs):kvs.length=vs.length:=Paired.length r
end
theorem ZFS {P:Program} {w:World} {k:Key} {u:Value} (r:RelV (kV k) u):(ZAU P w).is k u=true:=by
 cases k with
 | inl i=>obtain ⟨t,e⟩:=(show ∃ t,u=Value.int i t from r);subst e;exact mixKind_int P w i t
 | inr x=>obtain ⟨t,e⟩:=(show ∃ t,u=Value.str x t from r);subst e;exact mixKind_str P w x t
theorem items_are {P:Program} {w:World}:∀ {ks:List Key} {us:List Value},Vals (ks.map kV) us->ItemsAre (ZAU P w) ks us
 | [],_,r=>by rw [List.map_nil] at r;cases r;exact .nil
 | k::ks,_,r=>by
  rw [yAV] at r
  cases r with
  | cons h t=>exact .cons (ZFS h) (items_are t)
noncomputable abbrev KT (H:Hp):List (List Key×V)->List (List Key×Addr×Value)->Prop:=Paired fun p q=>p.1=q.1 /\ H q.2.1=some (.tup (p.1.map kV)) /\ RelV p.2 q.2.2
theorem KT.val {H:Hp} {kvs:List (List Key×V)} {xs:List (List Key×Addr×Value)} (r:KT H kvs xs) (k:List Key):RelO (valV kvs k) ((atKey xs k).map (·.2)):=by
 induction r with
 | nil=>exact True.intro
 | @cons p q ps qs h t ih=>
  obtain ⟨h1,_,h2⟩:=h
  by_cases e:p.1=k
  .have J:q.1=k:=h1.symm.trans e
   have b:atKey (q::qs) k=some q.2:=by simp [atKey,yCT,J]
   rw [ZA8 e,b];exact h2
  .have J:¬ q.1=k:=fun z=>e (h1.trans z)
   have b:atKey (q::qs) k=atKey qs k:=by simp [atKey,yCT,J]
   rw [ZA9 e,b];exact ih
theorem KT.repl {H:Hp} {kvs:List (List Key×V)} {xs:List (List Key×Addr×Value)} (r:KT H kvs xs) (k:List Key) {y:V} {u:Value} (L:RelV y u) :
  KT H (kvs.map fun J=>if J.1=k then (J.1,y) else J) (xs.map (putAt k u)):=by
 induction r with
 | nil=>exact .nil
 | @cons p q ps qs h t ih=>
  rw [yAV,yAV]
  refine .cons ?_ ih
  obtain ⟨h1,h2,h3⟩:=h
  unfold putAt
  by_cases e:p.1=k
  .rw [if_pos e,if_pos (h1.symm.trans e)];exact ⟨h1,h2,L⟩
  .rw [if_neg e,if_neg (fun z=>e (h1.trans z))];exact ⟨h1,h2,h3⟩
theorem KT.put {H:Hp} {kvs:List (List Key×V)} {xs:List (List Key×Addr×Value)} (r:KT H kvs xs) (k:List Key) {b:Addr} {y:V} {u:Value} (J:H b=some (.tup (k.map kV))) (z:RelV y u) :
  KT H (putK kvs k y) (storedH xs k b u):=by
 have e:(kvs.any fun L=>decide (L.1=k))=(atKey xs k).isSome:=by
  rw [ZCk,(r.val k).isSome_eq,Option.isSome_map]
 unfold putK storedH
 rw [e]
 by_cases q:(atKey xs k).isSome=true
 .rw [if_pos q,if_pos q];exact r.repl k z
 .rw [if_neg q,if_neg q];exact Paired.snoc r ⟨rfl,J,z⟩
theorem KT.keeps {H H':Hp} {kvs:List (List Key×V)} {xs:List (List Key×Addr×Value)} (r:KT H kvs xs) (J:∀ b ys,H b=some (.tup ys)->H' b=some (.tup ys)):KT H' kvs xs :=
 Paired.mapP r fun _ _ z=>⟨z.1,J _ _ z.2.1,z.2.2⟩
section
variable {P:Program} {w:World} {H:Hp} {h:Heap} {a:Addr}
theorem rd_of {u:HO} (ok:HOk P w H h) (e:Rd H a u):ObjOk P w H h a u:=e.ok ok
theorem ZFV {kvs:List (Key×V)} (ok:HOk P w H h) (e:Rd H a (.dK kvs)):kvs.length <= sizeLine /\ (a == sysModules)=false /\ ∃ vs,KV kvs vs /\ h.DictOf (ZAU P w) a vs :=
 show ObjOk P w H h a (.dK kvs) from rd_of ok e
theorem dk_of {kvs:List (Key×V)} (ok:HOk P w H h) (e:H a=some (.dK kvs)):kvs.length <= sizeLine /\ (a == sysModules)=false /\ ∃ vs,KV kvs vs /\ h.DictOf (ZAU P w) a vs:=ZFV ok (.inl e)
theorem ZEg {ks:List Key} (ok:HOk P w H h) (e:H a=some (.tup (ks.map kV))):(tupleKind (ZAU P w)).is h ks a:=by
 obtain ⟨_,its,r,o,h1,h2,n,h3⟩:=(show ObjOk P w H h a (.tup (ks.map kV)) from ok a _ e)
 exact ⟨o,its.toArray,n,h1,h2,h3,by simpa using items_are r⟩
theorem ZFU {kvs:List (List Key×V)} (ok:HOk P w H h) (e:Rd H a (.dT kvs)):kvs.length <= sizeLine /\ (a == sysModules)=false /\
  ∃ xs,KT H kvs xs /\ h.DictOfH (tupleKind (ZAU P w)) a xs:=by
 obtain ⟨z,y,xs,r,o,es,L,h1,h2,h3,O,J⟩:=(show ObjOk P w H h a (.dT kvs) from rd_of ok e)
 refine ⟨z,y,xs,r,o,es,L,h1,h2,h3,O,fun x hx=>?_,J⟩
 have all:∀ {l:List (List Key×V)} {m:List (List Key×Addr×Value)},KT H l m->∀ x∈m,(tupleKind (ZAU P w)).is h x.1 x.2.1:=by
  intro l m q
  induction q with
  | nil=>intro x hx;exact nomatch hx
  | @cons p q ps qs hq t ih=>
   intro x hx
   rcases yAE.mp hx with e | hx
   .subst e
    exact ZEg ok (by rw [<- hq.1];exact hq.2.1)
   .exact ih x hx
 exact all r x hx
theorem dt_of {kvs:List (List Key×V)} (ok:HOk P w H h) (e:H a=some (.dT kvs)):kvs.length <= sizeLine /\ (a == sysModules)=false /\
  ∃ xs,KT H kvs xs /\ h.DictOfH (tupleKind (ZAU P w)) a xs:=ZFU ok (.inl e)
end
noncomputable def DGet (H:Hp) (a:Addr) (y:V) (r:Option V):Prop :=
 (∃ kvs k,Rd H a (.dK kvs) /\ y=kV k /\ r=valV kvs k)∨∃ kvs k b,Rd H a (.dT kvs) /\ y=.ref b /\ H b=some (.tup (k.map kV)) /\ r=valV kvs k
noncomputable def DPut (H:Hp) (a:Addr) (y v:V) (H':Hp):Prop :=
 (∃ kvs k,H a=some (.dK kvs) /\ y=kV k /\ kvs.length < sizeLine /\ H'=upd H a (.dK (putK kvs k v))) ∨
 ∃ kvs k b,H a=some (.dT kvs) /\ y=.ref b /\ H b=some (.tup (k.map kV)) /\ kvs.length < sizeLine /\ H'=upd H a (.dT (putK kvs k v))
theorem DGet.t {H:Hp} {a b:Addr} {kvs:List (List Key×V)} {k:List Key} (e:H a=some (.dT kvs)) (z:H b=some (.tup (k.map kV))):DGet H a (.ref b) (valV kvs k):=.inr ⟨kvs,k,b,.inl e,rfl,z,rfl⟩
theorem DPut.t {H:Hp} {a b:Addr} {kvs:List (List Key×V)} {k:List Key} {v:V} (e:H a=some (.dT kvs)) (z:H b=some (.tup (k.map kV))) (hl:kvs.length < sizeLine) :
  DPut H a (.ref b) v (upd H a (.dT (putK kvs k v))):=.inr ⟨kvs,k,b,e,rfl,z,hl,rfl⟩
section
variable {X:Cx} {pins:List (Addr×Obj)} {σ:St} {H:Hp} {s:Shared} {a:Addr} {y v:V} {u r:Value} {o:Option V} {A:Around} {E:Value->Shared->Prop}
theorem Inv.big (I:Inv X pins σ H s):sysModules < s.heap.objs.size:=by
 have h:mainGlobals < s.heap.objs.size:=(I.mod.glob.keeps I.bk).lt
 exact Nat.lt_trans (by decide) h
theorem d_getItem {Q:Value->Shared->Prop} (hu:A.units+1 < cLine) (I:Inv X pins σ H s) (g:DGet H a y (some v)) (Y:RelV y u) (h:∀ w' s',Inv X pins σ H s'->RelV v w'->Q w' s') :
  wpAny (model X.prog X.w) A (getItem (.ref a) u) Q E s:=by
 rcases g with ⟨kvs,k,e,O,l⟩ | ⟨kvs,k,b,e,O,Z,l⟩
 .subst O
  obtain ⟨z,hd,vs,L,dd⟩:=ZFV I.hok e
  obtain ⟨w',hw,J⟩:=RelO.some_of (v:=v) (o:=valueAt vs k) (by rw [l];exact L.val k)
  exact wpAny_getItem_of (ZFS Y) dd.mapOf hw (h w' _ (I.tok _) J)
 .subst O
  cases (show u=Value.ref b from Y)
  obtain ⟨z,hd,xs,L,dd⟩:=ZFU I.hok e
  obtain ⟨w',hw,J⟩:=RelO.some_of (v:=v) (o:=(atKey xs k).map (·.2)) (by rw [l];exact L.val k)
  obtain ⟨p,hp,U⟩:=yBM.mp hw
  refine wpAny_getItem_heap (tupleKind_room_in1 hu) (ZEg I.hok Z) dd hp ?_
  rw [U]
  exact h w' _ (I.tok _) J
theorem d_write {h':Heap} {t':Nat} {ob:HO} (I:Inv X pins σ H s) (L:Mut (H a)) (O:Heap.SameBut a s.heap h') (J:∃ q,h'.get? a=some q) (new:ObjOk X.prog X.w (upd H a ob) h' a ob) :
  Inv X pins σ (upd H a ob) { s with heap:=h',toks:=t' } :=
 I.write (x:=a) (e:=a) L (.inl rfl) (fun b q U z=>(O.2 b U).trans z) J new
theorem dk_new {P:Program} {w:World} {H':Hp} {h':Heap} {kvs:List (Key×V)} {vs:List (Key×Value)} (z:kvs.length <= sizeLine) (L:(a == sysModules)=false) (J:KV kvs vs) (dd:h'.DictOf (ZAU P w) a vs) :
  ObjOk P w H' h' a (.dK kvs):=⟨z,L,vs,J,dd⟩
theorem d_setItem {H':Hp} {Q:Unit->Shared->Prop} (hu:A.units+1 < cLine) (I:Inv X pins σ H s) (g:DPut H a y v H') (ry:RelV y u) (rv:RelV v r) (h:∀ s',Inv X pins σ H' s'->Q () s') :
  wpAny (model X.prog X.w) A (setItem (.ref a) u r) Q E s:=by
 rcases g with ⟨kvs,k,e,U,l,eH⟩ | ⟨kvs,k,b,e,U,eb,l,eH⟩
 .subst U eH
  obtain ⟨z,Z,vs,J,dd⟩:=dk_of I.hok e
  have hz:vs.length <= sizeLine:=by rw [<- J.length];exact z
  have hl:(putK kvs k v).length <= sizeLine:=by have:=ZCe kvs k v;omega
  refine wpAny_setItem_pairs (hsz:=hz) (ZFS ry) dd fun h' L Y=>h _ ?_
  have he:∃ q,h'.get? a=some q:=let ⟨q,_,_,O,_⟩:=L;⟨q,O⟩
  exact d_write I (by rw [e];exact True.intro) Y he (dk_new hl Z (J.put k rv) L)
 .subst U eH
  cases (show u=Value.ref b from ry)
  obtain ⟨z,Z,xs,J,dd⟩:=dt_of I.hok e
  have hz:xs.length <= sizeLine:=by rw [<- Paired.length J];exact z
  have hl:(putK kvs k v).length <= sizeLine:=by have:=ZCe kvs k v;omega
  refine wpAny_setItem_heap (hsz:=hz) (tupleKind_room_in1 hu) (ZEg I.hok eb) dd fun h' L Y=>h _ ?_
  obtain ⟨q,es,ep,O,h2,h3,h4,_,h5⟩:=L
  refine d_write I (by rw [e];exact True.intro) Y ⟨q,O⟩ ⟨hl,Z,_,(J.put k eb rv).keeps fun c ys ec=>?_,q,es,ep,O,h2,h3,h4,h5⟩
  rw [ZAG (ne_of ec e (fun z=>nomatch z))]
  exact ec
end
section
variable {X:Cx} {pins:List (Addr×Obj)} {σ:St} {H:Hp} {s:Shared} {a:Addr} {kvs:List (Key×V)} {k:Key} {u:Value} {A:Around} {E:Value->Shared->Prop}
end
noncomputable def NoSl (i:Expr):Prop:=∀ ov iv,subscripted i false ov iv=operate [ov,iv] (getItem ov iv)
theorem subD_of {prog:Program} {w:World} {A:Around} {E:Value->Shared->Prop} {s:Shared} {env:Env} {value z:Expr} {pos:Pos} {T id:String} {Q:Value->Shared->Prop}
  (hl:typeLookup (.type T) "__getitem__"=pure (some (.builtin id))) (Y:NoSl z)
  (h:wpAny (model prog w) A (eval value env) (fun o s₁=>wpAny (model prog w) A (eval z env) (fun i s₂=>s₂.TypeIs o T /\ wpAny (model prog w) A (getItem o i) Q E s₂) E s₁) E s) :
  wpAny (model prog w) A (eval (.Subscript value z pos) env) Q E s:=by
 refine Subscript_ (wpAny_mono h (fun o s₁ h₁=>wpAny_mono h₁ (fun i s₂ J=>?_) fun _ _ x=>x) fun _ _ x=>x)
 obtain ⟨U,J⟩:=J
 unfold subscriptTail
 refine wpAny_bind ?_
 rw [getitemInPython_of_ne U.not_modules]
 refine wpAny_bind (wpAny_specialOf U hl ?_)
 have fin:wpAny (model prog w) A (subscripted z false o i) (fun r L=>wpAny (model prog w) A (letTemporaryGo value o r >>= fun _=>pure r) Q E L) E s₂:=by
  rw [Y o i]
  exact wpAny_operating (wpAny_mono J (fun r L O=>wpAny_bind (wpAny_letTemporaryGo (wpAny_pure O))) fun _ _ x=>x)
 first
  | exact wpAny_pure (wpAny_bind fin)
  | exact wpAny_bind (wpAny_pure (wpAny_bind fin))
  | exact wpAny_bind fin
theorem dict_typeIs {X:Cx} {pins:List (Addr×Obj)} {σ:St} {H:Hp} {s:Shared} {a:Addr} {y:V} {o:Option V} (I:Inv X pins σ H s) (g:DGet H a y o):s.TypeIs (.ref a) "dict":=by
 rcases g with ⟨kvs,k,e,_,_⟩ | ⟨kvs,k,b,e,_,_,_⟩
 .obtain ⟨_,_,vs,_,dd⟩:=ZFV I.hok e
  exact dd.typeIs
 .obtain ⟨_,_,xs,_,dd⟩:=ZFU I.hok e
  exact dd.typeIs
noncomputable def ZFd (td ty:TE):TE:=fun σ H Q=>td σ H fun x H1=>ty σ H1 fun y H2=>∃ a v,x=.ref a /\ DGet H2 a y (some v) /\ Q v H2
noncomputable def tDIn (ty td:TE):TE:=fun σ H Q=>ty σ H fun y H1=>td σ H1 fun x H2=>∃ a o,x=.ref a /\ DGet H2 a y o /\ Q (.bl o.isSome) H2
noncomputable def tDNotIn (ty td:TE):TE:=fun σ H Q=>ty σ H fun y H1=>td σ H1 fun x H2=>∃ a o,x=.ref a /\ DGet H2 a y o /\ Q (.bl (!o.isSome)) H2
noncomputable def ZFg (td ty tv:TE):TS:=fun D σ H=>tv σ H fun v H1=>td σ H1 fun x H2=>ty σ H2 fun y H3=>∃ a H4,x=.ref a /\ DPut H3 a y v H4 /\ D.nx σ H4
section
variable {X:Cx} {o i e value:Expr} {pos pos' tpos:Pos} {td ty tv:TE}
theorem pe_dget (O:X.A.units+1 < cLine) (ho:PE X o td) (hi:PE X i ty) (hs:NoSl i):PE X (.Subscript o i pos) (ZFd td ty):=by
 intro pins s σ H Q I h
 refine subD_of PySem.F.slot_dict_getitem.lookup hs (thn (ho pins s σ H _ I h) fun u s1 ⟨x,H1,L,Z,U⟩=>thn (hi pins s1 σ H1 _ L U) fun iv s2 ⟨y,H2,J,ry,a,v,ex,g,Y⟩=>?_)
 subst ex
 obtain rfl:u=Value.ref a:=Z
 exact ⟨dict_typeIs J g,d_getItem O J g ry fun w' s3 I3 z=>⟨v,H2,I3,z,Y⟩⟩
theorem ZEK (L:X.A.units+1 < cLine) (ho:PE X o td) (hi:PE X i ty) (hv:PE X value tv) (Z:swapsWith value (some (.Subscript o i pos')) pos.line X.env=pure false) :
  PS X (.Assign [.Subscript o i pos'] value pos) (ZFg td ty tv):=by
 intro pins s σ H D I h
 refine wpAny_Assign_Subscript (thn (hv pins s σ H _ I h) fun r s1 ⟨v,H1,z,rv,O⟩=>thn (ho pins s1 σ H1 _ z O) fun u s2 ⟨x,H2,I2,Y,U⟩=>thn (hi pins s2 σ H2 _ I2 U) fun iv s3 ⟨y,H3,I3,ry,a,H4,ex,g,J⟩=>?_) Z
 subst ex
 obtain rfl:u=Value.ref a:=Y
 exact d_setItem L I3 g ry rv fun s4 I4=>⟨σ,H4,I4,J⟩
end
theorem dt_empty {P:Program} {w:World} {H:Hp} (h:Heap) (z:sysModules < h.objs.size):ObjOk P w H (h.push { cls:=.type "dict",data:=.dict #[] }) h.objs.size (.dT []) :=
 ⟨yAH _,beq_eq_false_iff_ne.mpr (Ne.symm (yAI z)),[],.nil,_,#[],0,Heap.get?_push_size _ rfl,⟨rfl,rfl,rfl⟩,rfl,rfl,List.nodup_nil⟩
noncomputable def tDNewK:TE:=fun _ H Q=>∀ p,H p=none->Q (.ref p) (upd H p (.dK []))
noncomputable def ZEw:TE:=fun _ H Q=>∀ p,H p=none->Q (.ref p) (upd H p (.dT []))
section
variable {X:Cx} {pos:Pos}
theorem pe_dnewT:PE X (.Dict [] [] pos) ZEw:=fun pins s σ H Q I h=>
 wpAny_Dict_empty ⟨.ref s.heap.objs.size,_,I.laid (a:=s.heap.objs.size) (o:=.dT []) (t':=s.toks) (fun _ _ q=>Heap.get?_push_of_some _ q) (yAB _) (dt_empty s.heap I.big),rfl,h _ (I.hok.fresh (yAB _))⟩
end
noncomputable def rDGet:V->List V->Hp->VK->Prop:=fun x vs H Q=>∃ a y o,x=.ref a /\ vs=[y] /\ DGet H a y o /\ Q (o.getD .non) H
theorem mt_dget {X:Cx} (Z:X.A.units+1 < cLine):MtR X "dict.get" rDGet:=by
 intro pins s σ H x vs v us Q I rx rv h
 obtain ⟨a,y,o,rfl,rfl,g,q⟩:=h
 cases rx
 obtain ⟨u,rfl,U⟩:=rv.one
 rcases g with ⟨kvs,k,e,L,l⟩ | ⟨kvs,k,b,e,L,Y,l⟩
 .subst L
  obtain ⟨z,O,vs,J,dd⟩:=ZFV I.hok e
  refine call_meetsIn PySem.F.slot_dict_get dd.typeIs PySem.F.entry_dict_get (PySem.F.args_dict_get_2 _ _) (meets_dict_get (ZAU X.prog X.w) a (ZFS U) O) ⟨_,dd.mapOf,?_⟩
  subst l
  exact ⟨_,H,I.tok _,(J.val k).getD (d:=.non) (d':=.none) rfl,q⟩
 .subst L
  cases (show u=Value.ref b from U)
  obtain ⟨z,O,xs,J,dd⟩:=ZFU I.hok e
  refine call_meetsIn PySem.F.slot_dict_get dd.typeIs PySem.F.entry_dict_get (PySem.F.args_dict_get_2 _ _) (meetsH_dict_get (tupleKind (ZAU X.prog X.w)) a b O) ⟨tupleKind_room_in1 Z,k,xs,ZEg I.hok Y,dd,?_⟩
  subst l
  exact ⟨_,H,I.tok _,(J.val k).getD (d:=.non) (d':=.none) rfl,q⟩
end L2
namespace PySem
open Sem (wp)
namespace F
end F
section
variable {α:Type} {prog:Program} {w:World} {A:Around} {E:Value->Shared->Prop} {s:Shared}
end
section
variable {prog:Program} {w:World} {A:Around} {E:Value->Shared->Prop} {h:Heap} {g:Array GenState} {d:Drawn} {t:Nat} {os:OsState} {a:Addr} {its:Array Value} {n:Nat}
end
end PySem
namespace PySem
namespace F
end F
end PySem
namespace L2
open PySem PySem.Spec PyProof.Rows
theorem key_mono {P:Program} {w:World} {h h':Heap} {ks:List Key} {a:Addr} (m:∀ b o,h.get? b=some o->h'.get? b=some o) (k:(tupleKind (ZAU P w)).is h ks a):(tupleKind (ZAU P w)).is h' ks a:=by
 obtain ⟨o,its,n,h1,r⟩:=k
 exact ⟨o,its,n,m _ _ h1,r⟩
section
variable {X:Cx} {pins:List (Addr×Obj)} {σ:St} {H:Hp} {s1:Shared} {A:Around}
end
end L2
namespace PySem
section
variable {prog:Program} {w:World} {A:Around} {E:Value->Shared->Prop} {s:Shared} {zo ti to:Addr} {f0 f1:Value}
end
end PySem
namespace L2
open PySem PySem.Spec PyProof.Rows
section
variable {X:Cx}
end
section
variable {K:W.Frag} {a b:Addr} {xs ys:List V} {g:TG} {σ:St} {H:Hp} {tt:TT} {te:TE} {Q:VK} {σ0:St}
end
section
variable {X:Cx}
end
section
variable {X:Cx}
end
section
variable {X:Cx}
end
open PySem PySem.Spec PySem.W PySem.Calls PyProof.Rows Builtin.Getset_descriptor Builtin.ObjectAttr
structure XKl (P:Program) (w:World) (K:W.Frag) (mg:Str->Option Value) (base:Heap) (CX:CXT) (x:Str) (C:Addr) (k:Nat) (ps:List Str) (sp:Sp):Prop where
 mgC:mg x=some (.ref C)
 ex:∃ f fd,FnOk P w K mg base CX k f fd ps sp /\ Binds K fd ps [] /\ XMk K C f
structure XBase (K:W.Frag) (C:Addr):Prop where
 gs:specialIn K (.ref C) "__getattribute__"=some (some (.builtin "type.__getattribute__"))
 rd:readsIn K C (.type "type")=true
 fc:findCls K (.ref C) (.type "type") "__init__"=some (.val (.builtin "ValueError.__init__"))
section
variable {X:Cx} {CX:CXT} {k:Nat} {ps:List Str} {sp:Sp} {E:XK} {x m:Str} {C:Addr} {p np pos apos:Pos} {e o:Expr} {es:List Expr} {ta:TE} {t:TA}
theorem call_verrK:ZCA X (.builtin "ValueError.__init__") (fun xs H Q=>∃ e C dd v,xs=[.ref e,v] /\ H e=some (excM e (.ref C) dd) /\ (∃ fI,ZC3 X.K C fI bmV "ValueError.__new__"=true) /\ Q .non H):=by
 intro pins s σ H xs us Q I r h
 obtain ⟨e,C,dd,v,h1,h2,⟨fI,h3⟩,q⟩:=h
 exact call_verr fI pins s σ H xs us Q I r ⟨e,C,dd,v,h1,h2,h3,q⟩
theorem pe_clsV {pl:Sem Bool} (B:XBase X.K C) (hm:X.mg x=some (.ref C)) (L:Gl X x) (ha:PA X (e::es) t) (z:(x == ("__debug__":Str))=false:=by decide)
  (O:starEach (e::es) X.env=(false,eval e X.env)::starEach es X.env:=by rfl) (J:(backTo pos (starEach es X.env)).any (·.1)=false:=by rfl)
  (U:eval (.Call (.Attribute (.Name x np) "__init__" apos) (e::es) [] pos) X.env=(do
   let ov <- eval (.Name x np) X.env
   standAt apos.atName
   let (f,first) <- holding [ov] (getMethod ov "__init__" pl)
   callWith pos f first (backTo pos (starEach (e::es) X.env)) (backToKw pos (keywordEach [] X.env))):=by rfl) :
  PE X (.Call (.Attribute (.Name x np) "__init__" apos) (e::es) [] pos) (tCB (fun xs H Q=>∃ e C dd v,xs=[.ref e,v] /\ H e=some (excM e (.ref C) dd) /\ (∃ fI,ZC3 X.K C fI bmV "ValueError.__new__"=true) /\ Q .non H) t) :=
 pe_clsB (pl:=pl) call_verrK L hm B.gs B.rd B.fc (by decide +kernel) ha z O J U
end
section
variable {P:Program} {w:World} {K:W.Frag} {mg:Str->Option Value} {base:Heap} {N:List Str} {qual:Str} {scope:Scope} {f:Addr} {cd:Value} {A:Around} {outer:List Env} {s:Shared} {H:Hp} {E:XK}
variable {CX:CXT} {k:Nat} {C:Addr} {ps:List Str} {sp:Sp} {x:Str} {np cpos pos:Pos} {e:Expr} {es:List Expr} {t:TA}
theorem ps_raiseK (F:XKl P w K mg base CX x C k ps sp) (L:Room (k+1) (cxOf (CXE P w) P w K mg base N qual scope f cd A outer s H E).A) (O:Gl (cxOf (CXE P w) P w K mg base N qual scope f cd A outer s H E) x) (hx:ZBF CX (cxOf (CXE P w) P w K mg base N qual scope f cd A outer s H E) E0)
  (ha:PA (cxOf (CXE P w) P w K mg base N qual scope f cd A outer s H E) (e::es) t) (z:(x == ("__debug__":Str))=false:=by decide) (U:starEach (e::es) (cxOf (CXE P w) P w K mg base N qual scope f cd A outer s H E).env=(false,eval e (cxOf (CXE P w) P w K mg base N qual scope f cd A outer s H E).env)::starEach es (cxOf (CXE P w) P w K mg base N qual scope f cd A outer s H E).env:=by rfl) (J:(backTo cpos (starEach es (cxOf (CXE P w) P w K mg base N qual scope f cd A outer s H E).env)).any (·.1)=false:=by rfl) :
  PS (cxOf (CXE P w) P w K mg base N qual scope f cd A outer s H E) (.Raise (some (.Call (.Name x np) (e::es) [] cpos)) none pos) (ZDj E C sp t):=by
 obtain ⟨fI,fd,h1,h2,h3⟩:=F.ex
 exact ps_raiseX h3 h1 L O F.mgC h2 hx ha z U J
end
noncomputable def ZEu (C:Addr) (m:Str) (sp:Sp) (E:St->XK) (ta:TE) (t:TA):TE:=fun σ H Q=>ta σ H fun x H1=>∃ a dx fs,x=.ref a /\ H1 a=some (.ins C dx fs) /\ fs.lookup m=none /\ t σ H1 fun vs H2=>sp (x::vs) H2 Q (E σ)
section
variable {X:Cx} {CX:CXT} {k:Nat} {ps:List Str} {sp:Sp} {E:St->XK} {x m:Str} {C:Addr} {p pos apos:Pos} {e o:Expr} {es:List Expr} {ta:TE} {t:TA}
end
section
variable {P:Program} {w:World} {K:W.Frag} {mg:Str->Option Value} {base:Heap} {N ps:List Str} {qual:Str} {scope:Scope} {f:Addr} {cd:Value} {A:Around} {outer:List Env} {s s1:Shared} {H:Hp} {E:XK} {us:List Value} {vs:List V}
end
section
variable {X:Cx} {k:Nat} {ps:List Str} {sp:Sp} {x:Str} {p pos:Pos} {e:Expr} {es:List Expr} {t:TA}
end
noncomputable def ZEV (K:W.Frag) (ta:TE) (f:Str):TE:=fun σ H Q=>ta σ H fun x H1=>∃ a C d fs v,x=.ref a /\ (H1 a=some (excO a (.ref C) (some d))∨H1 a=some (excM a (.ref C) (some d))) /\ H1 d=some (xdM d fs) /\ ExcC K C /\ PySem.W.hasDictIn K C=true /\ W.findIn K (.ref C) f=some none /\ fs.lookup f=some v /\ Q v H1
theorem pe_xfldM {X:Cx} {e:Expr} {f:Str} {pos:Pos} {ta:TE} (he:PE X e ta) (hb:attributeBase e f X.env (eval e X.env)=eval e X.env):PE X (.Attribute e f pos) (ZEV X.K ta f):=by
 intro pins s σ H Q I h
 refine attr_of hb (thn (he pins s σ H _ I h) fun u s1 zz=>?_)
 obtain ⟨x,H1,L,rx,a,C,d,fs,v,ex,ea,ed,F,hd,hn,l,q⟩:=zz
 subst ex
 obtain rfl:u=Value.ref a:=rx
 obtain ⟨o,z,Y,U,vs,O⟩:∃ o,s1.heap.get? a=some o /\ o.cls=.ref C /\ o.dict=some d /\ ∃ vs,o.data=.fields vs:=by
  rcases ea with ea | ea
  .obtain ⟨⟨o,z,Y,U,vs,O⟩,_,_⟩:=(show ObjOk X.prog X.w H1 s1.heap a (excO a (.ref C) (some d)) from L.hok a _ ea)
   exact ⟨o,z,Y,U,vs,O⟩
  .obtain ⟨o,vs,a0,z,Y,U,O,_⟩:=ZCt L.hok ea
   exact ⟨o,z,Y,U,vs,O⟩
 obtain ⟨⟨mA,Z,r⟩,_,_⟩:=(show ObjOk X.prog X.w H1 s1.heap d (xdM d fs) from L.hok d _ ed)
 obtain ⟨od,a1,hl⟩:=ZDJ Z
 obtain ⟨u',hu,ru⟩:=RelO.some_of (v:=v) (o:=mA f) (by rw [<- l];exact r f)
 have J:PySem.W.InstAt s1.heap a o C (some od):=⟨z,Y,by unfold notCls;rw [O],by rw [U];exact a1⟩
 obtain ⟨hh,g,dd,t,os⟩:=s1
 exact exc_value L.kIn F J (PySem.W.findObj_own hd hn rfl (by rw [hl,hu])) (handed_of ru) ⟨v,H1,L.tok _,ru,q⟩
theorem pe_xfldMK {X:Cx} {e:Expr} {f:Str} {pos:Pos} {ta:TE} (K:W.Frag) (z:PE X e ta) (J:attributeBase e f X.env (eval e X.env)=eval e X.env) (h:X.K=K:=by rfl):PE X (.Attribute e f pos) (ZEV K ta f):=h ▸ pe_xfldM z J
end L2
namespace PySem
section
variable {M:Model} {A:Around} {E:Value->Shared->Prop} {s:Shared}
end
end PySem
namespace L2
open PySem PySem.Spec PySem.W PySem.Calls PyProof.Rows
theorem ObjOk.ex {P:Program} {w:World} {H:Hp} {h:Heap} {a:Addr} {o:HO} (x:ObjOk P w H h a o):∃ ob,h.get? a=some ob:=by
 cases o with
 | lst xs=>obtain ⟨_,_,_,_,e⟩:=x;exact ⟨_,e⟩
 | tup xs=>obtain ⟨_,_,_,ob,e,_⟩:=x;exact ⟨_,e⟩
 | dK kvs=>obtain ⟨_,_,_,_,ob,es,z,e,_⟩:=x;exact ⟨_,e⟩
 | dT kvs=>obtain ⟨_,_,_,_,ob,es,z,e,_⟩:=x;exact ⟨_,e⟩
 | set S n=>obtain ⟨ob,es,z,t,e,_⟩:=x;exact ⟨_,e⟩
 | ins C dx fs=>obtain ⟨_,_,_,e,_⟩:=x;exact ⟨_,e⟩
 | own y=>obtain ⟨_,e⟩:=x;exact ⟨_,e⟩
 | xd fs=>obtain ⟨_,⟨_,_,_,e,_⟩,_⟩:=x;exact ⟨_,e⟩
 | rng lo hi=>obtain ⟨_,_,_,e⟩:=x;exact ⟨_,e⟩
 | frz ob u=>obtain ⟨e,_⟩:=x;exact ⟨_,e⟩
 | tbl ps=>exact ⟨_,(show h.get? a=some _ from x)⟩
 | met f y=>exact ⟨_,(show h.get? a=some _ from x)⟩
 | ext φ=>obtain ⟨_,⟨_,e⟩,_⟩:=x;exact ⟨_,e⟩
noncomputable def XF (X:Cx) (E:XK):Value->Shared->Prop:=fun e s'=>∃ (pins:List (Addr×Obj)) (σ:St) (H1:Hp) (s1:Shared) (ea:Addr) (cls:Value) (dd:Option Addr) (H':Hp) (B:Heap) (a0:Value) (fl:Value),
 e=.ref ea /\ Inv X pins σ H1 s1 /\ s'.os=s1.os /\ AllBare s'.gens /\ Un (frs X.stack) [] H1 H' s1.heap s'.heap /\ HOk X.prog X.w H' s'.heap /\ H' ea=none /\ s1.heap.get? ea=none /\
 (fl=.none∨fl=rawInt X.env.locals) /\ B.StaysIn s'.heap /\ B.get? ea=none /\ s'.heap.FunFrames B X.stack /\ s'.heap.TracedAtD B ea cls (a0,dd) fl /\
 (∀ b o,s'.heap.get? b=some o->b∉frs X.stack->(H' b≠none∨∃ o0,s1.heap.get? b=some o0)->B.get? b=some o) /\ E cls dd H'
section
variable {X:Cx} {E:XK}
theorem passL {P:Program} {w:World} (h1:X.prog=P:=by rfl) (h2:X.w=w:=by rfl):ZBF (CXE P w) (X.wish (XF X E)) E:=by
 subst h1 h2
 intro pins σ H s e s' I hc
 obtain ⟨ea,cls,dd,H',rfl,os,L,un,O,⟨B,a0,⟨f1,f2,Z,U⟩,J,z,Y⟩,hE⟩:=hc
 exact ⟨pins,σ,H,s,ea,cls,dd,H',B,a0,.none,rfl,I.unwish,os,L,un,O,J,z,.inl rfl,f1,f2,Z,U,Y,hE⟩
theorem XF.next {pins:List (Addr×Obj)} {σ:St} {H1 H':Hp} {s1 s':Shared} {h2:Heap} {ea:Addr} {cls:Value} {dd:Option Addr} {B:Heap} {a0 fl:Value} (I:Inv X pins σ H1 s1) (os:s'.os=s1.os) (U:AllBare s'.gens) (un:Un (frs X.stack) [] H1 H' s1.heap s'.heap) (J:HOk X.prog X.w H' s'.heap) (O:H' ea=none) (L:s1.heap.get? ea=none)
  (ff:s'.heap.FunFrames B X.stack) (hB:∀ b o,s'.heap.get? b=some o->b∉frs X.stack->(H' b≠none∨∃ Z,s1.heap.get? b=some Z)->B.get? b=some o) (hE:E cls dd H') (a1:fl=.none∨fl=rawInt X.env.locals)
  (up:s'.heap.UpToSlots h2) (k1:B.StaysIn h2) (k2:B.get? ea=none) (k3:h2.FunFrames B X.stack) (k4:h2.TracedAtD B ea cls (a0,dd) fl):XF X E (.ref ea) { s' with heap:=h2 }:=by
 refine ⟨pins,σ,H1,s1,ea,cls,dd,H',B,a0,fl,rfl,I,os,U,un.fly hB k1 up ff,J.fly hB k1 (I.stkFree2 un),O,L,a1,k1,k2,k3,k4,fun b o ho nb Y=>?_,hE⟩
 have:∃ o1,s'.heap.get? b=some o1:=by
  rcases Y with y | ⟨Z,y⟩
  .obtain ⟨u,hu⟩:=Option.ne_none_iff_exists'.mp y
   exact (J b u hu).ex
  .exact un.there b Z y (fun z=>nomatch z)
 obtain ⟨o1,h1⟩:=this
 have h3:=hB b o1 h1 nb Y
 have h4:=k1 b o1 h3
 rw [ho] at h4
 cases h4
 exact h3
theorem passO (z:X.stack=X.env::X.outer /\ X.env.frame=some X.env.locals):PassesOwn (model X.prog X.w) X.A X.env (XF X E):=by
 intro e s' hx
 obtain ⟨pins,σ,H1,s1,ea,cls,dd,H',B,a0,fl,rfl,I,os,O,un,Y,L,J,a1,f1,f2,f3,f4,hB,hE⟩:=hx
 have af:X.A.frames=some (X.env::X.outer):=by rw [<- z.1];exact I.ok.frames
 have back:∀ h2,s'.heap.UpToSlots h2->B.StaysIn h2->h2.FunFrames B X.stack->h2.TracedAtD B ea cls (a0,dd) (rawInt X.env.locals)->cameBackBy (model X.prog X.w) X.A X.env (XF X E) (.ref ea) { s' with heap:=h2 }:=fun h2 up k1 k3 U=>by
  obtain ⟨⟨oe,vs,T,oT,ts,he,a2,hd,h1,a3,a5,hT,a4,h3⟩,_⟩:=id U
  show wpAny _ _ (do
   if (<- field (.ref ea) 1) == .none then unsupported "frame.own-activation:exception-without-traceback"
   setFlight (.ref ea) X.env.frame) _ _ _
  refine wpAny_bind (wpAny_field he hd h1 ?_)
  rw [if_neg (show ¬ ((Value.ref T == Value.none)=true) from by simp),z.2]
  refine wpAny_setFlight_someD k1 k3 U fun hh m1 m2 m3 m4=>?_
  have Z:s'.heap.UpToSlots hh:=up.trans fun b o hb hn=>⟨o.slots,m4 b o hb hn⟩
  have:=XF.next (s':=s') (h2:=hh) I os O un Y L J f3 hB hE (.inr rfl) Z m1 f2 m2 m3
  exact this
 rcases a1 with rfl | rfl
 .have ff:Heap.FlyingD B (X.env::X.outer) ea cls (a0,dd) s'.heap:=⟨f1,f2,by rw [<- z.1];exact f3,f4⟩
  refine ZBY af z.2 ff fun h2 hH up=>?_
  obtain ⟨k1,_,k3,U⟩:=hH
  exact back h2 up k1 (by rw [z.1];exact k3) U
 .refine wpAny_noteFrame_againD z.2 f4 ?_
  exact back s'.heap (fun b o hb hn=>⟨o.slots,hb⟩) f1 f3 f4
end
section
variable {P:Program} {w:World} {K:W.Frag} {mg:Str->Option Value} {base:Heap} {N:List Str} {qual:Str} {scope:Scope} {f:Addr} {cd:Value} {A:Around} {outer:List Env} {s:Shared} {H:Hp} {E:XK}
theorem XF.xe {e:Value} {s':Shared} (hx:XF (cxOf (CXE P w) P w K mg base N qual scope f cd A outer s H E) E e s'):(cxOf (CXE P w) P w K mg base N qual scope f cd A outer s H E).xe e s':=by
 obtain ⟨pins,σ,H1,s1,ea,cls,dd,H',B,a0,fl,rfl,I,os,O,un,Y,J,z,U,f1,f2,Z,f4,hB,hE⟩:=hx
 rcases U with rfl | rfl
 .exact wpAny_leaves_onD (base:=B) I.ok.frames rfl ⟨f1,f2,Z,f4⟩ fun h' fl' up=>ZEk I un Y hB Z up fl' J z os O hE
 .show wpAny _ _ (leaving _ _) _ _ _
  unfold leaving
  refine wpAny_bind (wpAny_noteFrame_againD rfl f4 ?_)
  refine ZCE (L:=(cxOf (CXE P w) P w K mg base N qual scope f cd A outer s H E).env.locals) ⟨f1,f2,Z,f4⟩ fun h' U up=>?_
  obtain ⟨k1,k2,⟨_,_,k3⟩,k4⟩:=U
  exact ZEk I un Y hB Z up ⟨k1,k2,k3,k4⟩ J z os O hE
theorem PS.inX {st:Stmt} {t:TS} (h:PS ((cxOf (CXE P w) P w K mg base N qual scope f cd A outer s H E).wish (XF (cxOf (CXE P w) P w K mg base N qual scope f cd A outer s H E) E)) st t):PS (cxOf (CXE P w) P w K mg base N qual scope f cd A outer s H E) st t:=fun pins s1 σ H1 D I hw=>
 wpAny_mono (h pins s1 σ H1 D (I.wish _) hw) (fun _ _ q=>q.unwish) fun _ _ z=>z.xe
end
noncomputable def Ehit0 (K:W.Frag) (HC:Addr) (ts:TS) (D:Ends):St->XK:=fun σ cls dd H'=>exmOne K cls (.ref HC)=some true /\ ts D σ H'
noncomputable def ZFW (K:W.Frag) (HC:Addr) (tb:(St->XK)->TS) (ts:TS):TS:=fun D σ H=>tb (Ehit0 K HC ts D) D σ H
theorem ps_try0 {X:Cx} {body L:List Stmt} {O:Stmt} {x:Str} {HC:Addr} {np a6 pos:Pos} {tb:(St->XK)->TS} {ts:TS} (a1:X.stack=X.env::X.outer /\ X.env.frame=some X.env.locals) (hg:Gl X x) (hm:X.mg x=some (.ref HC))
  (hb:∀ (pn:List (Addr×Obj)) (xe:Value->Shared->Prop) (E:St->XK),ZDS (CXE X.prog X.w) (X.tries pn xe) E->PSs (X.tries pn xe) body (tb E)) (hs:∀ e,PSs (X.handles e) (O::L) ts) (a8:(x == ("__debug__":Str))=false:=by decide) :
  PS X (.Try body [.ExceptHandler (some (.Name x np)) none (O::L) a6] [] [] pos) (ZFW X.K HC tb ts):=by
 intro pins s σ H D I hw
 refine wpAny_Try_except ?_
 refine wpAny_mono (hb (X.pn++pins) _ (Ehit0 X.K HC ts D) ?_ [] s σ H D I.toTry hw) (fun f s1 q=>?_) fun e s1 q=>q
 .intro pins' a3 H1 s1 e s2 I1 hc
  obtain ⟨ea,cls,dd,H',rfl,os,a4,un,ad,⟨B,a0,fl,ai,ah,hB⟩,ag,hE⟩:=hc
  have J:Inv X pins a3 H1 s1:=I1.ofTry
  obtain ⟨e1,e2⟩:=a1
  have un:Un (frs X.stack) [] H1 H' s1.heap s2.heap:=un
  have fr:=J.stkFree2 un
  have af:X.A.frames=some (X.env::X.outer):=by rw [<- e1];exact J.ok.frames
  have fl:Heap.FlyingD B (X.env::X.outer) ea cls (a0,dd) s2.heap:=by rw [<- e1];exact fl
  have ff:s2.heap.FunFrames B X.stack:=by rw [e1];exact fl.2.2.1
  have nx:∀ h5,Heap.FlyingD B (X.env::X.outer) ea cls (a0,dd) h5->s2.heap.UpToSlots h5->Inv X pins a3 H' { s2 with heap:=h5 }:=fun h5 f5 u5=>J.call' os (un.fly hB f5.1 u5 ff) (ad.fly hB f5.1 fr) a4 fun b z=>nomatch z
  refine ZBY af e2 fl fun h3 a5 a2=>?_
  refine ZCE a5 fun h4 Z a7=>?_
  have I4:=nx h4 Z (a2.trans a7)
  obtain ⟨ob,ae,aa⟩:=Z.there
  refine wpAny_handleBy_cons (codeAny_handlers_test ?_) (by intro q;cases q)
  refine ZCI (X:=X.handles ea) (I4.toH ea) hg hm ?_ a8
  refine (exm_one I4.kIn (aa ▸ (Looks.ld ae).andThen .now) ag).here ?_
  refine codeAny_handlers_suite ?_
  refine PySem.LANDS2_ Z fun h6 a9 ac=>?_
  have I6:=(nx h6 a9 ((a2.trans a7).trans ac)).toH ea
  refine wpAny_mono (hs ea pins _ _ _ _ I6 hE) (fun f s8 q8=>?_) fun _ _ z=>z.elim
  cases f with
  | next=>obtain ⟨U,H'',Y,q⟩:=q8;exact ⟨_,_,Y.ofH J.ok,q⟩
  | brk=>obtain ⟨U,H'',Y,q⟩:=q8;exact ⟨_,_,Y.ofH J.ok,q⟩
  | cont=>obtain ⟨U,H'',Y,q⟩:=q8;exact ⟨_,_,Y.ofH J.ok,q⟩
  | ret u=>obtain ⟨v',U,H'',Y,r,q⟩:=q8;exact ⟨_,_,_,Y.ofH J.ok,r,q⟩
 .have q':SP X pins D f s1:=q.ofTry
  cases f with
  | next=>exact wpAny_execs_nil q'
  | brk=>exact q'
  | cont=>exact q'
  | ret u=>exact q'
section
variable {X:Cx} {CX:CXT} {k:Nat} {ps:List Str} {sp:Sp} {E:St->XK} {m:Str} {C:Addr} {pos apos:Pos} {o:Expr} {ta:TE}
theorem pe_mtS0 {pl:Sem Bool} (F:Mt X.prog X.w X.K X.mg X.base CX C m k ps sp) (L:Room k X.A) (hx:ZDS CX X E) (O:PE X o ta)
  (U:eval (.Call (.Attribute o m apos) [] [] pos) X.env=(do
   let ov <- eval o X.env
   standAt apos.atName
   let (f,first) <- holding [ov] (getMethod ov m pl)
   callWith pos f first (backTo pos (starEach [] X.env)) (backToKw pos (keywordEach [] X.env))):=by rfl) :
  PE X (.Call (.Attribute o m apos) [] [] pos) (ZEu C m sp E ta tNil):=by
 obtain ⟨f,fd,h1,h2,h3⟩:=F.ex
 intro pins s σ H Q I h
 refine PySem.W.methodCall_KW (pl:=pl) (thn (O pins s σ H _ I h) fun u s1 zz=>?_) U
 obtain ⟨x,H1,J,Y,a,dx,fs,ex,ea,l,q⟩:=zz
 subst ex
 obtain rfl:u=Value.ref a:=Y
 refine ZC1 J ea F.cl h3 l ?_
 have:=run_fnS (us:=[.ref a]) (vs:=[.ref a]) (dvs:=[]) (ds:=[]) h1 L h2 .nil (fun e s' z=>hx pins σ H1 s1 e s' J z) J (.cons rfl .nil) (by rw [yBA];exact q)
 exact PySem.W.callWith_K0 (first:=[.ref a]) J.kIn h3.kp this
end
open PySem PySem.Spec PyProof.Rows
noncomputable def ZEW (C:Addr) (sp:Sp) (dvs:List V) (ES:St->XK) (t:TA):TE:=fun σ H Q=>t σ H fun vs H1=>∀ x dx,H1 x=none->H1 dx=none->dx≠x ->
 sp (.ref x::(vs++dvs)) (upd (upd H1 dx (.own x)) x (.ins C dx [])) (fun v H2=>v=.non /\ Q (.ref x) H2) (ES σ)
section
variable {X:Cx} {CX:CXT} {k:Nat} {f C:Addr} {fd:FuncData} {ps:List Str} {sp:Sp} {dvs:List V} {ds:List Value} {E:XK} {ES:St->XK} {x m:Str} {p pos apos:Pos} {e o:Expr} {es:List Expr} {ta:TE} {t:TA}
theorem run_makeS {pins:List (Addr×Obj)} {σ:St} {H:Hp} {s:Shared} {Q:VK} {us:List Value} {vs:List V} (M:Mk X.K C f) (F:FnOk X.prog X.w X.K X.mg X.base CX k f fd ps sp) (U:Room (k+1) X.A) (Z:Binds X.K fd ps ds) (hd:Vals dvs ds)
  (hx:∀ (H1:Hp) (s1:Shared) (e:Value) (s':Shared),Inv X pins σ H1 s1->CX X.stack H1 s1 E e s'->X.xe e s') (I:Inv X pins σ H s) (r:Vals vs us)
  (h:∀ x dx,H x=none->H dx=none->dx≠x->sp (.ref x::(vs++dvs)) (upd (upd H dx (.own x)) x (.ins C dx [])) (fun v H2=>v=.non /\ Q (.ref x) H2) E) :
  wpAny (model X.prog X.w) X.A (call (.ref C) us) (EP X pins σ Q) X.xe s:=by
 have O:=h (s.heap.objs.size+1) s.heap.objs.size (I.hok.fresh (yBB _)) (I.hok.fresh (yAB _)) (yAI (yBW _))
 have J:=Inv.made (C:=C) I
 have L:Vals (V.ref (s.heap.objs.size+1)::(vs++dvs)) (Value.ref (s.heap.objs.size+1)::(us++ds)):=.cons rfl (r.append hd)
 have hl:(Value.ref (s.heap.objs.size+1)::us++ds).length=ps.length:=by
  have e:=L.length
  rw [F.len _ _ _ _ O] at e
  exact e.symm
 refine wpAny_call (make_map (f:=f) I.kIn M.makes M.init (beq_iff_eq.mp M.fn) (codeAny_mono (F.run _ X.stack _ _ ⟨Value.ref (s.heap.objs.size+1)::us,[]⟩ (Value.ref (s.heap.objs.size+1)::(us++ds)) _ _ E (U.make C us [])
  (J.env0.make C us []) (Z _ (Value.ref (s.heap.objs.size+1)::us) J.kIn hl) L O) fun r s' z=>?_))
 cases r with
 | error e=>exact hx _ _ e s' J z
 | ok fl=>
  cases fl with
  | ret u=>
   obtain ⟨v,H',I3,rv,ev,Y⟩:=J.after z
   subst ev
   exact ⟨rv,⟨V.ref (s.heap.objs.size+1),H',I3,rfl,Y⟩⟩
  | next=>exact False.elim z
  | brk=>exact False.elim z
  | cont=>exact False.elim z
theorem pe_makeS (M:Mk X.K C f) (F:FnOk X.prog X.w X.K X.mg X.base CX k f fd ps sp) (U:Room (k+1) X.A) (Z:Gl X x) (hm:X.mg x=some (.ref C)) (hb:Binds X.K fd ps ds) (hd:Vals dvs ds) (hx:ZDS CX X ES)
  (ha:PA X (e::es) t) (J:(x == ("__debug__":Str))=false:=by decide) (Y:starEach (e::es) X.env=(false,eval e X.env)::starEach es X.env:=by rfl) (L:(backTo pos (starEach es X.env)).any (·.1)=false:=by rfl) :
  PE X (.Call (.Name x p) (e::es) [] pos) (ZEW C sp dvs ES t):=by
 intro pins s σ H Q I h
 refine wpAny_Call_Name_kw (ZCI I Z hm ?_ J)
 refine PySem.W.callWith_K (h₀:=X.base) I.ok.mod.kin M.kp (thn (ha pos pins s σ H _ I h) fun us s1 ⟨vs,H1,O,r,q⟩=>⟨O.kIn,?_⟩) Y L
 exact run_makeS M F U hb hd (fun H1 s1 e s' I z=>hx pins σ H1 s1 e s' I z) O r q
theorem pe_mkS (F:Kl X.prog X.w X.K X.mg X.base CX x C k ps sp) (L:Room (k+1) X.A) (O:Gl X x) (hx:ZDS CX X ES) (ha:PA X (e::es) t) (z:(x == ("__debug__":Str))=false:=by decide) (U:starEach (e::es) X.env=(false,eval e X.env)::starEach es X.env:=by rfl) (J:(backTo pos (starEach es X.env)).any (·.1)=false:=by rfl) :
  PE X (.Call (.Name x p) (e::es) [] pos) (ZEW C sp [] ES t):=by
 obtain ⟨f,fd,h1,h2,h3⟩:=F.ex
 exact pe_makeS h3 h1 L O F.mgC h2 .nil hx ha z U J
end
end L2
namespace L2S
open PySem PyProof.Rows
noncomputable def kn (f:Keyed->Int) (xs:Array Keyed) (i:Nat):Int:=((xs[i]?).map f).getD 0
theorem ZA2 {f:Keyed->Int} {xs ys:Array Keyed} {i j:Nat} (h:xs[i]?=ys[j]?):kn f xs i=kn f ys j:=by unfold kn;rw [h]
structure Asks (M:Model) (A:Around) (E:Value->Shared->Prop) (s:Shared) (κ:SortKind) (a₀:Array Keyed) (f:Keyed->Int):Prop where
 lt:∀ x y,x∈a₀.toList->y∈a₀.toList->∀ (st:SortSt) (Q:Option Bool->SortSt->Prop),kindOf st=κ->Q (some (decide (f x < f y))) st->wpS M A E s (lt' x y) Q st
structure SB (κ:SortKind) (a₀:Array Keyed) (st:SortSt):Prop where
 perm:(arrOf st).Perm a₀
 kind:kindOf st=κ
 fail:failedOf st=none
theorem SB.size {κ:SortKind} {a₀:Array Keyed} {st:SortSt} (h:SB κ a₀ st):(arrOf st).size=a₀.size:=h.perm.size_eq
theorem SB.arr {κ:SortKind} {a₀:Array Keyed} {st:SortSt} (h:SB κ a₀ st) {xs:Array Keyed} (z:xs.Perm (arrOf st)):SB κ a₀ (setArr st xs):=⟨z.trans h.perm,h.kind,h.fail⟩
theorem SB.get {κ:SortKind} {a₀:Array Keyed} {st:SortSt} {f:Keyed->Int} (h:SB κ a₀ st) {i:Nat} (hi:i < a₀.size):∃ x,(arrOf st)[i]?=some x /\ x∈a₀.toList /\ kn f (arrOf st) i=f x:=by
 have z:i < (arrOf st).size:=by rw [h.size];exact hi
 refine ⟨(arrOf st)[i],getElem?_pos _ i z,(Array.perm_iff_toList_perm.mp h.perm).mem_iff.mp (by simp),?_⟩
 unfold kn
 rw [getElem?_pos _ i z]
 rfl
noncomputable def Up (f:Keyed->Int) (xs:Array Keyed) (lo n:Nat):Prop:=∀ i j,lo <= i->i <= j->j < lo+n->kn f xs i <= kn f xs j
noncomputable def Down (f:Keyed->Int) (xs:Array Keyed) (lo n:Nat):Prop:=∀ i j,lo <= i->i <= j->j < lo+n->kn f xs j <= kn f xs i
noncomputable def Kept (lo:Nat) (xs ys:Array Keyed):Prop:=∀ i,i < lo->ys[i]?=xs[i]?
theorem Kept.refl {lo:Nat} {xs:Array Keyed}:Kept lo xs xs:=fun _ _=>rfl
theorem Kept.trans {lo:Nat} {xs ys zs:Array Keyed} (a:Kept lo xs ys) (b:Kept lo ys zs):Kept lo xs zs:=fun i h=>(b i h).trans (a i h)
theorem ZDM {f:Keyed->Int} {xs:Array Keyed} {i j:Nat} (z:j <= xs.size) (k:Nat):kn f (mirror xs i j ((j-i) / 2)) k=if i <= k /\ k < j then kn f xs (i+j-1-k) else kn f xs k:=by
 have e:=getElem?_mirror_all (i:=i) z k
 split
 .rename_i h;rw [if_pos h] at e;exact ZA2 e
 .rename_i h;rw [if_neg h] at e;exact ZA2 e
theorem ZB4 {lo:Nat} {xs:Array Keyed} {i j:Nat} (z:j <= xs.size) (hi:lo <= i):Kept lo xs (mirror xs i j ((j-i) / 2)):=fun k J=>by
 rw [getElem?_mirror_all z k,if_neg (by omega)]
theorem ZDL {f:Keyed->Int} {xs:Array Keyed} {i j:Nat} (J:j <= xs.size) (z:∀ k,i <= k->k < j->kn f xs k=kn f xs (j-1)) (k:Nat):kn f (mirror xs i j ((j-i) / 2)) k=kn f xs k:=by
 rw [ZDM J]
 split
 .rename_i h;rw [z _ (by omega) (by omega),z k h.1 h.2]
 .rfl
section
variable {M:Model} {A:Around} {E:Value->Shared->Prop} {s:Shared} {κ:SortKind} {a₀:Array Keyed} {f:Keyed->Int}
theorem ZD7 {st:SortSt} {i j:Nat} {Q:Option Bool->SortSt->Prop} (L:Asks M A E s κ a₀ f) (z:SB κ a₀ st) (hi:i < a₀.size) (O:j < a₀.size)
  (h:Q (some (decide (kn f (arrOf st) i < kn f (arrOf st) j))) st):wpS M A E s (ltAt' i j) Q st:=by
 obtain ⟨x,Y,U,k1⟩:=z.get (f:=f) hi
 obtain ⟨y,Z,J,k2⟩:=z.get (f:=f) O
 rw [ltAt'_eq]
 refine wpS_bind (wpS_get ?_)
 show wpS _ _ _ _ (elem' (arrOf st) i >>= fun x=>elem' (arrOf st) j >>= fun y=>lt' x y) Q st
 rw [elem'_eq,elem'_eq,Y,Z]
 refine wpS_bind (wpS_pure (wpS_bind (wpS_pure (L.lt x y U J st Q z.kind ?_))))
 rw [<- k1,<- k2]
 exact h
theorem ZEY {st:SortSt} {i j:Nat} {Q:Unit->SortSt->Prop} (h:Q () (setArr st (mirror (arrOf st) i j ((j-i) / 2)))):wpS M A E s (reverseSlice' i j) Q st:=by
 rw [reverseSlice'_eq]
 exact wpS_modify h
noncomputable def ZCV (lo a nrem:Nat):StateT SortSt Sem AscSt :=
 forIn [a:nrem] ((none,a):AscSt) fun _ c=>do
  let r <- ltAt' (lo+c.snd) (lo+c.snd-1)
  match r with
  | some b=>if b=true then pure (ForInStep.done (none,c.snd)) else pure (ForInStep.yield (none,c.snd+1))
  | _=>pure (ForInStep.done (some none,c.snd))
noncomputable def ZEC (lo n nrem:Nat):StateT SortSt Sem (Option Nat):=do
 reverseSlice' lo (lo+n)
 let c <- ZCV lo n nrem
 match c.fst with
 | some r=>pure r
 | none=>pure (some c.snd)
noncomputable def ZCU (lo n nrem:Nat):StateT SortSt Sem DescSt :=
 forIn [n:nrem] ((none,n,0):DescSt) fun _ c=>do
  let r <- ltAt' (lo+c.snd.fst) (lo+c.snd.fst-1)
  match r with
  | some b=>
   if b=true then
    if c.snd.snd > 0 then do
     reverseSlice' (lo+c.snd.fst-(c.snd.snd+1)) (lo+c.snd.fst)
     pure (ForInStep.yield (none,c.snd.fst+1,0))
    else pure (ForInStep.yield (none,c.snd.fst+1,0))
   else do
    let r2 <- ltAt' (lo+c.snd.fst-1) (lo+c.snd.fst)
    match r2 with
    | some b2=>
     if b2=true then pure (ForInStep.done (none,c.snd.fst,c.snd.snd))
     else pure (ForInStep.yield (none,c.snd.fst+1,c.snd.snd+1))
    | _=>pure (ForInStep.done (some none,c.snd.fst,c.snd.snd))
  | _=>pure (ForInStep.done (some none,c.snd.fst,c.snd.snd))
noncomputable def ZCu (lo n nrem:Nat):StateT SortSt Sem (Option Nat):=do
 liftM (rule "list.sort.descending-run")
 let c <- ZCU lo (n+1) nrem
 match c.fst with
 | some r=>pure r
 | none=>
  if c.snd.snd > 0 then do
   reverseSlice' (lo+c.snd.fst-(c.snd.snd+1)) (lo+c.snd.fst)
   ZEC lo c.snd.fst nrem
  else ZEC lo c.snd.fst nrem
theorem bnd {α z:Type} (m:StateT SortSt Sem α) {g h:α->StateT SortSt Sem z} (e:∀ a,g a=h a):(m >>= g)=(m >>= h):=by rw [show g=h from funext e]
theorem count_eq (lo nrem:Nat):countRun' lo nrem=(do
  let c <- ZCV lo 1 nrem
  match c.fst with
  | some r=>pure r
  | none=>
   if (c.snd == nrem)=true then pure (some c.snd)
   else if c.snd > 1 then do
    let r <- ltAt' lo (lo+c.snd-1)
    match r with
    | some b=>if b=true then pure (some c.snd) else do
      reverseSlice' lo (lo+c.snd)
      ZCu lo c.snd nrem
    | _=>pure none
   else ZCu lo c.snd nrem):=by
 have tl:∀ z:Nat,ZEC lo z nrem=(reverseSlice' lo (lo+z) >>= fun _=>ZCV lo z nrem >>= fun c=>match c.fst with | some r=>pure r | none=>pure (some c.snd)):=fun _=>rfl
 rw [countRun'_eq]
 refine bnd (ZCV lo 1 nrem) fun c=>?_
 obtain ⟨r,n⟩:=c
 cases r with
 | some r=>rfl
 | none=>
  have dn:∀ Y:Nat,(liftM (rule "list.sort.descending-run") >>= fun _=>ZCU lo (Y+1) nrem >>= fun c=>match c.fst with
    | some r=>pure r
    | none=>if c.snd.snd > 0 then (reverseSlice' (lo+c.snd.fst-(c.snd.snd+1)) (lo+c.snd.fst) >>= fun _=>ZEC lo c.snd.fst nrem) else ZEC lo c.snd.fst nrem)=ZCu lo Y nrem:=fun _=>rfl
  dsimp only
  split
  .rfl
  .split
   .refine bnd (ltAt' lo (lo+n-1)) fun x=>?_
    cases x with
    | none=>rfl
    | some rose=>
     dsimp only
     split
     .rfl
     .refine bnd _ fun _=>?_
      rw [<- dn]
      refine bnd _ fun _=>bnd (ZCU lo (n+1) nrem) fun s2=>?_
      obtain ⟨O,z,Z⟩:=s2
      cases O with
      | some O=>rfl
      | none=>
       dsimp only
       split
       .refine bnd _ fun _=>?_
        rw [tl]
        refine bnd _ fun _=>bnd (ZCV lo z nrem) fun L=>?_
        obtain ⟨J,U⟩:=L
        cases J <;> rfl
       .rw [tl]
        refine bnd _ fun _=>bnd (ZCV lo z nrem) fun L=>?_
        obtain ⟨J,U⟩:=L
        cases J <;> rfl
   .rw [<- dn]
    refine bnd _ fun _=>bnd (ZCU lo (n+1) nrem) fun s2=>?_
    obtain ⟨O,z,Z⟩:=s2
    cases O with
    | some O=>rfl
    | none=>
     dsimp only
     split
     .refine bnd _ fun _=>?_
      rw [tl]
      refine bnd _ fun _=>bnd (ZCV lo z nrem) fun L=>?_
      obtain ⟨J,U⟩:=L
      cases J <;> rfl
     .rw [tl]
      refine bnd _ fun _=>bnd (ZCV lo z nrem) fun L=>?_
      obtain ⟨J,U⟩:=L
      cases J <;> rfl
theorem up_one {xs:Array Keyed} {lo:Nat}:Up f xs lo 1:=fun i j h1 h2 h3=>by rw [show i=j by omega];exact Int.le_refl _
theorem up_loop {st:SortSt} {lo a nrem:Nat} {Q:AscSt->SortSt->Prop} (L:Asks M A E s κ a₀ f) (hn:lo+nrem <= a₀.size) (ha:1 <= a) (J:a <= nrem) (Z:SB κ a₀ st) (U:Up f (arrOf st) lo a)
  (h:∀ n,a <= n->n <= nrem->Up f (arrOf st) lo n->(n=nrem∨kn f (arrOf st) (lo+n) < kn f (arrOf st) (lo+n-1))->Q (none,n) st):wpS M A E s (ZCV lo a nrem) Q st:=by
 unfold ZCV
 refine wpS_forRange (I:=fun x c st'=>st'=st /\ c=(none,x) /\ Up f (arrOf st) lo x) ?_ ?_ ⟨rfl,rfl,U⟩
 .rintro x c st' O Y ⟨rfl,rfl,z⟩
  dsimp only
  refine wpS_bind (ZD7 L Z (by omega) (by omega) ?_)
  by_cases hl:kn f (arrOf st') (lo+x) < kn f (arrOf st') (lo+x-1)
  .rw [decide_eq_true hl]
   exact wpS_pure (h x O (by omega) z (.inr hl))
  .rw [decide_eq_false hl]
   refine wpS_pure ⟨rfl,rfl,fun i j h1 h2 h3=>?_⟩
   by_cases hj:j < lo+x
   .exact z i j h1 h2 hj
   .by_cases hi:i=j
    .rw [hi];exact Int.le_refl _
    .have e1:=z i (lo+x-1) h1 (by omega) (by omega)
     rw [show j=lo+x by omega]
     omega
 .rintro c st' ⟨rfl,rfl,z⟩
  rw [Nat.max_eq_right J] at z ⊢
  exact h nrem J (yAB _) z (.inl rfl)
noncomputable abbrev ZFL (κ:SortKind) (a₀:Array Keyed) (f:Keyed->Int) (lo nrem:Nat) (xs:Array Keyed) (pd:Array (Nat×Nat×Nat)) (Q:Option Nat->SortSt->Prop):Prop :=
 ∀ m st',SB κ a₀ st'->1 <= m->m <= nrem->Up f (arrOf st') lo m->Kept lo xs (arrOf st')->pendingOf st'=pd->Q (some m) st'
theorem tail_l {st:SortSt} {lo n nrem:Nat} {xs:Array Keyed} {pd:Array (Nat×Nat×Nat)} {Q:Option Nat->SortSt->Prop} (L:Asks M A E s κ a₀ f) (hn:lo+nrem <= a₀.size) (h1:1 <= n) (J:n <= nrem) (Z:SB κ a₀ st)
  (hs:Down f (arrOf st) lo n) (hk:Kept lo xs (arrOf st)) (hp:pendingOf st=pd) (h:ZFL κ a₀ f lo nrem xs pd Q):wpS M A E s (ZEC lo n nrem) Q st:=by
 unfold ZEC
 have hsz:lo+n <= (arrOf st).size:=by rw [Z.size];omega
 refine wpS_bind (ZEY ?_)
 have z:SB κ a₀ (setArr st (mirror (arrOf st) lo (lo+n) ((lo+n-lo) / 2))):=Z.arr (mirror_perm _ _ _ _)
 have Y:Kept lo xs (mirror (arrOf st) lo (lo+n) ((lo+n-lo) / 2)):=hk.trans (ZB4 hsz (yAB _))
 refine wpS_bind (up_loop L hn h1 J z (fun i j z1 z2 z3=>?_) fun m a0 O U _=>wpS_pure (h m _ z (by omega) O U Y hp))
 show kn f (mirror (arrOf st) lo (lo+n) _) i <= kn f (mirror (arrOf st) lo (lo+n) _) j
 rw [ZDM hsz,ZDM hsz,if_pos (by omega),if_pos (by omega)]
 exact hs _ _ (by omega) (by omega) (by omega)
theorem down_loop {st:SortSt} {lo n nrem:Nat} {xs:Array Keyed} {pd:Array (Nat×Nat×Nat)} {Q:DescSt->SortSt->Prop} (L:Asks M A E s κ a₀ f) (hn:lo+nrem <= a₀.size) (h1:1 <= n) (a0:n <= nrem) (hB:SB κ a₀ st)
  (hs:Down f (arrOf st) lo n) (hk:Kept lo xs (arrOf st)) (hp:pendingOf st=pd)
  (h:∀ m q st',SB κ a₀ st'->n <= m->m <= nrem->Down f (arrOf st') lo m->q+1 <= m->(∀ i,lo+m-(q+1) <= i->i < lo+m->kn f (arrOf st') i=kn f (arrOf st') (lo+m-1))->Kept lo xs (arrOf st')->pendingOf st'=pd->Q (none,m,q) st') :
  wpS M A E s (ZCU lo n nrem) Q st:=by
 unfold ZCU
 refine wpS_forRange (I:=fun x c st'=>∃ q,c=(none,x,q) /\ SB κ a₀ st' /\ Down f (arrOf st') lo x /\ q+1 <= x /\ (∀ i,lo+x-(q+1) <= i->i < lo+x->kn f (arrOf st') i=kn f (arrOf st') (lo+x-1)) /\ Kept lo xs (arrOf st') /\ pendingOf st'=pd) ?_ ?_
  ⟨0,rfl,hB,hs,by omega,fun i Y Z=>by rw [show i=lo+n-1 by omega],hk,hp⟩
 .rintro x c st' a1 a2 ⟨q,rfl,z,J,hq,he,U,O⟩
  dsimp only
  have hsz:lo+x <= (arrOf st').size:=by rw [z.size];omega
  refine wpS_bind (ZD7 L z (by omega) (by omega) ?_)
  by_cases hl:kn f (arrOf st') (lo+x) < kn f (arrOf st') (lo+x-1)
  .rw [decide_eq_true hl]
   have more:∀ ys:Array Keyed,(∀ k,kn f ys k=kn f (arrOf st') k)->Down f ys lo (x+1):=fun ys hy i j Y Z z3=>by
    rw [hy,hy]
    by_cases hj:j < lo+x
    .exact J i j Y Z hj
    .by_cases hi:i=j
     .rw [hi];exact Int.le_refl _
     .have e1:=J i (lo+x-1) Y (by omega) (by omega)
      rw [show j=lo+x by omega]
      omega
   dsimp only
   rw [if_pos rfl]
   by_cases hq0:q > 0
   .rw [if_pos hq0]
    refine wpS_bind (ZEY (wpS_pure ⟨0,rfl,z.arr (mirror_perm _ _ _ _),more _ (ZDL hsz he),by omega,fun i Y Z=>by rw [show i=lo+(x+1)-1 by omega],U.trans (ZB4 hsz (by omega)),O⟩))
   .rw [if_neg hq0]
    exact wpS_pure ⟨0,rfl,z,more _ (fun _=>rfl),by omega,fun i Y Z=>by rw [show i=lo+(x+1)-1 by omega],U,O⟩
  .rw [decide_eq_false hl]
   dsimp only
   rw [if_neg (by decide)]
   refine wpS_bind (ZD7 L z (by omega) (by omega) ?_)
   by_cases hg:kn f (arrOf st') (lo+x-1) < kn f (arrOf st') (lo+x)
   .rw [decide_eq_true hg]
    exact wpS_pure (h x q st' z a1 (by omega) J hq he U O)
   .rw [decide_eq_false hg]
    have ex:kn f (arrOf st') (lo+x)=kn f (arrOf st') (lo+x-1):=by omega
    refine wpS_pure ⟨q+1,rfl,z,fun i j Y Z z3=>?_,by omega,fun i Y Z=>?_,U,O⟩
    .by_cases hj:j < lo+x
     .exact J i j Y Z hj
     .by_cases hi:i=j
      .rw [hi];exact Int.le_refl _
      .have e1:=J i (lo+x-1) Y (by omega) (by omega)
       rw [show j=lo+x by omega]
       omega
    .rw [show lo+(x+1)-1=lo+x by omega]
     by_cases hi:i=lo+x
     .rw [hi]
     .rw [ex];exact he i (by omega) (by omega)
 .rintro c st' ⟨q,rfl,z,J,hq,he,U,O⟩
  rw [Nat.max_eq_right a0] at J hq he ⊢
  exact h nrem q st' z a0 (yAB _) J hq he U O
theorem down_part {st:SortSt} {lo n nrem:Nat} {xs:Array Keyed} {pd:Array (Nat×Nat×Nat)} {Q:Option Nat->SortSt->Prop} (L:Asks M A E s κ a₀ f) (hn:lo+nrem <= a₀.size) (Z:n+1 <= nrem) (hB:SB κ a₀ st)
  (hs:Down f (arrOf st) lo (n+1)) (hk:Kept lo xs (arrOf st)) (hp:pendingOf st=pd) (h:ZFL κ a₀ f lo nrem xs pd Q):wpS M A E s (ZCu lo n nrem) Q st:=by
 unfold ZCu
 refine wpS_bind (wpS_lift (wpAny_rule ⟨rfl,?_⟩))
 refine wpS_bind (down_loop L hn (by omega) Z hB hs hk hp fun m q st' z a0 O J hq he Y U=>?_)
 dsimp only
 have hsz:lo+m <= (arrOf st').size:=by rw [z.size];omega
 by_cases hq0:q > 0
 .rw [if_pos hq0]
  refine wpS_bind (ZEY (tail_l L hn (by omega) O (z.arr (mirror_perm _ _ _ _)) (fun i j z1 z2 z3=>?_) (Y.trans (ZB4 hsz (by omega))) U h))
  show kn f (mirror (arrOf st') _ _ _) j <= kn f (mirror (arrOf st') _ _ _) i
  rw [ZDL hsz he,ZDL hsz he]
  exact J i j z1 z2 z3
 .rw [if_neg hq0]
  exact tail_l L hn (by omega) O z J Y U h
theorem count_run {st:SortSt} {lo nrem:Nat} {Q:Option Nat->SortSt->Prop} (L:Asks M A E s κ a₀ f) (hn:lo+nrem <= a₀.size) (h1:1 <= nrem) (O:SB κ a₀ st)
  (h:ZFL κ a₀ f lo nrem (arrOf st) (pendingOf st) Q):wpS M A E s (countRun' lo nrem) Q st:=by
 rw [count_eq]
 refine wpS_bind (up_loop L hn (yAB 1) h1 O up_one fun n Y U J a3=>?_)
 dsimp only
 by_cases hnn:n=nrem
 .rw [if_pos (by simpa using hnn)]
  exact wpS_pure (h n st O Y U J .refl rfl)
 rw [if_neg (by simpa using hnn)]
 have a0:=a3.resolve_left hnn
 by_cases hgt:n > 1
 .rw [if_pos hgt]
  refine wpS_bind (ZD7 L O (by omega) (by omega) ?_)
  by_cases hr:kn f (arrOf st) lo < kn f (arrOf st) (lo+n-1)
  .rw [decide_eq_true hr]
   exact wpS_pure (h n st O Y U J .refl rfl)
  rw [decide_eq_false hr]
  dsimp only
  rw [if_neg (by decide)]
  have hsz:lo+n <= (arrOf st).size:=by rw [O.size];omega
  have z:∀ k,lo <= k->k < lo+n->kn f (arrOf st) k=kn f (arrOf st) (lo+n-1):=fun k k1 k2=>by
   have a1:=J lo k (yAB _) k1 k2
   have a2:=J k (lo+n-1) k1 (by omega) (by omega)
   omega
  refine wpS_bind (ZEY (down_part L hn (by omega) (O.arr (mirror_perm _ _ _ _)) (fun i j z1 z2 z3=>?_) (ZB4 hsz (yAB _)) rfl h))
  show kn f (mirror (arrOf st) _ _ _) j <= kn f (mirror (arrOf st) _ _ _) i
  rw [ZDL hsz z,ZDL hsz z]
  by_cases hj:j < lo+n
  .rw [z i z1 (by omega),z j (by omega) hj];exact Int.le_refl _
  .by_cases hi:i=j
   .rw [hi];exact Int.le_refl _
   .rw [z i z1 (by omega),show j=lo+n by omega];exact Int.le_of_lt a0
 .rw [if_neg hgt]
  have Z:n=1:=by omega
  subst Z
  refine down_part L hn (by omega) O (fun i j z1 z2 z3=>?_) .refl rfl h
  by_cases hi:i=j
  .rw [hi];exact Int.le_refl _
  .have e1:i=lo:=by omega
   have e2:j=lo+1:=by omega
   subst e1 e2
   exact Int.le_of_lt a0
theorem kn_bubble {xs:Array Keyed} {z d:Nat} (L:z < xs.size) (J:d <= z) (k:Nat):kn f (bubble xs z d) k=if k=z-d then kn f xs z else if z-d < k /\ k <= z then kn f xs (k-1) else kn f xs k:=by
 have e:=getElem?_bubble L d J k
 split
 .rename_i h;rw [if_pos h] at e;exact ZA2 e
 .rename_i h
  rw [if_neg h] at e
  split
  .rename_i h2;rw [if_pos h2] at e;exact ZA2 e
  .rename_i h2;rw [if_neg h2] at e;exact ZA2 e
theorem kept_bubble {lo:Nat} {xs:Array Keyed} {z d:Nat} (J:z < xs.size) (O:lo+d <= z):Kept lo xs (bubble xs z d):=fun k L=>by
 rw [getElem?_bubble J d (by omega) k,if_neg (by omega),if_neg (by omega)]
theorem bin_sort {st:SortSt} {lo n ok:Nat} {Q:Bool->SortSt->Prop} (L:Asks M A E s κ a₀ f) (hn:lo+n <= a₀.size) (a8:ok <= n) (hB:SB κ a₀ st) (hs:Up f (arrOf st) lo ok)
  (h:∀ st',SB κ a₀ st'->Up f (arrOf st') lo n->Kept lo (arrOf st) (arrOf st')->pendingOf st'=pendingOf st->Q true st'):wpS M A E s (binarySort' lo n ok) Q st:=by
 rw [binarySort'_eq]
 refine wpS_bind (wpS_mono (wpS_forRange (I:=fun k c st'=>c=(none,()) /\ SB κ a₀ st' /\ Up f (arrOf st') lo (min k n) /\ Kept lo (arrOf st) (arrOf st') /\ pendingOf st'=pendingOf st)
  (Q:=fun c st'=>c=(none,()) /\ SB κ a₀ st' /\ Up f (arrOf st') lo n /\ Kept lo (arrOf st) (arrOf st') /\ pendingOf st'=pendingOf st) ?_ ?_ ?_) ?_)
 .rintro k c st' aa a7 ⟨rfl,J,z,Z,Y⟩
  rw [show min k n=k by omega] at z
  have hk:lo+k < a₀.size:=by omega
  refine wpS_bind (wpS_mono (wpS_forRange (I:=fun x c st2=>st2=st' /\ ∃ l r,c=(none,l,r) /\ l <= r /\ r <= k /\ r-l <= k-x /\
    (∀ i,i < l->kn f (arrOf st') (lo+i) <= kn f (arrOf st') (lo+k)) /\ (∀ i,r <= i->i < k->kn f (arrOf st') (lo+k) < kn f (arrOf st') (lo+i)))
   (Q:=fun c st2=>st2=st' /\ ∃ l r,c=(none,l,r) /\ l <= k /\ (∀ i,i < l->kn f (arrOf st') (lo+i) <= kn f (arrOf st') (lo+k)) /\ (∀ i,l <= i->i < k->kn f (arrOf st') (lo+k) < kn f (arrOf st') (lo+i))) ?_ ?_ ?_) ?_)
  .rintro x c st2 _ a6 ⟨rfl,l,r,rfl,a3,a0,hm,U,O⟩
   dsimp only
   by_cases hge:l≥r
   .rw [if_pos hge]
    have:l=r:=by omega
    subst this
    exact wpS_pure ⟨rfl,l,l,rfl,a0,U,O⟩
   rw [if_neg hge]
   refine wpS_bind (ZD7 L J hk (by omega) ?_)
   by_cases hl:kn f (arrOf st2) (lo+k) < kn f (arrOf st2) (lo+(l+r) / 2)
   .rw [decide_eq_true hl]
    refine wpS_pure ⟨rfl,l,(l+r) / 2,rfl,by omega,by omega,by omega,U,fun i z1 z2=>?_⟩
    exact Int.lt_of_lt_of_le hl (z _ _ (by omega) (by omega) (by omega))
   .rw [decide_eq_false hl]
    refine wpS_pure ⟨rfl,(l+r) / 2+1,r,rfl,by omega,by omega,by omega,fun i z1=>?_,O⟩
    have e1:=z (lo+i) (lo+(l+r) / 2) (by omega) (by omega) (by omega)
    omega
  .rintro c st2 ⟨rfl,l,r,rfl,a3,a0,hm,U,O⟩
   have:l=r:=by omega
   subst this
   exact ⟨rfl,l,l,rfl,a0,U,O⟩
  .exact ⟨rfl,0,k,rfl,by omega,by omega,by omega,fun i hi=>by omega,fun i z1 z2=>by omega⟩
  .rintro c st2 ⟨rfl,l,r,rfl,a9,U,O⟩
   show wpS _ _ _ _ (moveDown' (lo+k) (lo+l) >>= fun _=>pure (ForInStep.yield (none,()))) _ _
   rw [moveDown'_eq,show lo+k-(lo+l)=k-l by omega]
   have a2:lo+k < (arrOf st2).size:=by rw [J.size];exact hk
   refine wpS_bind (wpS_modify (wpS_pure ⟨rfl,J.arr (bubble_perm _ _ _),?_,Z.trans (kept_bubble a2 (by omega)),Y⟩))
   rw [show min (k+1) n=k+1 by omega]
   intro i j z1 z2 z3
   show kn f (bubble (arrOf st2) (lo+k) (k-l)) i <= kn f (bubble (arrOf st2) (lo+k) (k-l)) j
   have a1:∀ m,lo <= m->m < lo+k+1->kn f (bubble (arrOf st2) (lo+k) (k-l)) m=if m < lo+l then kn f (arrOf st2) m else if m=lo+l then kn f (arrOf st2) (lo+k) else kn f (arrOf st2) (m-1):=fun m m1 m2=>by
    rw [kn_bubble a2 (by omega)]
    by_cases c1:m < lo+l
    .rw [if_pos c1,if_neg (by omega),if_neg (by omega)]
    .rw [if_neg c1]
     by_cases c2:m=lo+l
     .rw [if_pos c2,if_pos (by omega)]
     .rw [if_neg c2,if_neg (by omega),if_pos (by omega)]
   rw [a1 i z1 (by omega),a1 j (by omega) (by omega)]
   have a4:∀ m,lo <= m->m < lo+l->kn f (arrOf st2) m <= kn f (arrOf st2) (lo+k):=fun m m1 m2=>by
    have:=U (m-lo) (by omega)
    rw [show lo+(m-lo)=m by omega] at this
    exact this
   have a5:∀ m,lo+l <= m->m < lo+k->kn f (arrOf st2) (lo+k) < kn f (arrOf st2) m:=fun m m1 m2=>by
    have:=O (m-lo) (by omega) (by omega)
    rw [show lo+(m-lo)=m by omega] at this
    exact this
   by_cases c1:j < lo+l
   .rw [if_pos c1,if_pos (by omega)]
    exact z i j z1 z2 (by omega)
   rw [if_neg c1]
   by_cases c2:j=lo+l
   .rw [if_pos c2]
    by_cases c3:i < lo+l
    .rw [if_pos c3];exact a4 i z1 c3
    .rw [if_neg c3,if_pos (by omega)];exact Int.le_refl _
   .rw [if_neg c2]
    by_cases c3:i < lo+l
    .rw [if_pos c3];exact z i (j-1) z1 (by omega) (by omega)
    .rw [if_neg c3]
     by_cases c4:i=lo+l
     .rw [if_pos c4];exact Int.le_of_lt (a5 (j-1) (by omega) (by omega))
     .rw [if_neg c4];exact z (i-1) (j-1) (by omega) (by omega) (by omega)
 .rintro c st' ⟨hc,J,z,Z,Y⟩
  rw [show min (max (max ok 1) n) n=n by omega] at z
  exact ⟨hc,J,z,Z,Y⟩
 .refine ⟨rfl,hB,fun i j z1 z2 z3=>?_,.refl,rfl⟩
  by_cases h1:ok=0
  .rw [show i=j by omega];exact Int.le_refl _
  .exact hs i j z1 z2 (by omega)
 .rintro c st' ⟨rfl,J,z,Z,Y⟩
  exact wpS_pure (h st' J z Z Y)
end
end L2S
namespace L2S
open PySem PyProof.Rows
noncomputable def gal:Bool->Keyed->Array Keyed->Nat->Nat->Nat->StateT SortSt Sem (Option Nat):=sortPriv% PySem.Builtin.gallop
noncomputable def past (left:Bool) (key:Keyed) (arr:Array Keyed) (base i:Nat):StateT SortSt Sem (Option Bool):=do
 let y <- elem' arr (base+i)
 if left then lt' y key else return (<- lt' key y).map (!·)
theorem gal_eq (left:Bool) (J:Keyed) (arr:Array Keyed) (base n z:Nat):gal left J arr base n z=(do
 let mut o1:=0
 let mut o2:=1
 let mut p1:=0
 let mut p2:=0
 let some b0 <- past left J arr base z | return none
 if b0 then
  let mx:=n-z
  for _ in [0:n] do
   if o2≥mx then break
   let some b <- past left J arr base (z+o2) | return none
   if !b then break
   o1:=o2
   o2:=2 * o2+1
  p1:=z+o1+1
  p2:=z+min o2 mx
 else
  let mx:=z+1
  for _ in [0:n] do
   if o2≥mx then break
   let some b <- past left J arr base (z-o2) | return none
   if b then break
   o1:=o2
   o2:=2 * o2+1
  p1:=z+1-min o2 mx
  p2:=z-o1
 for _ in [0:n] do
  if p1≥p2 then break
  let m:=p1+(p2-p1) / 2
  let some b <- past left J arr base m | return none
  if b then p1:=m+1 else p2:=m
 return some p2):=rfl
section
variable {M:Model} {A:Around} {E:Value->Shared->Prop} {s:Shared}
theorem gal_ok {left:Bool} {a5:Keyed} {arr:Array Keyed} {base n J:Nat} {st:SortSt} {Q:Option Nat->SortSt->Prop} (g:Nat->Bool) (hh:J < n)
  (hp:∀ i,i < n->∀ Q:Option Bool->SortSt->Prop,Q (some (g i)) st->wpS M A E s (past left a5 arr base i) Q st) (hm:∀ i j,i <= j->j < n->g j=true->g i=true)
  (h:∀ k,k <= n->(∀ i,i < k->g i=true)->(∀ i,k <= i->i < n->g i=false)->Q (some k) st):wpS M A E s (gal left a5 arr base n J) Q st:=by
 have a0:∀ i j,i <= j->j < n->g i=false->g j=false:=fun i j z1 z2 z3=>by
  cases e:g j with
  | false=>rfl
  | true=>rw [hm i j z1 z2 e] at z3;cases z3
 have Z:∀ p1 p2:Nat,p1 <= p2->p2 <= n->(∀ i,i < p1->g i=true)->(∀ i,p2 <= i->i < n->g i=false) ->
   wpS M A E s (forIn [0:n] ((none,p1,p2):Option (Option Nat)×Nat×Nat) fun _ c=>if c.2.1≥c.2.2 then pure (ForInStep.done (none,c.2.1,c.2.2)) else do
    let r <- past left a5 arr base (c.2.1+(c.2.2-c.2.1) / 2)
    match r with
    | some b=>if b=true then pure (ForInStep.yield (none,c.2.1+(c.2.2-c.2.1) / 2+1,c.2.2)) else pure (ForInStep.yield (none,c.2.1,c.2.1+(c.2.2-c.2.1) / 2))
    | _=>pure (ForInStep.done (some none,c.2.1,c.2.2))) (fun c st'=>∃ k,c=(none,k,k) /\ st'=st /\ k <= n /\ (∀ i,i < k->g i=true) /\ (∀ i,k <= i->i < n->g i=false)) st:=by
  intro p1 p2 a1 a2 a3 a4
  refine wpS_forRange (I:=fun x c st'=>st'=st /\ ∃ p1 p2,c=(none,p1,p2) /\ p1 <= p2 /\ p2 <= n /\ p2-p1 <= n-x /\ (∀ i,i < p1->g i=true) /\ (∀ i,p2 <= i->i < n->g i=false)) ?_ ?_ ⟨rfl,p1,p2,rfl,a1,a2,by omega,a3,a4⟩
  .rintro x c st' _ hx ⟨rfl,p1,p2,rfl,U,Y,O,L,b5⟩
   dsimp only
   by_cases hge:p1≥p2
   .rw [if_pos hge]
    have:p1=p2:=by omega
    subst this
    exact wpS_pure ⟨p1,rfl,rfl,Y,L,b5⟩
   rw [if_neg hge]
   refine wpS_bind (hp _ (by omega) _ ?_)
   cases e:g (p1+(p2-p1) / 2) with
   | true=>exact wpS_pure ⟨rfl,_,_,rfl,by omega,Y,by omega,fun i hi=>hm i _ (by omega) (by omega) e,b5⟩
   | false=>exact wpS_pure ⟨rfl,_,_,rfl,by omega,by omega,by omega,L,fun i i1 i2=>a0 _ i i1 i2 e⟩
  .rintro c st' ⟨rfl,p1,p2,rfl,U,Y,O,L,b5⟩
   have:p1=p2:=by omega
   subst this
   exact ⟨p1,rfl,rfl,Y,L,b5⟩
 rw [gal_eq]
 refine wpS_bind (hp J hh _ ?_)
 cases e0:g J with
 | true=>
  refine wpS_bind (wpS_mono (wpS_forRange (I:=fun x c st'=>st'=st /\ ∃ o1 o2,c=(none,o1,o2) /\ o1 < o2 /\ x+1 <= o2 /\ J+o1 < n /\ g (J+o1)=true)
   (Q:=fun c st'=>st'=st /\ ∃ o1 o2,c=(none,o1,o2) /\ o1 < o2 /\ J+o1 < n /\ g (J+o1)=true /\ (o2≥n-J∨(J+o2 < n /\ g (J+o2)=false))) ?_ ?_ ⟨rfl,0,1,rfl,by omega,by omega,by omega,e0⟩) ?_)
  .rintro x c st' _ hx ⟨rfl,o1,o2,rfl,U,Y,O,L⟩
   dsimp only
   by_cases hge:o2≥n-J
   .rw [if_pos hge]
    exact wpS_pure ⟨rfl,o1,o2,rfl,U,O,L,.inl hge⟩
   rw [if_neg hge]
   refine wpS_bind (hp _ (by omega) _ ?_)
   cases e:g (J+o2) with
   | true=>exact wpS_pure ⟨rfl,_,_,rfl,by omega,by omega,by omega,e⟩
   | false=>exact wpS_pure ⟨rfl,_,_,rfl,U,O,L,.inr ⟨by omega,e⟩⟩
  .rintro c st' ⟨rfl,o1,o2,rfl,U,Y,O,L⟩
   exact ⟨rfl,o1,o2,rfl,U,O,L,.inl (by omega)⟩
  .rintro c st' ⟨rfl,o1,o2,rfl,U,O,L,b5⟩
   dsimp only
   refine wpS_bind (wpS_mono (Z (J+o1+1) (J+min o2 (n-J)) (by omega) (by omega) (fun i hi=>hm i _ (by omega) O L) fun i i1 i2=>?_) ?_)
   .rcases b5 with z | ⟨z1,z2⟩
    .omega
    .exact a0 _ i (by omega) i2 z2
   .rintro c st' ⟨k,rfl,rfl,k1,k2,k3⟩
    exact wpS_pure (h k k1 k2 k3)
 | false=>
  refine wpS_bind (wpS_mono (wpS_forRange (I:=fun x c st'=>st'=st /\ ∃ o1 o2,c=(none,o1,o2) /\ o1 < o2 /\ x+1 <= o2 /\ o1 <= J /\ g (J-o1)=false)
   (Q:=fun c st'=>st'=st /\ ∃ o1 o2,c=(none,o1,o2) /\ o1 < o2 /\ o1 <= J /\ g (J-o1)=false /\ (o2≥J+1∨(o2 < J+1 /\ g (J-o2)=true))) ?_ ?_ ⟨rfl,0,1,rfl,by omega,by omega,by omega,e0⟩) ?_)
  .rintro x c st' _ hx ⟨rfl,o1,o2,rfl,U,Y,O,L⟩
   dsimp only
   by_cases hge:o2≥J+1
   .rw [if_pos hge]
    exact wpS_pure ⟨rfl,o1,o2,rfl,U,O,L,.inl hge⟩
   rw [if_neg hge]
   refine wpS_bind (hp _ (by omega) _ ?_)
   cases e:g (J-o2) with
   | true=>exact wpS_pure ⟨rfl,_,_,rfl,U,O,L,.inr ⟨by omega,e⟩⟩
   | false=>exact wpS_pure ⟨rfl,_,_,rfl,by omega,by omega,by omega,e⟩
  .rintro c st' ⟨rfl,o1,o2,rfl,U,Y,O,L⟩
   exact ⟨rfl,o1,o2,rfl,U,O,L,.inl (by omega)⟩
  .rintro c st' ⟨rfl,o1,o2,rfl,U,O,L,b5⟩
   dsimp only
   refine wpS_bind (wpS_mono (Z (J+1-min o2 (J+1)) (J-o1) (by omega) (by omega) (fun i hi=>?_) fun i i1 i2=>a0 _ i i1 i2 L) ?_)
   .rcases b5 with z | ⟨z1,z2⟩
    .omega
    .exact hm i _ (by omega) (by omega) z2
   .rintro c st' ⟨k,rfl,rfl,k1,k2,k3⟩
    exact wpS_pure (h k k1 k2 k3)
end
end L2S
namespace L2S
open PySem PyProof.Rows
noncomputable def mLo:Array Keyed->Array Keyed->StateT SortSt Sem (Array Keyed):=sortPriv% PySem.Builtin.mergeLo
noncomputable abbrev setG (st:SortSt) (g:Nat):SortSt:=SortSt.mk' (kindOf st) (arrOf st) (pendingOf st) g (failedOf st)
theorem mLo_eq (a b:Array Keyed):mLo a b=(do
 rule "list.sort.merge-lo"
 let tt:=a.size+b.size
 let dn (o:Array Keyed) (i j:Nat):=o++a.extract i a.size++b.extract j b.size
 let la (o:Array Keyed) (i j:Nat):=o++b.extract j b.size++a.extract i a.size
 let mut o:Array Keyed:=#[<- elem' b 0]
 let mut i:=0
 let mut j:=1
 if j == b.size then return dn o i j
 if i+1 == a.size then return la o i j
 let mut mg:=gallopOf (<- get)
 for _ in [0:tt] do
  let mut ac:=0
  let mut bc:=0
  for _ in [0:tt] do
   let some w <- lt' (<- elem' b j) (<- elem' a i) | return dn o i j
   if w then
    o:=o.push (<- elem' b j);j:=j+1;bc:=bc+1;ac:=0
    if j == b.size then return dn o i j
    if bc≥mg then break
   else
    o:=o.push (<- elem' a i);i:=i+1;ac:=ac+1;bc:=0
    if i+1 == a.size then return la o i j
    if ac≥mg then break
  rule "list.sort.gallop"
  mg:=mg+1
  for _ in [0:tt] do
   if mg > 1 then mg:=mg-1
   modify fun st=>setG st mg
   let some k <- gal false (<- elem' b j) a i (a.size-i) 0 | return dn o i j
   ac:=k
   if k > 0 then
    o:=o++a.extract i (i+k);i:=i+k
    if i+1 == a.size then return la o i j
    if i == a.size then return dn o i j
   o:=o.push (<- elem' b j);j:=j+1
   if j == b.size then return dn o i j
   let some k <- gal true (<- elem' a i) b j (b.size-j) 0 | return dn o i j
   bc:=k
   if k > 0 then
    o:=o++b.extract j (j+k);j:=j+k
    if j == b.size then return dn o i j
   o:=o.push (<- elem' a i);i:=i+1
   if i+1 == a.size then return la o i j
   if ac < 7 && bc < 7 then break
  mg:=mg+1
  modify fun st=>setG st mg
 unsupported "internal:list.sort.merge-bound"):=rfl
noncomputable def leK (f:Keyed->Int) (x y:Keyed):Prop:=f x <= f y
structure Jm (f:Keyed->Int) (as bs o:List Keyed) (i j:Nat):Prop where
 perm:o.Perm (as.take i++bs.take j)
 sa:(o++as.drop i).Pairwise (leK f)
 sb:(o++bs.drop j).Pairwise (leK f)
noncomputable def Good (f:Keyed->Int) (as bs r:List Keyed):Prop:=r.Perm (as++bs) /\ r.Pairwise (leK f)
theorem take_more (as:List Keyed) (i k:Nat):as.take (i+k)=as.take i++(as.drop i).take k:=List.take_add
theorem drop_more (as:List Keyed) (i k:Nat):as.drop i=(as.drop i).take k++as.drop (i+k):=by rw [<- List.drop_drop,yCL]
section
variable {f:Keyed->Int} {as bs o:List Keyed} {i j:Nat}
theorem Jm.swap (h:Jm f as bs o i j):Jm f bs as o j i:=⟨h.perm.trans yCU,h.sb,h.sa⟩
theorem Jm.chunk (h:Jm f as bs o i j) (k:Nat) (hc:∀ x∈(as.drop i).take k,∀ y∈bs.drop j,f x <= f y):Jm f as bs (o++(as.drop i).take k) (i+k) j:=by
 have sa:=h.sa
 rw [drop_more as i k,<- yAY] at sa
 refine ⟨?_,sa,?_⟩
 .rw [take_more]
  refine (List.Perm.append_right _ h.perm).trans ?_
  rw [yAY,yAY]
  exact List.Perm.append_left _ yCU
 .obtain ⟨p1,p2,O⟩:=List.pairwise_append.mp h.sb
  obtain ⟨L,U,Y⟩:=List.pairwise_append.mp sa
  refine List.pairwise_append.mpr ⟨L,p2,fun x hx y J=>?_⟩
  rcases yAR.mp hx with z | z
  .exact O x z y J
  .exact hc x z y J
theorem Jm.dn (h:Jm f as bs o i j) (e:as.drop i=[]∨bs.drop j=[]):Good f as bs (o++as.drop i++bs.drop j):=by
 refine ⟨?_,?_⟩
 .have p:(o++as.drop i++bs.drop j).Perm ((as.take i++bs.take j)++as.drop i++bs.drop j):=List.Perm.append_right _ (List.Perm.append_right _ h.perm)
  refine p.trans ?_
  have z:(as.take i++bs.take j++as.drop i++bs.drop j).Perm (as.take i++as.drop i++(bs.take j++bs.drop j)):=by
   rw [yAY,yAY,yAY]
   refine List.Perm.append_left _ ?_
   rw [<- yAY,<- yAY]
   exact List.Perm.append_right _ yCU
  rw [yCL,yCL] at z
  exact z
 .rcases e with e | e
  .rw [e,yBA];exact h.sb
  .rw [e,yBA];exact h.sa
theorem Jm.la (h:Jm f as bs o i j) (hl:∀ x∈as.drop i,∀ y∈bs.drop j,f y <= f x):Good f as bs (o++bs.drop j++as.drop i):=by
 have c:=h.swap.chunk (bs.length-j) (fun x hx y z=>hl y z x (List.mem_of_mem_take hx))
 rw [yBH (by rw [yBR];exact yAB _)] at c
 have g:=c.dn (.inl (List.drop_eq_nil_of_le (by omega)))
 rw [List.drop_eq_nil_of_le (as:=bs) (i:=j+(bs.length-j)) (by omega),yBA] at g
 exact ⟨g.1.trans yCU,g.2⟩
end
theorem ZDu (a:Array Keyed) (i:Nat):(a.extract i a.size).toList=a.toList.drop i:=by
 rw [yCM,yCN]
 exact yBH (by rw [yBR];simp)
theorem ZES (a:Array Keyed) (i k:Nat):(a.extract i (i+k)).toList=(a.toList.drop i).take k:=by
 rw [yCM,yCN,show i+k-i=k by omega]
theorem ZFB {a:Array Keyed} {i:Nat} {x:Keyed} (h:a[i]?=some x):(a.toList.drop i).take 1=[x]:=by
 have hi:i < a.toList.length:=by
  rw [yAO]
  exact (yBJ.mp h).1
 rw [List.drop_eq_getElem_cons hi]
 have:a.toList[i]=x:=by
  rw [yBJ] at h
  obtain ⟨_,e⟩:=h
  simpa using e
 rw [this]
 simp
structure Ev (st st':SortSt):Prop where
 k:kindOf st'=kindOf st
 a:arrOf st'=arrOf st
 p:pendingOf st'=pendingOf st
 f:failedOf st'=failedOf st
theorem Ev.refl {st:SortSt}:Ev st st:=⟨rfl,rfl,rfl,rfl⟩
theorem Ev.setG {st st':SortSt} (h:Ev st st') (g:Nat):Ev st (setG st' g):=⟨h.k,h.a,h.p,h.f⟩
section
variable {M:Model} {A:Around} {E:Value->Shared->Prop} {s:Shared} {κ:SortKind} {a₀:Array Keyed} {f:Keyed->Int}
theorem ZAl {a:Array Keyed} {i:Nat} {x:Keyed} {st:SortSt} {Q:Keyed->SortSt->Prop} (h:a[i]?=some x) (q:Q x st):wpS M A E s (elem' a i) Q st:=by
 rw [elem'_eq,h]
 exact wpS_pure q
noncomputable def InA (a₀ a:Array Keyed):Prop:=∀ x∈a.toList,x∈a₀.toList
theorem InA.get {a:Array Keyed} (h:InA a₀ a) {i:Nat} {x:Keyed} (e:a[i]?=some x):x∈a₀.toList:=h x (by rw [yBJ] at e;obtain ⟨_,rfl⟩:=e;simp)
theorem ZBD {a:Array Keyed} {i:Nat} {x:Keyed} (e:a[i]?=some x):kn f a i=f x:=by unfold kn;rw [e];rfl
theorem ZCi {a:Array Keyed} {i:Nat} (h:i < a.size):∃ x,a[i]?=some x:=⟨_,getElem?_pos a i h⟩
theorem past_at {left:Bool} {z x:Keyed} {arr:Array Keyed} {base i:Nat} {st:SortSt} {Q:Option Bool->SortSt->Prop} (L:Asks M A E s κ a₀ f) (J:kindOf st=κ) (hx:arr[base+i]?=some x) (h1:x∈a₀.toList) (h2:z∈a₀.toList)
  (q:Q (some (if left=true then decide (f x < f z) else !decide (f z < f x))) st):wpS M A E s (past left z arr base i) Q st:=by
 unfold past
 refine wpS_bind (ZAl hx ?_)
 cases left with
 | true=>exact L.lt x z h1 h2 st _ J q
 | false=>
  refine wpS_bind (L.lt z x h2 h1 st _ J ?_)
  exact wpS_pure q
theorem ZFE {J:Keyed} {arr:Array Keyed} {base n O:Nat} {st:SortSt} {Q:Option Nat->SortSt->Prop} (L:Asks M A E s κ a₀ f) (hk:kindOf st=κ) (hi:InA a₀ arr) (U:J∈a₀.toList) (hh:O < n) (hs:base+n <= arr.size) (hu:Up f arr base n)
  (h:∀ k,k <= n->(∀ i,i < k->kn f arr (base+i) <= f J)->(∀ i,k <= i->i < n->f J < kn f arr (base+i))->Q (some k) st):wpS M A E s (gal false J arr base n O) Q st:=by
 refine gal_ok (fun i=>!decide (f J < kn f arr (base+i))) hh (fun i a0 Q q=>?_) (fun i j Y Z z3=>?_) fun k k1 k2 k3=>h k k1 (fun i z=>?_) fun i Y Z=>?_
 .obtain ⟨x,hx⟩:=ZCi (a:=arr) (i:=base+i) (by omega)
  refine past_at L hk hx (hi.get hx) U ?_
  rw [ZBD hx] at q
  exact q
 .have:=hu (base+i) (base+j) (by omega) (by omega) (by omega)
  simp at z3 ⊢
  omega
 .have:=k2 i z
  simp at this
  exact this
 .have:=k3 i Y Z
  simp at this
  exact this
theorem ZEQ {J:Keyed} {arr:Array Keyed} {base n O:Nat} {st:SortSt} {Q:Option Nat->SortSt->Prop} (L:Asks M A E s κ a₀ f) (hk:kindOf st=κ) (hi:InA a₀ arr) (U:J∈a₀.toList) (hh:O < n) (hs:base+n <= arr.size) (hu:Up f arr base n)
  (h:∀ k,k <= n->(∀ i,i < k->kn f arr (base+i) < f J)->(∀ i,k <= i->i < n->f J <= kn f arr (base+i))->Q (some k) st):wpS M A E s (gal true J arr base n O) Q st:=by
 refine gal_ok (fun i=>decide (kn f arr (base+i) < f J)) hh (fun i a0 Q q=>?_) (fun i j Y Z z3=>?_) fun k k1 k2 k3=>h k k1 (fun i z=>?_) fun i Y Z=>?_
 .obtain ⟨x,hx⟩:=ZCi (a:=arr) (i:=base+i) (by omega)
  refine past_at L hk hx (hi.get hx) U ?_
  rw [ZBD hx] at q
  exact q
 .have:=hu (base+i) (base+j) (by omega) (by omega) (by omega)
  simp at z3 ⊢
  omega
 .have:=k2 i z
  simp at this
  exact this
 .have:=k3 i Y Z
  simp at this
  exact this
theorem ZC9 {a:Array Keyed} {i:Nat} {x:Keyed} (h:x∈a.toList.drop i):∃ k,i <= k /\ k < a.size /\ kn f a k=f x /\ a[k]?=some x:=by
 obtain ⟨n,hn⟩:=yCF h
 rw [List.getElem?_drop] at hn
 rw [yBD] at hn
 exact ⟨i+n,by omega,(yBJ.mp hn).1,ZBD hn,hn⟩
theorem mem_take {a:Array Keyed} {i k:Nat} {x:Keyed} (h:x∈(a.toList.drop i).take k):∃ n,i <= n /\ n < i+k /\ n < a.size /\ kn f a n=f x:=by
 obtain ⟨n,hn⟩:=yCF h
 have hl:=(yAK.mp hn).1
 rw [yAP] at hl
 rw [List.getElem?_take_of_lt (by omega),List.getElem?_drop,yBD] at hn
 exact ⟨i+n,by omega,by omega,(yBJ.mp hn).1,ZBD hn⟩
structure Two (a₀:Array Keyed) (f:Keyed->Int) (a b:Array Keyed):Prop where
 ia:InA a₀ a
 ib:InA a₀ b
 ua:Up f a 0 a.size
 ub:Up f b 0 b.size
 na:1 <= a.size
 nb:1 <= b.size
 lo:∀ i,i < a.size->kn f b 0 <= kn f a i
 hi:∀ j,j < b.size->kn f b j <= kn f a (a.size-1)
end
end L2S
namespace L2S
open PySem PyProof.Rows
noncomputable abbrev C5:=Option (Array Keyed)×Array Keyed×Nat×Nat×Nat
noncomputable abbrev C6:=Option (Array Keyed)×Array Keyed×Nat×Nat×Nat×Nat
noncomputable abbrev C7:=Option (Array Keyed)×Array Keyed×Nat×Nat×Nat×Nat×Nat
noncomputable abbrev SM (α:Type):=StateT SortSt Sem α
noncomputable abbrev dnA (a b o:Array Keyed) (i j:Nat):Array Keyed:=o++a.extract i a.size++b.extract j b.size
noncomputable abbrev laA (a b o:Array Keyed) (i j:Nat):Array Keyed:=o++b.extract j b.size++a.extract i a.size
noncomputable def lo1 (a b:Array Keyed) (mg:Nat) (c:C6):SM (ForInStep C6):=do
 let y <- elem' b c.2.2.2.1
 let x <- elem' a c.2.2.1
 let r <- lt' y x
 match r with
 | some w=>
  if w=true then do
   let y <- elem' b c.2.2.2.1
   if (c.2.2.2.1+1 == b.size)=true then pure (.done (some (dnA a b (c.2.1.push y) c.2.2.1 (c.2.2.2.1+1)),c.2.1.push y,c.2.2.1,c.2.2.2.1+1,0,c.2.2.2.2.2+1))
   else if c.2.2.2.2.2+1≥mg then pure (.done (none,c.2.1.push y,c.2.2.1,c.2.2.2.1+1,0,c.2.2.2.2.2+1))
   else pure (.yield (none,c.2.1.push y,c.2.2.1,c.2.2.2.1+1,0,c.2.2.2.2.2+1))
  else do
   let x <- elem' a c.2.2.1
   if (c.2.2.1+1+1 == a.size)=true then pure (.done (some (laA a b (c.2.1.push x) (c.2.2.1+1) c.2.2.2.1),c.2.1.push x,c.2.2.1+1,c.2.2.2.1,c.2.2.2.2.1+1,0))
   else if c.2.2.2.2.1+1≥mg then pure (.done (none,c.2.1.push x,c.2.2.1+1,c.2.2.2.1,c.2.2.2.2.1+1,0))
   else pure (.yield (none,c.2.1.push x,c.2.2.1+1,c.2.2.2.1,c.2.2.2.2.1+1,0))
 | _=>pure (.done (some (dnA a b c.2.1 c.2.2.1 c.2.2.2.1),c.2.1,c.2.2.1,c.2.2.2.1,c.2.2.2.2.1,c.2.2.2.2.2))
noncomputable def lo4 (a b:Array Keyed) (g ac bc:Nat) (o:Array Keyed) (i j:Nat):SM (ForInStep C7):=do
 let x <- elem' a i
 if (i+1+1 == a.size)=true then pure (.done (some (laA a b (o.push x) (i+1) j),o.push x,i+1,j,g,ac,bc))
 else if (decide (ac < 7) && decide (bc < 7))=true then pure (.done (none,o.push x,i+1,j,g,ac,bc))
 else pure (.yield (none,o.push x,i+1,j,g,ac,bc))
noncomputable def lo3 (a b:Array Keyed) (g ac bc:Nat) (o:Array Keyed) (i j:Nat):SM (ForInStep C7):=do
 let y <- elem' b j
 if (j+1 == b.size)=true then pure (.done (some (dnA a b (o.push y) i (j+1)),o.push y,i,j+1,g,ac,bc))
 else do
  let x <- elem' a i
  let r <- gal true x b (j+1) (b.size-(j+1)) 0
  match r with
  | some k=>
   if k > 0 then
    if (j+1+k == b.size)=true then pure (.done (some (dnA a b (o.push y++b.extract (j+1) (j+1+k)) i (j+1+k)),o.push y++b.extract (j+1) (j+1+k),i,j+1+k,g,ac,k))
    else lo4 a b g ac k (o.push y++b.extract (j+1) (j+1+k)) i (j+1+k)
   else lo4 a b g ac k (o.push y) i (j+1)
  | _=>pure (.done (some (dnA a b (o.push y) i (j+1)),o.push y,i,j+1,g,ac,bc))
noncomputable def lo2 (a b:Array Keyed) (g ac bc:Nat) (o:Array Keyed) (i j:Nat):SM (ForInStep C7):=do
 modify fun st=>setG st g
 let y <- elem' b j
 let r <- gal false y a i (a.size-i) 0
 match r with
 | some k=>
  if k > 0 then
   if (i+k+1 == a.size)=true then pure (.done (some (laA a b (o++a.extract i (i+k)) (i+k) j),o++a.extract i (i+k),i+k,j,g,k,bc))
   else if (i+k == a.size)=true then pure (.done (some (dnA a b (o++a.extract i (i+k)) (i+k) j),o++a.extract i (i+k),i+k,j,g,k,bc))
   else lo3 a b g k bc (o++a.extract i (i+k)) (i+k) j
  else lo3 a b g k bc o i j
 | _=>pure (.done (some (dnA a b o i j),o,i,j,g,ac,bc))
noncomputable def loB (a b:Array Keyed) (c:C7):SM (ForInStep C7) :=
 if c.2.2.2.2.1 > 1 then lo2 a b (c.2.2.2.2.1-1) c.2.2.2.2.2.1 c.2.2.2.2.2.2 c.2.1 c.2.2.1 c.2.2.2.1
 else lo2 a b c.2.2.2.2.1 c.2.2.2.2.2.1 c.2.2.2.2.2.2 c.2.1 c.2.2.1 c.2.2.2.1
noncomputable def loO (a b:Array Keyed) (c:C5):SM (ForInStep C5):=do
 let c1 <- forIn [0:a.size+b.size] ((none,c.2.1,c.2.2.1,c.2.2.2.1,0,0):C6) fun _ d=>lo1 a b c.2.2.2.2 d
 match c1.1 with
 | some r=>pure (.done (some r,c1.2.1,c1.2.2.1,c1.2.2.2.1,c.2.2.2.2))
 | none=>do
  liftM (rule "list.sort.gallop")
  let c2 <- forIn [0:a.size+b.size] ((none,c1.2.1,c1.2.2.1,c1.2.2.2.1,c.2.2.2.2+1,c1.2.2.2.2.1,c1.2.2.2.2.2):C7) fun _ d=>loB a b d
  match c2.1 with
  | some r=>pure (.done (some r,c2.2.1,c2.2.2.1,c2.2.2.2.1,c2.2.2.2.2.1))
  | none=>do
   modify fun st=>setG st (c2.2.2.2.2.1+1)
   pure (.yield (none,c2.2.1,c2.2.2.1,c2.2.2.2.1,c2.2.2.2.2.1+1))
theorem bnd2 {α L:Type} {m z:StateT SortSt Sem α} {g h:α->StateT SortSt Sem L} (J:m=z) (e:∀ a,g a=h a):(m >>= g)=(z >>= h):=by rw [J,show g=h from funext e]
theorem for2 {z:Type} {r:Std.Legacy.Range} {c:z} {g h:Nat->z->StateT SortSt Sem (ForInStep z)} (e:∀ x c,g x c=h x c):forIn r c g=forIn r c h:=by rw [show g=h from funext fun x=>funext (e x)]
theorem if2 {α:Type} {c:Prop} [Decidable c] {x y z J:α} (L:x=z) (O:y=J):(if c then x else y)=(if c then z else J):=by rw [L,O]
theorem mLo_low (a b:Array Keyed):mLo a b=(do
 liftM (rule "list.sort.merge-lo")
 let y <- elem' b 0
 if (1 == b.size)=true then pure (dnA a b #[y] 0 1)
 else if (0+1 == a.size)=true then pure (laA a b #[y] 0 1)
 else do
  let st <- get
  let c <- forIn [0:a.size+b.size] ((none,#[y],0,1,gallopOf st):C5) fun _ d=>loO a b d
  match c.1 with
  | some r=>pure r
  | none=>liftM (unsupported "internal:list.sort.merge-bound":Sem (Array Keyed))):=by
 rw [mLo_eq]
 refine bnd _ fun _=>bnd _ fun y=>?_
 refine if2 rfl (if2 rfl ?_)
 refine bnd _ fun st=>bnd2 (for2 fun _ c=>?_) fun c=>?_
 .unfold loO
  refine bnd2 (for2 fun _ d=>?_) fun c1=>?_
  .rfl
  .obtain ⟨r,o,i,j,ac,bc⟩:=c1
   cases r with
   | some r=>rfl
   | none=>
    refine bnd2 rfl fun _=>bnd2 (for2 fun _ d=>?_) fun c2=>?_
    .unfold loB
     refine if2 ?_ ?_
     all_goals
      unfold lo2
      refine bnd2 rfl fun _=>bnd2 rfl fun y=>bnd2 rfl fun r=>?_
      cases r with
      | none=>rfl
      | some k=>
       refine if2 (if2 rfl (if2 rfl ?_)) ?_
       all_goals
        unfold lo3
        refine bnd2 rfl fun J=>if2 rfl (bnd2 rfl fun L=>bnd2 rfl fun z=>?_)
        cases z with
        | none=>rfl
        | some k2=>
         refine if2 (if2 rfl ?_) ?_
         all_goals
          unfold lo4
          refine bnd2 rfl fun O=>if2 rfl (if2 rfl rfl)
    .obtain ⟨r,o,i,j,g,ac,bc⟩:=c2
     cases r with
     | some r=>rfl
     | none=>rfl
 .obtain ⟨r,o,i,j,g⟩:=c
  cases r with
  | some r=>rfl
  | none=>rfl
end L2S
namespace L2S
open PySem PyProof.Rows
section
variable {M:Model} {A:Around} {E:Value->Shared->Prop} {s:Shared} {κ:SortKind} {a₀:Array Keyed} {f:Keyed->Int} {a b o:Array Keyed} {i j:Nat}
theorem ZFN {a:Array Keyed} (h:Up f a 0 a.size):a.toList.Pairwise (leK f):=by
 rw [List.pairwise_iff_getElem]
 intro i j hi J z
 rw [yAO] at hi J
 have:=h i j (yAH _) (yBP z) (by omega)
 rw [ZBD (getElem?_pos a i hi),ZBD (getElem?_pos a j J)] at this
 simpa [leK] using this
noncomputable abbrev JA (f:Keyed->Int) (a b o:Array Keyed) (i j:Nat):Prop:=Jm f a.toList b.toList o.toList i j
noncomputable abbrev Fin (f:Keyed->Int) (a b r:Array Keyed):Prop:=Good f a.toList b.toList r.toList
theorem JA.dn (h:JA f a b o i j) (e:a.size <= i∨b.size <= j):Fin f a b (dnA a b o i j):=by
 have g:=Jm.dn h (e.imp (fun z=>List.drop_eq_nil_of_le (by rw [yAO];exact z)) (fun z=>List.drop_eq_nil_of_le (by rw [yAO];exact z)))
 unfold Fin dnA
 rw [yBT,yBT,ZDu,ZDu]
 exact g
theorem JA.la (h:JA f a b o i j) (T:Two a₀ f a b) (e:i+1=a.size):Fin f a b (laA a b o i j):=by
 have g:=Jm.la h fun x hx y L=>by
  obtain ⟨k,k1,k2,k3,_⟩:=ZC9 (f:=f) hx
  obtain ⟨n,O,J,z,_⟩:=ZC9 (f:=f) L
  have:=T.hi n J
  rw [show a.size-1=k by omega,k3,z] at this
  exact this
 unfold Fin laA
 rw [yBT,yBT,ZDu,ZDu]
 exact g
theorem JA.pushA {x:Keyed} (h:JA f a b o i j) (hx:a[i]?=some x) (hc:∀ n,j <= n->n < b.size->f x <= kn f b n):JA f a b (o.push x) (i+1) j:=by
 have g:=Jm.chunk h 1 fun u z y U=>by
  rw [ZFB hx,yAN] at z
  obtain ⟨n,L,O,J,_⟩:=ZC9 (f:=f) U
  rw [z,<- J]
  exact hc n L O
 rw [ZFB hx] at g
 unfold JA
 rw [Array.toList_push]
 exact g
theorem JA.pushB {x:Keyed} (h:JA f a b o i j) (hx:b[j]?=some x) (hc:∀ n,i <= n->n < a.size->f x <= kn f a n):JA f a b (o.push x) i (j+1) :=
 (JA.pushA (Jm.swap h) hx hc).swap
theorem JA.chunkA (h:JA f a b o i j) (k:Nat) (hc:∀ n m,i <= n->n < i+k->n < a.size->j <= m->m < b.size->kn f a n <= kn f b m):JA f a b (o++a.extract i (i+k)) (i+k) j:=by
 have g:=Jm.chunk h k fun u Z y hy=>by
  obtain ⟨n,U,Y,L,z⟩:=mem_take (f:=f) Z
  obtain ⟨m,O,m2,J,_⟩:=ZC9 (f:=f) hy
  rw [<- z,<- J]
  exact hc n m U Y L O m2
 unfold JA
 rw [yBT,ZES]
 exact g
theorem JA.chunkB (h:JA f a b o i j) (k:Nat) (hc:∀ n m,j <= n->n < j+k->n < b.size->i <= m->m < a.size->kn f b n <= kn f a m):JA f a b (o++b.extract j (j+k)) i (j+k) :=
 (JA.chunkA (Jm.swap h) k hc).swap
theorem Up.sub {xs:Array Keyed} {n:Nat} (h:Up f xs 0 n) {lo m:Nat} (e:lo+m <= n):Up f xs lo m:=fun i j J z L=>h i j (yAH _) z (by omega)
noncomputable def R7 (f:Keyed->Int) (a b:Array Keyed) (st:SortSt) (x:Nat):ForInStep C7->SortSt->Prop
 | .done c,st'=>Ev st st' /\ ((∃ r z,c=(some r,z) /\ Fin f a b r)∨∃ o i j g ac bc,c=(none,o,i,j,g,ac,bc) /\ JA f a b o i j /\ i+1 < a.size /\ j < b.size /\ x+2 <= i+j)
 | .yield c,st'=>Ev st st' /\ ∃ o i j g ac bc,c=(none,o,i,j,g,ac,bc) /\ JA f a b o i j /\ i+1 < a.size /\ j < b.size /\ x+2 <= i+j
theorem mLo_ok {st:SortSt} {Q:Array Keyed->SortSt->Prop} (L:Asks M A E s κ a₀ f) (hk:kindOf st=κ) (T:Two a₀ f a b) (h:∀ r st',Ev st st'->Fin f a b r->Q r st'):wpS M A E s (mLo a b) Q st:=by
 have ta:=T.na
 have tb:=T.nb
 have ua:∀ n m,n <= m->m < a.size->kn f a n <= kn f a m:=fun n m z1 z2=>T.ua n m (yAH _) z1 (by omega)
 have ub:∀ n m,n <= m->m < b.size->kn f b n <= kn f b m:=fun n m z1 z2=>T.ub n m (yAH _) z1 (by omega)
 rw [mLo_low]
 refine wpS_bind (wpS_lift (wpAny_rule ⟨rfl,?_⟩))
 obtain ⟨y0,a4⟩:=ZCi (a:=b) (i:=0) (by omega)
 refine wpS_bind (ZAl a4 ?_)
 have J0:JA f a b #[y0] 0 1:=by
  have e:JA f a b #[] 0 0:=⟨by simp,by simpa using ZFN T.ua,by simpa using ZFN T.ub⟩
  have:=JA.pushB e a4 fun n _ n2=>by rw [<- ZBD (f:=f) a4];exact T.lo n n2
  exact this
 by_cases c1:1=b.size
 .rw [if_pos (by simpa using c1)]
  exact wpS_pure (h _ st .refl (J0.dn (.inr (by omega))))
 rw [if_neg (by simpa using c1)]
 by_cases c2:0+1=a.size
 .rw [if_pos (by simpa using c2)]
  exact wpS_pure (h _ st .refl (J0.la T c2))
 rw [if_neg (by simpa using c2)]
 refine wpS_bind (wpS_get ?_)
 refine wpS_bind (wpS_mono (wpS_forRange (I:=fun x c st'=>Ev st st' /\ ∃ o i j g,c=(none,o,i,j,g) /\ JA f a b o i j /\ i+1 < a.size /\ j < b.size /\ x+1 <= i+j) (Q:=fun c st'=>Ev st st' /\ ∃ r z,c=(some r,z) /\ Fin f a b r) ?_ ?_ ⟨.refl,_,0,1,_,rfl,J0,by omega,by omega,by omega⟩) ?_)
 .rintro x c a2 _ hx ⟨e1,o,i,j,g,rfl,J,hi,Y,hp⟩
  unfold loO
  dsimp only
  refine wpS_bind (wpS_mono (wpS_forRange (I:=fun y c st'=>Ev st st' /\ ∃ o i j ac bc,c=(none,o,i,j,ac,bc) /\ JA f a b o i j /\ i+1 < a.size /\ j < b.size /\ x+1+y <= i+j)
   (Q:=fun c st'=>Ev st st' /\ ((∃ r z,c=(some r,z) /\ Fin f a b r)∨∃ o i j ac bc,c=(none,o,i,j,ac,bc) /\ JA f a b o i j /\ i+1 < a.size /\ j < b.size /\ x+2 <= i+j)) ?_ ?_ ⟨e1,o,i,j,0,0,rfl,J,hi,Y,by omega⟩) ?_)
  .rintro y c st2 _ hy ⟨e2,o,i,j,ac,bc,rfl,J,hi,Y,hp⟩
   unfold lo1
   dsimp only
   obtain ⟨yb,U⟩:=ZCi (a:=b) Y
   obtain ⟨xa,O⟩:=ZCi (a:=a) (i:=i) (by omega)
   refine wpS_bind (ZAl U ?_)
   refine wpS_bind (ZAl O ?_)
   refine wpS_bind (L.lt yb xa (T.ib.get U) (T.ia.get O) st2 _ (e2.k.trans hk) ?_)
   by_cases hw:f yb < f xa
   .rw [decide_eq_true hw]
    dsimp only
    rw [if_pos rfl]
    refine wpS_bind (ZAl U ?_)
    have J2:=J.pushB U fun n n1 n2=>by
     have:=ua i n n1 n2
     rw [ZBD O] at this
     omega
    by_cases c3:j+1=b.size
    .rw [if_pos (by simpa using c3)]
     exact wpS_pure ⟨e2,.inl ⟨_,_,rfl,J2.dn (.inr (by omega))⟩⟩
    rw [if_neg (by simpa using c3)]
    split
    .exact wpS_pure ⟨e2,.inr ⟨_,_,_,_,_,rfl,J2,hi,by omega,by omega⟩⟩
    .exact wpS_pure ⟨e2,_,_,_,_,_,rfl,J2,hi,by omega,by omega⟩
   .rw [decide_eq_false hw]
    dsimp only
    rw [if_neg (by decide)]
    refine wpS_bind (ZAl O ?_)
    have J2:=J.pushA O fun n n1 n2=>by
     have:=ub j n n1 n2
     rw [ZBD U] at this
     omega
    by_cases c3:i+1+1=a.size
    .rw [if_pos (by simpa using c3)]
     exact wpS_pure ⟨e2,.inl ⟨_,_,rfl,J2.la T c3⟩⟩
    rw [if_neg (by simpa using c3)]
    split
    .exact wpS_pure ⟨e2,.inr ⟨_,_,_,_,_,rfl,J2,by omega,Y,by omega⟩⟩
    .exact wpS_pure ⟨e2,_,_,_,_,_,rfl,J2,by omega,Y,by omega⟩
  .rintro c st2 ⟨e2,o,i,j,ac,bc,rfl,J,hi,Y,hp⟩
   exact ⟨e2,.inr ⟨_,_,_,_,_,rfl,J,hi,Y,by omega⟩⟩
  .rintro c st2 ⟨e2,⟨r,z,rfl,hr⟩ | ⟨o,i,j,ac,bc,rfl,J,hi,Y,hp⟩⟩
   .exact wpS_pure ⟨e2,r,_,rfl,hr⟩
   dsimp only
   refine wpS_bind (wpS_lift (wpAny_rule ⟨rfl,?_⟩))
   refine wpS_bind (wpS_mono (wpS_forRange (I:=fun y c st'=>Ev st st' /\ ∃ o i j g ac bc,c=(none,o,i,j,g,ac,bc) /\ JA f a b o i j /\ i+1 < a.size /\ j < b.size /\ x+2 <= i+j)
    (Q:=fun c st'=>Ev st st' /\ ((∃ r z,c=(some r,z) /\ Fin f a b r)∨∃ o i j g ac bc,c=(none,o,i,j,g,ac,bc) /\ JA f a b o i j /\ i+1 < a.size /\ j < b.size /\ x+2 <= i+j)) ?_ ?_ ⟨e2,o,i,j,_,ac,bc,rfl,J,hi,Y,hp⟩) ?_)
   .rintro y c st3 _ hy ⟨e3,o,i,j,g,ac,bc,rfl,J,hi,Y,hp⟩
    have a1:∀ (g ac bc:Nat) (o:Array Keyed) (i j:Nat) (st4:SortSt) (xa:Keyed),Ev st st4->JA f a b o i j->i+1 < a.size->j < b.size->x+2 <= i+j->a[i]?=some xa->(∀ n,j <= n->n < b.size->f xa <= kn f b n) ->
      wpS M A E s (lo4 a b g ac bc o i j) (R7 f a b st x) st4:=by
     intro g ac bc o i j st4 xa Z J hi Y hp O a3
     unfold lo4
     refine wpS_bind (ZAl O ?_)
     have J2:=J.pushA O a3
     by_cases c3:i+1+1=a.size
     .rw [if_pos (by simpa using c3)]
      exact wpS_pure ⟨Z,.inl ⟨_,_,rfl,J2.la T c3⟩⟩
     rw [if_neg (by simpa using c3)]
     split
     .exact wpS_pure ⟨Z,.inr ⟨_,_,_,_,_,_,rfl,J2,by omega,Y,by omega⟩⟩
     .exact wpS_pure ⟨Z,_,_,_,_,_,_,rfl,J2,by omega,Y,by omega⟩
    have a0:∀ (g ac bc:Nat) (o:Array Keyed) (i j:Nat) (st4:SortSt) (yb:Keyed),Ev st st4->JA f a b o i j->i+1 < a.size->j < b.size->x+2 <= i+j->b[j]?=some yb->(∀ n,i <= n->n < a.size->f yb <= kn f a n) ->
      wpS M A E s (lo3 a b g ac bc o i j) (R7 f a b st x) st4:=by
     intro g ac bc o i j st4 yb Z J hi Y hp U a3
     unfold lo3
     refine wpS_bind (ZAl U ?_)
     have J2:=J.pushB U a3
     by_cases c3:j+1=b.size
     .rw [if_pos (by simpa using c3)]
      exact wpS_pure ⟨Z,.inl ⟨_,_,rfl,J2.dn (.inr (by omega))⟩⟩
     rw [if_neg (by simpa using c3)]
     obtain ⟨xa,O⟩:=ZCi (a:=a) (i:=i) (by omega)
     refine wpS_bind (ZAl O ?_)
     refine wpS_bind (ZEQ L (Z.k.trans hk) T.ib (T.ia.get O) (by omega) (by omega) (T.ub.sub (by omega)) fun k k1 k2 k3=>?_)
     dsimp only
     have rest:∀ n,j+1+k <= n->n < b.size->f xa <= kn f b n:=fun n n1 n2=>by
      have:=k3 (n-(j+1)) (by omega) (by omega)
      rw [show j+1+(n-(j+1))=n by omega] at this
      exact this
     by_cases hk0:k > 0
     .rw [if_pos hk0]
      have J3:=J2.chunkB k fun n m n1 n2 n3 m1 m2=>by
       have z:=k2 (n-(j+1)) (by omega)
       rw [show j+1+(n-(j+1))=n by omega] at z
       have z2:=ua i m m1 m2
       rw [ZBD O] at z2
       omega
      by_cases c4:j+1+k=b.size
      .rw [if_pos (by simpa using c4)]
       exact wpS_pure ⟨Z,.inl ⟨_,_,rfl,J3.dn (.inr (by omega))⟩⟩
      rw [if_neg (by simpa using c4)]
      exact a1 _ _ _ _ _ _ _ xa Z J3 hi (by omega) (by omega) O rest
     .rw [if_neg hk0]
      have:k=0:=by omega
      subst this
      exact a1 _ _ _ _ _ _ _ xa Z J2 hi (by omega) (by omega) O rest
    have two:∀ (g ac bc:Nat),wpS M A E s (lo2 a b g ac bc o i j) (R7 f a b st x) st3:=by
     intro g ac bc
     unfold lo2
     obtain ⟨yb,U⟩:=ZCi (a:=b) Y
     refine wpS_bind (wpS_modify ?_)
     have Z:=e3.setG g
     refine wpS_bind (ZAl U ?_)
     refine wpS_bind (ZFE L (Z.k.trans hk) T.ia (T.ib.get U) (by omega) (by omega) (T.ua.sub (by omega)) fun k k1 k2 k3=>?_)
     dsimp only
     have rest:∀ n,i+k <= n->n < a.size->f yb <= kn f a n:=fun n n1 n2=>by
      have:=k3 (n-i) (by omega) (by omega)
      rw [show i+(n-i)=n by omega] at this
      omega
     by_cases hk0:k > 0
     .rw [if_pos hk0]
      have J3:=J.chunkA k fun n m n1 n2 n3 m1 m2=>by
       have z:=k2 (n-i) (by omega)
       rw [show i+(n-i)=n by omega] at z
       have z2:=ub j m m1 m2
       rw [ZBD U] at z2
       omega
      by_cases c4:i+k+1=a.size
      .rw [if_pos (by simpa using c4)]
       exact wpS_pure ⟨Z,.inl ⟨_,_,rfl,J3.la T c4⟩⟩
      rw [if_neg (by simpa using c4)]
      by_cases c5:i+k=a.size
      .rw [if_pos (by simpa using c5)]
       exact wpS_pure ⟨Z,.inl ⟨_,_,rfl,J3.dn (.inl (by omega))⟩⟩
      rw [if_neg (by simpa using c5)]
      exact a0 _ _ _ _ _ _ _ yb Z J3 (by omega) Y (by omega) U rest
     .rw [if_neg hk0]
      have:k=0:=by omega
      subst this
      exact a0 _ _ _ _ _ _ _ yb Z J hi Y hp U rest
    unfold loB
    dsimp only
    split
    .exact wpS_mono (two _ _ _) fun r st' z=>by cases r <;> exact z
    .exact wpS_mono (two _ _ _) fun r st' z=>by cases r <;> exact z
   .rintro c st3 ⟨e3,o,i,j,g,ac,bc,rfl,J,hi,Y,hp⟩
    exact ⟨e3,.inr ⟨_,_,_,_,_,_,rfl,J,hi,Y,hp⟩⟩
   .rintro c st3 ⟨e3,⟨r,z,rfl,hr⟩ | ⟨o,i,j,g,ac,bc,rfl,J,hi,Y,hp⟩⟩
    .exact wpS_pure ⟨e3,r,_,rfl,hr⟩
    .dsimp only
     exact wpS_bind (wpS_modify (wpS_pure ⟨e3.setG _,_,_,_,_,rfl,J,hi,Y,by omega⟩))
 .rintro c a2 ⟨e1,o,i,j,g,rfl,J,hi,Y,hp⟩
  omega
 .rintro c a2 ⟨e1,r,z,rfl,hr⟩
  exact wpS_pure (h r a2 e1 hr)
end
end L2S
namespace L2S
open PySem PyProof.Rows
noncomputable def mHi:Array Keyed->Array Keyed->StateT SortSt Sem (Array Keyed):=sortPriv% PySem.Builtin.mergeHi
theorem mHi_eq (a b:Array Keyed):mHi a b=(do
 rule "list.sort.merge-hi"
 let tt:=a.size+b.size
 let dn (o:Array Keyed) (i j:Nat):=a.extract 0 i++b.extract 0 j++o.reverse
 let fb (o:Array Keyed) (i j:Nat):=b.extract 0 j++a.extract 0 i++o.reverse
 let mut i:=a.size-1
 let mut j:=b.size
 let mut o:Array Keyed:=#[<- elem' a i]
 if i == 0 then return dn o i j
 if j == 1 then return fb o i j
 let mut mg:=gallopOf (<- get)
 for _ in [0:tt] do
  let mut ac:=0
  let mut bc:=0
  for _ in [0:tt] do
   let some w <- lt' (<- elem' b (j-1)) (<- elem' a (i-1)) | return dn o i j
   if w then
    i:=i-1;o:=o.push (<- elem' a i);ac:=ac+1;bc:=0
    if i == 0 then return dn o i j
    if ac≥mg then break
   else
    j:=j-1;o:=o.push (<- elem' b j);bc:=bc+1;ac:=0
    if j == 1 then return fb o i j
    if bc≥mg then break
  rule "list.sort.gallop"
  mg:=mg+1
  for _ in [0:tt] do
   if mg > 1 then mg:=mg-1
   modify fun st=>setG st mg
   let some t <- gal false (<- elem' b (j-1)) a 0 i (i-1) | return dn o i j
   let k:=i-t
   ac:=k
   if k > 0 then
    o:=o++(a.extract t i).reverse;i:=t
    if i == 0 then return dn o i j
   j:=j-1;o:=o.push (<- elem' b j)
   if j == 1 then return fb o i j
   let some t <- gal true (<- elem' a (i-1)) b 0 j (j-1) | return dn o i j
   let k:=j-t
   bc:=k
   if k > 0 then
    o:=o++(b.extract t j).reverse;j:=t
    if j == 1 then return fb o i j
    if j == 0 then return dn o i j
   i:=i-1;o:=o.push (<- elem' a i)
   if i == 0 then return dn o i j
   if ac < 7 && bc < 7 then break
  mg:=mg+1
  modify fun st=>setG st mg
 unsupported "internal:list.sort.merge-bound"):=rfl
noncomputable abbrev D5:=Option (Array Keyed)×Nat×Nat×Array Keyed×Nat
noncomputable abbrev D6:=Option (Array Keyed)×Nat×Nat×Array Keyed×Nat×Nat
noncomputable abbrev D7:=Option (Array Keyed)×Nat×Nat×Array Keyed×Nat×Nat×Nat
noncomputable abbrev dnH (a b o:Array Keyed) (i j:Nat):Array Keyed:=a.extract 0 i++b.extract 0 j++o.reverse
noncomputable abbrev fbH (a b o:Array Keyed) (i j:Nat):Array Keyed:=b.extract 0 j++a.extract 0 i++o.reverse
noncomputable def hi1 (a b:Array Keyed) (mg:Nat) (c:D6):SM (ForInStep D6):=do
 let y <- elem' b (c.2.2.1-1)
 let x <- elem' a (c.2.1-1)
 let r <- lt' y x
 match r with
 | some w=>
  if w=true then do
   let x <- elem' a (c.2.1-1)
   if (c.2.1-1 == 0)=true then pure (.done (some (dnH a b (c.2.2.2.1.push x) (c.2.1-1) c.2.2.1),c.2.1-1,c.2.2.1,c.2.2.2.1.push x,c.2.2.2.2.1+1,0))
   else if c.2.2.2.2.1+1≥mg then pure (.done (none,c.2.1-1,c.2.2.1,c.2.2.2.1.push x,c.2.2.2.2.1+1,0))
   else pure (.yield (none,c.2.1-1,c.2.2.1,c.2.2.2.1.push x,c.2.2.2.2.1+1,0))
  else do
   let y <- elem' b (c.2.2.1-1)
   if (c.2.2.1-1 == 1)=true then pure (.done (some (fbH a b (c.2.2.2.1.push y) c.2.1 (c.2.2.1-1)),c.2.1,c.2.2.1-1,c.2.2.2.1.push y,0,c.2.2.2.2.2+1))
   else if c.2.2.2.2.2+1≥mg then pure (.done (none,c.2.1,c.2.2.1-1,c.2.2.2.1.push y,0,c.2.2.2.2.2+1))
   else pure (.yield (none,c.2.1,c.2.2.1-1,c.2.2.2.1.push y,0,c.2.2.2.2.2+1))
 | _=>pure (.done (some (dnH a b c.2.2.2.1 c.2.1 c.2.2.1),c.2.1,c.2.2.1,c.2.2.2.1,c.2.2.2.2.1,c.2.2.2.2.2))
noncomputable def hi4 (a b:Array Keyed) (g ac bc:Nat) (o:Array Keyed) (i j:Nat):SM (ForInStep D7):=do
 let x <- elem' a (i-1)
 if (i-1 == 0)=true then pure (.done (some (dnH a b (o.push x) (i-1) j),i-1,j,o.push x,g,ac,bc))
 else if (decide (ac < 7) && decide (bc < 7))=true then pure (.done (none,i-1,j,o.push x,g,ac,bc))
 else pure (.yield (none,i-1,j,o.push x,g,ac,bc))
noncomputable def hi3 (a b:Array Keyed) (g ac bc:Nat) (o:Array Keyed) (i j:Nat):SM (ForInStep D7):=do
 let y <- elem' b (j-1)
 if (j-1 == 1)=true then pure (.done (some (fbH a b (o.push y) i (j-1)),i,j-1,o.push y,g,ac,bc))
 else do
  let x <- elem' a (i-1)
  let r <- gal true x b 0 (j-1) (j-1-1)
  match r with
  | some t=>
   if j-1-t > 0 then
    if (t == 1)=true then pure (.done (some (fbH a b (o.push y++(b.extract t (j-1)).reverse) i t),i,t,o.push y++(b.extract t (j-1)).reverse,g,ac,j-1-t))
    else if (t == 0)=true then pure (.done (some (dnH a b (o.push y++(b.extract t (j-1)).reverse) i t),i,t,o.push y++(b.extract t (j-1)).reverse,g,ac,j-1-t))
    else hi4 a b g ac (j-1-t) (o.push y++(b.extract t (j-1)).reverse) i t
   else hi4 a b g ac (j-1-t) (o.push y) i (j-1)
  | _=>pure (.done (some (dnH a b (o.push y) i (j-1)),i,j-1,o.push y,g,ac,bc))
noncomputable def hi2 (a b:Array Keyed) (g ac bc:Nat) (o:Array Keyed) (i j:Nat):SM (ForInStep D7):=do
 modify fun st=>setG st g
 let y <- elem' b (j-1)
 let r <- gal false y a 0 i (i-1)
 match r with
 | some t=>
  if i-t > 0 then
   if (t == 0)=true then pure (.done (some (dnH a b (o++(a.extract t i).reverse) t j),t,j,o++(a.extract t i).reverse,g,i-t,bc))
   else hi3 a b g (i-t) bc (o++(a.extract t i).reverse) t j
  else hi3 a b g (i-t) bc o i j
 | _=>pure (.done (some (dnH a b o i j),i,j,o,g,ac,bc))
noncomputable def hiB (a b:Array Keyed) (c:D7):SM (ForInStep D7) :=
 if c.2.2.2.2.1 > 1 then hi2 a b (c.2.2.2.2.1-1) c.2.2.2.2.2.1 c.2.2.2.2.2.2 c.2.2.2.1 c.2.1 c.2.2.1
 else hi2 a b c.2.2.2.2.1 c.2.2.2.2.2.1 c.2.2.2.2.2.2 c.2.2.2.1 c.2.1 c.2.2.1
noncomputable def hiO (a b:Array Keyed) (c:D5):SM (ForInStep D5):=do
 let c1 <- forIn [0:a.size+b.size] ((none,c.2.1,c.2.2.1,c.2.2.2.1,0,0):D6) fun _ d=>hi1 a b c.2.2.2.2 d
 match c1.1 with
 | some r=>pure (.done (some r,c1.2.1,c1.2.2.1,c1.2.2.2.1,c.2.2.2.2))
 | none=>do
  liftM (rule "list.sort.gallop")
  let c2 <- forIn [0:a.size+b.size] ((none,c1.2.1,c1.2.2.1,c1.2.2.2.1,c.2.2.2.2+1,c1.2.2.2.2.1,c1.2.2.2.2.2):D7) fun _ d=>hiB a b d
  match c2.1 with
  | some r=>pure (.done (some r,c2.2.1,c2.2.2.1,c2.2.2.2.1,c2.2.2.2.2.1))
  | none=>do
   modify fun st=>setG st (c2.2.2.2.2.1+1)
   pure (.yield (none,c2.2.1,c2.2.2.1,c2.2.2.2.1,c2.2.2.2.2.1+1))
theorem mHi_low (a b:Array Keyed):mHi a b=(do
 liftM (rule "list.sort.merge-hi")
 let x <- elem' a (a.size-1)
 if (a.size-1 == 0)=true then pure (dnH a b #[x] (a.size-1) b.size)
 else if (b.size == 1)=true then pure (fbH a b #[x] (a.size-1) b.size)
 else do
  let st <- get
  let c <- forIn [0:a.size+b.size] ((none,a.size-1,b.size,#[x],gallopOf st):D5) fun _ d=>hiO a b d
  match c.1 with
  | some r=>pure r
  | none=>liftM (unsupported "internal:list.sort.merge-bound":Sem (Array Keyed))):=by
 rw [mHi_eq]
 refine bnd _ fun _=>bnd _ fun y=>?_
 refine if2 rfl (if2 rfl ?_)
 refine bnd _ fun st=>bnd2 (for2 fun _ c=>?_) fun c=>?_
 .unfold hiO
  refine bnd2 (for2 fun _ d=>?_) fun c1=>?_
  .rfl
  .obtain ⟨r,i,j,o,ac,bc⟩:=c1
   cases r with
   | some r=>rfl
   | none=>
    refine bnd2 rfl fun _=>bnd2 (for2 fun _ d=>?_) fun c2=>?_
    .unfold hiB
     refine if2 ?_ ?_
     all_goals
      unfold hi2
      refine bnd2 rfl fun _=>bnd2 rfl fun y=>bnd2 rfl fun r=>?_
      cases r with
      | none=>rfl
      | some k=>
       refine if2 (if2 rfl ?_) ?_
       all_goals
        unfold hi3
        refine bnd2 rfl fun J=>if2 rfl (bnd2 rfl fun L=>bnd2 rfl fun z=>?_)
        cases z with
        | none=>rfl
        | some k2=>
         refine if2 (if2 rfl (if2 rfl ?_)) ?_
         all_goals
          unfold hi4
          refine bnd2 rfl fun O=>if2 rfl (if2 rfl rfl)
    .obtain ⟨r,i,j,o,g,ac,bc⟩:=c2
     cases r with
     | some r=>rfl
     | none=>rfl
 .obtain ⟨r,i,j,o,g⟩:=c
  cases r with
  | some r=>rfl
  | none=>rfl
end L2S
namespace L2S
open PySem PyProof.Rows
section
variable {M:Model} {A:Around} {E:Value->Shared->Prop} {s:Shared} {κ:SortKind} {a₀:Array Keyed} {f:Keyed->Int} {a b o:Array Keyed} {i j:Nat}
noncomputable abbrev JH (f:Keyed->Int) (a b o:Array Keyed) (i j:Nat):Prop:=Jm (fun x=>- f x) a.toList.reverse b.toList.reverse o.toList (a.size-i) (b.size-j)
theorem ZBg {a:Array Keyed} {i:Nat} (h:i <= a.size):a.toList.reverse.drop (a.size-i)=(a.toList.take i).reverse:=by
 rw [List.drop_reverse,yAO,show a.size-(a.size-i)=i by omega]
theorem ZEh (a:Array Keyed) (i:Nat):(a.extract 0 i).toList=a.toList.take i:=by
 rw [yCM,yCN,Nat.sub_zero]
 rfl
theorem ZEM {a:Array Keyed} {i:Nat} {x:Keyed} (h:i <= a.size) (hx:x∈a.toList.reverse.drop (a.size-i)):∃ k,k < i /\ kn f a k=f x:=by
 rw [ZBg h,yCG] at hx
 obtain ⟨n,hn⟩:=yCF hx
 have hl:=(yAK.mp hn).1
 rw [yAP] at hl
 rw [List.getElem?_take_of_lt (by omega),yBD] at hn
 exact ⟨n,by omega,ZBD hn⟩
theorem good_rev {as bs r:List Keyed} (h:Good (fun x=>- f x) as.reverse bs.reverse r):Good f as bs r.reverse:=by
 refine ⟨?_,?_⟩
 .refine (List.reverse_perm r).trans (h.1.trans ?_)
  exact List.Perm.append (List.reverse_perm as) (List.reverse_perm bs)
 .rw [List.pairwise_reverse]
  refine h.2.imp fun {x y} z=>?_
  have w:- f x <= - f y:=z
  show f y <= f x
  omega
theorem JH.dn (h:JH f a b o i j) (hi:i <= a.size) (L:j <= b.size) (e:i=0∨j=0):Fin f a b (dnH a b o i j):=by
 have g:=Jm.dn (Jm.swap h) (e.symm.imp (fun z=>by rw [ZBg L,z];rfl) (fun z=>by rw [ZBg hi,z];rfl))
 have J:=good_rev g
 rw [ZBg hi,ZBg L,List.reverse_append,List.reverse_append,List.reverse_reverse,List.reverse_reverse,<- yAY] at J
 unfold Fin dnH
 rw [yBT,yBT,ZEh,ZEh,Array.toList_reverse]
 exact ⟨J.1.trans yCU,J.2⟩
theorem JH.fb (h:JH f a b o i j) (T:Two a₀ f a b) (hi:i <= a.size) (J:j <= b.size) (e:j=1):Fin f a b (fbH a b o i j):=by
 have g:=Jm.la (Jm.swap h) fun x hx y O=>by
  obtain ⟨k,k1,k2⟩:=ZEM (f:=f) J hx
  obtain ⟨n,U,L⟩:=ZEM (f:=f) hi O
  have:=T.lo n (by omega)
  rw [show k=0 by omega] at k2
  rw [k2,L] at this
  show-f y <= - f x
  omega
 have z:=good_rev g
 rw [ZBg hi,ZBg J,List.reverse_append,List.reverse_append,List.reverse_reverse,List.reverse_reverse,<- yAY] at z
 unfold Fin fbH
 rw [yBT,yBT,ZEh,ZEh,Array.toList_reverse]
 exact ⟨z.1.trans yCU,z.2⟩
theorem JH.chunkA (h:JH f a b o i j) {t:Nat} (ht:t <= i) (hi:i <= a.size) (J:j <= b.size) (hc:∀ n m,t <= n->n < i->m < j->kn f b m <= kn f a n):JH f a b (o++(a.extract t i).reverse) t j:=by
 have e:(a.toList.reverse.drop (a.size-i)).take (i-t)=(a.extract t i).reverse.toList:=by
  rw [ZBg hi,List.take_reverse,Array.toList_reverse,yCM,yCN,yAP,yAO,yCV hi,show i-(i-t)=t by omega,List.drop_take]
 have g:=Jm.chunk h (i-t) fun u z y U=>by
  obtain ⟨m,L,m2⟩:=ZEM (f:=f) J U
  rw [e,Array.toList_reverse,yCG,show i=t+(i-t) by omega,ZES] at z
  obtain ⟨n,O,n2,Z,Y⟩:=mem_take (f:=f) z
  have:=hc n m O (by omega) L
  show-f u <= - f y
  omega
 rw [e] at g
 unfold JH
 rw [yBT,show a.size-t=a.size-i+(i-t) by omega]
 exact g
theorem JH.chunkB (h:JH f a b o i j) {t:Nat} (J:t <= j) (hi:i <= a.size) (z:j <= b.size) (hc:∀ n m,t <= n->n < j->m < i->kn f a m <= kn f b n):JH f a b (o++(b.extract t j).reverse) i t :=
 (JH.chunkA (Jm.swap h) J z hi hc).swap
theorem one_rev {x:Keyed} (hx:a[i-1]?=some x) (hi:1 <= i):(a.extract (i-1) i).reverse=#[x]:=by
 have e:(a.extract (i-1) i).toList=[x]:=by
  have:=ZES a (i-1) 1
  rw [show i-1+1=i by omega] at this
  rw [this]
  exact ZFB hx
 apply Array.toList_inj.mp
 rw [Array.toList_reverse,e]
 rfl
theorem JH.pushA {x:Keyed} (h:JH f a b o i j) (hx:a[i-1]?=some x) (h1:1 <= i) (hi:i <= a.size) (z:j <= b.size) (hc:∀ m,m < j->kn f b m <= f x):JH f a b (o.push x) (i-1) j:=by
 have g:=JH.chunkA h (t:=i-1) (by omega) hi z fun n m L O J=>by
  rw [show n=i-1 by omega,ZBD hx]
  exact hc m J
 rw [one_rev hx h1] at g
 rw [show o.push x=o++#[x] from rfl]
 exact g
theorem JH.pushB {x:Keyed} (h:JH f a b o i j) (hx:b[j-1]?=some x) (h1:1 <= j) (hi:i <= a.size) (z:j <= b.size) (hc:∀ m,m < i->kn f a m <= f x):JH f a b (o.push x) i (j-1) :=
 (JH.pushA (Jm.swap h) hx h1 z hi hc).swap
structure At (f:Keyed->Int) (a b:Array Keyed) (x:Nat) (i j:Nat) (o:Array Keyed):Prop where
 J:JH f a b o i j
 i1:1 <= i
 i2:i <= a.size
 j1:2 <= j
 j2:j <= b.size
 p:x+i+j <= a.size+b.size
noncomputable def R7h (f:Keyed->Int) (a b:Array Keyed) (st:SortSt) (x:Nat):ForInStep D7->SortSt->Prop
 | .done c,st'=>Ev st st' /\ ((∃ r z,c=(some r,z) /\ Fin f a b r)∨∃ i j o g ac bc,c=(none,i,j,o,g,ac,bc) /\ At f a b x i j o)
 | .yield c,st'=>Ev st st' /\ ∃ i j o g ac bc,c=(none,i,j,o,g,ac,bc) /\ At f a b x i j o
theorem mHi_ok {st:SortSt} {Q:Array Keyed->SortSt->Prop} (L:Asks M A E s κ a₀ f) (hk:kindOf st=κ) (T:Two a₀ f a b) (h:∀ r st',Ev st st'->Fin f a b r->Q r st'):wpS M A E s (mHi a b) Q st:=by
 have ta:=T.na
 have tb:=T.nb
 have ua:∀ n m,n <= m->m < a.size->kn f a n <= kn f a m:=fun n m z1 z2=>T.ua n m (yAH _) z1 (by omega)
 have ub:∀ n m,n <= m->m < b.size->kn f b n <= kn f b m:=fun n m z1 z2=>T.ub n m (yAH _) z1 (by omega)
 have pr:∀ l:List Keyed,l.Pairwise (leK f)->l.reverse.Pairwise (leK fun x=>- f x):=fun l z=>by
  rw [List.pairwise_reverse]
  refine z.imp fun {x y} w=>?_
  have w':f x <= f y:=w
  show-f y <= - f x
  omega
 rw [mHi_low]
 refine wpS_bind (wpS_lift (wpAny_rule ⟨rfl,?_⟩))
 obtain ⟨x0,a4⟩:=ZCi (a:=a) (i:=a.size-1) (by omega)
 refine wpS_bind (ZAl a4 ?_)
 have J0:JH f a b #[x0] (a.size-1) b.size:=by
  have e:JH f a b #[] a.size b.size:=⟨by simp,by simpa using pr _ (ZFN T.ua),by simpa using pr _ (ZFN T.ub)⟩
  exact JH.pushA e a4 ta (yAB _) (yAB _) fun m m1=>by rw [<- ZBD (f:=f) a4];exact T.hi m m1
 by_cases c1:a.size-1=0
 .rw [if_pos (by simpa using c1)]
  exact wpS_pure (h _ st .refl (J0.dn (by omega) (yAB _) (.inl c1)))
 rw [if_neg (by simpa using c1)]
 by_cases c2:b.size=1
 .rw [if_pos (by simpa using c2)]
  exact wpS_pure (h _ st .refl (J0.fb T (by omega) (yAB _) c2))
 rw [if_neg (by simpa using c2)]
 refine wpS_bind (wpS_get ?_)
 refine wpS_bind (wpS_mono (wpS_forRange (I:=fun x c st'=>Ev st st' /\ ∃ i j o g,c=(none,i,j,o,g) /\ At f a b (x+1) i j o) (Q:=fun c st'=>Ev st st' /\ ∃ r z,c=(some r,z) /\ Fin f a b r) ?_ ?_ ⟨.refl,_,_,_,_,rfl,J0,by omega,by omega,by omega,by omega,by omega⟩) ?_)
 .rintro x c a2 _ hx ⟨e1,i,j,o,g,rfl,W⟩
  unfold hiO
  dsimp only
  refine wpS_bind (wpS_mono (wpS_forRange (I:=fun y c st'=>Ev st st' /\ ∃ i j o ac bc,c=(none,i,j,o,ac,bc) /\ At f a b (x+1+y) i j o)
   (Q:=fun c st'=>Ev st st' /\ ((∃ r z,c=(some r,z) /\ Fin f a b r)∨∃ i j o ac bc,c=(none,i,j,o,ac,bc) /\ At f a b (x+2) i j o)) ?_ ?_ ⟨e1,i,j,o,0,0,rfl,W⟩) ?_)
  .rintro y c st2 _ hy ⟨e2,i,j,o,ac,bc,rfl,J,i1,Y,j1,Z,hp⟩
   unfold hi1
   dsimp only
   obtain ⟨yb,U⟩:=ZCi (a:=b) (i:=j-1) (by omega)
   obtain ⟨xa,O⟩:=ZCi (a:=a) (i:=i-1) (by omega)
   refine wpS_bind (ZAl U ?_)
   refine wpS_bind (ZAl O ?_)
   refine wpS_bind (L.lt yb xa (T.ib.get U) (T.ia.get O) st2 _ (e2.k.trans hk) ?_)
   by_cases hw:f yb < f xa
   .rw [decide_eq_true hw]
    dsimp only
    rw [if_pos rfl]
    refine wpS_bind (ZAl O ?_)
    have J2:=J.pushA O i1 Y Z fun m m1=>by
     have:=ub m (j-1) (by omega) (by omega)
     rw [ZBD U] at this
     omega
    by_cases c3:i-1=0
    .rw [if_pos (by simpa using c3)]
     exact wpS_pure ⟨e2,.inl ⟨_,_,rfl,J2.dn (by omega) Z (.inl c3)⟩⟩
    rw [if_neg (by simpa using c3)]
    split
    .exact wpS_pure ⟨e2,.inr ⟨_,_,_,_,_,rfl,J2,by omega,by omega,j1,Z,by omega⟩⟩
    .exact wpS_pure ⟨e2,_,_,_,_,_,rfl,J2,by omega,by omega,j1,Z,by omega⟩
   .rw [decide_eq_false hw]
    dsimp only
    rw [if_neg (by decide)]
    refine wpS_bind (ZAl U ?_)
    have J2:=J.pushB U (by omega) Y Z fun m m1=>by
     have:=ua m (i-1) (by omega) (by omega)
     rw [ZBD O] at this
     omega
    by_cases c3:j-1=1
    .rw [if_pos (by simpa using c3)]
     exact wpS_pure ⟨e2,.inl ⟨_,_,rfl,J2.fb T Y (by omega) c3⟩⟩
    rw [if_neg (by simpa using c3)]
    split
    .exact wpS_pure ⟨e2,.inr ⟨_,_,_,_,_,rfl,J2,i1,Y,by omega,by omega,by omega⟩⟩
    .exact wpS_pure ⟨e2,_,_,_,_,_,rfl,J2,i1,Y,by omega,by omega,by omega⟩
  .rintro c st2 ⟨e2,i,j,o,ac,bc,rfl,J,i1,Y,j1,Z,hp⟩
   exact ⟨e2,.inr ⟨_,_,_,_,_,rfl,J,i1,Y,j1,Z,by omega⟩⟩
  .rintro c st2 ⟨e2,⟨r,z,rfl,hr⟩ | ⟨i,j,o,ac,bc,rfl,W⟩⟩
   .exact wpS_pure ⟨e2,r,_,rfl,hr⟩
   dsimp only
   refine wpS_bind (wpS_lift (wpAny_rule ⟨rfl,?_⟩))
   refine wpS_bind (wpS_mono (wpS_forRange (I:=fun y c st'=>Ev st st' /\ ∃ i j o g ac bc,c=(none,i,j,o,g,ac,bc) /\ At f a b (x+2) i j o)
    (Q:=fun c st'=>Ev st st' /\ ((∃ r z,c=(some r,z) /\ Fin f a b r)∨∃ i j o g ac bc,c=(none,i,j,o,g,ac,bc) /\ At f a b (x+2) i j o)) ?_ ?_ ⟨e2,i,j,o,_,ac,bc,rfl,W⟩) ?_)
   .rintro y c st3 _ hy ⟨e3,i,j,o,g,ac,bc,rfl,J,i1,Y,j1,Z,hp⟩
    have a1:∀ (g ac bc:Nat) (o:Array Keyed) (i j:Nat) (st4:SortSt) (xa:Keyed),Ev st st4->At f a b (x+2) i j o->a[i-1]?=some xa->(∀ n,n < j->kn f b n <= f xa)->wpS M A E s (hi4 a b g ac bc o i j) (R7h f a b st (x+2)) st4:=by
     rintro g ac bc o i j st4 xa e4 ⟨J,i1,Y,j1,Z,hp⟩ O a3
     unfold hi4
     refine wpS_bind (ZAl O ?_)
     have J2:=J.pushA O i1 Y Z a3
     by_cases c3:i-1=0
     .rw [if_pos (by simpa using c3)]
      exact wpS_pure ⟨e4,.inl ⟨_,_,rfl,J2.dn (by omega) Z (.inl c3)⟩⟩
     rw [if_neg (by simpa using c3)]
     split
     .exact wpS_pure ⟨e4,.inr ⟨_,_,_,_,_,_,rfl,J2,by omega,by omega,j1,Z,by omega⟩⟩
     .exact wpS_pure ⟨e4,_,_,_,_,_,_,rfl,J2,by omega,by omega,j1,Z,by omega⟩
    have a0:∀ (g ac bc:Nat) (o:Array Keyed) (i j:Nat) (st4:SortSt) (yb:Keyed),Ev st st4->At f a b (x+2) i j o->b[j-1]?=some yb->(∀ n,n < i->kn f a n <= f yb)->wpS M A E s (hi3 a b g ac bc o i j) (R7h f a b st (x+2)) st4:=by
     rintro g ac bc o i j st4 yb e4 ⟨J,i1,Y,j1,Z,hp⟩ U a3
     unfold hi3
     refine wpS_bind (ZAl U ?_)
     have J2:=J.pushB U (by omega) Y Z a3
     by_cases c3:j-1=1
     .rw [if_pos (by simpa using c3)]
      exact wpS_pure ⟨e4,.inl ⟨_,_,rfl,J2.fb T Y (by omega) c3⟩⟩
     rw [if_neg (by simpa using c3)]
     obtain ⟨xa,O⟩:=ZCi (a:=a) (i:=i-1) (by omega)
     refine wpS_bind (ZAl O ?_)
     refine wpS_bind (ZEQ L (e4.k.trans hk) T.ib (T.ia.get O) (by omega) (by omega) (T.ub.sub (by omega)) fun t k1 k2 k3=>?_)
     dsimp only
     have rest:∀ n,n < t->kn f b n <= f xa:=fun n n1=>by
      have:=k2 n n1
      rw [yCH] at this
      omega
     by_cases hk0:j-1-t > 0
     .rw [if_pos hk0]
      have J3:=J2.chunkB k1 Y (by omega) fun n m n1 n2 m1=>by
       have z:=k3 n n1 n2
       rw [yCH] at z
       have z2:=ua m (i-1) (by omega) (by omega)
       rw [ZBD O] at z2
       omega
      by_cases c4:t=1
      .rw [if_pos (by simpa using c4)]
       exact wpS_pure ⟨e4,.inl ⟨_,_,rfl,J3.fb T Y (by omega) c4⟩⟩
      rw [if_neg (by simpa using c4)]
      by_cases c5:t=0
      .rw [if_pos (by simpa using c5)]
       exact wpS_pure ⟨e4,.inl ⟨_,_,rfl,J3.dn Y (by omega) (.inr c5)⟩⟩
      rw [if_neg (by simpa using c5)]
      exact a1 _ _ _ _ _ _ _ xa e4 ⟨J3,i1,Y,by omega,by omega,by omega⟩ O rest
     .rw [if_neg hk0]
      have:t=j-1:=by omega
      subst this
      exact a1 _ _ _ _ _ _ _ xa e4 ⟨J2,i1,Y,by omega,by omega,by omega⟩ O rest
    have two:∀ (g ac bc:Nat),wpS M A E s (hi2 a b g ac bc o i j) (R7h f a b st (x+2)) st3:=by
     intro g ac bc
     unfold hi2
     obtain ⟨yb,U⟩:=ZCi (a:=b) (i:=j-1) (by omega)
     refine wpS_bind (wpS_modify ?_)
     have e4:=e3.setG g
     refine wpS_bind (ZAl U ?_)
     refine wpS_bind (ZFE L (e4.k.trans hk) T.ia (T.ib.get U) (by omega) (by omega) (T.ua.sub (by omega)) fun t k1 k2 k3=>?_)
     dsimp only
     have rest:∀ n,n < t->kn f a n <= f yb:=fun n n1=>by
      have:=k2 n n1
      rw [yCH] at this
      exact this
     by_cases hk0:i-t > 0
     .rw [if_pos hk0]
      have J3:=J.chunkA k1 Y Z fun n m n1 n2 m1=>by
       have z:=k3 n n1 n2
       rw [yCH] at z
       have z2:=ub m (j-1) (by omega) (by omega)
       rw [ZBD U] at z2
       omega
      by_cases c4:t=0
      .rw [if_pos (by simpa using c4)]
       exact wpS_pure ⟨e4,.inl ⟨_,_,rfl,J3.dn (by omega) Z (.inl c4)⟩⟩
      rw [if_neg (by simpa using c4)]
      exact a0 _ _ _ _ _ _ _ yb e4 ⟨J3,by omega,by omega,j1,Z,by omega⟩ U rest
     .rw [if_neg hk0]
      have:t=i:=by omega
      subst this
      exact a0 _ _ _ _ _ _ _ yb e4 ⟨J,i1,Y,j1,Z,hp⟩ U rest
    unfold hiB
    dsimp only
    split
    .exact wpS_mono (two _ _ _) fun r st' z=>by cases r <;> exact z
    .exact wpS_mono (two _ _ _) fun r st' z=>by cases r <;> exact z
   .rintro c st3 ⟨e3,i,j,o,g,ac,bc,rfl,W⟩
    exact ⟨e3,.inr ⟨_,_,_,_,_,_,rfl,W⟩⟩
   .rintro c st3 ⟨e3,⟨r,z,rfl,hr⟩ | ⟨i,j,o,g,ac,bc,rfl,W⟩⟩
    .exact wpS_pure ⟨e3,r,_,rfl,hr⟩
    .dsimp only
     exact wpS_bind (wpS_modify (wpS_pure ⟨e3.setG _,_,_,_,_,rfl,W⟩))
 .rintro c a2 ⟨e1,i,j,o,g,rfl,J,i1,Y,j1,Z,hp⟩
  omega
 .rintro c a2 ⟨e1,r,z,rfl,hr⟩
  exact wpS_pure (h r a2 e1 hr)
end
end L2S
namespace L2S
open PySem PyProof.Rows
noncomputable abbrev PT:=Nat×Nat×Nat
noncomputable def ZDX (xs m:Array Keyed) (lo:Nat):Array Keyed:=m.toList.zipIdx.foldl (fun a (p,j)=>a.setIfInBounds (lo+j) p) xs
theorem mAt_eq (i:Nat):mergeAt' i=(do
 let z <- get
 let (some (s1,n1,w1),some (s2,n2,_)):=((pendingOf z)[i]?,(pendingOf z)[i+1]?) | unsupported "internal:list.sort.pending"
 set (setPending z (((pendingOf z).setIfInBounds i (s1,n1+n2,w1)).eraseIdxIfInBounds (i+1)))
 let some k <- gal false (<- elem' (arrOf z) s2) (arrOf z) s1 n1 0 | return false
 let (s1,n1):=(s1+k,n1-k)
 if n1 == 0 then return true
 let some n2 <- gal true (<- elem' (arrOf z) (s1+n1-1)) (arrOf z) s2 n2 (n2-1) | return false
 if n2 == 0 then return true
 let x:=(arrOf z).extract s1 s2
 let y:=(arrOf z).extract s2 (s2+n2)
 let m <- if n1 <= n2 then mLo x y else mHi x y
 modify fun z=>setArr z (ZDX (arrOf z) m s1)
 return (failedOf (<- get)).isNone):=rfl
theorem wpS_set {M:Model} {A:Around} {E:Value->Shared->Prop} {s:Shared} {σ:Type} {x:σ} {Q:PUnit->σ->Prop} {st:σ} (h:Q ⟨⟩ x):wpS M A E s (set x:StateT σ Sem PUnit) Q st:=by
 unfold wpS;rw [StateT.run_set];exact wpAny_pure ⟨rfl,h⟩
theorem lay_go (lo:Nat):∀ (l:List Keyed) (k:Nat) (xs:Array Keyed),lo+k+l.length <= xs.size ->
  (((l.zipIdx k).foldl (fun a (p:Keyed×Nat)=>a.setIfInBounds (lo+p.2) p.1) xs).size=xs.size) /\ ∀ n,((l.zipIdx k).foldl (fun a (p:Keyed×Nat)=>a.setIfInBounds (lo+p.2) p.1) xs)[n]?=if lo+k <= n /\ n < lo+k+l.length then l[n-(lo+k)]? else xs[n]?
 | [],k,xs,_=>by
  refine ⟨rfl,fun n=>?_⟩
  rw [if_neg (fun z=>by rw [yBL] at z;omega)]
  rfl
 | x::r,k,xs,h=>by
  rw [yAQ] at h
  rw [List.zipIdx_cons,List.foldl_cons]
  obtain ⟨L,J⟩:=lay_go lo r (k+1) (xs.setIfInBounds (lo+k) x) (by rw [Array.size_setIfInBounds];omega)
  refine ⟨by rw [L,Array.size_setIfInBounds],fun n=>?_⟩
  rw [J,yAQ]
  by_cases c1:lo+(k+1) <= n /\ n < lo+(k+1)+r.length
  .rw [if_pos c1,if_pos (by omega),show n-(lo+k)=(n-(lo+(k+1)))+1 by omega,List.getElem?_cons_succ]
  .rw [if_neg c1,Array.getElem?_setIfInBounds]
   by_cases c2:lo+k=n
   .rw [if_pos c2,if_pos (by omega),if_pos (by omega),show n-(lo+k)=0 by omega]
    rfl
   .rw [if_neg c2,if_neg (by omega)]
theorem ZEN {xs m:Array Keyed} {lo:Nat} (h:lo+m.size <= xs.size) (n:Nat):(ZDX xs m lo)[n]?=if lo <= n /\ n < lo+m.size then m[n-lo]? else xs[n]?:=by
 have:=(lay_go lo m.toList 0 xs (by rw [yAO];omega)).2 n
 rw [yAO,Nat.add_zero,yBD] at this
 exact this
theorem lay_list {xs m:Array Keyed} {lo:Nat} (h:lo+m.size <= xs.size):(ZDX xs m lo).toList=xs.toList.take lo++m.toList++xs.toList.drop (lo+m.size):=by
 refine yCK fun n=>?_
 rw [yBD,ZEN h]
 by_cases c1:n < lo
 .rw [if_neg (by omega),yAY,yAX (by rw [yAP,yAO];omega),List.getElem?_take_of_lt c1,yBD]
 .by_cases c2:n < lo+m.size
  .rw [if_pos (by omega),yAY,yAW (by rw [yAP,yAO];omega),yAP,yAO,yCV (by omega),yAX (by rw [yAO];omega),yBD]
  .rw [if_neg (by omega),yAW (by rw [yAC,yAP,yAO,yAO];omega),yAC,yAP,yAO,yAO,yCV (by omega),List.getElem?_drop,yBD]
   congr 1
   omega
section
variable {M:Model} {A:Around} {E:Value->Shared->Prop} {s:Shared} {κ:SortKind} {a₀:Array Keyed} {f:Keyed->Int}
theorem SB.inA {st:SortSt} (h:SB κ a₀ st):InA a₀ (arrOf st):=fun x hx=>(Array.perm_iff_toList_perm.mp h.perm).mem_iff.mp hx
theorem ext_get {xs:Array Keyed} {i j n:Nat} (h:j <= xs.size) (hn:n < j-i):(xs.extract i j)[n]?=xs[i+n]?:=by
 rw [Array.getElem?_extract]
 rw [if_pos (by omega)]
theorem merge_at {st:SortSt} {i J na w nb v:Nat} {Q:Bool->SortSt->Prop} (L:Asks M A E s κ a₀ f) (hB:SB κ a₀ st) (p1:(pendingOf st)[i]?=some (J,na,w)) (p2:(pendingOf st)[i+1]?=some (J+na,nb,v)) (aa:1 <= na) (a9:1 <= nb) (hz:J+na+nb <= a₀.size)
  (ua:Up f (arrOf st) J na) (ub:Up f (arrOf st) (J+na) nb)
  (h:∀ st',SB κ a₀ st'->pendingOf st'=((pendingOf st).setIfInBounds i (J,na+nb,w)).eraseIdxIfInBounds (i+1)->Up f (arrOf st') J (na+nb)->(∀ k,k < J∨J+na+nb <= k->(arrOf st')[k]?=(arrOf st)[k]?)->Q true st'):wpS M A E s (mergeAt' i) Q st:=by
 have hsz:=hB.size
 rw [mAt_eq]
 refine wpS_bind (wpS_get ?_)
 rw [p1,p2]
 dsimp only
 refine wpS_bind (wpS_set ?_)
 have Z:SB κ a₀ (setPending st (((pendingOf st).setIfInBounds i (J,na+nb,w)).eraseIdxIfInBounds (i+1))):=⟨hB.perm,hB.kind,hB.fail⟩
 obtain ⟨b0,a3⟩:=ZCi (a:=arrOf st) (i:=J+na) (by omega)
 refine wpS_bind (ZAl a3 ?_)
 refine wpS_bind (ZFE L Z.kind hB.inA (hB.inA.get a3) (by omega) (by omega) ua fun k k1 k2 k3=>?_)
 dsimp only
 have a1:∀ n,J <= n->n < J+k->kn f (arrOf st) n <= f b0:=fun n U O=>by
  have:=k2 (n-J) (by omega)
  rw [show J+(n-J)=n by omega] at this
  exact this
 have Y:∀ n,J+na <= n->n < J+na+nb->f b0 <= kn f (arrOf st) n:=fun n U O=>by
  have:=ub (J+na) n (yAB _) U O
  rw [ZBD a3] at this
  exact this
 by_cases c1:na-k=0
 .rw [if_pos (by simpa using c1)]
  refine wpS_pure (h _ Z rfl (fun n m U O n3=>?_) fun _ _=>rfl)
  by_cases d1:m < J+na
  .exact ua n m U O d1
  .by_cases d2:n < J+na
   .have z1:=a1 n U (by omega)
    have z2:=Y m (by omega) (by omega)
    show kn f (arrOf st) n <= kn f (arrOf st) m
    omega
   .exact ub n m (by omega) O (by omega)
 rw [if_neg (by simpa using c1)]
 rw [show J+k+(na-k)-1=J+na-1 by omega]
 obtain ⟨aN,a2⟩:=ZCi (a:=arrOf st) (i:=J+na-1) (by omega)
 refine wpS_bind (ZAl a2 ?_)
 refine wpS_bind (ZEQ L Z.kind hB.inA (hB.inA.get a2) (by omega) (by omega) ub fun t t1 t2 t3=>?_)
 dsimp only
 have a0:∀ n,J+na+t <= n->n < J+na+nb->f aN <= kn f (arrOf st) n:=fun n U O=>by
  have:=t3 (n-(J+na)) (by omega) (by omega)
  rw [show J+na+(n-(J+na))=n by omega] at this
  exact this
 have a6:∀ n,J <= n->n < J+na->kn f (arrOf st) n <= f aN:=fun n U O=>by
  have:=ua n (J+na-1) U (by omega) (by omega)
  rw [ZBD a2] at this
  exact this
 by_cases c2:t=0
 .rw [if_pos (by simpa using c2)]
  refine wpS_pure (h _ Z rfl (fun n m U O n3=>?_) fun _ _=>rfl)
  by_cases d1:m < J+na
  .exact ua n m U O d1
  .by_cases d2:n < J+na
   .have z1:=a6 n U d2
    have z2:=a0 m (by omega) (by omega)
    show kn f (arrOf st) n <= kn f (arrOf st) m
    omega
   .exact ub n m (by omega) O (by omega)
 rw [if_neg (by simpa using c2)]
 have x1:((arrOf st).extract (J+k) (J+na)).size=na-k:=by rw [Array.size_extract];omega
 have y1:((arrOf st).extract (J+na) (J+na+t)).size=t:=by rw [Array.size_extract];omega
 have xg:∀ n,n < na-k->kn f ((arrOf st).extract (J+k) (J+na)) n=kn f (arrOf st) (J+k+n):=fun n hn=>ZA2 (ext_get (by omega) (by omega))
 have yg:∀ n,n < t->kn f ((arrOf st).extract (J+na) (J+na+t)) n=kn f (arrOf st) (J+na+n):=fun n hn=>ZA2 (ext_get (by omega) (by omega))
 have a8:∀ n,J+k <= n->n < J+na->f b0 < kn f (arrOf st) n:=fun n U O=>by
  have:=k3 (n-J) (by omega) (by omega)
  rw [show J+(n-J)=n by omega] at this
  exact this
 have a4:∀ (lo hi:Nat),InA a₀ ((arrOf st).extract lo hi):=fun lo hi x hx=>by
  rw [yCM,yCN] at hx
  exact hB.inA x (List.mem_of_mem_drop (List.mem_of_mem_take hx))
 have T:Two a₀ f ((arrOf st).extract (J+k) (J+na)) ((arrOf st).extract (J+na) (J+na+t)):={
  ia:=a4 _ _
  ib:=a4 _ _
  ua:=fun n m _ O n3=>by
   rw [xg n (by omega),xg m (by omega)]
   exact ua _ _ (by omega) (by omega) (by omega)
  ub:=fun n m _ O n3=>by
   rw [yg n (by omega),yg m (by omega)]
   exact ub _ _ (by omega) (by omega) (by omega)
  na:=by omega
  nb:=by omega
  lo:=fun n hn=>by
   rw [xg n (by omega),yg 0 (by omega),Nat.add_zero,ZBD a3]
   exact Int.le_of_lt (a8 _ (by omega) (by omega))
  hi:=fun n hn=>by
   rw [x1,xg _ (by omega),yg n (by omega),show J+k+(na-k-1)=J+na-1 by omega,ZBD a2]
   exact Int.le_of_lt (t2 n (by omega)) }
 have fin:∀ m st',Ev (setPending st (((pendingOf st).setIfInBounds i (J,na+nb,w)).eraseIdxIfInBounds (i+1))) st'->Fin f ((arrOf st).extract (J+k) (J+na)) ((arrOf st).extract (J+na) (J+na+t)) m ->
   wpS M A E s (modify (fun z=>setArr z (ZDX (arrOf z) m (J+k))) >>= fun _=>get >>= fun z=>pure (failedOf z).isNone) Q st':=by
  intro m st' ev g
  have ea:arrOf st'=arrOf st:=ev.a
  have hm:m.size=na-k+t:=by
   have:=g.1.length_eq
   rw [yAO,yAC,yAO,yAO,x1,y1] at this
   exact this
  refine wpS_bind (wpS_modify (wpS_bind (wpS_get (wpS_pure ?_))))
  have hf:failedOf st'=none:=ev.f.trans hB.fail
  show Q (failedOf st').isNone _
  rw [hf]
  have hl:J+k+m.size <= (arrOf st).size:=by omega
  have a5:∀ n,n < m.size->∃ p,J+k <= p /\ p < J+na+t /\ kn f m n=kn f (arrOf st) p:=fun n hn=>by
   obtain ⟨x,hx⟩:=ZCi (a:=m) hn
   have a7:x∈m.toList:=by
    rw [yBJ] at hx
    obtain ⟨_,rfl⟩:=hx
    simp
   have:=g.1.mem_iff.mp a7
   rw [ZBD hx]
   rcases yAR.mp this with z | z
   .obtain ⟨q,q1⟩:=yCF z
    rw [yBD] at q1
    have q2:=(yBJ.mp q1).1
    refine ⟨J+k+q,by omega,by omega,?_⟩
    rw [<- xg q (by omega),ZBD q1]
   .obtain ⟨q,q1⟩:=yCF z
    rw [yBD] at q1
    have q2:=(yBJ.mp q1).1
    refine ⟨J+na+q,by omega,by omega,?_⟩
    rw [<- yg q (by omega),ZBD q1]
  have ms:∀ n q,n <= q->q < m.size->kn f m n <= kn f m q:=fun n q U O=>by
   by_cases e:n=q
   .rw [e];exact Int.le_refl _
   .have:=List.pairwise_iff_getElem.mp g.2 n q (by rw [yAO];omega) (by rw [yAO];omega) (by omega)
    rw [ZBD (getElem?_pos m n (by omega)),ZBD (getElem?_pos m q O)]
    simpa [leK] using this
  have lk:∀ n,kn f (ZDX (arrOf st') m (J+k)) n=if J+k <= n /\ n < J+na+t then kn f m (n-(J+k)) else kn f (arrOf st) n:=fun n=>by
   rw [ea]
   have:=ZEN hl n
   by_cases e:J+k <= n /\ n < J+na+t
   .rw [if_pos e]
    rw [if_pos (by omega)] at this
    exact ZA2 this
   .rw [if_neg e]
    rw [if_neg (by omega)] at this
    exact ZA2 this
  refine h (setArr st' (ZDX (arrOf st') m (J+k))) ⟨?_,ev.k.trans hB.kind,hf⟩ ev.p (fun n q U O n3=>?_) fun n hn=>?_
  .show (ZDX (arrOf st') m (J+k)).Perm a₀
   rw [ea]
   refine Array.Perm.trans ?_ hB.perm
   rw [Array.perm_iff_toList_perm,lay_list hl]
   have e1:(arrOf st).toList=(arrOf st).toList.take (J+k)++(((arrOf st).extract (J+k) (J+na)).toList++((arrOf st).extract (J+na) (J+na+t)).toList)++(arrOf st).toList.drop (J+k+m.size):=by
    rw [yCM,yCM,yCN,yCN]
    have s1:((arrOf st).toList.drop (J+k)).take (J+na-(J+k))++((arrOf st).toList.drop (J+na)).take (J+na+t-(J+na))=((arrOf st).toList.drop (J+k)).take m.size:=by
     rw [show m.size=(J+na-(J+k))+(J+na+t-(J+na)) by omega,List.take_add,List.drop_drop,show J+k+(J+na-(J+k))=J+na by omega]
    rw [s1,yAY,show (arrOf st).toList.drop (J+k+m.size)=((arrOf st).toList.drop (J+k)).drop m.size by rw [List.drop_drop],yCL,yCL]
   conv=>rhs;rw [e1]
   exact List.Perm.append_right _ (List.Perm.append_left _ g.1)
  .show kn f (ZDX (arrOf st') m (J+k)) n <= kn f (ZDX (arrOf st') m (J+k)) q
   rw [lk,lk]
   by_cases c3:J+k <= n /\ n < J+na+t
   .rw [if_pos c3]
    by_cases c4:J+k <= q /\ q < J+na+t
    .rw [if_pos c4]
     exact ms _ _ (by omega) (by omega)
    .rw [if_neg c4]
     obtain ⟨p,q1,q2,q3⟩:=a5 (n-(J+k)) (by omega)
     rw [q3]
     by_cases c5:p < J+na
     .have z1:=a6 p (by omega) c5
      have z2:=a0 q (by omega) (by omega)
      omega
     .exact ub p q (by omega) (by omega) (by omega)
   .rw [if_neg c3]
    by_cases c4:J+k <= q /\ q < J+na+t
    .rw [if_pos c4]
     obtain ⟨p,q1,q2,q3⟩:=a5 (q-(J+k)) (by omega)
     rw [q3]
     have z1:=a1 n U (by omega)
     by_cases c5:p < J+na
     .exact ua n p U (by omega) c5
     .have z2:=Y p (by omega) (by omega)
      omega
    .rw [if_neg c4]
     by_cases c5:q < J+na
     .exact ua n q U O c5
     .by_cases c6:n < J+na
      .have z1:=a1 n U (by omega)
       have z2:=Y q (by omega) (by omega)
       omega
      .exact ub n q (by omega) O (by omega)
  .show (ZDX (arrOf st') m (J+k))[n]?=(arrOf st)[n]?
   rw [ea,ZEN hl,if_neg (by omega)]
 by_cases c3:na-k <= t
 .rw [if_pos c3]
  exact wpS_bind (mLo_ok L Z.kind T fin)
 .rw [if_neg c3]
  exact wpS_bind (mHi_ok L Z.kind T fin)
end
end L2S
namespace L2S
open PySem PyProof.Rows
section
variable {M:Model} {A:Around} {E:Value->Shared->Prop} {s:Shared} {κ:SortKind} {a₀:Array Keyed} {f:Keyed->Int}
noncomputable def Chn (f:Keyed->Int) (xs:Array Keyed):Nat->List PT->Nat->Prop
 | a,[],e=>a=e
 | a,(b,n,_)::r,e=>b=a /\ 1 <= n /\ Up f xs a n /\ Chn f xs (a+n) r e
theorem Chn.le {xs:Array Keyed}:∀ {l:List PT} {a e:Nat},Chn f xs a l e->a+l.length <= e
 | [],a,e,h=>by have:a=e:=h;rw [yBL];omega
 | (b,n,w)::r,a,e,h=>by
  obtain ⟨_,h1,_,h2⟩:=h
  have:=h2.le
  rw [yAQ]
  omega
theorem Chn.keep {xs ys:Array Keyed}:∀ {l:List PT} {a e:Nat},Chn f xs a l e->(∀ k,a <= k->k < e->ys[k]?=xs[k]?)->Chn f ys a l e
 | [],a,e,h,_=>h
 | (b,n,w)::r,a,e,⟨h0,h1,h2,h3⟩,k=>by
  have hl:=h3.le
  refine ⟨h0,h1,fun i j z L J=>?_,h3.keep fun m U O=>k m (by omega) O⟩
  rw [ZA2 (k i z (by omega)),ZA2 (k j (by omega) (by omega))]
  exact h2 i j z L J
theorem Chn.app {xs:Array Keyed}:∀ {l m:List PT} {a e:Nat},Chn f xs a (l++m) e↔∃ c,Chn f xs a l c /\ Chn f xs c m e
 | [],m,a,e=>⟨fun h=>⟨a,rfl,h⟩,fun ⟨c,h1,h2⟩=>by have:a=c:=h1;rw [this];exact h2⟩
 | (b,n,w)::r,m,a,e=>by
  constructor
  .rintro ⟨J,h1,h2,h3⟩
   obtain ⟨c,L,z⟩:=Chn.app.mp h3
   exact ⟨c,⟨J,h1,h2,L⟩,z⟩
  .rintro ⟨c,⟨J,h1,h2,L⟩,z⟩
   exact ⟨J,h1,h2,Chn.app.mpr ⟨c,L,z⟩⟩
theorem two_of {l:List PT} {i:Nat} (h:i+1 < l.length):∃ z x y l2,l=z++x::y::l2 /\ z.length=i:=by
 refine ⟨l.take i,l[i],l[i+1],l.drop (i+2),?_,by rw [yAP];omega⟩
 rw [<- List.drop_eq_getElem_cons (by omega),<- List.drop_eq_getElem_cons (by omega),yCL]
theorem join_of {z l2:List PT} {x y v:PT} {i:Nat} (h:z.length=i):((z++x::y::l2).set i v).eraseIdx (i+1)=z++v::l2:=by
 subst h
 rw [List.set_append_right _ _ (yAB _),yBU,List.set_cons_zero,List.eraseIdx_append_of_length_le (by omega),show z.length+1-z.length=1 by omega]
 rfl
theorem join_at {st:SortSt} {i lo:Nat} {Q:Bool->SortSt->Prop} (L:Asks M A E s κ a₀ f) (hB:SB κ a₀ st) (hc:Chn f (arrOf st) 0 (pendingOf st).toList lo) (a1:lo <= a₀.size) (hi:i+1 < (pendingOf st).size)
  (h:∀ st',SB κ a₀ st'->Chn f (arrOf st') 0 (pendingOf st').toList lo->(pendingOf st').size+1=(pendingOf st).size->(∀ k,lo <= k->(arrOf st')[k]?=(arrOf st)[k]?)->Q true st'):wpS M A E s (mergeAt' i) Q st:=by
 obtain ⟨l1,⟨z,O,w1⟩,⟨b2,Y,w2⟩,l2,J,hl⟩:=two_of (l:=(pendingOf st).toList) (i:=i) (by rw [yAO];exact hi)
 have U:=hc
 rw [J] at U
 obtain ⟨c,c1,rfl,c2,c3,rfl,c4,c5,c6⟩:=Chn.app.mp U
 have le:=c6.le
 have p1:(pendingOf st)[i]?=some (z,O,w1):=by
  rw [<- yBD,J,yAW (by omega),hl,yBU]
  rfl
 have p2:(pendingOf st)[i+1]?=some (z+O,Y,w2):=by
  rw [<- yBD,J,yAW (by omega),show i+1-l1.length=1 by omega]
  rfl
 refine merge_at L hB p1 p2 c2 c4 (by omega) c3 c5 fun st' a0 hp hu Z=>?_
 have e2:(pendingOf st').toList=l1++(z,O+Y,w1)::l2:=by
  rw [hp,Array.toList_eraseIdxIfInBounds,Array.toList_setIfInBounds,J]
  exact join_of hl
 refine h st' a0 ?_ ?_ fun k a3=>Z k (.inr (by omega))
 .rw [e2]
  have a2:=c1.le
  refine Chn.app.mpr ⟨z,c1.keep fun k k1 k2=>Z k (.inl k2),rfl,by omega,hu,?_⟩
  rw [show z+(O+Y)=z+O+Y by omega]
  exact c6.keep fun k k1 k2=>Z k (.inr k1)
 .have z1:=congrArg List.length e2
  have z2:=congrArg List.length J
  rw [yAO,yAC,yAQ] at z1 z2
  rw [yAQ] at z2
  omega
theorem Chn.pow {xs:Array Keyed} {l:List PT} {b n w v a e:Nat} (h:Chn f xs a (l++[(b,n,w)]) e):Chn f xs a (l++[(b,n,v)]) e:=by
 obtain ⟨c,c1,c2,J,z,L⟩:=Chn.app.mp h
 exact Chn.app.mpr ⟨c,c1,c2,J,z,L⟩
noncomputable def more (sz pw:Nat):SM (Option Unit×Unit):=forIn [0:sz] ((none,()):Option Unit×Unit) fun _ _=>do
 let z <- get
 match if (pendingOf z).size > 1 then (pendingOf z)[(pendingOf z).size-2]? else none with
 | some (_,_,old)=>
  if old <= pw then pure (ForInStep.done (none,()))
  else do
   let b <- mergeAt' ((pendingOf z).size-2)
   if (!b)=true then pure (ForInStep.done (some (),())) else pure (ForInStep.yield (none,()))
 | _=>pure (ForInStep.done (none,()))
noncomputable def pile (sz lo n:Nat):SM (ForInStep (Option Unit×Nat)):=do
 let z <- get
 match (pendingOf z).back? with
 | some (s1,n1,_)=>do
  let c <- more sz (power' sz (2 * s1+n1) (2 * s1+n1+n1+n) sz)
  match c.fst with
  | some r=>pure (ForInStep.done (some r,lo))
  | none=>do
   modify fun z=>setPending z ((pendingOf z).modify ((pendingOf z).size-1) fun x=>(x.fst,x.2.fst,power' sz (2 * s1+n1) (2 * s1+n1+n1+n) sz))
   modify fun z=>setPending z ((pendingOf z).push (lo,n,0))
   pure (ForInStep.yield (none,lo+n))
 | _=>do
  modify fun z=>setPending z ((pendingOf z).push (lo,n,0))
  pure (ForInStep.yield (none,lo+n))
noncomputable abbrev PQ (κ:SortKind) (a₀:Array Keyed) (f:Keyed->Int) (lo n:Nat) (st:SortSt):Prop:=SB κ a₀ st /\ Chn f (arrOf st) 0 (pendingOf st).toList lo /\ Up f (arrOf st) lo n
theorem more_ok {sz pw lo n:Nat} {st:SortSt} {Q:Option Unit×Unit->SortSt->Prop} (L:Asks M A E s κ a₀ f) (U:lo <= a₀.size) (Z:PQ κ a₀ f lo n st) (h:∀ st',PQ κ a₀ f lo n st'->Q (none,()) st'):wpS M A E s (more sz pw) Q st:=by
 unfold more
 refine wpS_forRange (I:=fun x c st'=>c=(none,()) /\ PQ κ a₀ f lo n st') ?_ ?_ ⟨rfl,Z⟩
 .rintro x c z _ _ ⟨rfl,Y,hc,O⟩
  refine wpS_bind (wpS_get ?_)
  by_cases h1:(pendingOf z).size > 1
  .rw [if_pos h1,getElem?_pos (pendingOf z) ((pendingOf z).size-2) (by omega)]
   dsimp only
   split
   .exact wpS_pure (h _ ⟨Y,hc,O⟩)
   .refine wpS_bind (join_at L Y hc U (by omega) fun st2 a0 a1 _ J=>?_)
    exact wpS_pure ⟨rfl,a0,a1,fun i j z1 z2 z3=>by rw [ZA2 (J i z1),ZA2 (J j (by omega))];exact O i j z1 z2 z3⟩
  .rw [if_neg h1]
   exact wpS_pure (h _ ⟨Y,hc,O⟩)
 .rintro c z ⟨rfl,Z⟩
  exact h _ Z
theorem modify_last {p:Array PT} {w:Nat} {l:List PT} {b n v:Nat} (h:p.toList=l++[(b,n,v)]):(p.modify (p.size-1) fun x=>(x.fst,x.2.fst,w)).toList=l++[(b,n,w)]:=by
 have z:p.size=l.length+1:=by rw [<- yAO,h,yAC];rfl
 refine yCK fun i=>?_
 rw [yBD,Array.getElem?_modify]
 rw [<- yBD,h]
 by_cases c:p.size-1=i
 .rw [if_pos c,yAW (by omega),yAW (by omega),show i-l.length=0 by omega]
  rfl
 .rw [if_neg c]
  by_cases c2:i < l.length
  .rw [yAX c2,yAX c2]
  .rw [yBE (by rw [yAC,yCC];omega),yBE (by rw [yAC,yCC];omega)]
theorem pile_ok {lo n:Nat} {st:SortSt} {Q:ForInStep (Option Unit×Nat)->SortSt->Prop} (L:Asks M A E s κ a₀ f) (hn:1 <= n) (a2:lo+n <= a₀.size) (hq:PQ κ a₀ f lo n st)
  (h:∀ st',SB κ a₀ st'->Chn f (arrOf st') 0 (pendingOf st').toList (lo+n)->Q (.yield (none,lo+n)) st'):wpS M A E s (pile a₀.size lo n) Q st:=by
 have fin:∀ st3:SortSt,PQ κ a₀ f lo n st3->wpS M A E s (modify (fun z=>setPending z ((pendingOf z).push (lo,n,0))) >>= fun _=>pure (ForInStep.yield ((none,lo+n):Option Unit×Nat))) Q st3:=by
  rintro st3 ⟨O,Y,a1⟩
  refine wpS_bind (wpS_modify (wpS_pure (h _ ⟨O.perm,O.kind,O.fail⟩ ?_)))
  show Chn f (arrOf st3) 0 ((pendingOf st3).push (lo,n,0)).toList (lo+n)
  rw [Array.toList_push]
  exact Chn.app.mpr ⟨lo,Y,rfl,hn,a1,rfl⟩
 unfold pile
 refine wpS_bind (wpS_get ?_)
 cases hb:(pendingOf st).back? with
 | none=>exact fin st hq
 | some t=>
  obtain ⟨s1,n1,w1⟩:=t
  dsimp only
  refine wpS_bind (more_ok L (by omega) hq fun st2 Z=>?_)
  dsimp only
  refine wpS_bind (wpS_modify (fin _ ?_))
  obtain ⟨U,J,a0⟩:=Z
  refine ⟨⟨U.perm,U.kind,U.fail⟩,?_,a0⟩
  show Chn f (arrOf st2) 0 ((pendingOf st2).modify _ _).toList lo
  rcases List.eq_nil_or_concat (pendingOf st2).toList with e | ⟨l,⟨b,k,v⟩,e⟩
  .have:pendingOf st2=#[]:=by rw [<- Array.toList_inj,e]
   rw [this] at J ⊢
   exact J
  .rw [List.concat_eq_append] at e
   rw [modify_last e]
   rw [e] at J
   exact J.pow
theorem ite_less (c:Prop) [Decidable c] (n:Nat):(if c then n-1 else n) <= n:=by split <;> omega
theorem wpS_cast {α:Type} {m z:SM α} {Q Q':α->SortSt->Prop} {st:SortSt} (e:m=z) (h:wpS M A E s z Q' st) (q:∀ a st',Q' a st'->Q a st'):wpS M A E s m Q st:=by rw [e];exact wpS_mono h q
theorem sort_runs {st:SortSt} {Q:Unit->SortSt->Prop} (L:Asks M A E s κ a₀ f) (hB:SB κ a₀ st) (hp:pendingOf st=#[]) (h2:2 <= a₀.size)
  (h:∀ st',SB κ a₀ st'->Up f (arrOf st') 0 a₀.size->Q () st'):wpS M A E s sortRuns' Q st:=by
 rw [sortRuns'_eq]
 refine wpS_bind (wpS_get ?_)
 dsimp only
 rw [hB.size]
 generalize minRun' a₀.size a₀.size 0=mr
 refine wpS_bind (wpS_mono (wpS_forRange (I:=fun x c st'=>∃ lo,c=(none,lo) /\ SB κ a₀ st' /\ Chn f (arrOf st') 0 (pendingOf st').toList lo /\ lo <= a₀.size /\ min x a₀.size <= lo)
  (Q:=fun c st'=>c=(none,a₀.size) /\ SB κ a₀ st' /\ Chn f (arrOf st') 0 (pendingOf st').toList a₀.size) ?_ ?_ ⟨0,rfl,hB,by rw [hp];rfl,by omega,by omega⟩) ?_)
 .rintro x c a2 _ hx ⟨lo,rfl,Y,U,a7,ac⟩
  dsimp only
  by_cases hge:lo≥a₀.size
  .rw [if_pos hge]
   have:lo=a₀.size:=by omega
   subst this
   exact wpS_pure ⟨rfl,Y,U⟩
  rw [if_neg hge]
  refine wpS_bind (count_run L (by omega) (by omega) Y fun m st2 O a8 ah a3 ae aa=>?_)
  dsimp only
  have J:Chn f (arrOf st2) 0 (pendingOf st2).toList lo:=by
   rw [aa]
   exact U.keep fun k _ k2=>ae k k2
  have done:∀ (n:Nat) (st3:SortSt),1 <= n->lo+n <= a₀.size->PQ κ a₀ f lo n st3->wpS M A E s (pile a₀.size lo n)
    (fun r st'=>match r with | .done c'=>c'=(none,a₀.size) /\ SB κ a₀ st' /\ Chn f (arrOf st') 0 (pendingOf st').toList a₀.size | .yield c'=>∃ lo,c'=(none,lo) /\ SB κ a₀ st' /\ Chn f (arrOf st') 0 (pendingOf st').toList lo /\ lo <= a₀.size /\ min (x+1) a₀.size <= lo) st3 :=
   fun n st3 hn a4 hq=>pile_ok L hn a4 hq fun st' ad a9=>⟨lo+n,rfl,ad,a9,a4,by omega⟩
  by_cases hlt:m < mr
  .rw [if_pos hlt]
   refine wpS_bind (wpS_lift (wpAny_rule ⟨rfl,?_⟩))
   refine wpS_bind (bin_sort L (by omega) (by omega) O a3 fun st3 a0 af a6 ag=>?_)
   rw [if_neg (by decide)]
   refine wpS_cast (by
    refine bnd _ fun z=>?_
    cases (pendingOf z).back? with
    | none=>rfl
    | some t=>
     obtain ⟨s1,n1,w1⟩:=t
     refine bnd2 (for2 fun _ c=>bnd _ fun Z=>?_) fun c=>?_
     .generalize (if (pendingOf Z).size > 1 then (pendingOf Z)[(pendingOf Z).size-2]? else none)=t2
      cases t2 with
      | none=>rfl
      | some t2=>rfl
     .obtain ⟨r,u⟩:=c
      cases r with
      | none=>rfl
      | some r=>rfl) (done _ st3 (by omega) (by omega) ⟨a0,by rw [ag];exact J.keep fun k _ k2=>a6 k k2,af⟩) fun r st' z=>by cases r <;> exact z
  .rw [if_neg hlt]
   refine wpS_cast (by
    refine bnd _ fun z=>?_
    cases (pendingOf z).back? with
    | none=>rfl
    | some t=>
     obtain ⟨s1,n1,w1⟩:=t
     refine bnd2 (for2 fun _ c=>bnd _ fun Z=>?_) fun c=>?_
     .generalize (if (pendingOf Z).size > 1 then (pendingOf Z)[(pendingOf Z).size-2]? else none)=t2
      cases t2 with
      | none=>rfl
      | some t2=>rfl
     .obtain ⟨r,u⟩:=c
      cases r with
      | none=>rfl
      | some r=>rfl) (done m st2 a8 (by omega) ⟨O,J,a3⟩) fun r st' z=>by cases r <;> exact z
 .rintro c a2 ⟨lo,rfl,Y,U,a7,ac⟩
  have:lo=a₀.size:=by omega
  subst this
  exact ⟨rfl,Y,U⟩
 .rintro c a2 ⟨rfl,Y,U⟩
  dsimp only
  refine wpS_bind (wpS_mono (wpS_forRange (I:=fun x c st'=>c=(none,()) /\ SB κ a₀ st' /\ Chn f (arrOf st') 0 (pendingOf st').toList a₀.size /\ ((pendingOf st').size+x <= a₀.size∨(pendingOf st').size <= 1))
   (Q:=fun c st'=>c=(none,()) /\ SB κ a₀ st' /\ Chn f (arrOf st') 0 (pendingOf st').toList a₀.size /\ (pendingOf st').size <= 1) ?_ ?_ ?_) ?_)
  .rintro x c st2 _ hx ⟨rfl,O,J,a1⟩
   refine wpS_bind (wpS_get ?_)
   by_cases h1:(pendingOf st2).size <= 1
   .rw [if_pos h1]
    exact wpS_pure ⟨rfl,O,J,h1⟩
   rw [if_neg h1]
   have go:∀ i,i+1 < (pendingOf st2).size->wpS M A E s (mergeAt' i >>= fun b=>if (!b)=true then pure (ForInStep.done (some (),())) else pure (ForInStep.yield ((none,()):Option Unit×Unit)))
     (fun r st'=>match r with | .done c'=>c'=(none,()) /\ SB κ a₀ st' /\ Chn f (arrOf st') 0 (pendingOf st').toList a₀.size /\ (pendingOf st').size <= 1 | .yield c'=>c'=(none,()) /\ SB κ a₀ st' /\ Chn f (arrOf st') 0 (pendingOf st').toList a₀.size /\ ((pendingOf st').size+(x+1) <= a₀.size∨(pendingOf st').size <= 1)) st2:=fun i hi=>by
    refine wpS_bind (join_at L O J (yAB _) hi fun st3 a0 a5 ai _=>?_)
    exact wpS_pure ⟨rfl,a0,a5,by omega⟩
   refine wpS_mono (go _ ?_) fun r st' z=>by cases r <;> exact z
   exact Nat.lt_of_le_of_lt (Nat.add_le_add_right (ite_less _ _) 1) (by omega)
  .rintro c st2 ⟨rfl,O,J,a1⟩
   exact ⟨rfl,O,J,by omega⟩
  .refine ⟨rfl,Y,U,.inl ?_⟩
   have:=U.le
   rw [yAO] at this
   omega
  .rintro c st2 ⟨rfl,O,J,a1⟩
   refine wpS_pure (h st2 O ?_)
   cases e:(pendingOf st2).toList with
   | nil=>
    rw [e] at J
    have:0=a₀.size:=J
    omega
   | cons t r=>
    have hl:=congrArg List.length e
    rw [yAO,yAQ] at hl
    have hr:r=[]:=yCW.mp (by omega)
    subst hr
    obtain ⟨b,n,w⟩:=t
    rw [e] at J
    obtain ⟨_,_,hu,hn⟩:=J
    have:0+n=a₀.size:=hn
    rw [yCH] at this
    rw [<- this]
    exact hu
end
end L2S
namespace L2S
open PySem PyProof.Rows
noncomputable abbrev ZCd (h:Heap) (a:Addr) (vs:List Value):Heap:=((h.update a (Obj.mapSeq fun _=>#[])).push (seqObj "tuple" vs.toArray 0)).push (seqObj "list" #[] 0)
section
variable {prog:Program} {w:World} {A:Around} {E:Value->Shared->Prop} {s:Shared}
theorem mid_old {h:Heap} {a b:Addr} {vs:List Value} {o:Obj} (z:b≠a) (e:h.get? b=some o):(ZCd h a vs).get? b=some o:=by
 refine Heap.get?_push_of_some _ (Heap.get?_push_of_some _ ?_)
 exact (Heap.get?_update_other _ _ (Ne.symm z)).trans e
theorem sort_any {a:Addr} {vs:List Value} {n:Nat} {κ:SortKind} {f:Keyed->Int} {P:PySem.Fin->Shared->Prop} (U:s.heap.get? a=some (seqObj "list" vs.toArray n)) (hz:vs.length <= 1000)
  (J:2 <= vs.length->∀ Q':SortKind->Shared->Prop,Q' κ { s with heap:=ZCd s.heap a vs }->wpAny (model prog w) A (keyKind' vs.toArray) Q' E { s with heap:=ZCd s.heap a vs })
  (O:2 <= vs.length->Asks (model prog w) A E { s with heap:=ZCd s.heap a vs } κ (pairsOf vs) f)
  (h:∀ out:Array Keyed,out.Perm (pairsOf vs)->Up f out 0 vs.length->P (.done (.ret .none)) { s with heap:=sortedHeap s.heap a vs (out.map (·.2)) }):wpAny (model prog w) A (Builtin.«list.sort» ⟨[.ref a],[]⟩) P E s:=by
 rw [list_sort_plain]
 have ha:a < s.heap.objs.size:=Heap.lt_size U
 refine wpAny_bind (listItems_at U rfl ?_)
 refine wpAny_bind (listUpdate_at U rfl ?_)
 obtain ⟨Z,L⟩:∃ Z,(s.heap.update a (Obj.mapSeq fun _=>#[])).get? a=some (seqObj "list" #[] Z):=⟨_,get?_update_seq U (fun _=>#[])⟩
 refine wpAny_bind (seqEpoch_at L rfl ?_)
 refine wpAny_bind (wpAny_newTuple (wpAny_bind (wpAny_newList (wpAny_holding ?_))))
 have z:(ZCd s.heap a vs).get? a=some (seqObj "list" #[] Z):=Heap.get?_push_of_some _ (Heap.get?_push_of_some _ L)
 show wpAny (model prog w) A _ P E { s with heap:=ZCd s.heap a vs }
 dsimp only
 have hsz:vs.toArray.size=vs.length:=yAS ..
 have hl:vs.length <= sizeLine:=yAG hz (by decide)
 rw [hsz]
 by_cases h2:vs.length < 2
 .rw [if_pos h2,if_pos h2]
  refine wpAny_bind (wpAny_pure ?_)
  rw [StateT.run_pure]
  refine wpAny_bind (wpAny_pure ?_)
  dsimp only
  refine wpAny_bind (seqEpoch_at z rfl ?_)
  refine wpAny_bind (listUpdate_at z rfl ?_ (hsz2:=by rw [Array.size_map];show (pairsOf vs).size <= _;rw [pairsOf_size];omega))
  rw [if_neg (by simp)]
  exact wpAny_pure (h (pairsOf vs) (Array.Perm.refl _) fun i j _ z2 z3=>by rw [show i=j by omega];exact Int.le_refl _)
 .rw [if_neg h2,if_neg h2]
  refine wpAny_bind (J (by omega) _ ?_)
  refine wpAny_bind (wpAny_mono (sort_runs (st:=SortSt.mk' κ (vs.toArray.zip vs.toArray) #[] 7 none) (Q:=fun _ st'=>SB κ (pairsOf vs) st' /\ Up f (arrOf st') 0 (pairsOf vs).size) (O (by omega)) ⟨Array.Perm.refl _,rfl,rfl⟩ rfl (by rw [pairsOf_size];omega) fun st' a1 a2=>⟨a1,a2⟩) ?_ fun _ _ e=>e)
  rintro ⟨⟨⟩,st'⟩ s' ⟨rfl,Y,hu⟩
  dsimp only
  refine wpAny_bind (seqEpoch_at z rfl ?_)
  have hs:(arrOf st').size=(pairsOf vs).size:=Y.size
  rw [pairsOf_size] at hs hu
  refine wpAny_bind (listUpdate_at z rfl ?_ (hsz2:=by rw [Array.size_map];omega))
  rw [Y.fail,if_neg (by simp)]
  exact wpAny_pure (h _ Y.perm hu)
theorem sorted_any {l:Addr} {vs:List Value} {κ:SortKind} {f:Keyed->Int} {Q:Value->Shared->Prop} (hl:s.heap.IsList l vs.toArray) (hz:vs.length <= 1000)
  (z:∀ h':Heap,(∀ b o,s.heap.get? b=some o->h'.get? b=some o)->2 <= vs.length->∀ (J:Around) (U:Value->Shared->Prop) (Q':SortKind->Shared->Prop),J.units <= A.units+8->Q' κ { s with heap:=h' }->wpAny (model prog w) J (keyKind' vs.toArray) Q' U { s with heap:=h' })
  (L:∀ h':Heap,(∀ b o,s.heap.get? b=some o->h'.get? b=some o)->2 <= vs.length->∀ (J:Around) (U:Value->Shared->Prop),J.units <= A.units+8->Asks (model prog w) J U { s with heap:=h' } κ (pairsOf vs) f)
  (h:∀ out:Array Keyed,out.Perm (pairsOf vs)->Up f out 0 vs.length->Q (.ref (s.heap.objs.size+1)) { s with heap:=sortedAll s.heap vs (out.map (·.2)) }):wpAny (model prog w) A (call (.builtin "sorted") [.ref l]) Q E s:=by
 refine Calls.call_function_entry kind_sorted plain_sorted entry_sorted (args_sorted1 _) ?_
 unfold Builtin.«sorted»
 refine wpAny_bind (m:=checkCount "sorted" 1 1 _) (wpAny_pure ?_)
 refine wpAny_bind (collect_list hl ?_ (yAG hz (by decide)))
 refine wpAny_bind (wpAny_newList ?_)
 have Y:((s.heap.push (seqObj "list" #[] 0)).update s.heap.objs.size (Obj.mapSeq (·++vs.toArray))).objs.size=s.heap.objs.size+1:=(Heap.size_update ..).trans (size_push' ..)
 have Z:(((s.heap.push (seqObj "list" #[] 0)).update s.heap.objs.size (Obj.mapSeq (·++vs.toArray))).push (seqObj "list" vs.toArray 0)).get? (s.heap.objs.size+1)=some (seqObj "list" vs.toArray 0):=by
  rw [<- Y];exact Heap.get?_push_size _ rfl
 have O:∀ b o,s.heap.get? b=some o->(ZCd (((s.heap.push (seqObj "list" #[] 0)).update s.heap.objs.size (Obj.mapSeq (·++vs.toArray))).push (seqObj "list" vs.toArray 0)) (s.heap.objs.size+1) vs).get? b=some o:=fun b o e=>by
  have lt:=Heap.lt_size e
  refine mid_old (yAI (Nat.lt_succ_of_lt lt)) (Heap.get?_push_of_some _ ?_)
  exact (Heap.get?_update_other _ _ (yCJ lt)).trans (Heap.get?_push_of_some _ e)
 show wpAny _ _ _ _ _ { s with heap:=((s.heap.push (seqObj "list" #[] 0)).update s.heap.objs.size (Obj.mapSeq (·++vs.toArray))).push (seqObj "list" vs.toArray 0) }
 rw [Y]
 refine wpAny_bind (wpAny_holding (wpAny_call_entry slot_list_sort ⟨_,Z,rfl⟩ entry_list_sort (sort_any Z hz (fun h2 Q' q=>z _ O h2 _ _ Q' ?_ q) (fun h2=>L _ O h2 _ _ ?_) fun out a1 a2=>⟨_,rfl,?_⟩) (args_list_sort _)))
 .show A.units+1+1 <= A.units+8;omega
 .show A.units+1+1 <= A.units+8;omega
 .exact wpAny_pure ⟨_,rfl,h out a1 a2⟩
end
end L2S
namespace L2
open PySem PySem.Spec PyProof.Rows L2S
section
variable {prog:Program} {w:World} {A:Around} {E:Value->Shared->Prop} {s:Shared}
end
section
variable {X:Cx}
end
open PySem PySem.Spec PyProof.Rows L2S
noncomputable def lxP (x y:Int×Int):Prop:=x.1 < y.1∨(x.1=y.1 /\ x.2 < y.2)
noncomputable instance (x y:Int×Int):Decidable (lxP x y):=by unfold lxP;exact inferInstance
noncomputable abbrev PrA:=Addr×Int×Int
noncomputable def ZDU (zs:List PrA) (v:Int×Int):Nat:=zs.countP fun z=>decide (lxP z.2 v)
theorem rank_lt {zs:List PrA} {x:PrA} {v:Int×Int} (hx:x∈zs):ZDU zs x.2 < ZDU zs v↔lxP x.2 v:=by
 have mono:∀ (l:List PrA) (a b:Int×Int),(∀ z:Int×Int,lxP z a->lxP z b)->l.countP (fun z=>decide (lxP z.2 a)) <= l.countP (fun z=>decide (lxP z.2 b)):=fun l a b h=>
  List.countP_mono_left fun z _ e=>decide_eq_true (h _ (of_decide_eq_true e))
 constructor
 .intro h
  by_cases e:lxP x.2 v
  .exact e
  .have:=mono zs v x.2 fun z J=>by unfold lxP at *;omega
   unfold ZDU at h
   omega
 .intro h
  obtain ⟨s,t,rfl⟩:=List.append_of_mem hx
  unfold ZDU
  rw [List.countP_append,List.countP_append,List.countP_cons,List.countP_cons]
  have m:∀ z:Int×Int,lxP z x.2->lxP z v:=fun z J=>by unfold lxP at *;omega
  have h1:=mono s x.2 v m
  have h2:=mono t x.2 v m
  have h3:decide (lxP x.2 x.2)=false:=decide_eq_false (by unfold lxP;omega)
  rw [h3,decide_eq_true h]
  simp only [yCR,if_false,if_true]
  omega
section
variable {prog:Program} {w:World} {A:Around} {E:Value->Shared->Prop} {s:Shared}
noncomputable def PairAt (h:Heap) (z:PrA):Prop:=∃ o t u n,h.get? z.1=some o /\ o.cls=.type "tuple" /\ o.data=.seq #[.int z.2.1 t,.int z.2.2 u] n
theorem PairAt.keep {h h':Heap} {z:PrA} (p:PairAt h z) (k:∀ b o,h.get? b=some o->h'.get? b=some o):PairAt h' z:=let ⟨o,t,u,n,a,b,c⟩:=p;⟨o,t,u,n,k _ _ a,b,c⟩
noncomputable def ZFM (zs:List PrA):Value->Int×Int
 | .ref a=>((zs.find? fun z=>decide (z.1=a)).map (·.2)).getD (0,0)
 | _=>(0,0)
theorem ZEr {h:Heap} {zs:List PrA} (U:∀ z∈zs,PairAt h z) {z:PrA} (L:z∈zs):ZFM zs (.ref z.1)=z.2:=by
 show ((zs.find? fun y=>decide (y.1=z.1)).map (·.2)).getD (0,0)=z.2
 cases e:zs.find? fun y=>decide (y.1=z.1) with
 | none=>exact absurd (List.find?_eq_none.mp e z L) (by simp)
 | some y=>
  have h1:y.1=z.1:=by simpa using List.find?_some e
  have h2:=List.mem_of_find?_eq_some e
  obtain ⟨o,t,u,n,O,_,Y⟩:=U y h2
  obtain ⟨o',t',u',n',Z,_,b3⟩:=U z L
  rw [h1,Z] at O
  cases O
  rw [b3] at Y
  have e1:y.2=z.2:=by
   injection Y with a4 a5
   have J:=congrArg Array.toList a4
   simp at J
   exact Prod.ext J.1.1.symm J.2.1.symm
  exact e1
theorem kat_ints {a b a' b':Int} {t u t' u':Tok} {Q:Bool->Shared->Prop} (h:Q (decide (lxP (a,b) (a',b'))) s):PySem.W.KatLex prog w A true false Q [(.int a t,.int a' t'),(.int b u,.int b' u')] 0 s:=by
 refine PySem.W.kat_cons (wpAny_eqBool_int ?_)
 by_cases e:a=a'
 .rw [show (a == a')=true by simpa using e]
  refine PySem.W.kat_yes (PySem.W.kat_cons (wpAny_eqBool_int ?_))
  by_cases e2:b=b'
  .rw [show (b == b')=true by simpa using e2]
   refine PySem.W.kat_yes (PySem.W.kat_nil ?_)
   rw [decide_eq_false (by unfold lxP;dsimp only;omega)] at h
   exact h
  .rw [show (b == b')=false by simpa using e2]
   refine PySem.W.kat_no (PySem.W.kat_one _ _ (lt_int ?_))
   have J:decide (lxP (a,b) (a',b'))=decide (b < b'):=by
    by_cases z:b < b'
    .rw [decide_eq_true z];exact decide_eq_true (by unfold lxP;dsimp only;omega)
    .rw [decide_eq_false z];exact decide_eq_false (by unfold lxP;dsimp only;omega)
   rw [J] at h
   exact h
 .rw [show (a == a')=false by simpa using e]
  refine PySem.W.kat_no ?_
  have J:decide (lxP (a,b) (a',b'))=decide (a < a'):=by
   by_cases z:a < a'
   .rw [decide_eq_true z];exact decide_eq_true (by unfold lxP;dsimp only;omega)
   .rw [decide_eq_false z];exact decide_eq_false (by unfold lxP;dsimp only;omega)
  rw [J] at h
  exact oneLt_int h
theorem asks_pairs {zs:List PrA} (Y:∀ z∈zs,PairAt s.heap z):Asks (model prog w) A E s (tuples' true) (pairsOf (zs.map fun z=>Value.ref z.1)) fun p=>(ZDU zs (ZFM zs p.1):Int) where
 lt:=fun x y hx hy st Q hk q=>by
  have of:∀ p:Keyed,p∈(pairsOf (zs.map fun z=>Value.ref z.1)).toList->∃ z∈zs,p.1=.ref z.1:=fun p L=>by
   rw [pairsOf_toList] at L
   obtain ⟨z,O,e⟩:=yBF.mp (mem_zip_self L).2
   exact ⟨z,O,e.symm⟩
  obtain ⟨z,O,ez⟩:=of x hx
  obtain ⟨U,J,Z⟩:=of y hy
  rw [ez,Z,ZEr Y O,ZEr Y J] at q
  have er:decide ((ZDU zs z.2:Int) < (ZDU zs U.2:Int))=decide (lxP z.2 U.2):=by
   have:=rank_lt (v:=U.2) O
   by_cases e:lxP z.2 U.2
   .rw [decide_eq_true e];exact decide_eq_true (by have:=this.mpr e;omega)
   .rw [decide_eq_false e];exact decide_eq_false (fun c=>e (this.mp (by omega)))
  rw [er] at q
  rw [lt'_eq]
  refine wpS_bind (wpS_get ?_)
  rw [hk,ez,Z]
  obtain ⟨o,t,u,n,a1,a2,a3⟩:=Y z O
  obtain ⟨o',t',u',n',b1,b2,b3⟩:=Y U J
  exact wpS_bind (wpS_lift (wpAny_attempt (PySem.W.kat_lt a1 a3 b1 b3 (kat_ints ⟨rfl,wpS_pure q⟩))))
theorem tups_of {h:Heap}:∀ {zs:List PrA},(∀ z∈zs,PairAt h z)->∃ fs,PySem.W.KatTups h (zs.map fun z=>Value.ref z.1) fs /\ fs.length=zs.length /\ ∀ v∈fs,∃ n t,v=Value.int n t
 | [],_=>⟨[],trivial,rfl,fun v h=>by cases h⟩
 | z::r,hp=>by
  obtain ⟨fs,f1,Z,U⟩:=tups_of (zs:=r) fun y hy=>hp y (yAM _ hy)
  obtain ⟨o,t,u,n,O,J,Y⟩:=hp z yAF
  refine ⟨.int z.2.1 t::fs,PySem.W.KatTups.cons O J Y rfl f1,by rw [yAQ,yAQ,Z],fun v L=>?_⟩
  rcases yAE.mp L with e | e
  .exact ⟨_,_,e⟩
  .exact U v e
theorem perm_map {α J:Type} (g:α->J):∀ {l:List J} {zs:List α},l.Perm (zs.map g)->∃ ms:List α,ms.Perm zs /\ l=ms.map g
 | [],zs,h=>by
  have:zs=[]:=by
   have:=h.length_eq
   rw [yBL,yAA] at this
   exact yCW.mp this.symm
  subst this
  exact ⟨[],.nil,rfl⟩
 | x::r,zs,h=>by
  obtain ⟨z,O,e⟩:=yBF.mp (h.mem_iff.mp yAF)
  obtain ⟨a,b,rfl⟩:=List.append_of_mem O
  have h2:(x::r).Perm (x::(a++b).map g):=by
   refine h.trans ?_
   rw [yAT,yAV,e,yAT]
   exact List.perm_middle
  obtain ⟨ms,L,U⟩:=perm_map g (List.Perm.cons_inv h2)
  exact ⟨z::ms,(L.cons z).trans List.perm_middle.symm,by rw [U,yAV,e]⟩
theorem sorted_pairs {l:Addr} {zs:List PrA} {Q:Value->Shared->Prop} (hl:s.heap.IsList l (zs.map fun z=>Value.ref z.1).toArray) (hp:∀ z∈zs,PairAt s.heap z) (O:zs.length <= 1000)
  (h:∀ (ms:List PrA),ms.Perm zs->ms.Pairwise (fun x y=>¬ lxP y.2 x.2)->Q (.ref (s.heap.objs.size+1)) { s with heap:=sortedAll s.heap (zs.map fun z=>Value.ref z.1) (ms.map fun z=>Value.ref z.1).toArray }):wpAny (model prog w) A (call (.builtin "sorted") [.ref l]) Q E s:=by
 refine sorted_any (κ:=tuples' true) (f:=fun p=>(ZDU zs (ZFM zs p.1):Int)) hl (by rw [yAA];exact O) (fun h' k h2 A' E' Q' _ q=>?_) (fun h' k h2 A' E' _=>asks_pairs (s:={ s with heap:=h' }) fun z O=>(hp z O).keep k) fun J ho hu=>?_
 .obtain ⟨fs,f1,f2,f3⟩:=tups_of (h:=h') fun z O=>(hp z O).keep k
  rw [yAA] at h2
  refine PySem.W.kat_kind (T:=.type "int") f1 (by omega) (fun v hv=>?_) rfl q
  obtain ⟨n,t,rfl⟩:=f3 v hv
  exact .now
 .have Z:J.toList.Perm (zs.map fun z=>((Value.ref z.1,Value.ref z.1):Keyed)):=by
   have:=Array.perm_iff_toList_perm.mp ho
   rw [pairsOf_toList] at this
   rw [show (zs.map fun z=>((Value.ref z.1,Value.ref z.1):Keyed))=(zs.map fun z=>Value.ref z.1).zip (zs.map fun z=>Value.ref z.1) by rw [List.zip_map']]
   exact this
  obtain ⟨ms,U,m2⟩:=perm_map _ Z
  have e:J.map (·.2)=(ms.map fun z=>Value.ref z.1).toArray:=by
   apply Array.toList_inj.mp
   rw [Array.toList_map,m2,yCO]
   rfl
  rw [e]
  refine h ms U ?_
  rw [List.pairwise_iff_getElem]
  intro i j hi hj a0 a1
  have a2:ms.length=zs.length:=U.length_eq
  have L:∀ k (Y:k < ms.length),kn (fun p=>(ZDU zs (ZFM zs p.1):Int)) J k=ZDU zs ms[k].2:=fun k Y=>by
   have:J[k]?=some ((Value.ref ms[k].1,Value.ref ms[k].1):Keyed):=by
    rw [<- yBD,m2,yAJ,yAD Y]
    rfl
   rw [ZBD this]
   dsimp only
   rw [ZEr hp (U.mem_iff.mp (List.getElem_mem Y))]
  have z:=hu i j (yAH _) (yBP a0) (by rw [yAA];omega)
  rw [L i hi,L j hj] at z
  have:=(rank_lt (zs:=zs) (v:=ms[i].2) (U.mem_iff.mp (List.getElem_mem hj))).mpr a1
  omega
end
theorem vals_refs:∀ {zs:List PrA} {its:List Value},Vals (zs.map fun z=>V.ref z.1) its->its=zs.map fun z=>Value.ref z.1
 | [],_,.nil=>rfl
 | z::r,_,.cons a b=>by
  have e:=vals_refs b
  cases a
  rw [e]
  rfl
theorem refs_vals:∀ ms:List PrA,Vals (ms.map fun z=>V.ref z.1) (ms.map fun z=>Value.ref z.1)
 | []=>.nil
 | _::r=>.cons rfl (refs_vals r)
section
variable {X:Cx}
theorem call_sortedT:ZCA X (.builtin "sorted") (fun xs H Q=>∃ (p:Addr) (zs:List PrA),xs=[.ref p] /\ SqL X.K H p (zs.map fun z=>V.ref z.1) /\ (∀ z∈zs,SqT X.K H z.1 [.int z.2.1,.int z.2.2]) /\ zs.length <= 1000 /\ ∀ (l:Addr) (ms:List PrA),H l=none->ms.Perm zs->ms.Pairwise (fun x y=>¬ lxP y.2 x.2)->Q (.ref l) (upd H l (.lst (ms.map fun z=>V.ref z.1)))):=by
 intro pins s σ H xs us Q I r h
 obtain ⟨p,zs,rfl,hq,hz,hn,q⟩:=h
 obtain ⟨u,rfl,Z⟩:=ZDT r
 cases Z
 obtain ⟨its,r',pl,a1⟩:=I.list hq
 obtain rfl:=vals_refs r'
 have L:∀ z∈zs,PairAt s.heap z:=fun z J=>by
  obtain ⟨it,rt,pt,_⟩:=I.tuple (hz z J)
  obtain ⟨a,b,rfl,⟨t,rfl⟩,⟨t',rfl⟩⟩:=ZEA rt
  obtain ⟨o,ho,hc,n,hd⟩:=pt
  exact ⟨o,t,t',n,ho,hc,hd⟩
 refine sorted_pairs pl.isList L hn fun ms O Y=>?_
 obtain ⟨e,U⟩:=sortedAll_at s.heap (zs.map fun z=>Value.ref z.1) (ms.map fun z=>Value.ref z.1).toArray
 have a0:ms.length=zs.length:=O.length_eq
 refine ⟨.ref (s.heap.objs.size+1),_,I.laid (t':=s.toks) (fun b o e=>sortedAll_old e) (yBB _) (o:=.lst (ms.map fun z=>V.ref z.1)) ⟨?_,(ms.map fun z=>Value.ref z.1),e,refs_vals ms,U⟩,rfl,q _ ms (I.hok.fresh (yBB _)) O Y⟩
 rw [yAA]
 exact ZAb (by omega)
end
end L2
namespace Po
noncomputable def st (acc h:Nat):Nat:=(((acc+h * 14029467366897019727) % 2 ^ 64 * 2 ^ 31 % 2 ^ 64+(acc+h * 14029467366897019727) % 2 ^ 64 / 2 ^ 33) * 11400714785074694791) % 2 ^ 64
noncomputable def G (a:Nat):Nat:=st 2870177450012600261 a * 839798700976720815 % 2 ^ 64
theorem ZE6 (x:Nat):x * 2 ^ 31 % 2 ^ 64=x % 2 ^ 33 * 2 ^ 31:=by
 rw [show (2:Nat) ^ 64=2 ^ 33 * 2 ^ 31 by decide,Nat.mul_mod_mul_right]
theorem rot_lt {x:Nat} (hx:x < 2 ^ 64):x * 2 ^ 31 % 2 ^ 64+x / 2 ^ 33 < 2 ^ 64:=by rw [ZE6];omega
theorem rot_inj {x y:Nat} (hx:x < 2 ^ 64) (U:y < 2 ^ 64) (h:x * 2 ^ 31 % 2 ^ 64+x / 2 ^ 33=y * 2 ^ 31 % 2 ^ 64+y / 2 ^ 33):x=y:=by
 rw [ZE6,ZE6] at h
 have O:=Nat.div_add_mod x (2 ^ 33)
 have J:=Nat.div_add_mod y (2 ^ 33)
 have L:x / 2 ^ 33 < 2 ^ 31:=by omega
 have z:y / 2 ^ 33 < 2 ^ 31:=by omega
 generalize x / 2 ^ 33=q at *
 generalize y / 2 ^ 33=q' at *
 generalize x % 2 ^ 33=r at *
 generalize y % 2 ^ 33=r' at *
 omega
theorem back {x p i:Nat} (h:p * i % 2 ^ 64=1) (hx:x < 2 ^ 64):x * p % 2 ^ 64 * i % 2 ^ 64=x:=by
 rw [Nat.mod_mul_mod,Nat.mul_assoc,Nat.mul_mod,h,Nat.mul_one,Nat.mod_mod,Nat.mod_eq_of_lt hx]
theorem st_inj {a b a' b':Nat} (h:st a b=st a' b'):(a+b * 14029467366897019727) % 2 ^ 64=(a' + b' * 14029467366897019727) % 2 ^ 64:=by
 unfold st at h
 have J:(a+b * 14029467366897019727) % 2 ^ 64 < 2 ^ 64:=Nat.mod_lt _ (by decide)
 have l2:(a' + b' * 14029467366897019727) % 2 ^ 64 < 2 ^ 64:=Nat.mod_lt _ (by decide)
 generalize (a+b * 14029467366897019727) % 2 ^ 64=x at *
 generalize (a' + b' * 14029467366897019727) % 2 ^ 64=y at *
 have hi:11400714785074694791 * 614540362697595703 % 2 ^ 64=1:=by decide
 have e:=congrArg (fun z=>z * 614540362697595703 % 2 ^ 64) h
 rw [back hi (rot_lt J),back hi (rot_lt l2)] at e
 exact rot_inj J l2 e
theorem to_G {a b x:Nat} (h:(st 2870177450012600261 a+b * 14029467366897019727) % 2 ^ 64=x % 2 ^ 64):(G a+b) % 2 ^ 64=x * 839798700976720815 % 2 ^ 64:=by
 have e:=congrArg (fun z=>z * 839798700976720815 % 2 ^ 64) h
 rw [Nat.mod_mul_mod,Nat.mod_mul_mod,Nat.add_mul,Nat.mul_assoc,Nat.add_mod,Nat.mul_mod b,show 14029467366897019727 * 839798700976720815 % 2 ^ 64=1 by decide,Nat.mul_one,Nat.mod_mod] at e
 unfold G
 rw [<- e,Nat.add_mod,Nat.mod_mod]
noncomputable def far (x y:Nat):Bool:=decide (1000 < (x+2 ^ 64-y) % 2 ^ 64) && decide ((x+2 ^ 64-y) % 2 ^ 64 < 2 ^ 64-1000)
noncomputable def ZD5:List Nat->Bool
 | []=>true
 | x::r=>r.all (far x) && ZD5 r
theorem ZCS:∀ {l:List Nat} {i j x y:Nat},ZD5 l=true->i < j->l[i]?=some x->l[j]?=some y->far x y=true
 | x::r,0,j+1,a,b,h,hij,h1,h2=>by
  unfold ZD5 at h
  rw [yCE,List.all_eq_true] at h
  cases h1
  exact h.1 b (yAL (by simpa using h2))
 | x::r,i+1,j+1,a,b,h,hij,h1,h2=>by
  unfold ZD5 at h
  rw [yCE] at h
  exact ZCS (i:=i) (j:=j) h.2 (by omega) (by simpa using h1) (by simpa using h2)
 | [],i,j,a,b,h,hij,h1,h2=>by simp at h1
theorem farG:ZD5 ((List.range 205).map G++[9148689060682678900 * 839798700976720815 % 2 ^ 64])=true:=by decide +kernel
theorem G_at {a:Nat} (h:a < 205):((List.range 205).map G++[9148689060682678900 * 839798700976720815 % 2 ^ 64])[a]?=some (G a):=by
 rw [yAX (by rw [yAA,List.length_range];exact h),yAJ,List.getElem?_range h];rfl
theorem ZFH {x y:Nat} (h:far x y=true) {b b':Nat} (hx:x < 2 ^ 64) (L:y < 2 ^ 64) (J:b <= 500) (z:b' <= 500):(x+b) % 2 ^ 64≠(y+b') % 2 ^ 64:=by
 unfold far at h
 rw [yCE,decide_eq_true_iff,decide_eq_true_iff] at h
 omega
theorem G_lt (a:Nat):G a < 2 ^ 64:=Nat.mod_lt _ (by decide)
noncomputable def th (a b:Nat):Nat:=st (st 2870177450012600261 a) b
theorem th_lt (a b:Nat):th a b < 2 ^ 64:=Nat.mod_lt _ (by decide)
theorem th_inj {a a' b b':Nat} (ha:a < 205) (J:a' < 205) (U:b <= 500) (L:b' <= 500) (h:th a b=th a' b'):a=a' /\ b=b':=by
 unfold th at h
 have e:=st_inj (a:=st 2870177450012600261 a) (b:=b) (a':=st 2870177450012600261 a') (b':=b') h
 have O:=to_G (a:=a) (b:=b) (x:=st 2870177450012600261 a' + b' * 14029467366897019727) e
 have Y:=to_G (a:=a') (b:=b') (x:=st 2870177450012600261 a' + b' * 14029467366897019727) (Eq.refl _)
 rw [<- Y] at O
 clear Y e h
 rcases Nat.lt_trichotomy a a' with z | z | z
 .exact absurd O (ZFH (ZCS farG z (G_at ha) (G_at J)) (G_lt _) (G_lt _) U L)
 .subst z
  have:=G_lt a
  generalize G a=g at *
  exact ⟨rfl,by omega⟩
 .exact absurd O.symm (ZFH (ZCS farG z (G_at J) (G_at ha)) (G_lt _) (G_lt _) L U)
theorem th_ne {a b:Nat} (ha:a < 205) (z:b <= 500):th a b≠15576566623696079691:=by
 intro h
 have e:st (st 2870177450012600261 a) b=st 9148689060682678900 0:=by
  rw [show st 9148689060682678900 0=15576566623696079691 by decide +kernel];exact h
 have J:=to_G (a:=a) (b:=b) (x:=9148689060682678900) (by
  have:=st_inj (a:=st 2870177450012600261 a) (b:=b) (a':=9148689060682678900) (b':=0) e
  rw [Nat.zero_mul,Nat.add_zero] at this
  exact this)
 have f:=ZCS (i:=a) (j:=205) farG ha (G_at ha) (y:=9148689060682678900 * 839798700976720815 % 2 ^ 64) (by
  rw [yAW (by rw [yAA,List.length_range];exact yAB _),yAA,List.length_range,yBU,List.getElem?_cons_zero])
 have:=ZFH f (G_lt _) (Nat.mod_lt _ (by decide)) z (b':=0) (by decide)
 rw [Nat.add_zero,Nat.mod_mod] at this
 exact this J
noncomputable def fin (acc:Nat):Int:=if (acc+2870177450013471924) % 2 ^ 64=2 ^ 64-1 then 1546275796 else if (acc+2870177450013471924) % 2 ^ 64 < 2 ^ 63 then (((acc+2870177450013471924) % 2 ^ 64:Nat):Int) else (((acc+2870177450013471924) % 2 ^ 64:Nat):Int)-2 ^ 64
theorem fin_of {x:Nat} (hx:x < 2 ^ 64) (nx:x≠15576566623696079691):fin x=(((x+2870177450013471924) % 2 ^ 64:Nat):Int) /\ (x+2870177450013471924) % 2 ^ 64 < 2 ^ 63∨fin x=(((x+2870177450013471924) % 2 ^ 64:Nat):Int)-2 ^ 64 /\ ¬ (x+2870177450013471924) % 2 ^ 64 < 2 ^ 63 /\ (x+2870177450013471924) % 2 ^ 64≠2 ^ 64-1:=by
 have h1:¬ (x+2870177450013471924) % 2 ^ 64=2 ^ 64-1:=by omega
 unfold fin
 rw [if_neg h1]
 by_cases h2:(x+2870177450013471924) % 2 ^ 64 < 2 ^ 63
 .rw [if_pos h2];exact .inl ⟨rfl,h2⟩
 .rw [if_neg h2];exact .inr ⟨rfl,h2,h1⟩
theorem fin_inj {x y:Nat} (hx:x < 2 ^ 64) (U:y < 2 ^ 64) (nx:x≠15576566623696079691) (L:y≠15576566623696079691) (h:fin x=fin y):x=y:=by
 rcases fin_of hx nx with ⟨z,O⟩ | ⟨z,O,_⟩ <;> rcases fin_of U L with ⟨J,l2⟩ | ⟨J,l2,_⟩ <;> rw [z,J] at h <;> omega
end Po
namespace L2
open PySem PySem.Spec PyProof.Rows
theorem hash_small (n:Nat) (hn:n <= 500):hashInt (n:Int)=n:=by
 have e:rawHash (n:Int)=n:=by
  unfold rawHash
  dsimp only
  rw [Int.natAbs_natCast,if_neg (show ¬ (n:Int) < 0 by omega),show (n:Int) % ((2 ^ 61-1:Nat):Int)=n by omega,if_neg (fun z=>by have:=eq_of_beq z;omega)]
 unfold hashInt
 rw [e,if_neg (fun z=>by have:=eq_of_beq z;omega)]
noncomputable def stI (acc:Nat) (h:Int):Nat:=Po.st acc (h % ((2 ^ 64:Nat):Int)).toNat
theorem fold_eq (z:List Int):Builtin.Tuple.tupleHashOf z=(if (z.foldl stI 2870177450012600261+(z.length ^^^ (2870177450012600261 ^^^ 3527539))) % 2 ^ 64 == 2 ^ 64-1 then 1546275796 else if (z.foldl stI 2870177450012600261+(z.length ^^^ (2870177450012600261 ^^^ 3527539))) % 2 ^ 64 < 2 ^ 63 then (((z.foldl stI 2870177450012600261+(z.length ^^^ (2870177450012600261 ^^^ 3527539))) % 2 ^ 64:Nat):Int) else (((z.foldl stI 2870177450012600261+(z.length ^^^ (2870177450012600261 ^^^ 3527539))) % 2 ^ 64:Nat):Int)-((2 ^ 64:Nat):Int)):=by
 unfold Builtin.Tuple.tupleHashOf
 rfl
theorem pairH {a b:Nat} (ha:a < 205) (U:b <= 500):Builtin.Tuple.tupleHashOf [(a:Int),(b:Int)]=Po.fin (Po.th a b):=by
 have ea:((a:Int) % ((2 ^ 64:Nat):Int)).toNat=a:=by omega
 have J:((b:Int) % ((2 ^ 64:Nat):Int)).toNat=b:=by omega
 have O:([(a:Int),(b:Int)].length ^^^ (2870177450012600261 ^^^ 3527539))=2870177450013471924:=by
  show (2 ^^^ (2870177450012600261 ^^^ 3527539):Nat)=_
  decide +kernel
 have L:[(a:Int),(b:Int)].foldl stI 2870177450012600261=Po.th a b:=by
  rw [List.foldl_cons,List.foldl_cons,List.foldl_nil]
  unfold stI Po.th
  rw [ea,J]
 rw [fold_eq,O,L]
 unfold Po.fin
 by_cases h:(Po.th a b+2870177450013471924) % 2 ^ 64=2 ^ 64-1
 .rw [if_pos h,if_pos (beq_iff_eq.mpr h)]
 .rw [if_neg h,if_neg (fun z=>h (beq_iff_eq.mp z))]
  rfl
theorem hash_pair (P:Program) (w:World) {a b:Nat} (ha:a < 205) (J:b <= 500):(tupleKind (ZAU P w)).hash [.inl (a:Int),.inl (b:Int)]=Po.fin (Po.th a b):=by
 show reduceHash (Builtin.Tuple.tupleHashOf [hashInt (a:Int),hashInt (b:Int)])=_
 rw [hash_small a (by omega),hash_small b J]
 have e:=pairH ha J
 rw [e]
 unfold reduceHash
 have:=Po.fin_of (Po.th_lt a b) (Po.th_ne ha J)
 have h1:-(2 ^ 63:Int) <= Po.fin (Po.th a b) /\ Po.fin (Po.th a b) < 2 ^ 63 /\ Po.fin (Po.th a b)≠-1:=by omega
 rw [if_pos (by rw [yCE,decide_eq_true_iff,decide_eq_true_iff];exact ⟨h1.1,h1.2.1⟩),if_neg (fun z=>h1.2.2 (eq_of_beq z))]
noncomputable def ZFK (kvs:List (List Key×V)):Prop:=∀ kv∈kvs,∃ a b:Nat,kv.1=[.inl (a:Int),.inl (b:Int)] /\ a < 205 /\ b <= 500
section
variable {X:Cx} {pins:List (Addr×Obj)} {σ:St} {H:Hp} {A:Around} {E:Value->Shared->Prop} {s:Shared}
theorem hash_nodup {P:Program} {w:World}:∀ {kvs:List (List Key×V)} {xs:List (List Key×Addr×Value)},ZFK kvs->KT H kvs xs->(xs.map (·.1)).Nodup->xs.Pairwise (fun x y=>(entryOfKey (tupleKind (ZAU P w)) x).hash≠(entryOfKey (tupleKind (ZAU P w)) y).hash):=by
 intro kvs xs Y kt O
 have keys:∀ x∈xs,∃ a b:Nat,x.1=[.inl (a:Int),.inl (b:Int)] /\ a < 205 /\ b <= 500:=by
  intro x hx
  obtain ⟨y,U,e⟩:∃ y∈kvs,y.1=x.1:=by
   clear O Y
   induction kt with
   | nil=>cases hx
   | @cons p q ps qs hq t ih=>
    rcases yAE.mp hx with e | hx
    .subst e;exact ⟨p,yAF,hq.1⟩
    .obtain ⟨y,h1,h2⟩:=ih hx;exact ⟨y,yAM _ h1,h2⟩
  obtain ⟨a,b,h1,h2,h3⟩:=Y y U
  exact ⟨a,b,by rw [<- e,h1],h2,h3⟩
 rw [List.Nodup,List.pairwise_map] at O
 refine O.imp_of_mem fun {x y} hx U ne e=>?_
 obtain ⟨a,b,Z,h1,h2⟩:=keys x hx
 obtain ⟨a',b',L,J,z⟩:=keys y U
 have e:(tupleKind (ZAU P w)).hash x.1=(tupleKind (ZAU P w)).hash y.1:=e
 rw [Z,L,hash_pair P w h1 h2,hash_pair P w J z] at e
 have:=Po.th_inj h1 J h2 z (Po.fin_inj (Po.th_lt _ _) (Po.th_lt _ _) (Po.th_ne h1 h2) (Po.th_ne J z) e)
 exact ne (by rw [Z,L,this.1,this.2])
theorem one_hash {α:Type} (f:α->Int) (x:α):∀ {l:List α},l.Pairwise (fun a b=>f a≠f b)->(l.filter (fun y=>f y == f x)).length <= 1
 | [],_=>yAH _
 | a::r,h=>by
  obtain ⟨h1,h2⟩:=List.pairwise_cons.mp h
  by_cases e:f a=f x
  .rw [yBZ (by simpa using e)]
   have:r.filter (fun y=>f y == f x)=[]:=List.filter_eq_nil_iff.mpr fun b J z=>h1 b J (by rw [e];exact (by simpa using z:f b=f x).symm)
   rw [this]
   exact yAB _
  .rw [yBV (by simpa using e)]
   exact one_hash f x h2
theorem entries_empty {id:String} {d:Addr} {o:Obj} {es ep} {kvs:List (List Key×V)} {xs:List (List Key×Addr×Value)} {Q:Array DictEntry->Shared->Prop} (ho:s.heap.get? d=some o) (hd:o.data=.dict es ep)
  (U:es.toList=xs.map (entryOfKey (tupleKind (ZAU X.prog X.w)))) (Y:∀ x∈xs,(tupleKind (ZAU X.prog X.w)).is s.heap x.1 x.2.1) (hp:xs.Pairwise (fun x y=>(entryOfKey (tupleKind (ZAU X.prog X.w)) x).hash≠(entryOfKey (tupleKind (ZAU X.prog X.w)) y).hash)) (h:Q es s) :
  wpAny (model X.prog X.w) A (Builtin.Dict.entriesForEmpty id d) Q E s:=by
 unfold Builtin.Dict.entriesForEmpty
 refine wpAny_bind (wpAny_dictEntries ho hd ?_)
 refine wpAny_bind ?_
 rw [<- Array.forIn_toList]
 refine wpAny_forIn_list _ (fun rest _ s'=>s'=s /\ ∀ e∈rest,e∈es.toList) _ ?_ ?_ _ _ ⟨rfl,fun e z=>z⟩
 .rintro e rest b s' ⟨O,J⟩
  rw [O]
  have hm:=J e yAF
  rw [U] at hm
  obtain ⟨x,hx,rfl⟩:=yBF.mp hm
  have Z:Shared.TypeIs s (.ref x.2.1) "tuple":=IsTupleKey.typeIs (Y x hx)
  have hsz:¬ (es.filter (fun L=>L.hash == (entryOfKey (tupleKind (ZAU X.prog X.w)) x).hash)).size > 1:=by
   have e1:(es.filter (fun L=>L.hash == (entryOfKey (tupleKind (ZAU X.prog X.w)) x).hash)).size=(es.toList.filter (fun L=>L.hash == (entryOfKey (tupleKind (ZAU X.prog X.w)) x).hash)).length:=by
    rw [<- Array.toList_filter,yAO]
   rw [e1,U]
   have:=one_hash (fun y=>(entryOfKey (tupleKind (ZAU X.prog X.w)) y).hash) x hp
   rw [List.filter_map,yAA]
   have this:(xs.filter (fun y=>(entryOfKey (tupleKind (ZAU X.prog X.w)) y).hash == (entryOfKey (tupleKind (ZAU X.prog X.w)) x).hash)).length <= 1:=this
   exact Nat.not_lt.mpr this
  show wpAny _ _ (Builtin.Dict.quietEq (.ref x.2.1) >>= _) _ _ _
  refine wpAny_bind ?_
  unfold Builtin.Dict.quietEq
  refine wpAny_bind (wpAny_specialOf Z F.slot_tuple_eq.lookup (wpAny_pure ?_))
  rw [if_pos (by decide),if_neg hsz]
  exact wpAny_pure ⟨rfl,fun e z=>J e (yAM _ z)⟩
 .rintro b s' ⟨rfl,_⟩
  exact wpAny_pure h
theorem merge_copy {nm:String} {d o:Addr} {kvs:List (List Key×V)} {xs:List (List Key×Addr×Value)} {Q:Unit->Shared->Prop} (a1:d≠o) (a2:(o == sysModules)=false) (Z:s.heap.get? d=some { cls:=.type "dict",data:=.dict #[] })
  (ho:s.heap.DictOfH (tupleKind (ZAU X.prog X.w)) o xs) (hp:xs.Pairwise (fun x y=>(entryOfKey (tupleKind (ZAU X.prog X.w)) x).hash≠(entryOfKey (tupleKind (ZAU X.prog X.w)) y).hash)) (hsz:xs.length <= sizeLine)
  (hQ:∀ h',Heap.SameBut d s.heap h'->(∃ od es ep,h'.get? d=some od /\ od.ExactDict /\ od.data=.dict es ep /\ es.toList=xs.map (entryOfKey (tupleKind (ZAU X.prog X.w))))->Q () { s with heap:=h' }) :
  wpAny (model X.prog X.w) A (Builtin.Dict.mergeDict nm d o) Q E s:=by
 obtain ⟨oo,z,a6,Y,a5,J,U,a4,a7⟩:=id ho
 unfold Builtin.Dict.mergeDict
 rw [if_neg (by simpa using a1)]
 unfold Builtin.Dict.showsAll
 rw [if_neg (by rw [a2];exact yBG)]
 refine wpAny_bind (wpAny_pure ?_)
 refine wpAny_bind (wpAny_dictEntries Y J ?_)
 have O:({ cls:=.type "dict",data:=.dict #[] }:Obj).data=.dict #[] 0:=rfl
 dsimp only
 cases xs with
 | nil=>
  have h0:z=#[]:=by
   have:z.toList=[]:=U
   exact Array.toList_eq_nil_iff.mp this
  subst h0
  rw [if_neg (by rw [show (#[]:Array DictEntry).all (fun e=>(keyPart e.key).isSome)=true by simp];simp)]
  refine wpAny_bind (wpAny_dictEpoch Y J ?_)
  refine wpAny_bind (wpAny_dictEntries Y J ?_)
  refine wpAny_bind ?_
  rw [Std.Legacy.Range.forIn_eq_forIn_range']
  refine wpAny_pure (wpAny_pure (hQ s.heap (Heap.SameBut.refl _ _) ⟨_,_,_,Z,⟨rfl,rfl,rfl⟩,O,rfl⟩))
 | cons x r=>
  have a3:(z.all fun e=>(keyPart e.key).isSome)=false:=by
   rw [<- Array.all_toList,U]
   rfl
  rw [if_pos (by rw [a3,Bool.and_false];rfl)]
  refine wpAny_bind (wpAny_dictEntries Z O ?_)
  rw [if_pos (by rfl)]
  refine wpAny_bind (entries_empty (kvs:=kvs) Y J U a4 hp ?_)
  have L:z.size=(x::r).length:=by rw [<- yAO,U,yAA]
  have a0:z.isEmpty=false:=by
   cases e0:z.isEmpty with
   | false=>rfl
   | true=>rw [Array.isEmpty_iff.mp e0] at L;cases L
  rw [if_pos (by rw [a0];rfl)]
  refine wpAny_bind (wpAny_updateDictKeysTo Z O (wpAny_pure (hQ _ (Heap.SameBut.update ..) ⟨_,z,0+1,Heap.get?_update_self _ Z (Obj.isFreed_of_dict (Obj.data_mapDictKeys O _)),(show Obj.ExactDict _ from ⟨rfl,rfl,rfl⟩).mapDictKeys _,Obj.data_mapDictKeys O _,U⟩)) (by omega))
theorem call_dictC:ZCA X (.type "dict") (fun xs H Q=>∃ (p:Addr) (kvs:List (List Key×V)),xs=[.ref p] /\ H p=some (.dT kvs) /\ ZFK kvs /\ ∀ d,H d=none->Q (.ref d) (upd H d (.dT kvs))):=by
 intro pins s σ H xs us Q I r h
 obtain ⟨p,kvs,rfl,ac,ae,q⟩:=h
 obtain ⟨u,rfl,rx⟩:=ZDT r
 cases rx
 obtain ⟨z,a9,xs,kt,dd⟩:=dt_of I.hok ac
 have ah:xs.length=kvs.length:=(Paired.length kt).symm
 have U:(xs.map (·.1)).Nodup:=let ⟨_,_,_,_,_,_,_,_,hn⟩:=dd;hn
 have a0:=hash_nodup (P:=X.prog) (w:=X.w) ae kt U
 refine callType_codes (Q₁:=fun obj s₁=>obj=.ref s.heap.objs.size /\ s₁={ s with heap:=s.heap.push { cls:=.type "dict",data:=.dict #[] } }) F.kt_called_dict (F.kt_typeCall_dict_1 _) F.entry_dict_init (kt_code_dict_new _ ⟨rfl,rfl⟩) ?_
 rintro obj s₁ ⟨rfl,rfl⟩
 have Y:(s.heap.push { cls:=.type "dict",data:=.dict #[] }).get? s.heap.objs.size=some { cls:=.type "dict",data:=.dict #[] }:=Heap.get?_push_size _ rfl
 have L:∀ b o,s.heap.get? b=some o->(s.heap.push { cls:=.type "dict",data:=.dict #[] }).get? b=some o:=fun b o Z=>Heap.get?_push_of_some _ Z
 have hT:Shared.TypeIs { s with heap:=s.heap.push { cls:=.type "dict",data:=.dict #[] } } (.ref s.heap.objs.size) "dict":=⟨_,Y,rfl⟩
 have O:(s.heap.push { cls:=.type "dict",data:=.dict #[] }).DictOfH (tupleKind (ZAU X.prog X.w)) p xs:=by
  obtain ⟨o,es,ep,a1,a2,a3,a4,a5,a6⟩:=dd
  exact ⟨o,es,ep,L _ _ a1,a2,a3,a4,fun x hx=>key_mono L (a5 x hx),a6⟩
 obtain ⟨oo,ai,aj,af,aa,ag,am,ak,al⟩:=id O
 have J:Shared.TypeIs { s with heap:=s.heap.push { cls:=.type "dict",data:=.dict #[] } } (.ref p) "dict":=⟨oo,af,aa.1⟩
 have a7:s.heap.objs.size≠p:=by
  obtain ⟨_,_,_,hg,_⟩:=dd
  exact fun e=>absurd (Heap.lt_size hg) (by rw [e];exact yBK _)
 refine ⟨hT,F.args_dict_init_2 _ _,?_⟩
 unfold Builtin.«dict.__init__»
 refine wpAny_bind ?_
 unfold Builtin.Dict.selfAndRest
 refine wpAny_bind (wpAny_notOrdered_dict hT ?_)
 show wpAny _ _ (pure (s.heap.objs.size,[Value.ref p])) _ _ _
 refine wpAny_pure ?_
 show wpAny _ _ (Builtin.Dict.updateFrom "dict.__init__" s.heap.objs.size (.ref p) [] .none) _ _ _
 unfold Builtin.Dict.updateFrom
 refine wpAny_bind (wpAny_typeOf J ?_)
 rw [if_neg (by decide)]
 refine wpAny_bind ?_
 unfold Builtin.Dict.merge
 refine wpAny_bind ?_
 unfold Builtin.Dict.readDirectly
 refine wpAny_bind (wpAny_isInstance J isSubtype_dict_dict ?_)
 simp only [Bool.not_true,yCR,if_false]
 refine wpAny_bind (wpAny_specialOf J F.slot_dict_iter.lookup (wpAny_pure ?_))
 simp only [beq_self_eq_true,if_true]
 refine wpAny_bind (wpAny_pure ?_)
 refine merge_copy (kvs:=kvs) a7 a9 Y O a0 (by omega) fun h' a8 ad=>?_
 show wpAny _ _ (Builtin.Dict.addKeywords s.heap.objs.size [] >>= _) _ _ _
 refine wpAny_bind (wpAny_pure (wpAny_pure ⟨rfl,?_⟩))
 obtain ⟨od,es,ep,g1,g2,g3,g4⟩:=ad
 refine ⟨.ref s.heap.objs.size,_,I.laid (h':=h') (t':=s.toks) (o:=.dT kvs) (fun b o Z=>(a8.2 b (yAI (Heap.lt_size Z))).trans (L _ _ Z)) (yAB _) ⟨z,?_,xs,kt.keeps fun c ys ec=>?_,od,es,ep,g1,g2,g3,g4,U⟩,rfl,q _ (I.hok.fresh (yAB _))⟩
 .have:=I.big
  exact beq_eq_false_iff_ne.mpr (yCJ this)
 .rw [ZAG (ZAB ec (I.hok.fresh (yAB _)))]
  exact ec
end
theorem rec_fn {P:Program} {w:World} {K:W.Frag} {mg:Str->Option Value} {base:Heap} {x:Str} {f:Addr} {fd:FuncData} {ps:List Str} {sp:Nat->Sp} (L:∀ vs H Q E,sp 0 vs H Q E->False) (J:Binds K fd ps []) (z:W.keepIn K (.ref f)=true) (hm:mg x=some (.ref f))
  (step:∀ n,Fn P w K mg base CX0 x n ps (sp n)->FnOk P w K mg base CX0 (n+1) f fd ps (sp (n+1))):∀ n,Fn P w K mg base CX0 x n ps (sp n)
 | 0=>⟨f,fd,⟨fun vs H Q E h=>(L vs H Q E h).elim,fun A outer s H args us vs Q E _ _ _ _ h=>(L vs H Q E h).elim⟩,J,z,hm⟩
 | n+1=>⟨f,fd,step n (rec_fn L J z hm step n),J,z,hm⟩
open PySem
theorem tVar_1 {v:V} {a0:Option V} {σ:St} {H:Hp} {Q:VK}:tVar 1 (a0::some v::σ) H Q=Q v H:=by
 simp only [ZAj,ZAf]
theorem tVar_2 {v:V} {a0 z:Option V} {σ:St} {H:Hp} {Q:VK}:tVar 2 (a0::z::some v::σ) H Q=Q v H:=by
 simp only [ZAj,ZAf]
theorem tVar_3 {v:V} {a0 J z:Option V} {σ:St} {H:Hp} {Q:VK}:tVar 3 (a0::J::z::some v::σ) H Q=Q v H:=by
 simp only [ZAj,ZAf]
theorem tVar_4 {v:V} {a0 J z L:Option V} {σ:St} {H:Hp} {Q:VK}:tVar 4 (a0::J::z::L::some v::σ) H Q=Q v H:=by
 simp only [ZAj,ZAf]
theorem tVar_5 {v:V} {a0 J z L O:Option V} {σ:St} {H:Hp} {Q:VK}:tVar 5 (a0::J::z::L::O::some v::σ) H Q=Q v H:=by
 simp only [ZAj,ZAf]
theorem tVar_6 {v:V} {a0 J z L O U:Option V} {σ:St} {H:Hp} {Q:VK}:tVar 6 (a0::J::z::L::O::U::some v::σ) H Q=Q v H:=by
 simp only [ZAj,ZAf]
theorem tVar_7 {v:V} {a0 L J O U Y z:Option V} {σ:St} {H:Hp} {Q:VK}:tVar 7 (a0::L::J::O::U::Y::z::some v::σ) H Q=Q v H:=by
 simp only [ZAj,ZAf]
theorem tVar_8 {v:V} {a0 O J U Y Z z L:Option V} {σ:St} {H:Hp} {Q:VK}:tVar 8 (a0::O::J::U::Y::Z::z::L::some v::σ) H Q=Q v H:=by
 simp only [ZAj,ZAf]
theorem tVar_9 {v:V} {a0 O J U Z a5 z L Y:Option V} {σ:St} {H:Hp} {Q:VK}:tVar 9 (a0::O::J::U::Z::a5::z::L::Y::some v::σ) H Q=Q v H:=by
 simp only [ZAj,ZAf]
theorem tVar_10 {v:V} {a0 O J U a4 a5 z L Z Y:Option V} {σ:St} {H:Hp} {Q:VK}:tVar 10 (a0::O::J::U::a4::a5::z::L::Z::Y::some v::σ) H Q=Q v H:=by
 simp only [ZAj,ZAf]
theorem tVar_11 {v:V} {a0 U L Y a4 a5 J O a8 Z z:Option V} {σ:St} {H:Hp} {Q:VK}:tVar 11 (a0::U::L::Y::a4::a5::J::O::a8::Z::z::some v::σ) H Q=Q v H:=by
 simp only [ZAj,ZAf]
theorem tVar_12 {v:V} {a0 Y O Z a4 a5 L U a8 a9 z J:Option V} {σ:St} {H:Hp} {Q:VK}:tVar 12 (a0::Y::O::Z::a4::a5::L::U::a8::a9::z::J::some v::σ) H Q=Q v H:=by
 simp only [ZAj,ZAf]
theorem tVar_13 {v:V} {a0 Z U a3 a4 a5 O Y a8 a9 J L z:Option V} {σ:St} {H:Hp} {Q:VK}:tVar 13 (a0::Z::U::a3::a4::a5::O::Y::a8::a9::J::L::z::some v::σ) H Q=Q v H:=by
 simp only [ZAj,ZAf]
theorem tVar_14 {v:V} {a0 a1 Y a3 a4 a5 U Z a8 a9 L O J z:Option V} {σ:St} {H:Hp} {Q:VK}:tVar 14 (a0::a1::Y::a3::a4::a5::U::Z::a8::a9::L::O::J::z::some v::σ) H Q=Q v H:=by
 simp only [ZAj,ZAf]
theorem tVar_15 {v:V} {a0 a1 Y a3 a4 a5 a6 a7 a8 Z U J L z O:Option V} {σ:St} {H:Hp} {Q:VK}:tVar 15 (a0::a1::Y::a3::a4::a5::a6::a7::a8::Z::U::J::L::z::O::some v::σ) H Q=Q v H:=by
 simp only [ZAj,ZAf]
theorem tVar_16 {v:V} {a0 a1 Z a3 a4 a5 a6 a7 a8 a9 Y J O z U L:Option V} {σ:St} {H:Hp} {Q:VK}:tVar 16 (a0::a1::Z::a3::a4::a5::a6::a7::a8::a9::Y::J::O::z::U::L::some v::σ) H Q=Q v H:=by
 simp only [ZAj,ZAf]
theorem tVar_17 {v:V} {a0 a1 a2 a3 a4 a5 a6 a7 a8 a9 Z L U z Y O J:Option V} {σ:St} {H:Hp} {Q:VK}:tVar 17 (a0::a1::a2::a3::a4::a5::a6::a7::a8::a9::Z::L::U::z::Y::O::J::some v::σ) H Q=Q v H:=by
 simp only [ZAj,ZAf]
theorem tVar_18 {v:V} {a0 a1 a2 a3 a4 a5 a6 a7 a8 a9 aa L U z Z O J Y:Option V} {σ:St} {H:Hp} {Q:VK}:tVar 18 (a0::a1::a2::a3::a4::a5::a6::a7::a8::a9::aa::L::U::z::Z::O::J::Y::some v::σ) H Q=Q v H:=by
 simp only [ZAj,ZAf]
theorem tVar_19 {v:V} {a0 a1 a2 a3 a4 a5 a6 a7 a8 a9 aa L U z Z O J Y ac:Option V} {σ:St} {H:Hp} {Q:VK}:tVar 19 (a0::a1::a2::a3::a4::a5::a6::a7::a8::a9::aa::L::U::z::Z::O::J::Y::ac::some v::σ) H Q=Q v H:=by
 simp only [ZAj,ZAf]
theorem tVar_20 {v:V} {a0 a1 a2 a3 a4 a5 a6 a7 a8 a9 ac L U z aa O J Y ad Z:Option V} {σ:St} {H:Hp} {Q:VK}:tVar 20 (a0::a1::a2::a3::a4::a5::a6::a7::a8::a9::ac::L::U::z::aa::O::J::Y::ad::Z::some v::σ) H Q=Q v H:=by
 simp only [ZAj,ZAf]
theorem tVar_21 {v:V} {a0 a1 a2 a3 a4 a5 a6 a7 a8 a9 ad O Y z ac U J Z ae aa L:Option V} {σ:St} {H:Hp} {Q:VK}:tVar 21 (a0::a1::a2::a3::a4::a5::a6::a7::a8::a9::ad::O::Y::z::ac::U::J::Z::ae::aa::L::some v::σ) H Q=Q v H:=by
 simp only [ZAj,ZAf]
theorem tVar_22 {v:V} {a0 a1 a2 a3 a4 a5 a6 a7 a8 a9 ae O Y z ad U J Z af ac L aa:Option V} {σ:St} {H:Hp} {Q:VK}:tVar 22 (a0::a1::a2::a3::a4::a5::a6::a7::a8::a9::ae::O::Y::z::ad::U::J::Z::af::ac::L::aa::some v::σ) H Q=Q v H:=by
 simp only [ZAj,ZAf]
theorem tVar_23 {v:V} {a0 a1 a2 a3 a4 a5 a6 a7 a8 a9 af O Y z ae U J aa ag ad L ac Z:Option V} {σ:St} {H:Hp} {Q:VK}:tVar 23 (a0::a1::a2::a3::a4::a5::a6::a7::a8::a9::af::O::Y::z::ae::U::J::aa::ag::ad::L::ac::Z::some v::σ) H Q=Q v H:=by
 simp only [ZAj,ZAf]
theorem tVar_24 {v:V} {a0 a1 a2 a3 a4 a5 a6 a7 a8 a9 ag O Y z af U J aa ah ad L ac Z ae:Option V} {σ:St} {H:Hp} {Q:VK}:tVar 24 (a0::a1::a2::a3::a4::a5::a6::a7::a8::a9::ag::O::Y::z::af::U::J::aa::ah::ad::L::ac::Z::ae::some v::σ) H Q=Q v H:=by
 simp only [ZAj,ZAf]
theorem tVar_25 {v:V} {a0 a1 a2 a3 a4 a5 a6 a7 a8 a9 ag O Y z af U J aa ai ad L ac Z ae ah:Option V} {σ:St} {H:Hp} {Q:VK}:tVar 25 (a0::a1::a2::a3::a4::a5::a6::a7::a8::a9::ag::O::Y::z::af::U::J::aa::ai::ad::L::ac::Z::ae::ah::some v::σ) H Q=Q v H:=by
 simp only [ZAj,ZAf]
theorem tVar_26 {v:V} {a0 a1 a2 a3 a4 a5 a6 a7 a8 a9 ah O Y z ag U J aa aj ad L ac Z ae ai af:Option V} {σ:St} {H:Hp} {Q:VK}:tVar 26 (a0::a1::a2::a3::a4::a5::a6::a7::a8::a9::ah::O::Y::z::ag::U::J::aa::aj::ad::L::ac::Z::ae::ai::af::some v::σ) H Q=Q v H:=by
 simp only [ZAj,ZAf]
theorem tVar_27 {v:V} {a0 a1 a2 a3 a4 a5 a6 a7 a8 a9 ai O Y z ah U J aa ak ad L ac Z ae aj ag af:Option V} {σ:St} {H:Hp} {Q:VK}:tVar 27 (a0::a1::a2::a3::a4::a5::a6::a7::a8::a9::ai::O::Y::z::ah::U::J::aa::ak::ad::L::ac::Z::ae::aj::ag::af::some v::σ) H Q=Q v H:=by
 simp only [ZAj,ZAf]
theorem tVar_28 {v:V} {a0 a1 a2 a3 a4 a5 a6 a7 a8 a9 aj O Z z ai Y J ac al ae L ad aa af ak ah ag U:Option V} {σ:St} {H:Hp} {Q:VK}:tVar 28 (a0::a1::a2::a3::a4::a5::a6::a7::a8::a9::aj::O::Z::z::ai::Y::J::ac::al::ae::L::ad::aa::af::ak::ah::ag::U::some v::σ) H Q=Q v H:=by
 simp only [ZAj,ZAf]
theorem tVar_29 {v:V} {a0 a1 a2 a3 a4 a5 a6 a7 a8 a9 ak U aa z aj Z J ad am af L ae ac ag al ai ah Y O:Option V} {σ:St} {H:Hp} {Q:VK}:tVar 29 (a0::a1::a2::a3::a4::a5::a6::a7::a8::a9::ak::U::aa::z::aj::Z::J::ad::am::af::L::ae::ac::ag::al::ai::ah::Y::O::some v::σ) H Q=Q v H:=by
 simp only [ZAj,ZAf]
theorem tVar_30 {v:V} {a0 a1 a2 a3 a4 a5 a6 a7 a8 a9 al Y ac z ak aa J ae an ag L af ad ah am aj ai Z U O:Option V} {σ:St} {H:Hp} {Q:VK}:tVar 30 (a0::a1::a2::a3::a4::a5::a6::a7::a8::a9::al::Y::ac::z::ak::aa::J::ae::an::ag::L::af::ad::ah::am::aj::ai::Z::U::O::some v::σ) H Q=Q v H:=by
 simp only [ZAj,ZAf]
open PySem
noncomputable def Cut (t:TS):TS:=t
theorem ZAR {X:Cx} {rest:List Stmt} {u:TS} (h:PSs X rest u):PSs X rest (Cut u):=h
theorem ZAW {u:TS} {D:Ends} {σ:St} {H:Hp} (h:u D σ H):Cut u D σ H:=h
theorem us0 {l:List Value} (h:l.length=0):l=[]:=yCW.mp h
theorem us1 {l:List Value} (h:l.length=1):∃ a0,l=[a0]:=by
 cases l with
 | nil=>cases h
 | cons a l=>
  obtain rfl:=us0 (l:=l) (Nat.succ.inj h)
  exact ⟨a,rfl⟩
theorem us2 {l:List Value} (h:l.length=2):∃ a0 z,l=[a0,z]:=by
 cases l with
 | nil=>cases h
 | cons a l=>
  obtain ⟨b0,rfl⟩:=us1 (l:=l) (Nat.succ.inj h)
  exact ⟨a,b0,rfl⟩
theorem us3 {l:List Value} (h:l.length=3):∃ a0 L z,l=[a0,L,z]:=by
 cases l with
 | nil=>cases h
 | cons a l=>
  obtain ⟨b0,J,rfl⟩:=us2 (l:=l) (Nat.succ.inj h)
  exact ⟨a,b0,J,rfl⟩
theorem us4 {l:List Value} (h:l.length=4):∃ a0 O J U,l=[a0,O,J,U]:=by
 cases l with
 | nil=>cases h
 | cons a l=>
  obtain ⟨b0,L,z,rfl⟩:=us3 (l:=l) (Nat.succ.inj h)
  exact ⟨a,b0,L,z,rfl⟩
theorem us5 {l:List Value} (h:l.length=5):∃ a0 U J Y Z,l=[a0,U,J,Y,Z]:=by
 cases l with
 | nil=>cases h
 | cons a l=>
  obtain ⟨b0,L,z,O,rfl⟩:=us4 (l:=l) (Nat.succ.inj h)
  exact ⟨a,b0,L,z,O,rfl⟩
theorem us6 {l:List Value} (h:l.length=6):∃ a0 Y J Z a4 a5,l=[a0,Y,J,Z,a4,a5]:=by
 cases l with
 | nil=>cases h
 | cons a l=>
  obtain ⟨b0,L,z,O,U,rfl⟩:=us5 (l:=l) (Nat.succ.inj h)
  exact ⟨a,b0,L,z,O,U,rfl⟩
noncomputable def tMakeN (C:Addr):TE:=fun σ H Q=>∀ x dx,H x=none->H dx=none->dx≠x->Q (.ref x) (upd (upd H dx (.own x)) x (.ins C dx []))
noncomputable def ZEE (t u:TE):TE:=fun σ H Q=>t σ H Q∨u σ H Q
theorem ZAp {X:Cx} {e:Expr} {t u:TE} (h:PE X e t) (k:PE X e u):PE X e (ZEE t u):=fun pins s σ H Q I z=>z.elim (h pins s σ H Q I) (k pins s σ H Q I)
end L2
namespace Po
noncomputable abbrev Fr:=Option (Nat×Nat)
noncomputable abbrev W:=Nat->Nat->Option Fr
noncomputable abbrev Mt:=Nat×Nat×Nat
noncomputable def mid (f b:Nat):Nat:=f+(b-f+1) / 2
theorem mid_lt {f b:Nat} (h:¬ b-f < 2):f < mid f b /\ mid f b < b:=by unfold mid;omega
noncomputable def mts (f b:Nat):List Mt:=if h:b-f < 2 then [] else mts f (mid f b)++mts (mid f b) b++[(f,mid f b,b)]
termination_by b-f
decreasing_by
 .have:=mid_lt h;omega
 .have:=mid_lt h;omega
theorem mts_leaf {f b:Nat} (h:b-f < 2):mts f b=[]:=by rw [mts,dif_pos h]
theorem mts_node {f b:Nat} (h:¬ b-f < 2):mts f b=mts f (mid f b)++mts (mid f b) b++[(f,mid f b,b)]:=by rw [mts,dif_neg h]
theorem tree {P:Nat->Nat->Prop} (h1:∀ f b,b-f < 2->P f b) (h2:∀ f b,¬ b-f < 2->P f (mid f b)->P (mid f b) b->P f b) (f b:Nat):P f b:=by
 suffices ∀ n f b,b-f <= n->P f b from this _ f b (yAB _)
 intro n
 induction n with
 | zero=>intro f b h;exact h1 f b (by omega)
 | succ n ih=>
  intro f b h
  by_cases z:b-f < 2
  .exact h1 f b z
  .have:=mid_lt z
   exact h2 f b z (ih _ _ (by omega)) (ih _ _ (by omega))
theorem mts_len (f b:Nat):(mts f b).length=b-f-1:=by
 refine tree (P:=fun f b=>(mts f b).length=b-f-1) (fun f b h=>?_) (fun f b h h1 h2=>?_) f b
 .rw [mts_leaf h];simp;omega
 .have:=mid_lt h
  rw [mts_node h,yAC,yAC,h1,h2,yCC]
  omega
theorem mts_mem {a m c:Nat} (f b:Nat):(a,m,c)∈mts f b->m=mid a c /\ f <= a /\ c <= b /\ ¬ c-a < 2:=by
 refine tree (P:=fun f b=>(a,m,c)∈mts f b->m=mid a c /\ f <= a /\ c <= b /\ ¬ c-a < 2) (fun f b h=>?_) (fun f b h h1 h2=>?_) f b
 .rw [mts_leaf h];intro z;cases z
 .have:=mid_lt h
  rw [mts_node h]
  intro z
  rcases yAR.mp z with z | z
  .rcases yAR.mp z with z | z
   .have:=h1 z;omega
   .have:=h2 z;omega
  .cases yAN.mp z
   exact ⟨rfl,yAB _,yAB _,h⟩
noncomputable def met (ah:Nat->Nat->Bool):Fr->Fr->Fr
 | none,o=>o
 | some x,none=>some x
 | some x,some y=>if ah x.1 y.1=true then some x else some y
noncomputable def mask:Fr->Fr->List (Nat×Nat)
 | some x,some y=>[(x.1,y.1)]
 | _,_=>[]
noncomputable def put (w:W) (a c:Nat) (v:Fr):W:=fun a' c'=>if a'=a /\ c'=c then some v else w a' c'
noncomputable def step (ah:Nat->Nat->Bool) (s:W×List (Nat×Nat)) (m:Mt):Option (W×List (Nat×Nat)) :=
 match s.1 m.1 m.2.1,s.1 m.2.1 m.2.2 with
 | some x,some y=>some (put s.1 m.1 m.2.2 (met ah x y),s.2++mask x y)
 | _,_=>none
noncomputable def run (ah:Nat->Nat->Bool):List Mt->W×List (Nat×Nat)->Option (W×List (Nat×Nat))
 | [],s=>some s
 | m::r,s=>(step ah s m).bind (run ah r)
theorem run_app (ah:Nat->Nat->Bool) (ms ns:List Mt) (s:W×List (Nat×Nat)):run ah (ms++ns) s=(run ah ms s).bind (run ah ns):=by
 induction ms generalizing s with
 | nil=>rfl
 | cons m r ih=>
  show (step ah s m).bind (run ah (r++ns))=((step ah s m).bind (run ah r)).bind (run ah ns)
  cases h:step ah s m with
  | none=>rfl
  | some t=>exact ih t
noncomputable def best (ah:Nat->Nat->Bool) (fr:Nat->Fr) (f b:Nat):Fr:=if h:b-f < 2 then fr f else met ah (best ah fr f (mid f b)) (best ah fr (mid f b) b)
termination_by b-f
decreasing_by
 .have:=mid_lt h;omega
 .have:=mid_lt h;omega
theorem ZBv {ah:Nat->Nat->Bool} {fr:Nat->Fr} {f b:Nat} (h:b-f < 2):best ah fr f b=fr f:=by rw [best,dif_pos h]
theorem ZBu {ah:Nat->Nat->Bool} {fr:Nat->Fr} {f b:Nat} (h:¬ b-f < 2):best ah fr f b=met ah (best ah fr f (mid f b)) (best ah fr (mid f b) b):=by rw [best,dif_neg h]
noncomputable def asks (D:Mt->Bool) (ah:Nat->Nat->Bool) (fr:Nat->Fr) (f b:Nat):List (Nat×Nat) :=
 if h:b-f < 2 then [] else asks D ah fr f (mid f b)++asks D ah fr (mid f b) b++(if D (f,mid f b,b)=true then mask (best ah fr f (mid f b)) (best ah fr (mid f b) b) else [])
termination_by b-f
decreasing_by
 .have:=mid_lt h;omega
 .have:=mid_lt h;omega
theorem asks_leaf {D:Mt->Bool} {ah:Nat->Nat->Bool} {fr:Nat->Fr} {f b:Nat} (h:b-f < 2):asks D ah fr f b=[]:=by rw [asks,dif_pos h]
theorem ZDR {D:Mt->Bool} {ah:Nat->Nat->Bool} {fr:Nat->Fr} {f b:Nat} (h:¬ b-f < 2):asks D ah fr f b=asks D ah fr f (mid f b)++asks D ah fr (mid f b) b++(if D (f,mid f b,b)=true then mask (best ah fr f (mid f b)) (best ah fr (mid f b) b) else []):=by rw [asks,dif_neg h]
noncomputable def Right (ah:Nat->Nat->Bool) (fr:Nat->Fr) (w:W) (f b:Nat):Prop:=(∀ i,f <= i->i < b->w i (i+1)=some (fr i)) /\ ∀ m∈mts f b,w m.1 m.2.2=some (best ah fr m.1 m.2.2)
theorem Right.top {ah:Nat->Nat->Bool} {fr:Nat->Fr} {w:W} {f b:Nat} (h:Right ah fr w f b) (J:f < b):w f b=some (best ah fr f b):=by
 by_cases z:b-f < 2
 .rw [ZBv z,show b=f+1 by omega]
  exact h.1 f (yAB _) J
 .exact h.2 (f,mid f b,b) (by rw [mts_node z];exact yAZ _ (yAN.mpr rfl))
theorem runs (D:Mt->Bool) (ah:Nat->Nat->Bool) (fr:Nat->Fr) (f b:Nat):∀ (w:W) (l:List (Nat×Nat)),f < b->(∀ i,f <= i->i < b->w i (i+1)=some (fr i))->(∀ m∈mts f b,D m=false->w m.1 m.2.2=some (best ah fr m.1 m.2.2)) ->
  ∃ w',run ah ((mts f b).filter D) (w,l)=some (w',l++asks D ah fr f b) /\ Right ah fr w' f b /\ ∀ a c,(c <= a+1∨a < f∨b < c)->w' a c=w a c:=by
 refine tree (P:=fun f b=>∀ (w:W) (l:List (Nat×Nat)),f < b->(∀ i,f <= i->i < b->w i (i+1)=some (fr i))->(∀ m∈mts f b,D m=false->w m.1 m.2.2=some (best ah fr m.1 m.2.2)) ->
  ∃ w',run ah ((mts f b).filter D) (w,l)=some (w',l++asks D ah fr f b) /\ Right ah fr w' f b /\ ∀ a c,(c <= a+1∨a < f∨b < c)->w' a c=w a c) (fun f b h w l hf hl hc=>?_) (fun f b h i1 i2 w l hf hl hc=>?_) f b
 .rw [mts_leaf h,asks_leaf h]
  exact ⟨w,by rw [yBA];rfl,⟨hl,fun m hm=>by rw [mts_leaf h] at hm;cases hm⟩,fun _ _ _=>rfl⟩
 .have hm:=mid_lt h
  rw [mts_node h] at hc
  rw [mts_node h,ZDR h,yBN,yBN,run_app,run_app]
  obtain ⟨Z,e1,r1,k1⟩:=i1 w l hm.1 (fun i a c=>hl i a (by omega)) fun m z d=>hc m (yBQ _ (yBQ _ z)) d
  rw [e1]
  show ∃ w',((run ah ((mts (mid f b) b).filter D) (Z,l++asks D ah fr f (mid f b))).bind _)=_ /\ _
  obtain ⟨O,e2,Y,k2⟩:=i2 Z (l++asks D ah fr f (mid f b)) hm.2 (fun i a c=>by rw [k1 i (i+1) (.inl (yAB _))];exact hl i (by omega) c) fun m z d=>by
   have g:=mts_mem (a:=m.1) (m:=m.2.1) (c:=m.2.2) _ _ z
   rw [k1 _ _ (by omega)]
   exact hc m (yBQ _ (yAZ _ z)) d
  rw [e2]
  show ∃ w',(run ah ([(f,mid f b,b)].filter D) (O,l++asks D ah fr f (mid f b)++asks D ah fr (mid f b) b))=_ /\ _
  have L:Right ah fr O f (mid f b):=⟨fun i a c=>by rw [k2 i (i+1) (.inl (yAB _))];exact r1.1 i a c,fun m z=>by
   have g:=mts_mem (a:=m.1) (m:=m.2.1) (c:=m.2.2) _ _ z
   rw [k2 _ _ (by omega)]
   exact r1.2 m z⟩
  have t1:=L.top hm.1
  have t2:=Y.top hm.2
  have J:∀ (w':W),(∀ i,w' i (i+1)=O i (i+1))->∀ i,f <= i->i < b->w' i (i+1)=some (fr i):=fun w' hw i a c=>by
   rw [hw,k2 _ _ (.inl (yAB _)),k1 _ _ (.inl (yAB _))];exact hl i a c
  by_cases hD:D (f,mid f b,b)=true
  .rw [yBZ (by exact hD),if_pos hD]
   refine ⟨put O f b (met ah (best ah fr f (mid f b)) (best ah fr (mid f b) b)),?_,⟨J _ fun i=>?_,fun m z=>?_⟩,fun a c z=>?_⟩
   .show (step ah (O,_) (f,mid f b,b)).bind (run ah [])=_
    unfold step
    dsimp only
    rw [t1,t2]
    show some _=_
    rw [<- yAY,<- yAY]
   .unfold put
    rw [if_neg (by omega)]
   .rw [mts_node h] at z
    rcases yAR.mp z with z | z
    .have g:m.1≠f∨m.2.2≠b:=by
      rcases yAR.mp z with z | z
      .have:=mts_mem (a:=m.1) (m:=m.2.1) (c:=m.2.2) _ _ z;omega
      .have:=mts_mem (a:=m.1) (m:=m.2.1) (c:=m.2.2) _ _ z;omega
     unfold put
     rw [if_neg (by omega)]
     rcases yAR.mp z with z | z
     .exact L.2 m z
     .exact Y.2 m z
    .rw [yAN.mp z]
     unfold put
     rw [if_pos ⟨rfl,rfl⟩,ZBu h]
   .unfold put
    rw [if_neg (by omega),k2 _ _ (by omega),k1 _ _ (by omega)]
  .have U:D (f,mid f b,b)=false:=by simpa using hD
   rw [yBV (by rw [U];decide),if_neg hD]
   refine ⟨O,?_,⟨J _ fun i=>rfl,fun m z=>?_⟩,fun a c z=>?_⟩
   .show some _=_
    rw [yBA,yAY]
   .rw [mts_node h] at z
    rcases yAR.mp z with z | z
    .rcases yAR.mp z with z | z
     .exact L.2 m z
     .exact Y.2 m z
    .rw [yAN.mp z]
     have:=hc (f,mid f b,b) (yAZ _ (yAN.mpr rfl)) U
     dsimp only at this ⊢
     rw [k2 _ _ (by omega),k1 _ _ (by omega)]
     exact this
   .rw [k2 _ _ (by omega),k1 _ _ (by omega)]
noncomputable def cnt (fr:Nat->Fr) (f b:Nat):Nat:=((List.range' f (b-f)).filter fun i=>(fr i).isSome).length
theorem cnt_split {fr:Nat->Fr} {f m b:Nat} (h1:f <= m) (h2:m <= b):cnt fr f b=cnt fr f m+cnt fr m b:=by
 unfold cnt
 rw [<- yAC,<- yBN]
 congr 2
 rw [show b-f=(m-f)+(b-m) by omega,<- List.range'_append_1,show f+(m-f)=m by omega]
theorem cnt_one {fr:Nat->Fr} {f b:Nat} (h:b=f+1):cnt fr f b=if (fr f).isSome then 1 else 0:=by
 subst h
 unfold cnt
 rw [show f+1-f=1 by omega]
 cases e:(fr f).isSome <;> simp [List.range',e]
theorem met_some {ah:Nat->Nat->Bool} (x y:Fr):(met ah x y).isSome=(x.isSome || y.isSome):=by
 cases x with
 | none=>cases y <;> rfl
 | some x=>cases y with
  | none=>rfl
  | some y=>show (if _ then _ else _:Fr).isSome=true;split <;> rfl
theorem best_some {ah:Nat->Nat->Bool} {fr:Nat->Fr} (f b:Nat):f < b->((best ah fr f b).isSome=true↔0 < cnt fr f b):=by
 refine tree (P:=fun f b=>f < b->((best ah fr f b).isSome=true↔0 < cnt fr f b)) (fun f b h L=>?_) (fun f b h J z L=>?_) f b
 .rw [ZBv h,cnt_one (by omega)]
  cases (fr f).isSome <;> simp
 .have hm:=mid_lt h
  have J:=J hm.1
  have z:=z hm.2
  rw [ZBu h,met_some,Bool.or_eq_true,cnt_split (m:=mid f b) (by omega) (by omega),J,z]
  omega
theorem best_mem {ah:Nat->Nat->Bool} {fr:Nat->Fr} {x:Nat×Nat} (f b:Nat):f < b->best ah fr f b=some x->∃ i,f <= i /\ i < b /\ fr i=some x:=by
 refine tree (P:=fun f b=>f < b->best ah fr f b=some x->∃ i,f <= i /\ i < b /\ fr i=some x) (fun f b h z=>?_) (fun f b h L J z=>?_) f b
 .rw [ZBv h]
  exact fun e=>⟨f,yAB _,z,e⟩
 .have hm:=mid_lt h
  rw [ZBu h]
  intro e
  have:best ah fr f (mid f b)=some x∨best ah fr (mid f b) b=some x:=by
   revert e
   cases best ah fr f (mid f b) with
   | none=>exact fun e=>.inr e
   | some p=>cases best ah fr (mid f b) b with
    | none=>exact fun e=>.inl e
    | some q=>
     show (if _ then _ else _:Fr)=_->_
     split
     .exact fun e=>.inl e
     .exact fun e=>.inr e
  rcases this with e | e
  .obtain ⟨i,a,c,d⟩:=L hm.1 e;exact ⟨i,a,by omega,d⟩
  .obtain ⟨i,a,c,d⟩:=J hm.2 e;exact ⟨i,by omega,c,d⟩
theorem asks_mem {D:Mt->Bool} {ah:Nat->Nat->Bool} {fr:Nat->Fr} {p q:Nat} (f b:Nat):(p,q)∈asks D ah fr f b->∃ i j x y,f <= i /\ i < j /\ j < b /\ fr i=some (p,x) /\ fr j=some (q,y):=by
 refine tree (P:=fun f b=>(p,q)∈asks D ah fr f b->∃ i j x y,f <= i /\ i < j /\ j < b /\ fr i=some (p,x) /\ fr j=some (q,y)) (fun f b h=>?_) (fun f b h J L=>?_) f b
 .rw [asks_leaf h];intro z;cases z
 .have hm:=mid_lt h
  rw [ZDR h]
  intro z
  rcases yAR.mp z with z | z
  .rcases yAR.mp z with z | z
   .obtain ⟨i,j,x,y,a,c,d,e⟩:=J z;exact ⟨i,j,x,y,a,c,by omega,e⟩
   .obtain ⟨i,j,x,y,a,c,d,e⟩:=L z;exact ⟨i,j,x,y,by omega,c,d,e⟩
  .split at z
   .revert z
    cases e1:best ah fr f (mid f b) with
    | none=>intro z;cases z
    | some x=>cases e2:best ah fr (mid f b) b with
     | none=>intro z;cases z
     | some y=>
      intro z
      have z:=yAN.mp z
      injection z with z1 z2
      obtain ⟨i,a,c,d⟩:=best_mem f (mid f b) hm.1 e1
      obtain ⟨j,a',c',d'⟩:=best_mem (mid f b) b hm.2 e2
      exact ⟨i,j,x.2,y.2,a,by omega,c',by rw [z1];exact d,by rw [z2];exact d'⟩
   .cases z
theorem best_first {lt:Nat->Nat->Prop} {ah:Nat->Nat->Bool} {fr:Nat->Fr} (tr:∀ x y z,lt x y->lt y z->lt x z) (f b:Nat) :
  f < b->(∀ i j x y,f <= i->i < j->j < b->fr i=some x->fr j=some y->(ah x.1 y.1=true->lt x.1 y.1) /\ (ah x.1 y.1=false->lt y.1 x.1))->∀ x,best ah fr f b=some x->∀ j y,f <= j->j < b->fr j=some y->y=x∨lt x.1 y.1:=by
 refine tree (P:=fun f b=>f < b->(∀ i j x y,f <= i->i < j->j < b->fr i=some x->fr j=some y->(ah x.1 y.1=true->lt x.1 y.1) /\ (ah x.1 y.1=false->lt y.1 x.1))->∀ x,best ah fr f b=some x->∀ j y,f <= j->j < b->fr j=some y->y=x∨lt x.1 y.1) (fun f b h hf _ x e j y h1 h2 L=>?_) (fun f b h U Y hf ha x e j y h1 h2 L=>?_) f b
 .rw [ZBv h] at e
  have:j=f:=by omega
  rw [this,e] at L
  cases L
  exact .inl rfl
 .have hm:=mid_lt h
  have U:=U hm.1 fun i j x y a c d=>ha i j x y a c (by omega)
  have Y:=Y hm.2 fun i j x y a c d=>ha i j x y (by omega) c d
  rw [ZBu h] at e
  revert e
  cases e1:best ah fr f (mid f b) with
  | none=>
   intro e
   by_cases hj:j < mid f b
   .have Z:=best_some (ah:=ah) (fr:=fr) f (mid f b) hm.1
    rw [e1] at Z
    have z1:¬ 0 < cnt fr f (mid f b):=fun z=>by cases Z.mpr z
    exfalso
    refine z1 ?_
    unfold cnt
    refine List.length_pos_of_mem (a:=j) (yBO.mpr ⟨List.mem_range'_1.mpr ⟨h1,by omega⟩,?_⟩)
    rw [L];rfl
   .exact Y x e j y (by omega) h2 L
  | some p=>
   cases e2:best ah fr (mid f b) b with
   | none=>
    intro e
    by_cases hj:j < mid f b
    .exact U x (e1.trans e) j y h1 hj L
    .have Z:=best_some (ah:=ah) (fr:=fr) (mid f b) b hm.2
     rw [e2] at Z
     have z1:¬ 0 < cnt fr (mid f b) b:=fun z=>by cases Z.mpr z
     exfalso
     refine z1 ?_
     unfold cnt
     refine List.length_pos_of_mem (a:=j) (yBO.mpr ⟨List.mem_range'_1.mpr ⟨by omega,by omega⟩,?_⟩)
     rw [L];rfl
   | some q=>
    obtain ⟨i0,a0,c0,d0⟩:=best_mem f (mid f b) hm.1 e1
    obtain ⟨j0,a3,a2,a1⟩:=best_mem (mid f b) b hm.2 e2
    have O:=ha i0 j0 p q a0 (by omega) a2 d0 a1
    show (if _ then _ else _:Fr)=_->_
    split
    .rename_i J
     intro e
     cases e
     by_cases hj:j < mid f b
     .exact U _ e1 j y h1 hj L
     .rcases Y _ e2 j y (by omega) h2 L with z | z
      .rw [z];exact .inr (O.1 J)
      .exact .inr (tr _ _ _ (O.1 J) z)
    .rename_i J
     have J:ah p.1 q.1=false:=by simpa using J
     intro e
     cases e
     by_cases hj:j < mid f b
     .rcases U _ e1 j y h1 hj L with z | z
      .rw [z];exact .inr (O.2 J)
      .exact .inr (tr _ _ _ (O.2 J) z)
     .exact Y _ e2 j y (by omega) h2 L
noncomputable def onWay (p:Nat) (m:Mt):Bool:=decide (m.1 <= p) && decide (p < m.2.2)
theorem way_out (p:Nat) (f b:Nat):(p < f∨b <= p)->(mts f b).filter (onWay p)=[]:=by
 intro h
 rw [List.filter_eq_nil_iff]
 rintro ⟨a,m,c⟩ hm z
 have g:=mts_mem _ _ hm
 unfold onWay at z
 rw [yCE,decide_eq_true_iff,decide_eq_true_iff] at z
 dsimp only at z
 omega
theorem way_len (p:Nat) (f b:Nat):∀ k,b-f <= 2 ^ k->((mts f b).filter (onWay p)).length <= k:=by
 refine tree (P:=fun f b=>∀ k,b-f <= 2 ^ k->((mts f b).filter (onWay p)).length <= k) (fun f b h k z=>?_) (fun f b h U O k z=>?_) f b
 .rw [mts_leaf h];exact yAH _
 .have hm:=mid_lt h
  cases k with
  | zero=>simp at z;omega
  | succ k=>
   rw [mts_node h,yBN,yBN,yAC,yAC]
   have h3:([(f,mid f b,b)].filter (onWay p)).length <= 1:=yCP _ _
   have L:mid f b-f <= 2 ^ k:=by rw [Nat.pow_succ] at z;unfold mid at *;omega
   have J:b-mid f b <= 2 ^ k:=by rw [Nat.pow_succ] at z;unfold mid at *;omega
   have Z:=U k L
   have Y:=O k J
   by_cases hp:p < mid f b
   .rw [way_out p (mid f b) b (.inl hp)]
    simp only [yBL]
    omega
   .rw [way_out p f (mid f b) (.inr (by omega))]
    simp only [yBL]
    omega
theorem asks_le {D:Mt->Bool} {ah:Nat->Nat->Bool} {fr:Nat->Fr} (f b:Nat):(asks D ah fr f b).length <= ((mts f b).filter D).length:=by
 refine tree (P:=fun f b=>(asks D ah fr f b).length <= ((mts f b).filter D).length) (fun f b h=>?_) (fun f b h J z=>?_) f b
 .rw [asks_leaf h];exact yAH _
 .rw [ZDR h,mts_node h,yBN,yBN,yAC,yAC,yAC,yAC]
  have:(if D (f,mid f b,b)=true then mask (best ah fr f (mid f b)) (best ah fr (mid f b) b) else []).length <= ([(f,mid f b,b)].filter D).length:=by
   split
   .rename_i hD
    rw [yBZ (by exact hD)]
    show _ <= 1
    cases best ah fr f (mid f b) with
    | none=>exact yAH _
    | some x=>cases best ah fr (mid f b) b with
     | none=>exact yAH _
     | some y=>exact yAB _
   .exact yAH _
  omega
theorem best_same {ah:Nat->Nat->Bool} {fr fr':Nat->Fr} (f b:Nat):f < b->(∀ i,f <= i->i < b->fr' i=fr i)->best ah fr' f b=best ah fr f b:=by
 refine tree (P:=fun f b=>f < b->(∀ i,f <= i->i < b->fr' i=fr i)->best ah fr' f b=best ah fr f b) (fun f b h J z=>?_) (fun f b h O L J z=>?_) f b
 .rw [ZBv h,ZBv h]
  exact z f (yAB _) J
 .have hm:=mid_lt h
  rw [ZBu h,ZBu h,O hm.1 fun i a c=>z i a (by omega),L hm.2 fun i a c=>z i (by omega) c]
theorem take_runs {ah:Nat->Nat->Bool} {fr fr':Nat->Fr} {w:W} {n p:Nat} (l:List (Nat×Nat)) (L:p < n) (R:Right ah fr w 0 n) (J:∀ i,i≠p->fr' i=fr i) :
  ∃ w',run ah ((mts 0 n).filter (onWay p)) (put w p (p+1) (fr' p),l)=some (w',l++asks (onWay p) ah fr' 0 n) /\ Right ah fr' w' 0 n:=by
 have hh:∀ i,0 <= i->i < n->put w p (p+1) (fr' p) i (i+1)=some (fr' i):=fun i _ hi=>by
  unfold put
  by_cases e:i=p
  .rw [if_pos ⟨e,by omega⟩,e]
  .rw [if_neg (by omega),J i e]
   exact R.1 i (yAH _) hi
 obtain ⟨w',a,c,_⟩:=runs (onWay p) ah fr' 0 n (put w p (p+1) (fr' p)) l (by omega) hh fun m hm z=>by
  have g:=mts_mem (a:=m.1) (m:=m.2.1) (c:=m.2.2) _ _ hm
  unfold put
  rw [if_neg (by omega),R.2 m hm]
  congr 1
  refine (best_same (fr:=fr) _ _ (by omega) fun i h1 h2=>?_).symm
  refine J i fun e=>?_
  unfold onWay at z
  rw [Bool.and_eq_false_iff,decide_eq_false_iff_not,decide_eq_false_iff_not] at z
  omega
 exact ⟨w',a,c⟩
theorem make_runs {ah:Nat->Nat->Bool} {fr:Nat->Fr} {w:W} {n:Nat} (l:List (Nat×Nat)) (hn:0 < n) (h:∀ i,i < n->w i (i+1)=some (fr i)) :
  ∃ w',run ah (mts 0 n) (w,l)=some (w',l++asks (fun _=>true) ah fr 0 n) /\ Right ah fr w' 0 n:=by
 obtain ⟨w',a,c,_⟩:=runs (fun _=>true) ah fr 0 n w l hn (fun i _ hi=>h i hi) fun m hm z=>by cases z
 rw [List.filter_eq_self.mpr (fun _ _=>rfl)] at a
 exact ⟨w',a,c⟩
end Po
namespace Po
end Po
namespace Law
open PySem L2
local macro_rules | `(tactic| walk_at "o")=>`(tactic| first | exact Or.inl rfl | exact Or.inr rfl)
set_option hygiene false in
local macro_rules | `(tactic| walk_at "rd")=>`(tactic| ((try dsimp only [cx_K,ZEw,tDNewK,tDNotIn,tDIn,ZFd,ZFg,ZEx,tForZ_eq,ZFY,tCompR2_eq,sFldAug_eq,cx_cloK,ZEy,ZCm,tForE_eq,tCompE_eq,tMaxD,tAug_eq,ipI_int,gSub,gCons_eq,gNil_eq,tSeq,tIfS,ZFX,tB,tOr,tAnd,tNot,tOp,tUn,tC,ZAf,tTry,tCallS,tRaise,ZEu,ZDj,tXMk,tFS,ZFf,ZEV,ZFW,ZEW,ZEE,tMakeN,tVar_1,tVar_2,tVar_3,tVar_4,tVar_5,tVar_6,tVar_7,tVar_8,tVar_9,tVar_10,tVar_11,tVar_12,tVar_13,tVar_14,tVar_15,tVar_16,tVar_17,tVar_18,tVar_19,tVar_20,tVar_21,tVar_22,tVar_23,tVar_24,tVar_25,tVar_26,tVar_27,tVar_28,tVar_29,tVar_30,rI0_int,rI_int,rU_int,rEq_int,rNe_int,rEq_bl,rNe_bl,rEq_str,rNe_str,ex_bl,ex_int,tAsg,ZD4,tRet,tRetN,ZFc,ZFb,tNever,ZFe,tOrV,ZFa,tIf,List.set_cons_zero,List.set_cons_succ,ZFO,ZEm,ZCl,tNil,List.cons_append,yCX,yBA,tCB,tFld_eq,sFld_eq,tForL_eq,tForR1_eq,tForR2_eq,tCompL_eq,tCompR1_eq,tYes,tBM,tBM0,tLst,tTup,ZEv,true_and,tSl,ZFZ,ZED,decide_eq_true_eq,Bool.not_eq_true',decide_eq_false_iff_not,L2.start,yAV,List.map_nil,yAQ,yBL,Nat.reduceAdd,Nat.reduceSub,yCH,yBU,List.replicate_zero,List.replicate_succ,if_true,if_false,yCR,Bool.true_eq_false,Bool.not_true,Bool.not_false]);(try simp only [cx_K,ZEw,tDNewK,tDNotIn,tDIn,ZFd,ZFg,ZEx,tForZ_eq,ZFY,tCompR2_eq,sFldAug_eq,cx_cloK,ZEy,ZCm,tForE_eq,tCompE_eq,tMaxD,tAug_eq,ipI_int,gSub,gCons_eq,gNil_eq,tSeq,tIfS,ZFX,tB,tOr,tAnd,tNot,tOp,tUn,tC,ZAf,tTry,tCallS,tRaise,ZEu,ZDj,tXMk,tFS,ZFf,ZEV,ZFW,ZEW,ZEE,tMakeN,tVar_1,tVar_2,tVar_3,tVar_4,tVar_5,tVar_6,tVar_7,tVar_8,tVar_9,tVar_10,tVar_11,tVar_12,tVar_13,tVar_14,tVar_15,tVar_16,tVar_17,tVar_18,tVar_19,tVar_20,tVar_21,tVar_22,tVar_23,tVar_24,tVar_25,tVar_26,tVar_27,tVar_28,tVar_29,tVar_30,rI0_int,rI_int,rU_int,rEq_int,rNe_int,rEq_bl,rNe_bl,rEq_str,rNe_str,ex_bl,ex_int,tAsg,ZD4,tRet,tRetN,ZFc,ZFb,tNever,ZFe,tOrV,ZFa,tIf,List.set_cons_zero,List.set_cons_succ,ZFO,ZEm,ZCl,tNil,List.cons_append,yCX,yBA,tCB,tFld_eq,sFld_eq,tForL_eq,tForR1_eq,tForR2_eq,tCompL_eq,tCompR1_eq,tYes,tBM,tBM0,tLst,tTup,ZEv,true_and,tSl,ZFZ,ZED,decide_eq_true_eq,Bool.not_eq_true',decide_eq_false_iff_not,L2.start,yAV,List.map_nil,yAQ,yBL,Nat.reduceAdd,Nat.reduceSub,yCH,yBU,List.replicate_zero,List.replicate_succ,if_true,if_false,yCR,Bool.true_eq_false,Bool.not_true,Bool.not_false])))
local macro_rules | `(tactic| walk_at "up")=>`(tactic| first | assumption | (refine Same.get (by assumption) ?_;walk_at "up"))
local macro_rules | `(tactic| walk_at "lk")=>`(tactic| ((repeat (first | rw [lkc,if_pos rfl] | rw [lkc,if_neg (by decide +kernel)]));first | done | rfl))
noncomputable def top (i:Nat):Stmt:=PySem.Challenge.pw_sorthall_k67_whole_stopped.main.body.getD i (.Pass ⟨0,0,0,0⟩)
noncomputable abbrev ZAy:Stmt:=top 2
noncomputable abbrev ZBI:Stmt:=ZAx (top 3) 0
noncomputable abbrev ZAm:Stmt:=ZAx (top 3) 1
noncomputable abbrev ZAr:Stmt:=ZAx (top 3) 2
noncomputable abbrev ZBX:Stmt:=ZAx (top 3) 3
noncomputable abbrev ZBJ:Stmt:=ZAx (top 3) 4
noncomputable abbrev ZBW:Stmt:=ZAx (top 3) 5
noncomputable abbrev ZA6:Stmt:=ZAx (top 3) 6
noncomputable abbrev ZBG:Stmt:=ZAx (top 3) 7
noncomputable abbrev ZBH:Stmt:=ZAx (top 3) 8
noncomputable abbrev ZAc:Stmt:=ZAx (top 4) 0
noncomputable abbrev ZAd:Stmt:=ZAx (top 4) 1
noncomputable abbrev ZA5:Stmt:=ZAx (top 9) 0
noncomputable abbrev ZA7:Stmt:=ZAx (top 11) 0
noncomputable abbrev ZA0:Stmt:=ZAx (top 11) 2
noncomputable abbrev ZAz:Stmt:=ZAx (top 11) 4
noncomputable abbrev ZAk:Stmt:=ZAx (top 14) 0
noncomputable abbrev ZAe:Stmt:=ZAx (top 14) 1
noncomputable abbrev ZBo:Stmt:=top 16
noncomputable abbrev ZCN:Stmt:=top 17
noncomputable abbrev ZCL:Stmt:=top 18
noncomputable abbrev ZCO:Stmt:=top 19
noncomputable abbrev ZCM:Stmt:=top 20
noncomputable abbrev ZDb:Stmt:=top 21
noncomputable abbrev ZBz:Stmt:=top 22
noncomputable abbrev ZCy:Stmt:=top 23
noncomputable abbrev ZC0:Stmt:=top 24
noncomputable abbrev ZDa:Stmt:=top 25
noncomputable abbrev ZCz:Stmt:=top 26
noncomputable abbrev ZBn:Stmt:=top 27
noncomputable abbrev ZDZ:Stmt:=top 28
noncomputable abbrev ZDn:Stmt:=top 29
theorem sc_meetings_of:FnScope ["first","beyond","middle"] ["first","beyond"] (ZAD ZAy):=⟨rfl,rfl,rfl,by decide +kernel,rfl,by decide +kernel,by decide +kernel⟩
theorem sc_Pour_init:FnScope ["self","asker","pieces","piece"] ["self","asker","pieces"] (ZAD ZBI):=⟨rfl,rfl,rfl,by decide +kernel,rfl,by decide +kernel,by decide +kernel⟩
theorem sc_Pour_front_of:FnScope ["self","piece","taken","places"] ["self","piece","taken"] (ZAD ZAm):=⟨rfl,rfl,rfl,by decide +kernel,rfl,by decide +kernel,by decide +kernel⟩
theorem sc_Pour_goes_on:FnScope ["self","p","q"] ["self","p","q"] (ZAD ZAr):=⟨rfl,rfl,rfl,by decide +kernel,rfl,by decide +kernel,by decide +kernel⟩
theorem sc_Pour_met:FnScope ["self","one","other"] ["self","one","other"] (ZAD ZBX):=⟨rfl,rfl,rfl,by decide +kernel,rfl,by decide +kernel,by decide +kernel⟩
theorem sc_Pour_held:FnScope ["self","meetings","went_on","told","first","middle","beyond"] ["self","meetings","went_on"] (ZAD ZBJ):=⟨rfl,rfl,rfl,by decide +kernel,rfl,by decide +kernel,by decide +kernel⟩
theorem sc_Pour_top:FnScope ["self"] ["self"] (ZAD ZBW):=⟨rfl,rfl,rfl,by decide +kernel,rfl,by decide +kernel,by decide +kernel⟩
theorem sc_Pour_first:FnScope ["self","top"] ["self"] (ZAD ZA6):=⟨rfl,rfl,rfl,by decide +kernel,rfl,by decide +kernel,by decide +kernel⟩
theorem sc_Pour_take:FnScope ["self","top","piece","taken","way","went_on"] ["self"] (ZAD ZBG):=⟨rfl,rfl,rfl,by decide +kernel,rfl,by decide +kernel,by decide +kernel⟩
theorem sc_Pour_left:FnScope ["self"] ["self"] (ZAD ZBH):=⟨rfl,rfl,rfl,by decide +kernel,rfl,by decide +kernel,by decide +kernel⟩
theorem sc_LastPour_front_of:FnScope ["self","piece","taken","places"] ["self","piece","taken"] (ZAD ZAc):=⟨rfl,rfl,rfl,by decide +kernel,rfl,by decide +kernel,by decide +kernel⟩
theorem sc_LastPour_goes_on:FnScope ["self","p","q"] ["self","p","q"] (ZAD ZAd):=⟨rfl,rfl,rfl,by decide +kernel,rfl,by decide +kernel,by decide +kernel⟩
theorem sc_Spent_init:FnScope ["self","asked"] ["self","asked"] (ZAD ZA5):=⟨rfl,rfl,rfl,by decide +kernel,rfl,by decide +kernel,by decide +kernel⟩
theorem sc_Asker_init:FnScope ["self","row","rule","most"] ["self","row","rule","most"] (ZAD ZA7):=⟨rfl,rfl,rfl,by decide +kernel,rfl,by decide +kernel,by decide +kernel⟩
theorem sc_Asker_ahead:FnScope ["self","p","q","later","earlier","said"] ["self","p","q"] (ZAD ZA0):=⟨rfl,rfl,rfl,by decide +kernel,rfl,by decide +kernel,by decide +kernel⟩
theorem sc_Asker_widen:FnScope ["self","more"] ["self","more"] (ZAD ZAz):=⟨rfl,rfl,rfl,by decide +kernel,rfl,by decide +kernel,by decide +kernel⟩
theorem sc_AskedRule_init:FnScope ["self","teller"] ["self","teller"] (ZAD ZAk):=⟨rfl,rfl,rfl,by decide +kernel,rfl,by decide +kernel,by decide +kernel⟩
theorem sc_AskedRule_before:FnScope ["self","x","y","teller"] ["self","x","y"] (ZAD ZAe):=⟨rfl,rfl,rfl,by decide +kernel,rfl,by decide +kernel,by decide +kernel⟩
theorem sc_cell_at:FnScope ["_law_script","_law_k"] ["_law_script","_law_k"] (ZAD ZBo):=⟨rfl,rfl,rfl,by decide +kernel,rfl,by decide +kernel,by decide +kernel⟩
theorem sc_digits:FnScope ["_law_script","_law_k","_law_base","_law_spare_ones","_law_found","_law_cell","_law_turn"] ["_law_script","_law_k","_law_base"] (ZAD ZCN):=⟨rfl,rfl,rfl,by decide +kernel,rfl,by decide +kernel,by decide +kernel⟩
theorem sc_stream:FnScope ["_law_cell","_law_many","_law_found","_law_number","_law_k"] ["_law_cell","_law_many"] (ZAD ZCL):=⟨rfl,rfl,rfl,by decide +kernel,rfl,by decide +kernel,by decide +kernel⟩
theorem sc_blocks:FnScope ["_law_keys_here","_law_cell","_law_row","_law_number","_law_part"] ["_law_keys_here","_law_cell"] (ZAD ZCO):=⟨rfl,rfl,rfl,by decide +kernel,rfl,by decide +kernel,by decide +kernel⟩
theorem sc_nearly:FnScope ["_law_keys_here","_law_cell","_law_row","_law_number","_law_at","_law_key"] ["_law_keys_here","_law_cell"] (ZAD ZCM):=⟨rfl,rfl,rfl,by decide +kernel,rfl,by decide +kernel,by decide +kernel⟩
theorem sc_keys:FnScope ["_law_script","_law_most","_law_mode","_law_mix","_law_width","_law_keys_here","_law_way"] ["_law_script","_law_most"] (ZAD ZDb):=⟨rfl,rfl,rfl,by decide +kernel,rfl,by decide +kernel,by decide +kernel⟩
theorem sc_teller:FnScope ["_law_log","_law_teller_here"] ["_law_log"] (ZAD ZBz):=⟨rfl,rfl,rfl,by decide +kernel,rfl,by decide +kernel,by decide +kernel⟩
theorem sc_whole:FnScope ["_law_found"] ["_law_found"] (ZAD ZCy):=⟨rfl,rfl,rfl,by decide +kernel,rfl,by decide +kernel,by decide +kernel⟩
theorem sc_dealt:FnScope ["_law_keys_here","_law_script","_law_cell","_law_mix","_law_digits_here","_law_many","_law_pieces","_law_some","_law_place","_law_number"] ["_law_keys_here","_law_script"] (ZAD ZC0):=⟨rfl,rfl,rfl,by decide +kernel,rfl,by decide +kernel,by decide +kernel⟩
theorem sc_made:FnScope ["_law_asker","_law_pieces","_law_last","_law_told"] ["_law_asker","_law_pieces","_law_last"] (ZAD ZDa):=⟨rfl,rfl,rfl,by decide +kernel,rfl,by decide +kernel,by decide +kernel⟩
theorem sc_taken:FnScope ["_law_pour","_law_told","_law_e"] ["_law_pour"] (ZAD ZCz):=⟨rfl,rfl,rfl,by decide +kernel,rfl,by decide +kernel,by decide +kernel⟩
theorem sc_refused:FnScope ["_law_e","_law_asker"] ["_law_e","_law_asker"] (ZAD ZBn):=⟨rfl,rfl,rfl,by decide +kernel,rfl,by decide +kernel,by decide +kernel⟩
theorem sc_step:FnScope ["_law_pour","_law_asker","_law_log","_law_due","_law_asks","_law_more","_law_left","_law_first","_law_made_here","_law_word","_law_told"] ["_law_pour","_law_asker","_law_log","_law_due","_law_asks","_law_more"] (ZAD ZDZ):=⟨rfl,rfl,rfl,by decide +kernel,rfl,by decide +kernel,by decide +kernel⟩
theorem sc_law:FnScope ["_law_script","_law_keys_here","_law_pieces","_law_row","_law_most","_law_last","_law_free","_law_twin","_law_log","_law_asker","_law_pour","_law_more","_law_places","_law_piece","_law_pair","_law_made_here"] ["_law_script"] (ZAD ZDn):=⟨rfl,rfl,rfl,by decide +kernel,rfl,by decide +kernel,by decide +kernel⟩
noncomputable abbrev ZAN:Stmt:=inBody ZBz 0
theorem csc_teller:CloScope ["_law_x","_law_y","_law_said","_law_log"] ["_law_x","_law_y"] ["_law_log"] (ZAD ZAN):=⟨rfl,rfl,rfl,by decide +kernel,rfl,rfl,by decide,by decide +kernel,by decide +kernel,by decide +kernel,fun x h=>(show ∀ y∈(ZAD ZAN).names,y.2=.free->y.1∈(["_law_log"]:List Str) by decide +kernel) _ (PySem.mem_of_lookup h) rfl⟩
structure Bt (K:W.Frag) (mg:Str->Option Value) (C_Pour C_LastPour C_Asker C_AskedRule C_HallError C_NoPlace C_TooFar C_Spent:Addr):Prop where
 b_len:mg "len"=none
 b_range:mg "range"=none
 b_list:mg "list"=none
 b_isinstance:mg "isinstance"=none
 b_bool:mg "bool"=none
 b_int:mg "int"=none
 b_max:mg "max"=none
 b_min:mg "min"=none
 b_sum:mg "sum"=none
 b_sorted:mg "sorted"=none
 b_reversed:mg "reversed"=none
 b_enumerate:mg "enumerate"=none
 b_dict:mg "dict"=none
 b_ValueError:mg "ValueError"=none
 m_Pour:mg "Pour"=some (.ref C_Pour)
 cl_Pour:Cls K C_Pour
 n_Pour_asker:NoAttr K C_Pour "asker"
 n_Pour_pieces:NoAttr K C_Pour "pieces"
 n_Pour_taken:NoAttr K C_Pour "taken"
 n_Pour_meetings:NoAttr K C_Pour "meetings"
 n_Pour_went_on:NoAttr K C_Pour "went_on"
 m_LastPour:mg "LastPour"=some (.ref C_LastPour)
 cl_LastPour:Cls K C_LastPour
 n_LastPour_asker:NoAttr K C_LastPour "asker"
 n_LastPour_pieces:NoAttr K C_LastPour "pieces"
 n_LastPour_taken:NoAttr K C_LastPour "taken"
 n_LastPour_meetings:NoAttr K C_LastPour "meetings"
 n_LastPour_went_on:NoAttr K C_LastPour "went_on"
 m_Asker:mg "Asker"=some (.ref C_Asker)
 cl_Asker:Cls K C_Asker
 n_Asker_row:NoAttr K C_Asker "row"
 n_Asker_rule:NoAttr K C_Asker "rule"
 n_Asker_most:NoAttr K C_Asker "most"
 n_Asker_asked:NoAttr K C_Asker "asked"
 n_Asker_told:NoAttr K C_Asker "told"
 m_AskedRule:mg "AskedRule"=some (.ref C_AskedRule)
 cl_AskedRule:Cls K C_AskedRule
 n_AskedRule_teller:NoAttr K C_AskedRule "teller"
 m_HallError:mg "HallError"=some (.ref C_HallError)
 m_NoPlace:mg "NoPlace"=some (.ref C_NoPlace)
 m_TooFar:mg "TooFar"=some (.ref C_TooFar)
 m_Spent:mg "Spent"=some (.ref C_Spent)
 xc_Spent:ExcC K C_Spent
 xk_Spent:XCls K C_Spent
 xi_Spent:∃ fI,ZC3 K C_Spent fI bmV "ValueError.__new__"=true
 xm_Spent_HallError:PySem.W.exmOne K (.ref C_Spent) (.ref C_HallError)=some true
 xm_Spent_Spent:PySem.W.exmOne K (.ref C_Spent) (.ref C_Spent)=some true
 n_Spent_asked:NoAttr K C_Spent "asked"
 xb_HallError:XBase K C_HallError
 kit_int_bool:PySem.W.kitOne K (.type "int") (.type "bool")=some false
 kit_Spent_Spent:PySem.W.kitOne K (.ref C_Spent) (.ref C_Spent)=some true
 kit_Spent_NoPlace:PySem.W.kitOne K (.ref C_Spent) (.ref C_NoPlace)=some false
 kit_Spent_TooFar:PySem.W.kitOne K (.ref C_Spent) (.ref C_TooFar)=some false
structure BtX (K:W.Frag) (C_PX:Addr):Prop where
 cl_PX:Cls K C_PX
 n_PX_asker:NoAttr K C_PX "asker"
 n_PX_pieces:NoAttr K C_PX "pieces"
 n_PX_taken:NoAttr K C_PX "taken"
 n_PX_meetings:NoAttr K C_PX "meetings"
 n_PX_went_on:NoAttr K C_PX "went_on"
noncomputable def cellOf (ns:List Int) (k:Int):Int:=if k < (ns.length:Int) then (ns[k.toNat]?).getD 0 else 0
noncomputable def ZDY (K:W.Frag):Sp:=fun vs H Q _=>∃ (a:Addr) (ns:List Int) (k:Int),vs=[.ref a,.int k] /\ SqL K H a (ns.map V.int) /\ 0 <= k /\ Q (.int (cellOf ns k)) H
noncomputable def ZBw:Sp:=fun vs H Q _=>∃ (c m:Int),vs=[.int c,.int m] /\ 0 <= m /\ m <= 900 /\ ∀ l H' (zs:List Int),Same H H'->H l=none->H' l=some (.lst (zs.map V.int))->(zs.length:Int)=m->(∀ z∈zs,0 <= z /\ z < 2 ^ 31)->Q (.ref l) H'
noncomputable def ZBx:Sp:=fun vs H Q _=>∃ (a:Addr) (ks:List Int) (c:Int),vs=[.ref a,.int c] /\ H a=some (.lst (ks.map V.int)) /\ ks.length <= 63 /\ ∀ l H' (zs:List Int),Same H H'->H l=none->H' l=some (.lst (zs.map V.int))->zs.length <= 63->Q (.ref l) H'
noncomputable def ZE2 (K:W.Frag):Sp:=fun vs H Q _=>∃ (a:Addr) (ns:List Int),vs=[.ref a,.int 60] /\ SqL K H a (ns.map V.int) /\ ns.length <= 63 /\ ∀ l H' (zs:List Int),Same H H'->H l=none->H' l=some (.lst (zs.map V.int))->zs.length <= 119->Q (.ref l) H'
noncomputable def ZC6 (K:W.Frag):Sp:=fun vs H Q _=>∃ (a:Addr) (ns:List Int) (k b:Int),vs=[.ref a,.int k,.int b] /\ SqL K H a (ns.map V.int) /\ ns.length <= 63 /\ 0 <= k /\ 0 < b /\ b <= 1000 /\ ∀ l H' (zs:List Int),Same H H'->H l=none->H' l=some (.lst (zs.map V.int))->zs.length=120->(∀ z∈zs,0 <= z /\ z < b)->Q (.ref l) H'
theorem once0 {M G:Prop} (h:M->G) (t:M):G:=h t
theorem smallL {n:Nat} (h:n <= 90000):n < sizeLine:=Nat.lt_of_le_of_lt h (by decide)
noncomputable abbrev fA (rl ru:Addr) (m:V) (n:Int) (tl:Addr):List (Str×V):=[("told",.ref tl),("asked",.int n),("most",m),("rule",.ref ru),("row",.ref rl)]
noncomputable abbrev fR (g:Addr):List (Str×V):=[("teller",.ref g)]
theorem fA_canon {rl ru tl:Addr} {m:V} {n:Int}:∀ f,(putF "told" (.ref tl) (putF "asked" (.int n) (putF "most" m (putF "rule" (.ref ru) (putF "row" (.ref rl) []))))).lookup f=(fA rl ru m n tl).lookup f:=fun f=>by
 simp only [ZAV,lkc]
theorem fA_asked {rl ru tl:Addr} {m:V} {n k:Int}:∀ f,(putF "asked" (.int k) (fA rl ru m n tl)).lookup f=(fA rl ru m k tl).lookup f:=fun f=>by
 rw [ZAV]
 by_cases h:f=("asked":Str)
 .subst h
  rw [if_pos rfl]
  exact (show List.lookup _ (fA rl ru m k tl)=some (.int k) by walk_at "lk").symm
 .simp only [lkc,h,if_false]
theorem fA_most {rl ru tl:Addr} {m z:V} {n:Int}:∀ f,(putF "most" z (fA rl ru m n tl)).lookup f=(fA rl ru z n tl).lookup f:=fun f=>by
 rw [ZAV]
 by_cases h:f=("most":Str)
 .subst h
  rw [if_pos rfl]
  exact (show List.lookup _ (fA rl ru z n tl)=some z by walk_at "lk").symm
 .simp only [lkc,h,if_false]
theorem insAugV {K:W.Frag} {f:Str} {a C:Addr} {fl:List (Str×V)} {i j:Int} {H:Hp} {D:Ends} {σ:St} (h:Ins H a C fl) (cl:Cls K C) (n:NoAttr K C f) (l:fl.lookup f=some (.int i))
  {te:TE} (z:∀ Q:VK,Q (.int j) H->te σ H Q)
  (q:∀ H',Ins H' a C (putF f (.int (i+j)) fl)->(∀ b,b≠a->H' b=H b)->D.nx σ H'):augA K te rAdd f D σ (.ref a) H:=by
 obtain ⟨dx,fs,h1,h2,h3⟩:=h.ex
 refine ⟨a,C,dx,fs,_,rfl,h1,cl,n,(h3 f).trans l,z _ ⟨i,j,rfl,rfl,dx,fs,h1,by omega,q _ ⟨dx,_,ZAF,?_,fun g=>?_⟩ fun b J=>ZAG J⟩⟩
 .rw [ZBL ((h3 f).trans l)];exact h2
 .rw [ZAV,ZAV,h3]
noncomputable abbrev fS (n:Int):List (Str×V):=[("asked",.int n)]
noncomputable def ZCa (C:Addr):Sp:=fun vs H Q _=>∃ (e:Addr) (n:Int),vs=[.ref e,.int n] /\ H e=some (excM e (.ref C) none) /\ n.natAbs.log2 < 1920 /\ ∀ d,H d=none->d≠e->Q .non (upd (upd H d (xdM d (fS n))) e (excM e (.ref C) (some d)))
noncomputable def ZBZ (CA:Addr):Sp:=fun vs H Q _=>∃ (x dx r:Addr) (ru:Addr) (m:V) (xs:List V),vs=[.ref x,.ref r,.ref ru,m] /\ H x=some (.ins CA dx []) /\ H r=some (.lst xs) /\
 ∀ rl tl H',(∀ b o,b≠x->H b=some o->H' b=some o)->H rl=none->H tl=none->rl≠tl->Ins H' x CA (fA rl ru m 0 tl)->H' rl=some (.lst xs)->H' tl=some (.lst [])->Q .non H'
noncomputable def ZCx (CR:Addr):Sp:=fun vs H Q _=>∃ (x dx g:Addr),vs=[.ref x,.ref g] /\ H x=some (.ins CR dx []) /\ ∀ H',(∀ b o,b≠x->H b=some o->H' b=some o)->Ins H' x CR (fR g)->Q .non H'
noncomputable def ZC7 (CR:Addr) (r:V->List V->Hp->VK->Prop):Sp:=fun vs H Q _=>∃ (ru g:Addr) (x y:V),vs=[.ref ru,x,y] /\ Ins H ru CR (fR g) /\ (∃ o,H g=some (FZ o) /\ ∃ fd,o.data=.func fd) /\ r (.ref g) [x,y] H Q
noncomputable def wdn (m:V) (i:Int):V:=match m with | .int k=>.int (k+i) | m=>m
noncomputable def ZDk (CA:Addr):Sp:=fun vs H Q _=>∃ (a rl ru tl:Addr) (m:V) (n i:Int),vs=[.ref a,.int i] /\ Ins H a CA (fA rl ru m n tl) /\ (m=.non∨∃ k,m=.int k) /\ ∀ H',(∀ b,b≠a->H' b=H b)->Ins H' a CA (fA rl ru (wdn m i) n tl)->Q .non H'
noncomputable def ZDH (CA CR CS:Addr) (r:V->List V->Hp->VK->Prop):Sp:=fun vs H Q E=>∃ (a rl ru tl:Addr) (m:V) (n p q:Int),vs=[.ref a,.int p,.int q] /\ Ins H a CA (fA rl ru m n tl) /\ n.natAbs.log2 < 1920 /\
 ((∃ k,m=.int k /\ k <= n /\ ∀ d H',Same H H'->H d=none->H' d=some (xdM d (fS n))->E (.ref CS) (some d) H') ∨
 ((m=.non∨∃ k,m=.int k /\ n < k) /\ ∃ (xs ts:List V) (x y:V),H rl=some (.lst xs) /\ p≠q /\ 0 <= p /\ 0 <= q /\ xs[(max p q).toNat]?=some x /\ xs[(min p q).toNat]?=some y /\ ZC7 CR r [.ref ru,x,y] H (fun v H1=>∃ b,v=.bl b /\ Ins H1 a CA (fA rl ru m n tl) /\ H1 tl=some (.lst ts) /\ ts.length <= 90000 /\
  ∀ t H2,H1 t=none->Ins H2 a CA (fA rl ru m (n+1) tl)->H2 tl=some (.lst (ts++[.ref t]))->H2 t=some (.tup [.int (max p q),.int (min p q),.bl b])->(∀ c,c≠a->c≠tl->c≠t->H2 c=H1 c)->Q (.bl (if q < p then b else !b)) H2) E0))
noncomputable def kat (ks:List Int) (p:Nat):Int:=(ks[p]?).getD 0
structure Told (H:Hp) (ks:List Int) (pr:List (Nat×Nat)) (ts:List V):Prop where
 len:ts.length=pr.length
 get:∀ (j p q:Nat),pr[j]?=some (p,q)->∃ t,ts[j]?=some (V.ref t) /\ H t=some (.tup [.int p,.int q,.bl (decide (kat ks p < kat ks q))])
theorem Told.keep {H H':Hp} {ks:List Int} {pr:List (Nat×Nat)} {ts:List V} (e:∀ t x,H t=some (.tup x)->H' t=some (.tup x)) (h:Told H ks pr ts):Told H' ks pr ts :=
 ⟨h.len,fun j p q z=>let ⟨t,a,b⟩:=h.get j p q z;⟨t,a,e _ _ b⟩⟩
theorem Told.snoc {H:Hp} {ks:List Int} {pr:List (Nat×Nat)} {ts:List V} {p q:Nat} {t:Addr} (h:Told H ks pr ts) (O:H t=some (.tup [.int p,.int q,.bl (decide (kat ks p < kat ks q))])):Told H ks (pr++[(p,q)]) (ts++[.ref t]):=by
 refine ⟨by rw [yAC,yAC,h.len];rfl,fun j L q' z=>?_⟩
 by_cases hl:j < pr.length
 .rw [yAX hl] at z
  obtain ⟨t',a,b⟩:=h.get j L q' z
  exact ⟨t',by rw [yAX (by rw [h.len];exact hl)];exact a,b⟩
 .have e:=(yAK.mp z).1
  rw [yAC] at e
  have J:j=pr.length:=by have:([(p,q)]:List (Nat×Nat)).length=1:=rfl;omega
  subst J
  rw [yAW (yAB _),yBU] at z
  cases z
  exact ⟨t,by rw [<- h.len,yAW (yAB _),yBU];rfl,O⟩
theorem ZCJ {H H':Hp} {S:List Addr} {a C:Addr} {fl:List (Str×V)} (e:Fr S H H') (n:a∉S) (h:Ins H a C fl):Ins H' a C fl:=let ⟨dx,fs,h1,h2,h3⟩:=h.ex;⟨dx,fs,e _ _ n h1,h2,h3⟩
noncomputable def tdD (ks:List Int) (c:Nat×Nat):PyData:=.tuple [.int c.1,.int c.2,.bool (decide (kat ks c.1 < kat ks c.2))]
theorem Told.dp {K:W.Frag} {H:Hp} {ks:List Int}:∀ {pr:List (Nat×Nat)} {ts:List V},Told H ks pr ts->DpAll K H (pr.map (tdD ks)) ts
 | [],ts,h=>by
  have:ts=[]:=yCW.mp h.len
  subst this
  exact .nil
 | c::r,[],h=>by have:=h.len;cases this
 | (p,q)::r,v::ts,h=>by
  obtain ⟨t,a,b⟩:=h.get 0 p q rfl
  have J:v=.ref t:=Option.some.inj a
  subst J
  refine .cons (dp_tup (SqT.of b) (.cons (dp_int _) (.two (dp_int _) (dp_bl _)))) (Told.dp ⟨by have:=h.len;simpa using this,fun j L q' z=>?_⟩)
  obtain ⟨t',a',b'⟩:=h.get (j+1) L q' (by simpa using z)
  exact ⟨t',by simpa using a',b'⟩
theorem ZEs (ks:List Int):∀ pr:List (Nat×Nat),PyData.canLayAll0 (pr.map (tdD ks))=true
 | []=>by unfold PyData.canLayAll0 List.map;rfl
 | c::r=>by
  rw [yAV]
  unfold PyData.canLayAll0
  rw [ZEs ks r]
  unfold tdD PyData.canLay0 PyData.canLayAll0 PyData.canLayAll0 PyData.canLayAll0 PyData.canLayAll0 PyData.canLay0
  rfl
theorem ZEt (ks:List Int):∀ pr:List (Nat×Nat),PyData.depthAll (pr.map (tdD ks)) <= 1
 | []=>by unfold List.map PyData.depthAll;decide
 | c::r=>by
  rw [yAV]
  unfold PyData.depthAll
  have h1:=ZEt ks r
  have h2:(tdD ks c).depth <= 1:=by unfold tdD PyData.depth PyData.depthAll PyData.depthAll PyData.depthAll PyData.depthAll PyData.depth;decide
  omega
theorem ZDi {K:W.Frag} {H:Hp} {ks:List Int} {pr:List (Nat×Nat)} {ts z:List V} {x y:Addr} {Q:VK} (hx:H x=some (.lst ts)) (J:H y=some (.lst z)) (h:Told H ks pr ts) (h':Told H ks pr z) (q:Q (.bl false) H):rNeD K (.ref x) (.ref y) H Q :=
 neD_refl (d:=.list (pr.map (tdD ks))) (ZD6 (SqL.of hx) h.dp) (ZD6 (SqL.of J) h'.dp) (by unfold PyData.canLay0;exact ZEs ks pr) (by unfold PyData.depth;have:=ZEt ks pr;omega) q
noncomputable def rTL (iname iq:Str) (ip:Arguments) (ib:List Stmt) (isc:Scope):V->List V->Hp->VK->Prop:=fun f vs H Q=>∃ (g x y lg:Addr) (k k' i j:Int) (ws:List V),f=.ref g /\ vs=[.ref x,.ref y] /\ Clo H g iname iq ip ib isc ["_law_log"] [.ref lg] /\ H x=some (.tup [.int k,.int i]) /\ H y=some (.tup [.int k',.int j]) /\ H lg=some (.lst ws) /\ ws.length <= 90000 /\
 ∀ t,H t=none->Q (.bl (decide (k < k'))) (upd (upd H t (.tup [.int i,.int j,.bl (decide (k < k'))])) lg (.lst (ws++[.ref t])))
theorem rT_mono {iname iq:Str} {ip:Arguments} {ib:List Stmt} {isc:Scope} {f:V} {vs:List V} {H:Hp} {Q Q':VK} (m:∀ v H,Q v H->Q' v H) (h:rTL iname iq ip ib isc f vs H Q):rTL iname iq ip ib isc f vs H Q' :=
 let ⟨g,x,y,lg,k,k',i,j,ws,e1,e2,h1,h2,h3,h4,h5,q⟩:=h;⟨g,x,y,lg,k,k',i,j,ws,e1,e2,h1,h2,h3,h4,h5,fun t z=>m _ _ (q t z)⟩
noncomputable abbrev ZBa:V->List V->Hp->VK->Prop:=rTL "_law_teller_here" "_law_teller.<locals>._law_teller_here" (ZAP ZAN) (ZAM ZAN) (ZAD ZAN)
noncomputable def Bd (mo:V) (n:Nat):Prop:=mo=.non∨∃ k:Nat,mo=.int k /\ n <= k
theorem small_log2 {n:Nat} (h:n <= 100000):((n:Int)).natAbs.log2 < 1920:=by
 rw [Int.natAbs_natCast]
 exact Nat.lt_of_le_of_lt (show n.log2 <= 20 by
  by_cases e:n=0
  .rw [e];decide
  .have:=(Nat.log2_lt (k:=20) e).mpr (by omega);omega) (by decide)
structure SitL (mo:V) (CA CR:Addr) (H:Hp) (ks:List Int) (xs:List V) (a rl ru tl g lg:Addr) (pr:List (Nat×Nat)):Prop where
 ha:Ins H a CA (fA rl ru mo pr.length tl)
 hrl:H rl=some (.lst xs)
 hru:Ins H ru CR (fR g)
 clo:Clo H g "_law_teller_here" "_law_teller.<locals>._law_teller_here" (ZAP ZAN) (ZAM ZAN) (ZAD ZAN) ["_law_log"] [.ref lg]
 len:xs.length=ks.length
 row:∀ (i:Nat) k,ks[i]?=some k->∃ r,xs[i]?=some (V.ref r) /\ H r=some (.tup [.int k,.int i])
 hlg:∃ ws,H lg=some (.lst ws) /\ Told H ks pr ws
 htl:∃ ts,H tl=some (.lst ts) /\ Told H ks pr ts
 ne:lg≠tl /\ rl∉[a,lg,tl] /\ ru≠a
 hmo:Bd mo pr.length
section
variable {mo:V} {CA CR:Addr} {H H':Hp} {ks:List Int} {xs:List V} {a rl ru tl g lg:Addr} {pr:List (Nat×Nat)}
theorem SitL.tupS (h:SitL mo CA CR H ks xs a rl ru tl g lg pr) {b:Addr} {o:HO} (J:H b=some o) (L:∀ x,o≠.lst x) (O:∀ C d f,o≠.ins C d f):b∉[a,lg,tl]:=by
 obtain ⟨U,hlg,_⟩:=h.hlg
 obtain ⟨ts,htl,_⟩:=h.htl
 intro z
 rcases yAE.mp z with z | z
 .exact h.ha.ne J O z
 rcases yAE.mp z with z | z
 .rw [z,hlg] at J;exact L _ (Option.some.inj J).symm
 .rw [yAN.mp z,htl] at J;exact L _ (Option.some.inj J).symm
theorem SitL.ruS (h:SitL mo CA CR H ks xs a rl ru tl g lg pr):ru∉[a,lg,tl]:=by
 obtain ⟨L,hlg,_⟩:=h.hlg
 obtain ⟨ts,htl,_⟩:=h.htl
 obtain ⟨O,f1,J,_⟩:=h.hru.ex
 intro z
 rcases yAE.mp z with z | z
 .exact h.ne.2.2 z
 rcases yAE.mp z with z | z
 .rw [z,hlg] at J;cases J
 .rw [yAN.mp z,htl] at J;cases J
theorem SitL.keep (h:SitL mo CA CR H ks xs a rl ru tl g lg pr) (e:Fr [a,lg,tl] H H') {pr':List (Nat×Nat)} {L J:List V} (h1:Ins H' a CA (fA rl ru mo pr'.length tl)) (h2:H' tl=some (.lst L)) (h3:Told H' ks pr' L) (h4:H' lg=some (.lst J)) (U:Told H' ks pr' J) (Z:Bd mo pr'.length):SitL mo CA CR H' ks xs a rl ru tl g lg pr' where
 ha:=h1
 hrl:=e _ _ h.ne.2.1 h.hrl
 hru:=ZCJ e h.ruS h.hru
 clo:=h.clo.mono fun b o O=>e _ _ (h.tupS O (fun _ z=>by cases z) (fun _ _ _ z=>by cases z)) O
 len:=h.len
 row:=fun i k Y=>let ⟨r,a1,a2⟩:=h.row i k Y;⟨r,a1,e _ _ (h.tupS a2 (fun _ z=>by cases z) (fun _ _ _ z=>by cases z)) a2⟩
 hlg:=⟨_,h4,U⟩
 htl:=⟨_,h2,h3⟩
 ne:=h.ne
 hmo:=Z
theorem SitL.mono (h:SitL mo CA CR H ks xs a rl ru tl g lg pr) (e:Same H H'):SitL mo CA CR H' ks xs a rl ru tl g lg pr :=
 let ⟨_,h2,h3⟩:=h.htl;let ⟨_,h4,h5⟩:=h.hlg;h.keep e.fr (h.ha.mono e) (e _ _ h2) (h3.keep fun _ _ z=>e _ _ z) (e _ _ h4) (h5.keep fun _ _ z=>e _ _ z) h.hmo
end
noncomputable def XL (mo:V) (CA CR CS:Addr) (ks:List Int) (xs:List V) (a rl ru tl g lg:Addr) (pr l:List (Nat×Nat)) (H:Hp) (E:XK):Prop:=∀ (k:Nat) (H':Hp) (d:Addr),mo=.int k->pr.length <= k->k < pr.length+l.length->Fr [a,lg,tl] H H'->H' d=some (xdM d (fS k))->SitL mo CA CR H' ks xs a rl ru tl g lg (pr++l.take (k-pr.length))->E (.ref CS) (some d) H'
theorem XL.sub {mo:V} {CA CR L:Addr} {ks:List Int} {xs:List V} {a rl ru tl g lg:Addr} {pr l z l2 l3:List (Nat×Nat)} {H H1:Hp} {E:XK} (h:XL mo CA CR L ks xs a rl ru tl g lg pr l H E) (f:Fr [a,lg,tl] H H1) (e:l=z++(l2++l3)):XL mo CA CR L ks xs a rl ru tl g lg (pr++z) l2 H1 E:=fun k H' d e1 Z U O e5 J=>by
 rw [yAC] at Z U J
 refine h k H' d e1 (by omega) (by rw [e,yAC,yAC];omega) (f.trans O) e5 ?_
 have Y:k-pr.length=z.length+(k-(pr.length+z.length)):=by omega
 have e7:l.take (k-pr.length)=z++l2.take (k-(pr.length+z.length)):=by
  rw [e,Y,List.take_append,yBH (Nat.le_add_right _ _),Nat.add_sub_cancel_left,List.take_append_of_le_length (by omega)]
 rw [e7,<- yAY]
 exact J
theorem XL.same {mo:V} {CA CR z:Addr} {ks:List Int} {xs:List V} {a rl ru tl g lg:Addr} {pr l:List (Nat×Nat)} {H H1:Hp} {E:XK} (h:XL mo CA CR z ks xs a rl ru tl g lg pr l H E) (f:Fr [a,lg,tl] H H1):XL mo CA CR z ks xs a rl ru tl g lg pr l H1 E:=fun k H' d Z U O J Y L=>h k H' d Z U O (f.trans J) Y L
section
variable {mo:V} {CA CR:Addr} {H H':Hp} {ks:List Int} {xs:List V} {a rl ru tl g lg:Addr} {pr:List (Nat×Nat)}
theorem SitL.ahead (h:SitL mo CA CR H ks xs a rl ru tl g lg pr) {p q:Nat} (ak:p≠q) (hp:p < ks.length) (hq:q < ks.length) (aj:pr.length <= 80000) {Q:VK} {CS:Addr} {E:XK} (ex:XL mo CA CR CS ks xs a rl ru tl g lg pr [(max p q,min p q)] H E)
  (fin:∀ H',Fr [a,lg,tl] H H'->SitL mo CA CR H' ks xs a rl ru tl g lg (pr++[(max p q,min p q)])->Q (.bl (if q < p then decide (kat ks p < kat ks q) else !decide (kat ks q < kat ks p))) H'):ZDH CA CR CS ZBa [.ref a,.int p,.int q] H Q E:=by
 have U:(∃ k:Nat,mo=.int k /\ pr.length=k)∨(mo=.non∨∃ k:Int,mo=.int k /\ (pr.length:Int) < k):=by
  rcases id h.hmo with z | ⟨k,O,z2⟩
  .exact .inr (.inl z)
  .by_cases e:pr.length=k
   .exact .inl ⟨k,O,e⟩
   .exact .inr (.inr ⟨k,O,by omega⟩)
 rcases U with ⟨k,O,z2⟩ | L
 .refine ⟨a,rl,ru,tl,mo,pr.length,p,q,rfl,h.ha,small_log2 (by omega),.inl ⟨k,O,by omega,fun d H' s1 hd h1=>?_⟩⟩
  exact ex k H' d O (by omega) (by rw [yCC];omega) s1.fr (by rw [h1,z2]) (by rw [show k-pr.length=0 by omega,List.take_zero,yBA];exact h.mono s1)
 obtain ⟨ws,hlg,a5⟩:=h.hlg
 obtain ⟨ts,htl,a9⟩:=h.htl
 have Z:max p q < ks.length:=by omega
 have a1:min p q < ks.length:=by omega
 obtain ⟨x,hx,tx⟩:=h.row (max p q) _ (yAD Z)
 obtain ⟨y,hy,ty⟩:=h.row (min p q) _ (yAD a1)
 have ah:(max (p:Int) q).toNat=max p q:=by omega
 have ae:(min (p:Int) q).toNat=min p q:=by omega
 have kx:ks[max p q]=kat ks (max p q):=by unfold kat;rw [yAD Z];rfl
 have ag:ks[min p q]=kat ks (min p q):=by unfold kat;rw [yAD a1];rfl
 refine ⟨a,rl,ru,tl,mo,pr.length,p,q,rfl,h.ha,small_log2 (by omega),.inr ⟨L,xs,ts,.ref x,.ref y,h.hrl,by omega,by omega,by omega,by rw [ah];exact hx,by rw [ae];exact hy,?_⟩⟩
 obtain ⟨cl,C⟩:=h.clo
 obtain ⟨d1,d2,d3,d4,ho,_⟩:=C.obj
 refine ⟨ru,g,.ref x,.ref y,rfl,h.hru,⟨_,ho,_,rfl⟩,?_⟩
 rw [kx] at tx
 rw [ag] at ty
 refine ⟨g,x,y,lg,_,_,_,_,ws,rfl,rfl,h.clo,tx,ty,hlg,by rw [a5.len];omega,fun t ht=>?_⟩
 have Y:t≠a:=h.ha.neN ht
 have a4:lg≠t:=ZAB hlg ht
 have a7:tl≠t:=ZAB htl ht
 have a8:lg≠tl:=h.ne.1
 have a6:lg≠a:=h.ha.ne hlg fun _ _ _ z=>by cases z
 refine ⟨_,rfl,h.ha.keep (by rw [ZAG (Ne.symm a6),ZAG (Ne.symm Y)]),by rw [ZAG (Ne.symm a8),ZAG a7];exact htl,by rw [a9.len];omega,fun t2 H2 J af a3 ai k2=>?_⟩
 have ac:t2≠lg:=fun z=>by rw [z,ZAF] at J;cases J
 have aa:t2≠t:=fun z=>by rw [z,ZAG (Ne.symm a4),ZAF] at J;cases J
 have fr:Fr [a,lg,tl] H H2:=fun b o n hb=>by
  have m1:b≠a:=fun z=>n (by rw [z];exact yAF)
  have m2:b≠lg:=fun z=>n (by rw [z];exact yAM _ yAF)
  have m3:b≠tl:=fun z=>n (by rw [z];exact yAM _ (yAM _ yAF))
  have e1:(upd (upd H t (.tup [.int ((max p q:Nat):Int),.int ((min p q:Nat):Int),.bl (decide (kat ks (max p q) < kat ks (min p q)))])) lg (.lst (ws++[.ref t]))) b=some o:=by rw [ZAG m2,ZAG (ZAB hb ht)];exact hb
  rw [k2 b m1 m3 (ZAB e1 J)]
  exact e1
 have tk:∀ b x,H b=some (.tup x)->H2 b=some (.tup x):=fun b x hb=>fr _ _ (h.tupS hb (fun _ z=>by cases z) (fun _ _ _ z=>by cases z)) hb
 have a2:H2 lg=some (.lst (ws++[.ref t])):=by rw [k2 lg a6 a8 (Ne.symm ac),ZAF]
 have ad:H2 t=some (.tup [.int ((max p q:Nat):Int),.int ((min p q:Nat):Int),.bl (decide (kat ks (max p q) < kat ks (min p q)))]):=by rw [k2 t Y (Ne.symm a7) (Ne.symm aa),ZAG (Ne.symm a4),ZAF]
 have a0:H2 t2=some (.tup [.int ((max p q:Nat):Int),.int ((min p q:Nat):Int),.bl (decide (kat ks (max p q) < kat ks (min p q)))]):=by
  rw [show (((max p q:Nat):Int))=max (p:Int) q by omega,show (((min p q:Nat):Int))=min (p:Int) q by omega]
  exact ai
 have st:=h.keep fr (pr':=pr++[(max p q,min p q)]) (by rw [yAC];exact af) a3 ((a9.keep tk).snoc a0) a2 ((a5.keep tk).snoc ad) (by
  rcases L with z | ⟨k,O,z2⟩
  .exact .inl z
  .exact .inr ⟨k.toNat,by rw [O,Int.toNat_of_nonneg (by omega)],by rw [yAC,yCC];omega⟩)
 have g':=fin H2 fr st
 by_cases hlt:q < p
 .rw [if_pos hlt] at g'
  rw [if_pos (by omega),show max p q=p by omega,show min p q=q by omega]
  exact g'
 .rw [if_neg hlt] at g'
  rw [if_neg (by omega),show max p q=q by omega,show min p q=p by omega]
  exact g'
end
noncomputable def ZDE:Sp:=fun vs H Q _=>∃ i:Int,vs=[.int i] /\ Q (.bl true) H
noncomputable abbrev nL (l:List Nat):List V:=l.map fun (x:Nat)=>V.int (x:Int)
noncomputable def lx (ks:List Int) (x y:Nat):Prop:=kat ks x < kat ks y∨(kat ks x=kat ks y /\ x < y)
theorem ZEn {a lg tl b:Addr} (L:b≠a) (O:b≠lg) (J:b≠tl):b∉[a,lg,tl]:=fun z=>by
 rcases yAE.mp z with z | z
 .exact L z
 rcases yAE.mp z with z | z
 .exact O z
 .exact J (yAN.mp z)
noncomputable instance (ks:List Int) (x y:Nat):Decidable (lx ks x y):=by unfold lx;exact inferInstance
theorem ahead_lx {ks:List Int} {o pl:Nat} (h:o≠pl):(if pl < o then decide (kat ks o < kat ks pl) else !decide (kat ks pl < kat ks o))=decide (lx ks o pl):=by
 by_cases z:pl < o
 .rw [if_pos z]
  by_cases e:kat ks o < kat ks pl
  .rw [decide_eq_true e];exact (decide_eq_true (by unfold lx;omega)).symm
  .rw [decide_eq_false e];exact (decide_eq_false (by unfold lx;omega)).symm
 .rw [if_neg z]
  by_cases e:kat ks pl < kat ks o
  .rw [decide_eq_true e];exact (decide_eq_false (by unfold lx;omega)).symm
  .rw [decide_eq_false e];exact (decide_eq_true (by unfold lx;omega)).symm
noncomputable def rv (bb:Bool) (xs:List Nat):List Nat:=cond bb xs.reverse xs
theorem ZE4 (bb:Bool) (xs:List Nat):(rv bb xs).length=xs.length:=by cases bb;rfl;exact yBS
noncomputable def lxB (bb:Bool) (ks:List Int) (x y:Nat):Prop:=cond bb (lx ks y x) (lx ks x y)
noncomputable def ahB (bb:Bool) (ks:List Int) (x y:Nat):Bool:=cond bb (decide (lx ks y x)) (decide (lx ks x y))
theorem ahB_t {bb:Bool} {ks:List Int} {x y:Nat} (h:ahB bb ks x y=true):lxB bb ks x y:=by
 cases bb
 .exact of_decide_eq_true (p:=lx ks x y) h
 .exact of_decide_eq_true (p:=lx ks y x) h
theorem ahB_f {bb:Bool} {ks:List Int} {x y:Nat} (n:x≠y) (h:ahB bb ks x y=false):lxB bb ks y x:=by
 cases bb
 .have h:=of_decide_eq_false (p:=lx ks x y) h
  show lx ks y x
  unfold lx at *
  omega
 .have h:=of_decide_eq_false (p:=lx ks y x) h
  show lx ks x y
  unfold lx at *
  omega
theorem ZEe {bb:Bool} {ks:List Int} {x y z:Nat} (h1:lxB bb ks x y) (h2:lxB bb ks y z):lxB bb ks x z:=by
 cases bb <;> (simp only [lxB,cond] at *;unfold lx at *;omega)
theorem ZFC {bb:Bool} {ks:List Int} {x:Nat} (h:lxB bb ks x x):False:=by
 cases bb <;> (simp only [lxB,cond] at *;unfold lx at *;omega)
noncomputable abbrev fP (ak pl tk ml wd:Addr):List (Str×V):=[("went_on",.ref wd),("meetings",.ref ml),("taken",.ref tk),("pieces",.ref pl),("asker",.ref ak)]
theorem ZFJ {os:List Nat} {m o:Nat} (h:os[m]?=some o):atI (nL os) (m:Int)=some (.int o):=ZAq (by omega) (by rw [Int.toNat_natCast,yAJ,h];rfl)
noncomputable abbrev kQ (p q:Nat):List Key:=[Sum.inl (p:Int),Sum.inl (q:Int)]
theorem kQ_inj {p q z q':Nat} (h:kQ p q=kQ z q'):p=z /\ q=q':=by
 injection h with h1 h2
 injection h2 with h2 _
 injection h1 with h1
 injection h2 with h2
 omega
noncomputable def mxp (c:Nat×Nat):Nat×Nat:=(max c.1 c.2,min c.1 c.2)
noncomputable def FrV (H:Hp) (u:V):Po.Fr->Prop
 | none=>u=.non
 | some x=>∃ t,u=.ref t /\ H t=some (.tup [.int (x.1:Int),.int (x.2:Int)])
theorem FrV.keep {H H':Hp} {u:V} {v:Po.Fr} (h:FrV H u v) (e:∀ t x,H t=some (.tup x)->H' t=some (.tup x)):FrV H' u v:=by
 cases v with
 | none=>exact h
 | some x=>obtain ⟨t,a,b⟩:=h;exact ⟨t,a,e _ _ b⟩
noncomputable def ZCs (xs:List Nat) (t i:Nat):Po.Fr:=(xs[t]?).map fun x=>(x,i)
structure PB (bb:Bool) (CP:Addr) (H:Hp) (p ak pl tk ml wd:Addr) (pls:List Addr) (pcs:List (List Nat)):Prop where
 hp:Ins H p CP (fP ak pl tk ml wd)
 hpl:H pl=some (.lst (pls.map V.ref))
 len:pls.length=pcs.length
 pc:∀ (i:Nat) l xs,pls[i]?=some l->pcs[i]?=some xs->H l=some (.lst (nL (rv bb xs)))
theorem PB.at {bb:Bool} {CP:Addr} {H:Hp} {p ak pl tk ml wd:Addr} {pls:List Addr} {pcs:List (List Nat)} (h:PB bb CP H p ak pl tk ml wd pls pcs) {i:Nat} {xs:List Nat} (e:pcs[i]?=some xs):∃ l,pls[i]?=some l /\ H l=some (.lst (nL (rv bb xs))):=by
 have hi:=(yAK.mp e).1
 have z:i < pls.length:=by rw [h.len];exact hi
 have J:pls[i]?=some pls[i]:=yAD z
 exact ⟨_,J,h.pc i _ xs J e⟩
theorem PB.fr {bb:Bool} {CP:Addr} {H H':Hp} {S:List Addr} {p ak pl tk ml wd:Addr} {pls:List Addr} {pcs:List (List Nat)} (h:PB bb CP H p ak pl tk ml wd pls pcs) (e:Fr S H H') (L:p∉S) (J:pl∉S) (z:∀ l∈pls,l∉S):PB bb CP H' p ak pl tk ml wd pls pcs :=
 ⟨ZCJ e L h.hp,e _ _ J h.hpl,h.len,fun i l xs a b=>e _ _ (z l (yAL a)) (h.pc i l xs a b)⟩
theorem PB.mono {bb:Bool} {CP:Addr} {H H':Hp} {p ak pl tk ml wd:Addr} {pls:List Addr} {pcs:List (List Nat)} (h:PB bb CP H p ak pl tk ml wd pls pcs) (e:Same H H'):PB bb CP H' p ak pl tk ml wd pls pcs :=
 h.fr (S:=[]) e.fr yBC yBC fun _ _=>yBC
structure MsAt (H:Hp) (vs:List V) (ms:List Po.Mt):Prop where
 len:vs.length=ms.length
 get:∀ (i:Nat) m,ms[i]?=some m->∃ t,vs[i]?=some (V.ref t) /\ H t=some (.tup [.int (m.1:Int),.int (m.2.1:Int),.int (m.2.2:Int)])
theorem MsAt.keep {H H':Hp} {vs:List V} {ms:List Po.Mt} (h:MsAt H vs ms) (e:∀ t x,H t=some (.tup x)->H' t=some (.tup x)):MsAt H' vs ms:=⟨h.len,fun i m hm=>let ⟨t,a,b⟩:=h.get i m hm;⟨t,a,e _ _ b⟩⟩
theorem MsAt.app {H:Hp} {vs us:List V} {ms ns:List Po.Mt} (h:MsAt H vs ms) (g:MsAt H us ns):MsAt H (vs++us) (ms++ns):=by
 refine ⟨by rw [yAC,yAC,h.len,g.len],fun j m z=>?_⟩
 by_cases hl:j < ms.length
 .rw [yAX hl] at z
  rw [yAX (by rw [h.len];exact hl)]
  exact h.get j m z
 .rw [yAW (by omega)] at z
  rw [yAW (by rw [h.len];omega),h.len]
  exact g.get _ m z
theorem MsAt.one {H:Hp} {m:Po.Mt} {t:Addr} (J:H t=some (.tup [.int (m.1:Int),.int (m.2.1:Int),.int (m.2.2:Int)])):MsAt H [.ref t] [m]:=⟨rfl,fun j a z=>by
 cases j with
 | zero=>cases z;exact ⟨t,rfl,J⟩
 | succ j=>simp at z⟩
theorem MsAt.nil {H:Hp}:MsAt H [] []:=⟨rfl,fun j a z=>by simp at z⟩
noncomputable def ZBV (n:Nat):Sp:=fun vs H Q _=>∃ (f b:Nat),vs=[.int f,.int b] /\ f <= b /\ b <= 600 /\ 0 < n /\ b-f <= 2 ^ (n-1) /\ ∀ l H' ws,Same H H'->H l=none->H' l=some (.lst ws)->MsAt H' ws (Po.mts f b)->Q (.ref l) H'
theorem spMeetings_no {vs:List V} {H:Hp} {Q:VK} {E:XK} (h:ZBV 0 vs H Q E):False:=by
 obtain ⟨_,_,_,_,_,z,_⟩:=h
 omega
noncomputable def ZBm (bb:Bool) (CP:Addr):Sp:=fun vs H Q _=>∃ (p ak pl tk ml wd:Addr) (pls:List Addr) (pcs:List (List Nat)) (i t:Nat) (xs:List Nat),vs=[.ref p,.int i,.int t] /\ PB bb CP H p ak pl tk ml wd pls pcs /\ pcs[i]?=some xs /\ ∀ u H',Same H H'->FrV H' u (ZCs xs t i)->Q u H'
noncomputable def ZCn (CA CR CS:Addr) (bb:Bool) (CP:Addr):Sp:=fun vs H Q E=>∃ (mo:V) (ks:List Int) (xs:List V) (a rl ru tl g lg p pl tk ml wd:Addr) (pr:List (Nat×Nat)) (x y:Nat),vs=[.ref p,.int x,.int y] /\ SitL mo CA CR H ks xs a rl ru tl g lg pr /\ Ins H p CP (fP a pl tk ml wd) /\ x≠y /\ x < ks.length /\ y < ks.length /\ pr.length <= 70000 /\ XL mo CA CR CS ks xs a rl ru tl g lg pr [(max x y,min x y)] H E /\
 ∀ H',Fr [a,lg,tl] H H'->SitL mo CA CR H' ks xs a rl ru tl g lg (pr++[(max x y,min x y)])->Q (.bl (ahB bb ks x y)) H'
noncomputable def ZFP (CA CR CS:Addr) (bb:Bool) (CP:Addr):Sp:=fun vs H Q E=>∃ (mo:V) (ks:List Int) (xs:List V) (a rl ru tl g lg p pl tk ml wd:Addr) (pr:List (Nat×Nat)) (u1 u2:V) (one other:Po.Fr),vs=[.ref p,u1,u2] /\ SitL mo CA CR H ks xs a rl ru tl g lg pr /\ Ins H p CP (fP a pl tk ml wd) /\ FrV H u1 one /\ FrV H u2 other /\ (∀ c∈Po.mask one other,c.1≠c.2 /\ c.1 < ks.length /\ c.2 < ks.length) /\ pr.length <= 70000 /\ XL mo CA CR CS ks xs a rl ru tl g lg pr ((Po.mask one other).map mxp) H E /\
 ∀ u H',Fr [a,lg,tl] H H'->SitL mo CA CR H' ks xs a rl ru tl g lg (pr++(Po.mask one other).map mxp)->FrV H' u (Po.met (ahB bb ks) one other)->Q u H'
structure DT (H:Hp) (d:Addr) (w:Po.W) (B:Nat) (kvs:List (List Key×V)):Prop where
 hd:H d=some (.dT kvs)
 sm:ZFK kvs
 len:kvs.length <= B
 val:∀ a c v,w a c=some v->∃ u,valV kvs (kQ a c)=some u /\ FrV H u v
theorem DT.fr {H H':Hp} {S:List Addr} {d:Addr} {w:Po.W} {B:Nat} {kvs:List (List Key×V)} (h:DT H d w B kvs) (e:Fr S H H') (n:d∉S) (t:∀ t x,H t=some (.tup x)->t∉S):DT H' d w B kvs :=
 ⟨e _ _ n h.hd,h.sm,h.len,fun a c v z=>let ⟨u,x,y⟩:=h.val a c v z;⟨u,x,y.keep fun b o q=>e _ _ (t _ _ q) q⟩⟩
theorem DT.mono {H H':Hp} {d:Addr} {w:Po.W} {B:Nat} {kvs:List (List Key×V)} (h:DT H d w B kvs) (e:Same H H'):DT H' d w B kvs:=h.fr (S:=[]) e.fr yBC fun _ _ _=>yBC
theorem mem_putK {kvs:List (List Key×V)} {k:List Key} {v:V} {J:List Key×V} (h:J∈putK kvs k v):J.1=k∨∃ z∈kvs,z.1=J.1:=by
 unfold putK at h
 split at h
 .obtain ⟨z,h1,h2⟩:=yBF.mp h
  split at h2
  .rename_i e;rw [<- h2];exact .inl e
  .rw [<- h2];exact .inr ⟨z,h1,rfl⟩
 .rcases yAR.mp h with h | h
  .exact .inr ⟨J,h,rfl⟩
  .rw [yAN.mp h];exact .inl rfl
theorem len_putK {kvs:List (List Key×V)} {k:List Key} {v u:V} (h:valV kvs k=some u):(putK kvs k v).length=kvs.length:=by
 unfold putK
 rw [if_pos (by rw [ZCk,h];rfl),yAA]
theorem DT.put {H:Hp} {d:Addr} {w:Po.W} {B:Nat} {kvs:List (List Key×V)} (h:DT H d w B kvs) {a c:Nat} {u:V} {v:Po.Fr} (ha:a < 205) (hc:c <= 500) (hu:FrV H u v) {k:Nat} (hk:k=1∨(w a c).isSome=true):DT (upd H d (.dT (putK kvs (kQ a c) u))) d (Po.put w a c v) (B+k) (putK kvs (kQ a c) u):=by
 have e:∀ t x,H t=some (.tup x)->upd H d (.dT (putK kvs (kQ a c) u)) t=some (.tup x):=fun t x O=>by rw [ZAG (fun z=>by rw [z,h.hd] at O;cases O)];exact O
 refine ⟨ZAF,fun kv Z=>?_,?_,fun a' c' v' J=>?_⟩
 .rcases mem_putK Z with z | ⟨U,h1,h2⟩
  .exact ⟨a,c,z,ha,hc⟩
  .rw [<- h2];exact h.sm U h1
 .have:=h.len
  rcases hk with rfl | z
  .exact yAG (ZCe _ _ _) (by omega)
  .obtain ⟨v0,Y⟩:=Option.isSome_iff_exists.mp z
   obtain ⟨u0,L,_⟩:=h.val a c v0 Y
   rw [len_putK L];omega
 .unfold Po.put at J
  rw [valV_put]
  by_cases z:a'=a /\ c'=c
  .rw [if_pos z] at J
   rw [if_pos (by rw [z.1,z.2])]
   cases J
   exact ⟨u,rfl,hu.keep e⟩
  .rw [if_neg z] at J
   rw [if_neg (fun y=>z (kQ_inj y))]
   obtain ⟨u',x,y⟩:=h.val a' c' v' J
   exact ⟨u',x,y.keep e⟩
theorem SitL.but {mo:V} {CA CR:Addr} {H H':Hp} {ks:List Int} {xs:List V} {a rl ru tl g lg:Addr} {pr:List (Nat×Nat)} (h:SitL mo CA CR H ks xs a rl ru tl g lg pr) (e:∀ b o,H b=some o->(∀ k,o≠.dT k)->H' b=some o):SitL mo CA CR H' ks xs a rl ru tl g lg pr:=by
 have J:∀ {b C:Addr} {fl:List (Str×V)},Ins H b C fl->Ins H' b C fl:=fun hi=>let ⟨dx,fs,h1,h2,h3⟩:=hi.ex;⟨dx,fs,e _ _ h1 (fun _ z=>by cases z),h2,h3⟩
 obtain ⟨O,h4,U⟩:=h.hlg
 obtain ⟨us,Z,L⟩:=h.htl
 exact ⟨J h.ha,e _ _ h.hrl (fun _ z=>by cases z),J h.hru,h.clo.mono (fun b o hb=>e _ _ hb (fun _ z=>by cases z)),h.len,fun i k Y=>let ⟨r,a1,a2⟩:=h.row i k Y;⟨r,a1,e _ _ a2 (fun _ z=>by cases z)⟩,⟨O,e _ _ h4 (fun _ z=>by cases z),U.keep fun _ _ z=>e _ _ z (fun _ y=>by cases y)⟩,⟨us,e _ _ Z (fun _ z=>by cases z),L.keep fun _ _ z=>e _ _ z (fun _ y=>by cases y)⟩,h.ne,h.hmo⟩
theorem ZCT {α:Type} {os:List α} {i:Nat} {x:α} (h:os[i]?=some x):os.drop i=x::os.drop (i+1):=by
 obtain ⟨h1,h2⟩:=yAK.mp h
 rw [List.drop_eq_getElem_cons h1,h2]
theorem run_grow {ah:Nat->Nat->Bool}:∀ {ms:List Po.Mt} {s s':Po.W×List (Nat×Nat)},Po.run ah ms s=some s'->∃ e,s'.2=s.2++e
 | [],s,s',h=>by cases h;exact ⟨[],by rw [yBA]⟩
 | m::r,s,s',h=>by
  have h:(Po.step ah s m).bind (Po.run ah r)=some s':=h
  obtain ⟨t,h1,h2⟩:=Option.bind_eq_some_iff.mp h
  obtain ⟨e,z⟩:=run_grow h2
  unfold Po.step at h1
  split at h1
  .cases h1
   exact ⟨_,by rw [z,yAY]⟩
  .cases h1
theorem run_cut {ah:Nat->Nat->Bool} {ms:List Po.Mt} {s s':Po.W×List (Nat×Nat)} (h:Po.run ah ms s=some s') (i:Nat):∃ t,Po.run ah (ms.take i) s=some t /\ Po.run ah (ms.drop i) t=some s':=by
 rw [<- yCL i ms,Po.run_app] at h
 exact Option.bind_eq_some_iff.mp h
theorem run_dom {ah:Nat->Nat->Bool} {a c:Nat}:∀ {ms:List Po.Mt} {s s':Po.W×List (Nat×Nat)},Po.run ah ms s=some s'->(s.1 a c).isSome=true->(s'.1 a c).isSome=true
 | [],s,s',h,z=>by cases h;exact z
 | m::r,s,s',h,z=>by
  have h:(Po.step ah s m).bind (Po.run ah r)=some s':=h
  obtain ⟨t,h1,h2⟩:=Option.bind_eq_some_iff.mp h
  refine run_dom h2 ?_
  unfold Po.step at h1
  split at h1
  .cases h1
   show (Po.put s.1 _ _ _ a c).isSome=true
   unfold Po.put
   split
   .rfl
   .exact z
  .cases h1
noncomputable def ZDx (CA CR CS:Addr) (bb:Bool) (CP:Addr):Sp:=fun vs H Q E=>∃ (mo:V) (ks:List Int) (xs:List V) (a rl ru tl g lg p pl tk ml wd mt wo:Addr) (pr:List (Nat×Nat)) (mvs:List V) (ms:List Po.Mt) (w w':Po.W) (l:List (Nat×Nat)) (B c:Nat) (kvs:List (List Key×V)),vs=[.ref p,.ref mt,.ref wo] /\ SitL mo CA CR H ks xs a rl ru tl g lg pr /\ Ins H p CP (fP a pl tk ml wd) /\ p∉[a,lg,tl] /\ mt∉[a,lg,tl] /\ H mt=some (.lst mvs) /\ MsAt H mvs ms /\ ms.length <= 400 /\ (∀ m∈ms,m.1 < 205 /\ m.2.2 <= 500) /\ DT H wo w B kvs /\ B <= 500 /\ Po.run (ahB bb ks) ms (w,[])=some (w',l) /\ (∀ c∈l,c.1≠c.2 /\ c.1 < ks.length /\ c.2 < ks.length) /\ (c=1∨c=0 /\ ∀ m∈ms,(w m.1 m.2.2).isSome=true) /\ pr.length+l.length <= 60000 /\ XL mo CA CR CS ks xs a rl ru tl g lg pr (l.map mxp) H E /\
 ∀ d H' kvs',Fr [a,lg,tl] H H'->H d=none->DT H' d w' (B+c * ms.length) kvs'->SitL mo CA CR H' ks xs a rl ru tl g lg (pr++l.map mxp)->Q (.ref d) H'
noncomputable def ZE0 (bb:Bool) (CP:Addr):Sp:=fun vs H Q _=>∃ (p ak pl tk ml wd:Addr) (pls:List Addr) (pcs:List (List Nat)) (w:Po.W) (B:Nat) (kvs:List (List Key×V)) (top:Po.Fr),vs=[.ref p] /\ PB bb CP H p ak pl tk ml wd pls pcs /\ DT H wd w B kvs /\ (w 0 pcs.length=some top∨B=0 /\ top=none) /\ ∀ u H',Same H H'->FrV H' u top->Q u H'
noncomputable def ZCF (bb:Bool) (CP:Addr):Sp:=fun vs H Q _=>∃ (p ak pl tk ml wd:Addr) (pls:List Addr) (pcs:List (List Nat)) (w:Po.W) (B:Nat) (kvs:List (List Key×V)) (top:Po.Fr),vs=[.ref p] /\ PB bb CP H p ak pl tk ml wd pls pcs /\ DT H wd w B kvs /\ (w 0 pcs.length=some top∨B=0 /\ top=none) /\ ∀ H',Same H H'->Q (match top with | none=>V.non | some x=>.int (x.1:Int)) H'
noncomputable def ZBO (bb:Bool) (CP:Addr):Sp:=fun vs H Q _=>∃ (p ak pl tk ml wd:Addr) (pls:List Addr) (pcs:List (List Nat)) (ts:List Nat),vs=[.ref p] /\ PB bb CP H p ak pl tk ml wd pls pcs /\ H tk=some (.lst (nL ts)) /\ pcs.length <= 500 /\ ts.length <= 500 /\ (∀ xs∈pcs,xs.length <= 500) /\ (∀ t∈ts,t <= 500) /\ ∀ H',Same H H'->Q (.int (((pcs.map List.length).sum:Nat)-(ts.sum:Nat))) H'
theorem sum_nat (l:List Nat):(l.map fun (n:Nat)=>(n:Int)).sum=((l.sum:Nat):Int):=by
 induction l with
 | nil=>rfl
 | cons a r ih=>rw [yAV,List.sum_cons,List.sum_cons,ih];omega
noncomputable def frs (pcs:List (List Nat)) (ts:List Nat) (i:Nat):Po.Fr:=ZCs (pcs.getD i []) (ts.getD i 0) i
structure PourAt (bb:Bool) (CP:Addr) (H:Hp) (p ak pl tk ml wd:Addr) (pls:List Addr) (pcs:List (List Nat)) (ts:List Nat) (w:Po.W) (kvs:List (List Key×V)):Prop where
 pb:PB bb CP H p ak pl tk ml wd pls pcs
 htk:H tk=some (.lst (nL ts))
 hml:∃ mvs,H ml=some (.lst mvs) /\ MsAt H mvs (Po.mts 0 pcs.length)
 hwd:DT H wd w (2 * pcs.length-1) kvs
 tlen:ts.length=pcs.length
 ne:tk≠pl /\ tk≠ml /\ ∀ l∈pls,l≠tk
noncomputable def XLI (mo:V) (CA CR CS:Addr) (ks:List Int) (xs:List V) (a rl ru tl g lg:Addr) (pr l:List (Nat×Nat)) (x:Addr) (H:Hp) (E:XK):Prop:=∀ (k:Nat) (H':Hp) (d:Addr),mo=.int k->pr.length <= k->k < pr.length+l.length->(∀ b o,b≠x->b∉[a,lg,tl]->H b=some o->H' b=some o)->H' d=some (xdM d (fS k))->SitL mo CA CR H' ks xs a rl ru tl g lg (pr++l.take (k-pr.length))->E (.ref CS) (some d) H'
noncomputable def ZBU (CA CR CS:Addr) (bb:Bool) (CP:Addr):Sp:=fun vs H Q E=>∃ (mo:V) (ks:List Int) (xs:List V) (a rl ru tl g lg x dx hl:Addr) (pr:List (Nat×Nat)) (hls:List Addr) (pcs:List (List Nat)),vs=[.ref x,.ref a,.ref hl] /\ H x=some (.ins CP dx []) /\ SitL mo CA CR H ks xs a rl ru tl g lg pr /\ H hl=some (.lst (hls.map V.ref)) /\ hls.length=pcs.length /\ (∀ (i:Nat) l ys,hls[i]?=some l->pcs[i]?=some ys->H l=some (.lst (nL (rv bb ys)))) /\ pcs.length <= 200 /\ (∀ ys∈pcs,ys.length <= 500 /\ ∀ y∈ys,y < ks.length) /\ (∀ (i j:Nat) xi xj y,i≠j->pcs[i]?=some xi->pcs[j]?=some xj->y∈xi->y∉xj) /\ x∉[a,lg,tl] /\ pr.length <= 50000 /\ XLI mo CA CR CS ks xs a rl ru tl g lg pr ((Po.asks (fun _=>true) (ahB bb ks) (frs pcs (List.replicate pcs.length 0)) 0 pcs.length).map mxp) x H E /\
 ∀ pl tk ml wd pls w H' kvs,(∀ b o,b≠x->b∉[a,lg,tl]->H b=some o->H' b=some o)->PourAt bb CP H' x a pl tk ml wd pls pcs (List.replicate pcs.length 0) w kvs->(0 < pcs.length->Po.Right (ahB bb ks) (frs pcs (List.replicate pcs.length 0)) w 0 pcs.length)->(H pl=none /\ H tk=none /\ H ml=none /\ H wd=none /\ ∀ l∈pls,H l=none)->SitL mo CA CR H' ks xs a rl ru tl g lg (pr++(Po.asks (fun _=>true) (ahB bb ks) (frs pcs (List.replicate pcs.length 0)) 0 pcs.length).map mxp)->Q .non H'
theorem SitL.newS {mo:V} {CA CR:Addr} {H:Hp} {ks:List Int} {xs:List V} {a rl ru tl g lg b:Addr} {pr:List (Nat×Nat)} (h:SitL mo CA CR H ks xs a rl ru tl g lg pr) (J:H b=none):b∉[a,lg,tl]:=fun z=>by
 obtain ⟨_,h2,_⟩:=h.hlg
 obtain ⟨_,h3,_⟩:=h.htl
 rcases yAE.mp z with z | z
 .exact h.ha.neN J z
 rcases yAE.mp z with z | z
 .rw [z,h2] at J;cases J
 .rw [yAN.mp z,h3] at J;cases J
theorem SitL.butN {mo:V} {CA CR C d x:Addr} {f:List (Str×V)} {H H':Hp} {ks:List Int} {xs:List V} {a rl ru tl g lg:Addr} {pr:List (Nat×Nat)} (h:SitL mo CA CR H ks xs a rl ru tl g lg pr) (hx:H x=some (.ins C d f)) (nx:x∉[a,lg,tl]) (L:ru≠x) (e:∀ b o,b≠x->H b=some o->H' b=some o):SitL mo CA CR H' ks xs a rl ru tl g lg pr:=by
 have k:∀ {b:Addr} {o:HO},H b=some o->(∀ C d f,o≠.ins C d f)->H' b=some o:=fun {b o} J z=>e b o (fun m=>by rw [m,hx] at J;exact z _ _ _ (Option.some.inj J).symm) J
 have O:∀ {b C:Addr} {fl:List (Str×V)},b≠x->Ins H b C fl->Ins H' b C fl:=fun n hi=>let ⟨dx,fs,h1,h2,h3⟩:=hi.ex;⟨dx,fs,e _ _ n h1,h2,h3⟩
 have na:a≠x:=fun z=>nx (by rw [<- z];exact yAF)
 obtain ⟨Z,h4,h5⟩:=h.hlg
 obtain ⟨us,h6,U⟩:=h.htl
 exact ⟨O na h.ha,k h.hrl (fun _ _ _ z=>by cases z),O L h.hru,h.clo.mono (fun b o J=>k J (fun _ _ _ z=>by cases z)),h.len,fun i Y hk=>let ⟨r,a1,a2⟩:=h.row i Y hk;⟨r,a1,k a2 (fun _ _ _ z=>by cases z)⟩,⟨Z,k h4 (fun _ _ _ z=>by cases z),h5.keep fun _ _ z=>k z (fun _ _ _ y=>by cases y)⟩,⟨us,k h6 (fun _ _ _ z=>by cases z),U.keep fun _ _ z=>k z (fun _ _ _ y=>by cases y)⟩,h.ne,h.hmo⟩
theorem SitL.butX {mo:V} {CA CR CP dx x:Addr} {H H':Hp} {ks:List Int} {xs:List V} {a rl ru tl g lg:Addr} {pr:List (Nat×Nat)} (h:SitL mo CA CR H ks xs a rl ru tl g lg pr) (hx:H x=some (.ins CP dx [])) (nx:x∉[a,lg,tl]) (e:∀ b o,b≠x->H b=some o->H' b=some o):SitL mo CA CR H' ks xs a rl ru tl g lg pr :=
 h.butN hx nx (fun z=>by
  obtain ⟨O,f1,J,_,L⟩:=h.hru.ex
  rw [z,hx] at J
  cases J
  have:=L ("teller":Str)
  cases this) e
theorem SitL.butI {mo:V} {CA CR CP x p2 O U Y Z:Addr} {H H':Hp} {ks:List Int} {xs:List V} {a rl ru tl g lg:Addr} {pr:List (Nat×Nat)} (h:SitL mo CA CR H ks xs a rl ru tl g lg pr) (hx:Ins H x CP (fP p2 O U Y Z)) (nx:x∉[a,lg,tl]) (e:∀ b o,b≠x->H b=some o->H' b=some o):SitL mo CA CR H' ks xs a rl ru tl g lg pr :=
 let ⟨d2,f2,e2,_,e5⟩:=hx.ex
 h.butN e2 nx (fun z=>by
  obtain ⟨d1,f1,J,_,L⟩:=h.hru.ex
  rw [z,e2] at J
  cases J
  have:=(L ("teller":Str)).symm.trans (e5 ("teller":Str))
  cases this) e
theorem front_mem {xs:List Nat} {t i:Nat} {y:Nat×Nat} (h:ZCs xs t i=some y):y.1∈xs /\ y.2=i:=by
 unfold ZCs at h
 obtain ⟨a,h1,h2⟩:=yBM.mp h
 rw [<- h2]
 exact ⟨yAL h1,rfl⟩
theorem ZFG {pcs:List (List Nat)} {ts:List Nat} {i t:Nat} {zs:List Nat} (h:pcs[i]?=some zs) (z:ts[i]?=some t):frs pcs ts i=ZCs zs t i:=by
 unfold frs
 rw [yBI,yBI,h,z];rfl
theorem ZC2 {pcs:List (List Nat)} {ts:List Nat} {i:Nat} {y:Nat×Nat} (h:frs pcs ts i=some y):∃ zs,pcs[i]?=some zs /\ y.1∈zs /\ y.2=i:=by
 unfold frs at h
 obtain ⟨h1,h2⟩:=front_mem h
 rw [yBI] at h1
 cases e:pcs[i]? with
 | none=>rw [e] at h1;cases h1
 | some zs=>rw [e] at h1;exact ⟨zs,rfl,h1,h2⟩
theorem asks_fine {ks:List Int} {pcs:List (List Nat)} {ts:List Nat} {D:Po.Mt->Bool} {ah:Nat->Nat->Bool} {f b:Nat} (z:∀ ys∈pcs,∀ y∈ys,y < ks.length) (J:∀ (i j:Nat) xi xj y,i≠j->pcs[i]?=some xi->pcs[j]?=some xj->y∈xi->y∉xj) :
  ∀ c∈Po.asks D ah (frs pcs ts) f b,c.1≠c.2 /\ c.1 < ks.length /\ c.2 < ks.length:=by
 rintro ⟨p,q⟩ hc
 obtain ⟨i,j,x,y,_,a0,_,h1,h2⟩:=Po.asks_mem _ _ hc
 obtain ⟨O,Y,U,_⟩:=ZC2 h1
 obtain ⟨Z,b1,L,_⟩:=ZC2 h2
 exact ⟨fun e=>J i j O Z p (by omega) Y b1 U (by rw [show p=q from e];exact L),z O (yAL Y) p U,z Z (yAL b1) q L⟩
theorem ZCj {pcs:List (List Nat)} {ts:List Nat} {ah:Nat->Nat->Bool} {n:Nat} {D:Po.Mt->Bool}:(Po.asks D ah (frs pcs ts) 0 n).length <= n:=by
 have h1:=Po.asks_le (D:=D) (ah:=ah) (fr:=frs pcs ts) 0 n
 have h2:=yCP D (Po.mts 0 n)
 rw [Po.mts_len] at h2
 omega
noncomputable def Things (H:Hp) (ks:List Int) (xs:List V):Prop:=xs.length=ks.length /\ ∀ (i:Nat) k,ks[i]?=some k->∃ r,xs[i]?=some (V.ref r) /\ H r=some (.tup [.int k,.int i])
theorem Things.zz {H:Hp} {ks:List Int} {xs:List V} (h:Things H ks xs):∃ zz:List PrA,xs=zz.map (fun z=>V.ref z.1) /\ zz.length=ks.length /\ ∀ (i:Nat) z,zz[i]?=some z->z.2=(kat ks i,(i:Int)) /\ H z.1=some (.tup [.int (kat ks i),.int i]):=by
 have O:∀ n,n <= ks.length->∃ zz:List PrA,xs.take n=zz.map (fun z=>V.ref z.1) /\ zz.length=n /\ ∀ (i:Nat) z,zz[i]?=some z->z.2=(kat ks i,(i:Int)) /\ H z.1=some (.tup [.int (kat ks i),.int i]):=by
  intro n
  induction n with
  | zero=>intro _;exact ⟨[],rfl,rfl,fun i z e=>by simp at e⟩
  | succ n ih=>
   intro hn
   obtain ⟨zz,J,L,U⟩:=ih (by omega)
   obtain ⟨r,b1,Y⟩:=h.2 n _ (yAD (show n < ks.length by omega))
   have Z:ks[n]=kat ks n:=by unfold kat;rw [yAD (show n < ks.length by omega)];rfl
   rw [Z] at Y
   refine ⟨zz++[(r,kat ks n,(n:Int))],?_,by rw [yAC,L];rfl,fun i z e=>?_⟩
   .rw [yCA,b1,J,yAT]
    rfl
   .by_cases hi:i < zz.length
    .rw [yAX hi] at e
     exact U i z e
    .have h1:=(yAK.mp e).1
     rw [yAC,yCC] at h1
     have:i=n:=by omega
     subst this
     rw [yAW (by omega),show i-zz.length=0 by omega] at e
     cases e
     exact ⟨rfl,Y⟩
 obtain ⟨zz,J,L,U⟩:=O ks.length (yAB _)
 rw [yBH (by rw [h.1];exact yAB _)] at J
 exact ⟨zz,J,L,U⟩
theorem onceS {α:Type} {P:TS} {D:Ends} {H:Hp} (σ:α->St) (p:α->Prop) {G:Prop} (h:(∀ x,p x->Cut P D (σ x) H)->G) (t:∀ x,p x->Cut P D (σ x) H):G:=h t
structure PL (H:Hp) (hls:List Addr) (pcs:List (List Nat)):Prop where
 len:hls.length=pcs.length
 at':∀ (i:Nat) l ys,hls[i]?=some l->pcs[i]?=some ys->H l=some (.lst (nL ys))
 nd:hls.Nodup
noncomputable def ZC4 (n:Nat) (num:Nat->Nat) (os:List Nat):List (List Nat):=(List.range n).map fun i=>os.filter fun p=>decide (num p=i)
theorem ZBN (n:Nat) (z:Nat->Nat) (os:List Nat):(ZC4 n z os).length=n:=by unfold ZC4;rw [yAA,List.length_range]
theorem ZB2 {n:Nat} {z:Nat->Nat} {os:List Nat} {i:Nat} (h:i < n):(ZC4 n z os)[i]?=some (os.filter fun p=>decide (z p=i)):=by
 unfold ZC4
 rw [yAJ,List.getElem?_range h];rfl
theorem pcsOf_snoc {n:Nat} {z:Nat->Nat} {os:List Nat} {p:Nat}:ZC4 n z (os++[p])=if z p < n then (ZC4 n z os).set (z p) ((os.filter fun q=>decide (z q=z p))++[p]) else ZC4 n z os:=by
 have J:∀ i,(os++[p]).filter (fun q=>decide (z q=i))=if z p=i then (os.filter fun q=>decide (z q=i))++[p] else os.filter fun q=>decide (z q=i):=fun i=>by
  rw [yBN]
  by_cases e:z p=i
  .rw [if_pos e,yBZ (by simpa using e)];rfl
  .rw [if_neg e,yBV (by simpa using e),List.filter_nil,yBA]
 refine yCK fun i=>?_
 by_cases hi:i < n
 .rw [ZB2 hi,J]
  by_cases hp:z p < n
  .rw [if_pos hp,yCI,ZBN]
   by_cases e:z p=i
   .rw [if_pos e,if_pos e,if_pos (by omega),e]
   .rw [if_neg e,if_neg e,ZB2 hi]
  .rw [if_neg hp,if_neg (by omega),ZB2 hi]
 .rw [yBE (by rw [ZBN];omega),yBE]
  split
  .rw [yCB,ZBN];omega
  .rw [ZBN];omega
theorem nd_inj {l:List Addr} (h:l.Nodup) {i j:Nat} (hi:i < l.length) (L:j < l.length) (e:l[i]=l[j]):i=j:=by
 have J:=List.pairwise_iff_getElem.mp h
 rcases Nat.lt_trichotomy i j with z | z | z
 .exact absurd e (J i j hi L z)
 .exact z
 .exact absurd e.symm (J j i L hi z)
theorem PL.push {H:Hp} {J:List Addr} {pcs:List (List Nat)} {j:Nat} {b:Addr} {ys:List Nat} (h:PL H J pcs) (L:J[j]?=some b) (zs:List Nat):PL (upd H b (.lst (nL zs))) J (pcs.set j zs):=by
 refine ⟨by rw [yCB];exact h.len,fun i l us h1 h2=>?_,h.nd⟩
 rw [yCI] at h2
 have Z:=(yAK.mp L).1
 by_cases e:j=i
 .rw [if_pos e] at h2
  subst e
  rw [L] at h1
  cases h1
  split at h2
  .cases h2;exact ZAF
  .cases h2
 .rw [if_neg e] at h2
  have:l≠b:=fun z=>by
   have hi:=(yAK.mp h1)
   have O:=(yAK.mp L)
   obtain ⟨U,Y⟩:=hi
   obtain ⟨k1,k2⟩:=O
   rw [<- k2] at z
   rw [<- Y] at z
   exact e (nd_inj h.nd U k1 z).symm
  rw [ZAG this]
  exact h.at' i l us h1 h2
theorem ZFD {ks:List Int} {j:Nat} (h:j < ks.length):ks[j]?=some (kat ks j):=by unfold kat;rw [yAD h];rfl
theorem SitL.apartP {mo:V} {CA CR:Addr} {H H':Hp} {ks:List Int} {xs:List V} {a rl ru tl g lg:Addr} {pr:List (Nat×Nat)} {S:List Addr} (h:SitL mo CA CR H ks xs a rl ru tl g lg pr) (e:Fr S H H') (hS:∀ b∈S,∃ l,H b=some (.lst l)) (n:rl∉S /\ lg∉S /\ tl∉S):SitL mo CA CR H' ks xs a rl ru tl g lg pr:=by
 have k:∀ {b:Addr} {o:HO},H b=some o->(∀ l,o≠.lst l)->H' b=some o:=fun {b o} L z=>e _ _ (fun m=>by obtain ⟨l,hl⟩:=hS b m;rw [hl] at L;exact z _ (Option.some.inj L).symm) L
 have Y:∀ {b C:Addr} {fl:List (Str×V)},Ins H b C fl->Ins H' b C fl:=fun hi=>let ⟨dx,fs,h1,h2,h3⟩:=hi.ex;⟨dx,fs,k h1 (fun _ z=>by cases z),h2,h3⟩
 obtain ⟨ws,h4,h5⟩:=h.hlg
 obtain ⟨us,h6,Z⟩:=h.htl
 have O:∀ (i:Nat) U,ks[i]?=some U->∃ r,xs[i]?=some (V.ref r) /\ H' r=some (.tup [.int U,.int i]):=fun i U hk=>by
  obtain ⟨r,a1,a2⟩:=h.row i U hk
  exact ⟨r,a1,k a2 (fun _ z=>by cases z)⟩
 have J:=h.clo.mono (H':=H') (fun b o L=>k L (fun _ z=>by cases z))
 have hl:=h5.keep (H':=H') (fun _ _ z=>k z (fun _ y=>by cases y))
 have ht:=Z.keep (H':=H') (fun _ _ z=>k z (fun _ y=>by cases y))
 exact ⟨Y h.ha,e _ _ n.1 h.hrl,Y h.hru,J,h.len,O,⟨ws,e _ _ n.2.1 h4,hl⟩,⟨us,e _ _ n.2.2 h6,ht⟩,h.ne,h.hmo⟩
theorem PourAt.fr {bb:Bool} {CP:Addr} {H H':Hp} {S:List Addr} {p ak pl tk ml wd:Addr} {pls:List Addr} {pcs:List (List Nat)} {ts:List Nat} {w:Po.W} {kvs:List (List Key×V)} (h:PourAt bb CP H p ak pl tk ml wd pls pcs ts w kvs) (e:Fr S H H') (U:∀ b∈S,∃ l,H b=some (.lst l)) (n:pl∉S /\ tk∉S /\ ml∉S /\ ∀ l∈pls,l∉S):PourAt bb CP H' p ak pl tk ml wd pls pcs ts w kvs:=by
 have J:∀ b o,H b=some o->(∀ l,o≠.lst l)->b∉S:=fun b o O z m=>by
  obtain ⟨l,hl⟩:=U b m
  rw [hl] at O;exact z _ (Option.some.inj O).symm
 obtain ⟨dx,fs,Y,_⟩:=h.pb.hp.ex
 obtain ⟨L,h1,h2⟩:=h.hml
 exact ⟨h.pb.fr e (J _ _ Y fun _ z=>by cases z) n.1 n.2.2.2,e _ _ n.2.1 h.htk,⟨L,e _ _ n.2.2.1 h1,h2.keep fun t z y=>e _ _ (J _ _ y fun _ z=>by cases z) y⟩,h.hwd.fr e (J _ _ h.hwd.hd fun _ z=>by cases z) (fun t z y=>J _ _ y fun _ z=>by cases z),h.tlen,h.ne⟩
theorem PourAt.mono {bb:Bool} {CP:Addr} {H H':Hp} {p ak pl tk ml wd:Addr} {pls:List Addr} {pcs:List (List Nat)} {ts:List Nat} {w:Po.W} {kvs:List (List Key×V)} (h:PourAt bb CP H p ak pl tk ml wd pls pcs ts w kvs) (e:Same H H'):PourAt bb CP H' p ak pl tk ml wd pls pcs ts w kvs :=
 h.fr (S:=[]) e.fr (fun b z=>by cases z) ⟨yBC,yBC,yBC,fun _ _=>yBC⟩
structure PX (a rl lg tl p pl tk ml:Addr) (pls:List Addr):Prop where
 r:rl≠tk
 p:p∉[a,lg,tl]
 pl:pl∉[a,lg,tl]
 tk:tk∉[a,lg,tl]
 ml:ml∉[a,lg,tl]
 ls:∀ l∈pls,l∉[a,lg,tl]
theorem Right.at {ah:Nat->Nat->Bool} {fr:Nat->Po.Fr} {w:Po.W} {n:Nat} (h:Po.Right ah fr w 0 n) {m:Po.Mt} (hm:m∈Po.mts 0 n):(w m.1 m.2.2).isSome=true:=by rw [h.2 m hm];rfl
theorem frs_set {pcs:List (List Nat)} {ts:List Nat} {i t j:Nat} (h:j≠i):frs pcs (ts.set i t) j=frs pcs ts j:=by
 unfold frs
 rw [yBI (l:=ts.set i t),yCI,if_neg (fun z=>h z.symm),<- yBI]
noncomputable def ZBf (CA CR CS:Addr) (bb:Bool) (CP:Addr):Sp:=fun vs H Q E=>∃ (mo:V) (ks:List Int) (xs:List V) (a rl ru tl g lg p pl tk ml wd:Addr) (pr:List (Nat×Nat)) (pls:List Addr) (pcs:List (List Nat)) (ts:List Nat) (w:Po.W) (kvs:List (List Key×V)),vs=[.ref p] /\ SitL mo CA CR H ks xs a rl ru tl g lg pr /\ PourAt bb CP H p a pl tk ml wd pls pcs ts w kvs /\ PX a rl lg tl p pl tk ml pls /\ pcs.length <= 200 /\ (∀ ys∈pcs,∀ y∈ys,y < ks.length) /\ (∀ (i j:Nat) xi xj y,i≠j->pcs[i]?=some xi->pcs[j]?=some xj->y∈xi->y∉xj) /\ (0 < pcs.length->Po.Right (ahB bb ks) (frs pcs ts) w 0 pcs.length) /\ pr.length <= 50000 /\ (∀ x i t,Po.best (ahB bb ks) (frs pcs ts) 0 pcs.length=some (x,i)->ts[i]?=some t->XL mo CA CR CS ks xs a rl ru tl g lg pr ((Po.asks (Po.onWay i) (ahB bb ks) (frs pcs (ts.set i (t+1))) 0 pcs.length).map mxp) H E) /\
 ((pcs.length=0∨Po.best (ahB bb ks) (frs pcs ts) 0 pcs.length=none)->∀ H',Same H H'->Q .non H') /\
 (∀ x i t,0 < pcs.length->Po.best (ahB bb ks) (frs pcs ts) 0 pcs.length=some (x,i)->i < pcs.length->ts[i]?=some t->∀ wd' w' H' kvs',Fr [p,tk,a,lg,tl] H H'->PourAt bb CP H' p a pl tk ml wd' pls pcs (ts.set i (t+1)) w' kvs'->Po.Right (ahB bb ks) (frs pcs (ts.set i (t+1))) w' 0 pcs.length->SitL mo CA CR H' ks xs a rl ru tl g lg (pr++(Po.asks (Po.onWay i) (ahB bb ks) (frs pcs (ts.set i (t+1))) 0 pcs.length).map mxp)->Q (.int (x:Int)) H')
theorem ZFR {α:Type} {P:TS} {D:Ends} (σ:α->St) (X:α->Hp) (p:α->Prop) {G:Prop} (h:(∀ x,p x->Cut P D (σ x) (X x))->G) (t:∀ x,p x->Cut P D (σ x) (X x)):G:=h t
theorem split_lt (z:Nat->Nat) (n:Nat):∀ os:List Nat,(os.filter fun p=>decide (z p < n+1)).length=(os.filter fun p=>decide (z p < n)).length+(os.filter fun p=>decide (z p=n)).length
 | []=>rfl
 | a::r=>by
  have J:=split_lt z n r
  by_cases h1:z a < n
  .rw [yBZ (by simp;omega),yBZ (by simpa using h1),yBV (by simp;omega),yAQ,yAQ];omega
  .by_cases h2:z a=n
   .rw [yBZ (by simp;omega),yBV (by simpa using h1),yBZ (by simpa using h2),yAQ,yAQ];omega
   .rw [yBV (by simp;omega),yBV (by simpa using h1),yBV (by simpa using h2)];exact J
theorem pcs_sum (z:Nat->Nat) (os:List Nat):∀ n,((ZC4 n z os).map List.length).sum=(os.filter fun p=>decide (z p < n)).length
 | 0=>by
  unfold ZC4
  rw [List.filter_eq_nil_iff.mpr (by simp)];rfl
 | n+1=>by
  have J:=pcs_sum z os n
  unfold ZC4 at J ⊢
  rw [List.range_succ,yAT,yAT,List.sum_append,J,split_lt]
  simp
noncomputable def ZDG (K:W.Frag):Sp:=fun vs H Q _=>∃ (ky a:Addr) (ks ns:List Int),vs=[.ref ky,.ref a] /\ H ky=some (.lst (ks.map V.int)) /\ ks.length <= 119 /\ SqL K H a (ns.map V.int) /\ ns.length <= 63 /\
 ∀ l hls pcs H',Same H H'->H l=none->H' l=some (.lst (hls.map V.ref))->PL H' hls pcs->(∀ b∈hls,H b=none)->pcs.length <= 40->(∀ ys∈pcs,ys.Pairwise (lx ks) /\ (∀ y∈ys,y < ks.length) /\ ys.length <= 119)->(∀ (i j:Nat) xi xj y,i≠j->pcs[i]?=some xi->pcs[j]?=some xj->y∈xi->y∉xj)->(pcs.map List.length).sum <= 119->Q (.ref l) H'
theorem ZDA (pcs:List (List Nat)):pcs.flatten.length=(pcs.map List.length).sum:=List.length_flatten
noncomputable def ZB0 (pcs:List (List Nat)) (ts:List Nat):List (List Nat):=(List.range pcs.length).map fun i=>(pcs.getD i []).drop (ts.getD i 0)
theorem ZBM (pcs:List (List Nat)) (ts:List Nat):(ZB0 pcs ts).length=pcs.length:=by unfold ZB0;rw [yAA,List.length_range]
theorem ZCP {pcs:List (List Nat)} {ts:List Nat} {i t:Nat} {zs:List Nat} (h:pcs[i]?=some zs) (z:ts[i]?=some t):(ZB0 pcs ts)[i]?=some (zs.drop t):=by
 unfold ZB0
 rw [yAJ,List.getElem?_range (yAK.mp h).1]
 show some ((pcs.getD i []).drop (ts.getD i 0))=_
 rw [yBI,yBI,h,z];rfl
theorem rests_set {pcs:List (List Nat)} {ts:List Nat} {i t:Nat} {zs:List Nat} (hl:ts.length=pcs.length) (h:pcs[i]?=some zs):ZB0 pcs (ts.set i t)=(ZB0 pcs ts).set i (zs.drop t):=by
 have hi:=(yAK.mp h).1
 refine yCK fun j=>?_
 by_cases hj:j < pcs.length
 .rw [yCI,ZBM]
  by_cases e:i=j
  .subst e
   rw [if_pos rfl,if_pos hi,ZCP h (t:=t) (by rw [yCI,if_pos rfl,if_pos (by omega)])]
  .rw [if_neg e,ZCP (yAD hj) (t:=ts[j]) (by rw [yCI,if_neg e,yAD (by omega)]),ZCP (yAD hj) (t:=ts[j]) (yAD (by omega))]
 .rw [yBE (by rw [ZBM];omega),yBE (by rw [yCB,ZBM];omega)]
theorem rests_zero (pcs:List (List Nat)):ZB0 pcs (List.replicate pcs.length 0)=pcs:=by
 refine yCK fun j=>?_
 by_cases hj:j < pcs.length
 .rw [ZCP (yAD hj) (t:=0) (by rw [List.getElem?_replicate,if_pos hj]),yAD hj,List.drop_zero]
 .rw [yBE (by rw [ZBM];omega),yBE (by omega)]
theorem frs_rest {pcs:List (List Nat)} {ts:List Nat} {i:Nat} {y:Nat×Nat} (h:frs pcs ts i=some y):∃ r,(ZB0 pcs ts)[i]?=some (y.1::r):=by
 unfold frs ZCs at h
 obtain ⟨a,h1,h2⟩:=yBM.mp h
 have hi:i < pcs.length:=by
  cases e:pcs[i]? with
  | none=>rw [yBI,e] at h1;simp at h1
  | some zs=>exact (yAK.mp e).1
 refine ⟨(pcs.getD i []).drop (ts.getD i 0+1),?_⟩
 unfold ZB0
 rw [yAJ,List.getElem?_range hi]
 show some ((pcs.getD i []).drop (ts.getD i 0))=_
 rw [ZCT h1,<- h2]
theorem frs_of {pcs:List (List Nat)} {ts:List Nat} {i x:Nat} {r:List Nat} (h:(ZB0 pcs ts)[i]?=some (x::r)):frs pcs ts i=some (x,i):=by
 have hi:i < pcs.length:=by have:=(yAK.mp h).1;rw [ZBM] at this;exact this
 unfold ZB0 at h
 rw [yAJ,List.getElem?_range hi] at h
 have h:(pcs.getD i []).drop (ts.getD i 0)=x::r:=Option.some.inj h
 unfold frs ZCs
 have:(pcs.getD i [])[ts.getD i 0]?=some x:=by
  have:=congrArg List.head? h
  rw [List.head?_drop] at this
  exact this
 rw [this];rfl
theorem flat_set:∀ {l:List (List Nat)} {i x:Nat} {r:List Nat},l[i]?=some (x::r)->l.flatten.Perm (x::(l.set i r).flatten)
 | [],i,x,r,h=>by simp at h
 | a::l,0,x,r,h=>by
  have e:a=x::r:=by simpa using h
  subst e
  exact List.Perm.refl _
 | a::l,i+1,x,r,h=>by
  have z:=flat_set (l:=l) (i:=i) (by simpa using h)
  show (a++l.flatten).Perm (x::(a++(l.set i r).flatten))
  exact (List.Perm.append_left a z).trans List.perm_middle
theorem mem_flat {l:List (List Nat)} {y:Nat} (h:y∈l.flatten):∃ (j:Nat) (r:List Nat),l[j]?=some r /\ y∈r:=by
 obtain ⟨r,h1,h2⟩:=List.mem_flatten.mp h
 obtain ⟨j,z,e⟩:=List.getElem_of_mem h1
 exact ⟨j,r,by rw [yAD z,e],h2⟩
structure Od (bb:Bool) (ks:List Int) (pcs:List (List Nat)) (ts os:List Nat):Prop where
 srt:os.Pairwise (lxB bb ks)
 low:∀ x∈os,∀ y∈(ZB0 pcs ts).flatten,lxB bb ks x y
 perm:(os++(ZB0 pcs ts).flatten).Perm pcs.flatten
theorem Od.zero {bb:Bool} {ks:List Int} {pcs:List (List Nat)}:Od bb ks pcs (List.replicate pcs.length 0) []:=⟨.nil,fun _ h=>(by cases h),by rw [rests_zero];exact List.Perm.refl _⟩
theorem Od.step {bb:Bool} {ks:List Int} {pcs:List (List Nat)} {ts os:List Nat} {x i t:Nat} {zs:List Nat} (h:Od bb ks pcs ts os) (hl:ts.length=pcs.length) (hs:∀ ys∈pcs,ys.Pairwise (lxB bb ks)) (hz:pcs[i]?=some zs) (ht:ts[i]?=some t) (hx:zs[t]?=some x)
  (hb:∀ j y,j < pcs.length->frs pcs ts j=some y->y=(x,i)∨lxB bb ks x y.1):Od bb ks pcs (ts.set i (t+1)) (os++[x]):=by
 have hr:(ZB0 pcs ts)[i]?=some (x::zs.drop (t+1)):=by rw [ZCP hz ht,ZCT hx]
 have Z:=flat_set hr
 rw [<- rests_set hl hz] at Z
 have a0:x∈(ZB0 pcs ts).flatten:=Z.mem_iff.mpr yAF
 refine ⟨?_,fun y Y z O=>?_,?_⟩
 .rw [List.pairwise_append]
  exact ⟨h.srt,List.pairwise_singleton _ _,fun a ha b a2=>by rw [yAN.mp a2];exact h.low a ha x a0⟩
 .rcases yAR.mp Y with Y | Y
  .exact h.low y Y z (Z.mem_iff.mpr (yAM _ O))
  .rw [yAN.mp Y]
   obtain ⟨j,r,J,L⟩:=mem_flat O
   have U:j < pcs.length:=by have:=(yAK.mp J).1;rw [ZBM] at this;exact this
   rw [rests_set hl hz,yCI] at J
   by_cases e:i=j
   .rw [if_pos e,ZBM,if_pos (by omega)] at J
    cases J
    have:=List.Pairwise.drop (i:=t) (hs zs (yAL hz))
    rw [ZCT hx] at this
    exact (List.pairwise_cons.mp this).1 z L
   .rw [if_neg e] at J
    have a1:r.Pairwise (lxB bb ks):=by
     have h2:=ZCP (pcs:=pcs) (ts:=ts) (yAD U) (yAD (show j < ts.length by omega))
     rw [J] at h2
     cases h2
     exact List.Pairwise.drop (hs _ (List.getElem_mem _))
    cases r with
    | nil=>cases L
    | cons f rr=>
     have a3:=frs_of J
     have h1:lxB bb ks x f:=by
      rcases hb j (f,j) U a3 with z | z
      .injection z with _ z;exact absurd z.symm e
      .exact z
     rcases yAE.mp L with z | z
     .rw [z];exact h1
     .exact ZEe h1 ((List.pairwise_cons.mp a1).1 _ z)
 .rw [yAY]
  exact (List.Perm.append_left os Z.symm).trans h.perm
theorem best_ne {bb:Bool} {ks:List Int} {pcs:List (List Nat)} {ts:List Nat} {j:Nat} {y:Nat×Nat} (J:j < pcs.length) (h:frs pcs ts j=some y):∃ x,Po.best (ahB bb ks) (frs pcs ts) 0 pcs.length=some x:=by
 have z:=(Po.best_some (ah:=ahB bb ks) (fr:=frs pcs ts) 0 pcs.length (by omega)).mpr (by
  unfold Po.cnt
  refine List.length_pos_of_mem (a:=j) (yBO.mpr ⟨List.mem_range'_1.mpr ⟨yAH _,by omega⟩,?_⟩)
  rw [h];rfl)
 exact Option.isSome_iff_exists.mp z
theorem ZEG:∀ {ts:List Nat} {i t:Nat},ts[i]?=some t->(ts.set i (t+1)).sum=ts.sum+1
 | [],i,t,h=>by simp at h
 | a::r,0,t,h=>by
  have e:a=t:=by simpa using h
  subst e
  show (a+1)+r.sum=a+r.sum+1
  omega
 | a::r,i+1,t,h=>by
  have z:=ZEG (ts:=r) (i:=i) (t:=t) (by simpa using h)
  show a+(r.set i (t+1)).sum=a+r.sum+1
  omega
theorem Told.dropP {H:Hp} {ks:List Int} {pr L:List (Nat×Nat)} {z:List V} (h:Told H ks (pr++L) z):Told H ks L (z.drop pr.length):=by
 refine ⟨by rw [yBR,h.len,yAC];omega,fun j p q J=>?_⟩
 obtain ⟨t,a,b⟩:=h.get (pr.length+j) p q (by rw [yAW (by omega),Nat.add_sub_cancel_left];exact J)
 exact ⟨t,by rw [List.getElem?_drop];exact a,b⟩
noncomputable def wk (bb:Bool) (ks:List Int) (pcs:List (List Nat)):Nat->List Nat×List Nat×List (Nat×Nat)
 | 0=>(List.replicate pcs.length 0,[],Po.asks (fun _=>true) (ahB bb ks) (frs pcs (List.replicate pcs.length 0)) 0 pcs.length)
 | k+1=>
  match Po.best (ahB bb ks) (frs pcs (wk bb ks pcs k).1) 0 pcs.length with
  | none=>wk bb ks pcs k
  | some c=>((wk bb ks pcs k).1.set c.2 ((wk bb ks pcs k).1.getD c.2 0+1),(wk bb ks pcs k).2.1++[c.1],(wk bb ks pcs k).2.2++Po.asks (Po.onWay c.2) (ahB bb ks) (frs pcs ((wk bb ks pcs k).1.set c.2 ((wk bb ks pcs k).1.getD c.2 0+1))) 0 pcs.length)
theorem ZD9 {bb:Bool} {ks:List Int} {pcs:List (List Nat)} {k x i t:Nat} (h:Po.best (ahB bb ks) (frs pcs (wk bb ks pcs k).1) 0 pcs.length=some (x,i)) (z:(wk bb ks pcs k).1[i]?=some t) :
  wk bb ks pcs (k+1)=((wk bb ks pcs k).1.set i (t+1),(wk bb ks pcs k).2.1++[x],(wk bb ks pcs k).2.2++Po.asks (Po.onWay i) (ahB bb ks) (frs pcs ((wk bb ks pcs k).1.set i (t+1))) 0 pcs.length):=by
 have e:(wk bb ks pcs k).1.getD i 0=t:=by rw [yBI,z];rfl
 rw [wk,h]
 dsimp only
 rw [e]
structure Wf (bb:Bool) (ks:List Int) (pcs:List (List Nat)) (k:Nat):Prop where
 tl:(wk bb ks pcs k).1.length=pcs.length
 od:Od bb ks pcs (wk bb ks pcs k).1 (wk bb ks pcs k).2.1
 ol:(wk bb ks pcs k).2.1.length=k
 ts:(wk bb ks pcs k).1.sum=k
 tb:∀ t∈(wk bb ks pcs k).1,t <= k
 al:(wk bb ks pcs k).2.2.length <= pcs.length+pcs.length * k
theorem best_lx {bb:Bool} {ks:List Int} {pcs:List (List Nat)} {ts:List Nat} {x:Nat×Nat} (z:∀ (i j:Nat) xi xj y,i≠j->pcs[i]?=some xi->pcs[j]?=some xj->y∈xi->y∉xj) (hz:0 < pcs.length) (e:Po.best (ahB bb ks) (frs pcs ts) 0 pcs.length=some x) :
  ∀ j y,j < pcs.length->frs pcs ts j=some y->y=x∨lxB bb ks x.1 y.1:=fun j y J h=>
 Po.best_first (lt:=lxB bb ks) (ah:=ahB bb ks) (fr:=frs pcs ts) (fun _ _ _=>ZEe) 0 pcs.length hz (fun i j x y _ a0 J h1 h2=>⟨ahB_t,ahB_f (fun e=>by
  obtain ⟨O,Y,U,_⟩:=ZC2 h1
  obtain ⟨Z,b1,L,_⟩:=ZC2 h2
  exact z i j O Z x.1 (by omega) Y b1 U (by rw [e];exact L))⟩) x e j y (yAH _) J h
theorem Wf.next {bb:Bool} {ks:List Int} {pcs:List (List Nat)} {k:Nat} (h:Wf bb ks pcs k) (hk:k < (pcs.map List.length).sum):∃ x i t zs,Po.best (ahB bb ks) (frs pcs (wk bb ks pcs k).1) 0 pcs.length=some (x,i) /\ pcs[i]?=some zs /\ (wk bb ks pcs k).1[i]?=some t /\ zs[t]?=some x /\ 0 < pcs.length:=by
 have a0:((ZB0 pcs (wk bb ks pcs k).1).flatten).length=(pcs.map List.length).sum-k:=by
  have:=h.od.perm.length_eq
  rw [yAC,h.ol,ZDA pcs] at this
  omega
 obtain ⟨y,hy⟩:∃ y,y∈(ZB0 pcs (wk bb ks pcs k).1).flatten:=List.exists_mem_of_length_pos (by omega)
 obtain ⟨j,r,hj,U⟩:=mem_flat hy
 have Z:j < pcs.length:=by have:=(yAK.mp hj).1;rw [ZBM] at this;exact this
 cases r with
 | nil=>cases U
 | cons f r=>
  obtain ⟨⟨x,i⟩,hb⟩:=best_ne (ks:=ks) Z (frs_of hj)
  obtain ⟨j0,_,Y,z⟩:=Po.best_mem _ _ (by omega) hb
  obtain ⟨zs,L,O,J⟩:=ZC2 z
  dsimp only at O J
  subst J
  obtain ⟨t,ht⟩:∃ t,(wk bb ks pcs k).1[i]?=some t:=⟨_,yAD (show i < _ by rw [h.tl];exact Y)⟩
  refine ⟨x,i,t,zs,hb,L,ht,?_,by omega⟩
  rw [ZFG L ht] at z
  unfold ZCs at z
  obtain ⟨y',h1,h2⟩:=yBM.mp z
  cases h2
  exact h1
theorem Wf.zero {bb:Bool} {ks:List Int} {pcs:List (List Nat)}:Wf bb ks pcs 0:=⟨yBX ..,Od.zero,rfl,by simp [wk],fun t h=>by rw [(List.mem_replicate.mp h).2];exact yAB _,by
 have:=ZCj (pcs:=pcs) (ts:=List.replicate pcs.length 0) (D:=fun _=>true) (ah:=ahB bb ks) (n:=pcs.length)
 show (Po.asks _ _ _ _ _).length <= _
 omega⟩
theorem Wf.step {bb:Bool} {ks:List Int} {pcs:List (List Nat)} {k:Nat} (h:Wf bb ks pcs k) (Y:k < (pcs.map List.length).sum) (hs:∀ ys∈pcs,ys.Pairwise (lxB bb ks)) (L:∀ (i j:Nat) xi xj y,i≠j->pcs[i]?=some xi->pcs[j]?=some xj->y∈xi->y∉xj):Wf bb ks pcs (k+1):=by
 obtain ⟨x,i,t,zs,U,O,J,hx,hz⟩:=h.next Y
 have e:=ZD9 U J
 refine ⟨?_,?_,?_,?_,?_,?_⟩ <;> rw [e] <;> dsimp only
 .rw [yCB];exact h.tl
 .exact h.od.step h.tl hs O J hx fun j y Z hy=>best_lx L hz U j y Z hy
 .rw [yAC,h.ol];rfl
 .rw [ZEG J,h.ts]
 .intro t2 h2
  rcases List.mem_or_eq_of_mem_set h2 with z | z
  .have:=h.tb t2 z;omega
  .have:=h.tb t (yAL J);omega
 .rw [yAC]
  have h1:=h.al
  have h2:=ZCj (pcs:=pcs) (ts:=(wk bb ks pcs k).1.set i (t+1)) (D:=Po.onWay i) (ah:=ahB bb ks) (n:=pcs.length)
  have h3:pcs.length * (k+1)=pcs.length * k+pcs.length:=Nat.mul_succ ..
  omega
theorem Wf.all {bb:Bool} {ks:List Int} {pcs:List (List Nat)} (J:∀ ys∈pcs,ys.Pairwise (lxB bb ks)) (z:∀ (i j:Nat) xi xj y,i≠j->pcs[i]?=some xi->pcs[j]?=some xj->y∈xi->y∉xj):∀ k,k <= (pcs.map List.length).sum->Wf bb ks pcs k
 | 0,_=>.zero
 | k+1,h=>(Wf.all J z k (by omega)).step (by omega) J z
theorem ZEz {R:Nat->Nat->Prop} (as:∀ a b,R a b->R b a->False):∀ {A B:List Nat},A.Pairwise R->B.Pairwise R->(∀ x,x∈A↔x∈B)->A=B
 | [],[],_,_,_=>rfl
 | [],b::B,_,_,h=>by have:=(h b).mpr yAF;cases this
 | a::A,[],_,_,h=>by have:=(h a).mp yAF;cases this
 | a::A,b::B,hA,hB,h=>by
  obtain ⟨L,U⟩:=List.pairwise_cons.mp hA
  obtain ⟨J,O⟩:=List.pairwise_cons.mp hB
  have e:a=b:=by
   rcases yAE.mp ((h a).mp yAF) with z | z
   .exact z
   .rcases yAE.mp ((h b).mpr yAF) with y | y
    .exact y.symm
    .exact (as a b (L b y) (J a z)).elim
  subst e
  rw [ZEz as U O fun x=>?_]
  have hx:=h x
  constructor
  .intro z
   rcases yAE.mp (hx.mp (yAM _ z)) with y | y
   .have:=L x z;rw [y] at this;exact (as _ _ this this).elim
   .exact y
  .intro z
   rcases yAE.mp (hx.mpr (yAM _ z)) with y | y
   .have:=J x z;rw [y] at this;exact (as _ _ this this).elim
   .exact y
theorem wk_grow {bb:Bool} {ks:List Int} {pcs:List (List Nat)} (Y:∀ ys∈pcs,ys.Pairwise (lxB bb ks)) (z:∀ (i j:Nat) xi xj y,i≠j->pcs[i]?=some xi->pcs[j]?=some xj->y∈xi->y∉xj):∀ m,m <= (pcs.map List.length).sum->∀ k,k < m->∃ x i zs,Po.best (ahB bb ks) (frs pcs (wk bb ks pcs k).1) 0 pcs.length=some (x,i) /\ pcs[i]?=some zs /\ x∈zs /\ (wk bb ks pcs m).2.1[k]?=some x /\ ∀ c∈(wk bb ks pcs k).2.2,c∈(wk bb ks pcs m).2.2
 | 0,_=>fun k h=>by omega
 | m+1,hm=>fun k hk=>by
  have J:=Wf.all (ks:=ks) Y z m (by omega)
  obtain ⟨x,i,t,zs,Z,U,ht,hx,hz⟩:=J.next (by omega)
  have e:=ZD9 Z ht
  by_cases h:k < m
  .obtain ⟨x',i',L,a1,a2,a3,a4,a5⟩:=wk_grow Y z m (by omega) k h
   refine ⟨x',i',L,a1,a2,a3,?_,fun c hc=>?_⟩
   .rw [e]
    show ((wk bb ks pcs m).2.1++[x])[k]?=_
    rw [yAX (by rw [J.ol];exact h)];exact a4
   .rw [e];exact yBQ _ (a5 c hc)
  .have O:k=m:=by omega
   subst O
   refine ⟨x,i,zs,Z,U,yAL hx,?_,fun c hc=>?_⟩
   .rw [e]
    show ((wk bb ks pcs k).2.1++[x])[k]?=_
    rw [yAW (by rw [J.ol];exact yAB _),J.ol,yBU];rfl
   .rw [e];exact yBQ _ hc
theorem ZDh {bb:Bool} {ks:List Int} {pcs:List (List Nat)} (O:∀ ys∈pcs,ys.Pairwise (lxB bb ks)) (z:∀ (i j:Nat) xi xj y,i≠j->pcs[i]?=some xi->pcs[j]?=some xj->y∈xi->y∉xj):(wk bb ks pcs (pcs.map List.length).sum).2.1.Perm pcs.flatten:=by
 have L:=Wf.all (ks:=ks) O z (pcs.map List.length).sum (yAB _)
 have J:=L.od.perm
 have:(ZB0 pcs (wk bb ks pcs (pcs.map List.length).sum).1).flatten=[]:=yCW.mp (by
  have:=J.length_eq
  rw [yAC,L.ol,ZDA pcs] at this
  omega)
 rw [this,yBA] at J
 exact J
noncomputable def rvs (pcs:List (List Nat)):List (List Nat):=pcs.map List.reverse
theorem ZEH (pcs:List (List Nat)):((rvs pcs).map List.length).sum=(pcs.map List.length).sum:=by
 unfold rvs
 rw [yCO]
 congr 1
 exact List.map_congr_left fun ys _=>yBS
theorem rvs_at {pcs:List (List Nat)} {i:Nat} {xs:List Nat} (h:(rvs pcs)[i]?=some xs):∃ ys,pcs[i]?=some ys /\ xs=ys.reverse:=by
 unfold rvs at h
 rw [yAJ] at h
 obtain ⟨ys,h1,h2⟩:=yBM.mp h
 exact ⟨ys,h1,h2.symm⟩
theorem ZEI {ks:List Int} {pcs:List (List Nat)} (z:∀ ys∈pcs,ys.Pairwise (lx ks)):∀ ys∈rvs pcs,ys.Pairwise (lxB true ks):=fun ys h=>by
 obtain ⟨zs,h1,rfl⟩:=yBF.mp h
 rw [List.pairwise_reverse]
 exact z zs h1
theorem rvs_dj {pcs:List (List Nat)} (J:∀ (i j:Nat) z xj y,i≠j->pcs[i]?=some z->pcs[j]?=some xj->y∈z->y∉xj):∀ (i j:Nat) z xj y,i≠j->(rvs pcs)[i]?=some z->(rvs pcs)[j]?=some xj->y∈z->y∉xj:=fun i j z xj y h h1 h2 h3 U=>by
 obtain ⟨a,O,rfl⟩:=rvs_at h1
 obtain ⟨b,L,rfl⟩:=rvs_at h2
 exact J i j a b y h O L (yCG.mp h3) (yCG.mp U)
theorem rvs_flat:∀ pcs:List (List Nat),(rvs pcs).flatten.Perm pcs.flatten
 | []=>List.Perm.refl _
 | a::r=>by
  show (a.reverse++(rvs r).flatten).Perm (a++r.flatten)
  exact (List.reverse_perm a).append (rvs_flat r)
theorem wk_rev {ks:List Int} {pcs:List (List Nat)} (J:∀ ys∈pcs,ys.Pairwise (lx ks)) (z:∀ (i j:Nat) xi xj y,i≠j->pcs[i]?=some xi->pcs[j]?=some xj->y∈xi->y∉xj):(wk true ks (rvs pcs) (pcs.map List.length).sum).2.1=(wk false ks pcs (pcs.map List.length).sum).2.1.reverse:=by
 have p1:=ZDh (bb:=true) (ks:=ks) (ZEI J) (rvs_dj z)
 rw [ZEH] at p1
 have p2:=ZDh (bb:=false) (ks:=ks) J z
 have O:=Wf.all (bb:=true) (ks:=ks) (ZEI J) (rvs_dj z) (pcs.map List.length).sum (by rw [ZEH];exact yAB _)
 have L:=Wf.all (bb:=false) (ks:=ks) J z (pcs.map List.length).sum (yAB _)
 refine ZEz (R:=lxB true ks) (fun a b h1 h2=>ZFC (ZEe h1 h2)) O.od.srt ?_ fun x=>?_
 .rw [List.pairwise_reverse]
  exact L.od.srt
 .rw [yCG,p1.mem_iff,p2.mem_iff,(rvs_flat pcs).mem_iff]
theorem wk_at {bb:Bool} {ks:List Int} {pcs:List (List Nat)} (Y:∀ ys∈pcs,ys.Pairwise (lxB bb ks)) (z:∀ (i j:Nat) xi xj y,i≠j->pcs[i]?=some xi->pcs[j]?=some xj->y∈xi->y∉xj) {k:Nat} (J:k < (pcs.map List.length).sum):∃ x i t,Po.best (ahB bb ks) (frs pcs (wk bb ks pcs k).1) 0 pcs.length=some (x,i) /\ i < pcs.length /\ 0 < pcs.length /\ (wk bb ks pcs k).1[i]?=some t /\ (wk bb ks pcs (pcs.map List.length).sum).2.1[k]?=some x /\ (wk bb ks pcs (k+1)).1=(wk bb ks pcs k).1.set i (t+1):=by
 have wf:=Wf.all (ks:=ks) Y z k (yBP J)
 obtain ⟨x,i,t,zs,L,O,U,hx,hz⟩:=wf.next J
 obtain ⟨x',i',a0,Z,_,_,a4,_⟩:=wk_grow Y z _ (yAB _) k J
 rw [L] at Z
 cases Z
 exact ⟨x,i,t,L,(yAK.mp O).1,hz,U,a4,by rw [ZD9 L U]⟩
theorem ord_pw {ks:List Int} {ms:List PrA} {ord:List Nat} (J:ms.map (fun z=>z.2)=ord.map (fun (p:Nat)=>(kat ks p,(p:Int)))) (L:ms.Pairwise fun (x y:PrA)=>¬ lxP y.2 x.2) (O:ord.Nodup):ord.Pairwise (lx ks):=by
 have h1:(ms.map (fun z=>z.2)).Pairwise (fun x y=>¬ lxP y x):=List.pairwise_map.mpr L
 rw [J] at h1
 have h2:=List.pairwise_map.mp h1
 refine (h2.and O).imp fun {x y} z=>?_
 have U:=z.1
 have Y:=z.2
 unfold lxP at U
 dsimp only at U
 unfold lx
 omega
theorem flat_nd {pcs:List (List Nat)} {ks:List Int} (J:∀ ys∈pcs,ys.Pairwise (lx ks)) (z:∀ (i j:Nat) xi xj y,i≠j->pcs[i]?=some xi->pcs[j]?=some xj->y∈xi->y∉xj):pcs.flatten.Nodup:=by
 have w:=Wf.all (bb:=false) (ks:=ks) J z (pcs.map List.length).sum (yAB _)
 refine (ZDh (bb:=false) (ks:=ks) J z).nodup_iff.mp ?_
 exact w.od.srt.imp fun {a b} h e=>by subst e;exact ZFC h
theorem ord_wk {ks:List Int} {pcs:List (List Nat)} {ord:List Nat} (J:∀ ys∈pcs,ys.Pairwise (lx ks)) (z:∀ (i j:Nat) xi xj y,i≠j->pcs[i]?=some xi->pcs[j]?=some xj->y∈xi->y∉xj) (U:ord.Pairwise (lx ks)) (L:ord.Perm pcs.flatten):(wk false ks pcs (pcs.map List.length).sum).2.1=ord /\ (wk true ks (rvs pcs) (pcs.map List.length).sum).2.1=ord.reverse:=by
 have O:=Wf.all (bb:=false) (ks:=ks) J z (pcs.map List.length).sum (yAB _)
 have e:(wk false ks pcs (pcs.map List.length).sum).2.1=ord:=ZEz (R:=lxB false ks) (fun a b h1 h2=>ZFC (ZEe h1 h2)) O.od.srt U fun x=>by rw [(ZDh (bb:=false) (ks:=ks) J z).mem_iff,L.mem_iff]
 exact ⟨e,by rw [wk_rev J z,e]⟩
noncomputable def Prs (H:Hp) (ks:List Int) (zz:List PrA) (ps:List Nat):Prop:=zz.map (fun z=>z.2)=ps.map (fun (p:Nat)=>(kat ks p,(p:Int))) /\ ∀ z∈zz,H z.1=some (.tup [.int z.2.1,.int z.2.2])
theorem Prs.mono {H H':Hp} {ks:List Int} {zz:List PrA} {ps:List Nat} (h:Prs H ks zz ps) (e:Same H H'):Prs H' ks zz ps:=⟨h.1,fun z J=>e _ _ (h.2 z J)⟩
theorem Prs.app {H:Hp} {ks:List Int} {zz J:List PrA} {ps L:List Nat} (h:Prs H ks zz ps) (k:Prs H ks J L):Prs H ks (zz++J) (ps++L):=⟨by rw [yAT,yAT,h.1,k.1],fun z O=>(yAR.mp O).elim (h.2 z) (k.2 z)⟩
theorem Prs.len {H:Hp} {ks:List Int} {zz:List PrA} {ps:List Nat} (h:Prs H ks zz ps):zz.length=ps.length:=by
 have:=congrArg List.length h.1
 rw [yAA,yAA] at this
 exact this
theorem Prs.order {H:Hp} {ks:List Int} {zz ms:List PrA} {ps:List Nat} (h:Prs H ks zz ps) (J:ms.Perm zz):∃ ord:List Nat,ms.map (fun z=>z.2)=ord.map (fun (p:Nat)=>(kat ks p,(p:Int))) /\ ord.Perm ps:=by
 have O:∀ z∈ms,∃ p:Nat,z.2=(kat ks p,(p:Int)):=fun z U=>by
  have h2:=List.mem_map_of_mem (f:=fun z:PrA=>z.2) (J.mem_iff.mp U)
  rw [h.1] at h2
  obtain ⟨p,_,Y⟩:=yBF.mp h2
  exact ⟨p,Y.symm⟩
 have L:ms.map (fun z=>z.2)=(ms.map fun z=>z.2.2.toNat).map (fun (p:Nat)=>(kat ks p,(p:Int))):=by
  rw [yCO]
  refine List.map_congr_left fun z U=>?_
  obtain ⟨p,e⟩:=O z U
  show z.2=(kat ks z.2.2.toNat,((z.2.2.toNat:Nat):Int))
  rw [e];rfl
 obtain ⟨ord,L⟩:∃ ord:List Nat,ms.map (fun z=>z.2)=ord.map (fun (p:Nat)=>(kat ks p,(p:Int))):=⟨_,L⟩
 refine ⟨ord,L,?_⟩
 have h1:(ms.map fun z=>z.2).Perm (zz.map fun z=>z.2):=J.map _
 rw [L,h.1] at h1
 have h2:=h1.map (fun x:Int×Int=>x.2.toNat)
 rw [yCO,yCO] at h2
 have e:∀ l:List Nat,l.map ((fun x:Int×Int=>x.2.toNat) ∘ fun p:Nat=>(kat ks p,(p:Int)))=l:=fun l=>by
  have:((fun x:Int×Int=>x.2.toNat) ∘ fun p:Nat=>(kat ks p,(p:Int)))=id:=by funext p;rfl
  rw [this,List.map_id]
 rw [e,e] at h2
 exact h2
theorem flat_take (pcs:List (List Nat)) (i:Nat):((pcs.take i).flatten).length+((pcs[i]?).getD []).length <= (pcs.map List.length).sum:=by
 induction pcs generalizing i with
 | nil=>simp
 | cons p ps ih=>
  cases i with
  | zero=>simp
  | succ j=>
   have:=ih j
   simp only [List.take_succ_cons,List.flatten_cons,yAC,List.getElem?_cons_succ,yAV,List.sum_cons]
   omega
structure W67 (mo:V) (CA CR CP:Addr) (bb:Bool) (H:Hp) (ks:List Int) (xs:List V) (a rl ru tl g lg p pl tk ml wd:Addr) (pls:List Addr) (pcs:List (List Nat)) (ts:List Nat) (w:Po.W) (kvs:List (List Key×V)) (pr:List (Nat×Nat)):Prop where
 st:SitL mo CA CR H ks xs a rl ru tl g lg pr
 pa:PourAt bb CP H p a pl tk ml wd pls pcs ts w kvs
 px:PX a rl lg tl p pl tk ml pls
 R:0 < pcs.length->Po.Right (ahB bb ks) (frs pcs ts) w 0 pcs.length
noncomputable def O67 (a rl ru tl lg p pl tk ml:Addr) (pls:List Addr):List Addr:=a::rl::ru::tl::lg::p::pl::tk::ml::pls
section
variable {mo:V} {CA CR CP:Addr} {bb:Bool} {H H':Hp} {ks:List Int} {xs:List V} {a rl ru tl g lg p pl tk ml wd:Addr} {pls:List Addr} {pcs:List (List Nat)} {ts:List Nat} {w:Po.W} {kvs:List (List Key×V)} {pr:List (Nat×Nat)}
theorem SitL.kept (h:SitL mo CA CR H ks xs a rl ru tl g lg pr) (e:∀ b o,(b=a∨b=rl∨b=ru∨b=tl∨b=lg)∨((∀ l,o≠.lst l) /\ (∀ C d f,o≠.ins C d f) /\ (∀ t,o≠.tbl t))->H b=some o->H' b=some o):SitL mo CA CR H' ks xs a rl ru tl g lg pr:=by
 obtain ⟨ts,h1,h2⟩:=h.htl
 obtain ⟨U,h3,Z⟩:=h.hlg
 have O:∀ {b C:Addr} {fl:List (Str×V)},(b=a∨b=rl∨b=ru∨b=tl∨b=lg)->Ins H b C fl->Ins H' b C fl:=fun L z=>let ⟨dx,fs,x1,x2,x3⟩:=z.ex;⟨dx,fs,e _ _ (.inl L) x1,x2,x3⟩
 have J:∀ t x,H t=some (.tup x)->H' t=some (.tup x):=fun t x z=>e _ _ (.inr ⟨(fun _ z=>by cases z),(fun _ _ _ z=>by cases z),(fun _ z=>by cases z)⟩) z
 exact ⟨O (.inl rfl) h.ha,e _ _ (.inl (.inr (.inl rfl))) h.hrl,O (.inr (.inr (.inl rfl))) h.hru,h.clo.mono fun b o L=>e _ _ (.inr ⟨(fun _ z=>by cases z),(fun _ _ _ z=>by cases z),(fun _ z=>by cases z)⟩) L,h.len,
  fun i k Y=>let ⟨r,a1,a2⟩:=h.row i k Y;⟨r,a1,J _ _ a2⟩,⟨U,e _ _ (.inl (.inr (.inr (.inr (.inr rfl))))) h3,Z.keep J⟩,⟨ts,e _ _ (.inl (.inr (.inr (.inr (.inl rfl))))) h1,h2.keep J⟩,h.ne,h.hmo⟩
theorem W67.kept (h:W67 mo CA CR CP bb H ks xs a rl ru tl g lg p pl tk ml wd pls pcs ts w kvs pr) (e:∀ b o,b∈O67 a rl ru tl lg p pl tk ml pls∨((∀ l,o≠.lst l) /\ (∀ C d f,o≠.ins C d f) /\ (∀ t,o≠.tbl t))->H b=some o->H' b=some o):W67 mo CA CR CP bb H' ks xs a rl ru tl g lg p pl tk ml wd pls pcs ts w kvs pr:=by
 have U:∀ t x,H t=some (.tup x)->H' t=some (.tup x):=fun t x z=>e _ _ (.inr ⟨(fun _ z=>by cases z),(fun _ _ _ z=>by cases z),(fun _ z=>by cases z)⟩) z
 obtain ⟨O,h1,h2⟩:=h.pa.hml
 obtain ⟨dx,fs,x1,Y,Z⟩:=h.pa.pb.hp.ex
 refine ⟨h.st.kept fun b o z=>e b o (z.imp (fun z=>?_) id),⟨⟨⟨dx,fs,e _ _ (.inl (by simp [O67])) x1,Y,Z⟩,e _ _ (.inl (by simp [O67])) h.pa.pb.hpl,h.pa.pb.len,fun j l ys J L=>e _ _ (.inl (by simp [O67,yAL J])) (h.pa.pb.pc j l ys J L)⟩,e _ _ (.inl (by simp [O67])) h.pa.htk,⟨O,e _ _ (.inl (by simp [O67])) h1,h2.keep U⟩,⟨e _ _ (.inr ⟨(fun _ z=>by cases z),(fun _ _ _ z=>by cases z),(fun _ z=>by cases z)⟩) h.pa.hwd.hd,h.pa.hwd.sm,h.pa.hwd.len,fun b c v h'=>let ⟨u,J,L⟩:=h.pa.hwd.val b c v h';⟨u,J,L.keep U⟩⟩,h.pa.tlen,h.pa.ne⟩,h.px,h.R⟩
 rcases z with z | z | z | z | z <;> (rw [z];simp [O67])
theorem W67.mono (h:W67 mo CA CR CP bb H ks xs a rl ru tl g lg p pl tk ml wd pls pcs ts w kvs pr) (e:Same H H'):W67 mo CA CR CP bb H' ks xs a rl ru tl g lg p pl tk ml wd pls pcs ts w kvs pr:=h.kept fun b o _ z=>e b o z
theorem W67.own (h:W67 mo CA CR CP bb H ks xs a rl ru tl g lg p pl tk ml wd pls pcs ts w kvs pr):∀ b∈O67 a rl ru tl lg p pl tk ml pls,(∃ l,H b=some (.lst l))∨∃ C d f,H b=some (.ins C d f):=fun b J=>by
 obtain ⟨_,_,Z,_⟩:=h.pa.pb.hp.ex
 obtain ⟨_,_,e2,_⟩:=h.st.ha.ex
 obtain ⟨_,O,_⟩:=h.st.hlg
 obtain ⟨_,Y,_⟩:=h.st.htl
 obtain ⟨_,U,_⟩:=h.pa.hml
 obtain ⟨_,_,e6,_⟩:=h.st.hru.ex
 simp only [O67,yAE] at J
 rcases J with z | z | z | z | z | z | z | z | z | z
 .rw [z];exact .inr ⟨_,_,_,e2⟩
 .rw [z];exact .inl ⟨_,h.st.hrl⟩
 .rw [z];exact .inr ⟨_,_,_,e6⟩
 .rw [z];exact .inl ⟨_,Y⟩
 .rw [z];exact .inl ⟨_,O⟩
 .rw [z];exact .inr ⟨_,_,_,Z⟩
 .rw [z];exact .inl ⟨_,h.pa.pb.hpl⟩
 .rw [z];exact .inl ⟨_,h.pa.htk⟩
 .rw [z];exact .inl ⟨_,U⟩
 .obtain ⟨j,L,e⟩:=List.getElem_of_mem z
  exact .inl ⟨_,h.pa.pb.pc j b _ (by rw [yAD L,e]) (yAD (show j < pcs.length by rw [<- h.pa.pb.len];exact L))⟩
theorem ZDW {b:Addr} (h:b∈[p,tk,a,lg,tl]):b∈O67 a rl ru tl lg p pl tk ml pls:=by
 simp only [yAE,yBC,or_false] at h
 rcases h with z | z | z | z | z <;> (rw [z];simp [O67])
theorem W67.apart {S:List Addr} (h:W67 mo CA CR CP bb H ks xs a rl ru tl g lg p pl tk ml wd pls pcs ts w kvs pr) (f:Fr S H H') (O:∀ b∈S,(∃ l,H b=some (.lst l))∨∃ C d f,H b=some (.ins C d f)) (n:∀ b∈O67 a rl ru tl lg p pl tk ml pls,b∉S):W67 mo CA CR CP bb H' ks xs a rl ru tl g lg p pl tk ml wd pls pcs ts w kvs pr:=h.kept fun b o z J=>f b o (fun m=>by
 rcases z with z | ⟨L,U,_⟩
 .exact n b z m
 .rcases O b m with ⟨l,hl⟩ | ⟨C,d,f,hl⟩
  .rw [hl] at J;exact L _ (Option.some.inj J).symm
  .rw [hl] at J;exact U _ _ _ (Option.some.inj J).symm) J
end
theorem rv_rv {bb:Bool} {xs:List Nat}:rv bb (rv bb xs)=xs:=by cases bb;rfl;exact List.reverse_reverse _
theorem rv_mem {bb:Bool} {x:Nat} {xs:List Nat}:x∈rv bb xs↔x∈xs:=by cases bb;exact Iff.rfl;exact yCG
theorem ZE3 {bb:Bool} {zss:List (List Nat)} {i:Nat} {ys:List Nat} (h:(zss.map (rv bb))[i]?=some ys):∃ zs,zss[i]?=some zs /\ ys=rv bb zs:=by
 rw [yAJ] at h
 obtain ⟨zs,h1,h2⟩:=yBM.mp h
 exact ⟨zs,h1,h2.symm⟩
theorem rvm_dj {bb:Bool} {zss:List (List Nat)} (J:∀ (i j:Nat) z xj y,i≠j->zss[i]?=some z->zss[j]?=some xj->y∈z->y∉xj):∀ (i j:Nat) z xj y,i≠j->(zss.map (rv bb))[i]?=some z->(zss.map (rv bb))[j]?=some xj->y∈z->y∉xj:=fun i j z xj y n h1 h2 h3 Y=>by
 obtain ⟨L,U,rfl⟩:=ZE3 h1
 obtain ⟨Z,O,rfl⟩:=ZE3 h2
 exact J i j L Z y n U O (rv_mem.mp h3) (rv_mem.mp Y)
theorem ZFh (zss:List (List Nat)):zss.map (rv false)=zss:=List.map_id _
theorem rvm_srt {bb:Bool} {ks:List Int} {zss:List (List Nat)} (z:∀ ys∈zss,ys.Pairwise (lx ks)):∀ ys∈zss.map (rv bb),ys.Pairwise (lxB bb ks):=by
 cases bb
 .rw [ZFh];exact z
 .exact ZEI z
theorem rvm_sum {bb:Bool} (zss:List (List Nat)):((zss.map (rv bb)).map List.length).sum=(zss.map List.length).sum:=by
 cases bb
 .rw [ZFh]
 .exact ZEH zss
theorem rvm_wk {bb:Bool} {ks:List Int} {zss:List (List Nat)} {ord:List Nat} (O:∀ ys∈zss,ys.Pairwise (lx ks)) (z:∀ (i j:Nat) xi xj y,i≠j->zss[i]?=some xi->zss[j]?=some xj->y∈xi->y∉xj) (L:ord.Pairwise (lx ks)) (J:ord.Perm zss.flatten):(wk bb ks (zss.map (rv bb)) (zss.map List.length).sum).2.1=rv bb ord:=by
 cases bb
 .rw [ZFh];exact (ord_wk O z L J).1
 .exact (ord_wk O z L J).2
theorem wk_none {bb:Bool} {ks:List Int} {pcs:List (List Nat)} (Y:∀ ys∈pcs,ys.Pairwise (lxB bb ks)) (z:∀ (i j:Nat) xi xj y,i≠j->pcs[i]?=some xi->pcs[j]?=some xj->y∈xi->y∉xj) (U:0 < pcs.length):Po.best (ahB bb ks) (frs pcs (wk bb ks pcs (pcs.map List.length).sum).1) 0 pcs.length=none:=by
 have L:=Wf.all (bb:=bb) (ks:=ks) Y z (pcs.map List.length).sum (yAB _)
 have hl:=L.od.perm.length_eq
 rw [yAC,L.ol,ZDA pcs] at hl
 cases h:Po.best (ahB bb ks) (frs pcs (wk bb ks pcs (pcs.map List.length).sum).1) 0 pcs.length with
 | none=>rfl
 | some x=>
  obtain ⟨j,_,Z,J⟩:=Po.best_mem _ _ U h
  obtain ⟨r,O⟩:=frs_rest J
  have hm:x.1∈(ZB0 pcs (wk bb ks pcs (pcs.map List.length).sum).1).flatten:=List.mem_flatten.mpr ⟨_,yAL O,yAF⟩
  have:=List.length_pos_of_mem hm
  omega
noncomputable abbrev TabT (H:Hp) (Pt:Addr):Prop:=TabSt H Pt (ZEj ZAN) "_law_teller.<locals>._law_teller_here"
theorem tabT_same {H H':Hp} {Pt:Addr} (s:Same H H') (h:TabT H Pt):TabT H' Pt:=by
 rcases h with h | ⟨c',h,hc⟩
 .exact .inl (s _ _ h)
 .exact .inr ⟨c',s _ _ h,hc.mono fun b o z=>s _ _ z⟩
noncomputable abbrev alM (bb:Bool) (ks:List Int) (pcs:List (List Nat)):List (Nat×Nat):=(Po.asks (fun _=>true) (ahB bb ks) (frs pcs (List.replicate pcs.length 0)) 0 pcs.length).map mxp
noncomputable abbrev alT (bb:Bool) (ks:List Int) (pcs:List (List Nat)) (ts:List Nat) (i:Nat):List (Nat×Nat):=(Po.asks (Po.onWay i) (ahB bb ks) (frs pcs ts) 0 pcs.length).map mxp
noncomputable def ZDm (CA CR CL CP:Addr):Sp:=fun vs H Q _=>∃ (mo:V) (ks:List Int) (xs:List V) (a rl ru tl g lg hl:Addr) (pr:List (Nat×Nat)) (hls:List Addr) (pcs:List (List Nat)) (bb:Bool),vs=[.ref a,.ref hl,.bl bb] /\ SitL mo CA CR H ks xs a rl ru tl g lg pr /\ H hl=some (.lst (hls.map V.ref)) /\ hls.length=pcs.length /\ (∀ (i:Nat) l ys,hls[i]?=some l->pcs[i]?=some ys->H l=some (.lst (nL (rv bb ys)))) /\ pcs.length <= 200 /\ (∀ ys∈pcs,ys.length <= 500 /\ ∀ y∈ys,y < ks.length) /\ (∀ (i j:Nat) xi xj y,i≠j->pcs[i]?=some xi->pcs[j]?=some xj->y∈xi->y∉xj) /\ pr.length <= 50000 /\
 (∀ (k:Nat) H',mo=.int k->pr.length <= k->k < pr.length+(alM bb ks pcs).length->Fr [a,lg,tl] H H'->SitL mo CA CR H' ks xs a rl ru tl g lg (pr++(alM bb ks pcs).take (k-pr.length))->Q .non H') /\
 (∀ p pl tk ml wd pls w H' kvs,Fr [a,lg,tl] H H'->PourAt bb (cond bb CL CP) H' p a pl tk ml wd pls pcs (List.replicate pcs.length 0) w kvs->(0 < pcs.length->Po.Right (ahB bb ks) (frs pcs (List.replicate pcs.length 0)) w 0 pcs.length)->PX a rl lg tl p pl tk ml pls->(H p=none /\ H pl=none /\ H tk=none /\ H ml=none /\ H wd=none /\ ∀ l∈pls,H l=none)->SitL mo CA CR H' ks xs a rl ru tl g lg (pr++alM bb ks pcs)->Q (.ref p) H')
theorem copies67 {K:W.Frag} {H:Hp} {hl:Addr} {O:List Addr} {pcs:List (List Nat)} {bb:Bool} {σ:St} {R:VK} (U:H hl=some (.lst (O.map V.ref))) (a4:O.length=pcs.length) (a3:∀ (i:Nat) l ys,O[i]?=some l->pcs[i]?=some ys->H l=some (.lst (nL (rv bb ys)))) (hn:pcs.length <= 200) (h:∀ (Z:Addr) (J:List Addr) (X:Hp),Same H X->H Z=none->X Z=some (.lst (J.map V.ref))->J.length=pcs.length->(∀ (j:Nat) l ys,J[j]?=some l->pcs[j]?=some ys->X l=some (.lst (nL (rv bb ys))))->R (.ref Z) X):ZFI K (ZD4 0) tYes (tCB (fun xs H Q=>∃ p ys,xs=[V.ref p] /\ (SqL K H p ys∨SqT K H p ys) /\ ∀ (l:Addr),H l=none->Q (V.ref l) (upd H l (HO.lst ys))) (ZCl (tVar 0) tNil)) (up 1 [] σ) R (.ref hl) H:=by
 refine ZBT (SqL.of U) (by rw [yAA];omega) (fun i ys σ H'=>∃ v ns,σ=[v] /\ Same H H' /\ ys=ns.map V.ref /\ ns.length=i /\ (∀ (j:Nat) l zs,ns[j]?=some l->pcs[j]?=some zs->H' l=some (.lst (nL (rv bb zs))))) ⟨_,[],rfl,.refl _,rfl,rfl,fun j l zs h=>by simp at h⟩ (fun i ys σ H' _ ⟨_,ns,_,e,e2,e3,_⟩=>⟨SqL.of (e _ _ U),by rw [e2,yAA];omega⟩) ?_ ?_
 .rintro i ys u σ H' hi hu ⟨v,ns,rfl,sA,rfl,L,J⟩
  rw [yAA] at hi
  have hi2:i < pcs.length:=by omega
  obtain ⟨zs,a0⟩:∃ zs,pcs[i]?=some zs:=⟨_,yAD hi2⟩
  rw [yAJ,yAD hi] at hu
  cases hu
  have a2:=sA _ _ (a3 i _ zs (yAD hi) a0)
  walk_at "rd"
  refine ⟨_,_,rfl,.inl (SqL.of a2),fun l' Y=>?_⟩
  refine Nxt.of (by rw [yAA];exact hi) ⟨_,ns++[l'],rfl,sA.new Y,by rw [yAT];rfl,by rw [yAC,L];rfl,fun j l a1 h1 h2=>?_⟩
  by_cases z:j < ns.length
  .rw [yAX z] at h1
   exact ZAK Y _ _ _ (J j l a1 h1 h2)
  .rw [yAW (by omega)] at h1
   cases hk:j-ns.length with
   | zero=>
    rw [hk] at h1
    cases h1
    rw [show j=i by omega,a0] at h2
    cases h2
    exact ZAF
   | succ m=>rw [hk] at h1;simp at h1
 .rintro ys σ X ⟨v,ns,rfl,sX,rfl,L,J⟩ Z hd0
  rw [yAA] at L
  exact h Z ns _ (sX.new hd0) (sX.free hd0) ZAF (by omega) fun j l zs h1 h2=>ZAK hd0 _ _ _ (J j l zs h1 h2)
noncomputable def ZDF (CA CR CS CL CP:Addr):Sp:=fun vs H Q _=>∃ (bb:Bool) (mo:V) (ks:List Int) (xs:List V) (a rl ru tl g lg p pl tk ml wd:Addr) (pr:List (Nat×Nat)) (pls:List Addr) (pcs:List (List Nat)) (ts:List Nat) (w:Po.W) (kvs:List (List Key×V)) (x i t:Nat),vs=[.ref p] /\ SitL mo CA CR H ks xs a rl ru tl g lg pr /\ PourAt bb (cond bb CL CP) H p a pl tk ml wd pls pcs ts w kvs /\ PX a rl lg tl p pl tk ml pls /\ pcs.length <= 200 /\ (∀ ys∈pcs,∀ y∈ys,y < ks.length) /\ (∀ (i j:Nat) xi xj y,i≠j->pcs[i]?=some xi->pcs[j]?=some xj->y∈xi->y∉xj) /\ (0 < pcs.length->Po.Right (ahB bb ks) (frs pcs ts) w 0 pcs.length) /\ pr.length <= 50000 /\ 0 < pcs.length /\ Po.best (ahB bb ks) (frs pcs ts) 0 pcs.length=some (x,i) /\ i < pcs.length /\ ts[i]?=some t /\
 (∀ (k:Nat) (t0 e d:Addr) H',mo=.int k->pr.length <= k->k < pr.length+(alT bb ks pcs (ts.set i (t+1)) i).length->Fr [a,lg,tl] H H'->H' t0=some (.tup [.str (Str.ofString "refused"),.ref e])->H' e=some (excO e (.ref CS) (some d))->H' d=some (xdM d (fS k))->SitL mo CA CR H' ks xs a rl ru tl g lg (pr++(alT bb ks pcs (ts.set i (t+1)) i).take (k-pr.length))->Q (.ref t0) H') /\
 (∀ t0 wd' w' H' kvs',Fr [p,tk,a,lg,tl] H H'->PourAt bb (cond bb CL CP) H' p a pl tk ml wd' pls pcs (ts.set i (t+1)) w' kvs'->Po.Right (ahB bb ks) (frs pcs (ts.set i (t+1))) w' 0 pcs.length->SitL mo CA CR H' ks xs a rl ru tl g lg (pr++alT bb ks pcs (ts.set i (t+1)) i)->H' t0=some (.tup [.str (Str.ofString "told"),.int (x:Int)])->Q (.ref t0) H')
theorem isX {R:Bool->Prop} {K:W.Frag} {H:Hp} {ea C:Addr} {c:V} {b:Bool} {dd:Option Addr} (h:H ea=some (excO ea (.ref C) dd)) (x:ExcC K C) (L:PySem.W.hasDictIn K C=true) (k:PySem.W.kitOne K (.ref C) (cval c)=some b) (hc:ZDr c=true) (q:R b) :
  ∃ a z c' b' J,[V.ref ea,c]=[.ref a,c'] /\ ZDr c'=true /\ H a=some (excO a (.ref z) J) /\ ExcC K z /\ PySem.W.hasDictIn K z=true /\ PySem.W.kitOne K (.ref z) (cval c')=some b' /\ R b':=⟨ea,C,c,b,dd,rfl,hc,h,x,L,k,q⟩
noncomputable def ZCb (CA CR CS:Addr):Sp:=fun vs H Q _=>∃ (k:Nat) (ks:List Int) (xs:List V) (a rl ru tl g lg e d:Addr) (pr:List (Nat×Nat)),vs=[.ref e,.ref a] /\ SitL (.int k) CA CR H ks xs a rl ru tl g lg pr /\ pr.length=k /\ H e=some (excO e (.ref CS) (some d)) /\ H d=some (xdM d (fS k)) /\ ∀ H',Same H H'->Q (.bl true) H'
theorem SitL.widened {mo O:V} {CA CR:Addr} {H H':Hp} {ks:List Int} {xs:List V} {a rl ru tl g lg:Addr} {pr:List (Nat×Nat)} (h:SitL mo CA CR H ks xs a rl ru tl g lg pr) (k:∀ b,b≠a->H' b=H b) (ha:Ins H' a CA (fA rl ru O pr.length tl)) (J:Bd O pr.length):SitL O CA CR H' ks xs a rl ru tl g lg pr:=by
 obtain ⟨Y,h4,Z⟩:=h.hlg
 obtain ⟨us,h6,U⟩:=h.htl
 have L:∀ {b:Addr} {o:HO},H b=some o->(∀ C d f,o≠.ins C d f)->H' b=some o:=fun {b o} J n=>(k b (h.ha.ne J n)).trans J
 exact ⟨ha,L h.hrl (fun _ _ _ z=>by cases z),ZCJ (S:=[a]) (fun b o n J=>(k b (fun z=>n (by rw [z];exact yAF))).trans J) (fun z=>h.ne.2.2 (yAN.mp z)) h.hru,h.clo.mono fun b o J=>L J (fun _ _ _ z=>by cases z),h.len,
  fun i kx hk=>let ⟨r,a1,a2⟩:=h.row i kx hk;⟨r,a1,L a2 (fun _ _ _ z=>by cases z)⟩,⟨Y,L h4 (fun _ _ _ z=>by cases z),Z.keep fun _ _ z=>L z (fun _ _ _ z=>by cases z)⟩,⟨us,L h6 (fun _ _ _ z=>by cases z),U.keep fun _ _ z=>L z (fun _ _ _ z=>by cases z)⟩,h.ne,J⟩
theorem cutV_to {xs:List V} {n:Nat} (h:n <= xs.length):cutV xs none (some (n:Int))=xs.take n:=by
 unfold cutV
 rw [HT.sIx_none,HT.sIx_nat,yCV h,Nat.sub_zero]
 rfl
theorem ZCv (z:List V) (n:Nat) (h:n <= z.length):cutV z (some (n:Int)) none=z.drop n:=by
 unfold cutV
 rw [HT.sIx_none,HT.sIx_nat,yCV h]
 exact yBH (by rw [yBR];exact yAB _)
theorem told_eq {K:W.Frag} {H:Hp} {ks:List Int} {pr:List (Nat×Nat)} {ts z:List V} {x y:Addr} {Q:VK} (hx:H x=some (.lst ts)) (J:H y=some (.lst z)) (h:Told H ks pr ts) (h':Told H ks pr z) (q:Q (.bl true) H):rEqD K (.ref x) (.ref y) H Q :=
 eqD_refl (d:=.list (pr.map (tdD ks))) (ZD6 (SqL.of hx) h.dp) (ZD6 (SqL.of J) h'.dp) (by unfold PyData.canLay0;exact ZEs ks pr) (by unfold PyData.depth;have:=ZEt ks pr;omega) q
theorem Told.tk {H:Hp} {ks:List Int} {l:List (Nat×Nat)} {us:List V} (h:Told H ks l us) (j:Nat):Told H ks (l.take j) (us.take j):=by
 refine ⟨by rw [yAP,yAP,h.len],fun i p q hi=>?_⟩
 rw [List.getElem?_take] at hi ⊢
 split at hi
 .rename_i hj
  rw [if_pos hj]
  exact h.get i p q hi
 .cases hi
theorem PourAt.px {mo:V} {CA CR:Addr} {ks:List Int} {xs:List V} {rl ru tl g lg:Addr} {pr:List (Nat×Nat)} {bb:Bool} {CP:Addr} {H H':Hp} {p a pl tk ml wd:Addr} {pls:List Addr} {pcs:List (List Nat)} {ts:List Nat} {w:Po.W} {kvs:List (List Key×V)} (h:PourAt bb CP H p a pl tk ml wd pls pcs ts w kvs) (st:SitL mo CA CR H ks xs a rl ru tl g lg pr) (px:PX a rl lg tl p pl tk ml pls) (f:Fr [a,lg,tl] H H'):PourAt bb CP H' p a pl tk ml wd pls pcs ts w kvs:=by
 obtain ⟨J,h1,h2⟩:=h.hml
 have L:∀ t x,H t=some (.tup x)->t∉[a,lg,tl]:=fun t x h=>st.tupS h (fun _ z=>by cases z) (fun _ _ _ z=>by cases z)
 exact ⟨h.pb.fr f px.p px.pl px.ls,f _ _ px.tk h.htk,⟨J,f _ _ px.ml h1,h2.keep fun t x y=>f _ _ (L t x y) y⟩,h.hwd.fr f (st.tupS h.hwd.hd (fun _ z=>by cases z) (fun _ _ _ z=>by cases z)) L,h.tlen,h.ne⟩
noncomputable def ZDl (CA CR CS CL CP:Addr):Sp:=fun vs H Q _=>∃ (bb:Bool) (k:Nat) (ks:List Int) (xs:List V) (a rl ru tl g lg p pl tk ml wd aa:Addr) (pr:List (Nat×Nat)) (pls:List Addr) (pcs:List (List Nat)) (ts:List Nat) (w:Po.W) (kvs:List (List Key×V)) (x i t m mr:Nat) (us:List V),vs=[.ref p,.ref a,.ref lg,.int (x:Int),.ref aa,.int (mr:Int)] /\ SitL (.int k) CA CR H ks xs a rl ru tl g lg pr /\ PourAt bb (cond bb CL CP) H p a pl tk ml wd pls pcs ts w kvs /\ PX a rl lg tl p pl tk ml pls /\ pcs.length <= 200 /\ (∀ ys∈pcs,∀ y∈ys,y < ks.length) /\ (∀ (i j:Nat) xi xj y,i≠j->pcs[i]?=some xi->pcs[j]?=some xj->y∈xi->y∉xj) /\ (0 < pcs.length->Po.Right (ahB bb ks) (frs pcs ts) w 0 pcs.length) /\ pr.length <= 40000 /\ 0 < pcs.length /\ Po.best (ahB bb ks) (frs pcs ts) 0 pcs.length=some (x,i) /\ i < pcs.length /\ ts[i]?=some t /\ (∀ ys∈pcs,ys.length <= 500) /\ (∀ t∈ts,t <= 400) /\ (pcs.map List.length).sum=ts.sum+m /\
 H aa=some (.lst us) /\ aa∉[p,tk,a,lg,tl] /\ Told H ks (alT bb ks pcs (ts.set i (t+1)) i) us /\ (alT bb ks pcs (ts.set i (t+1)) i).length <= mr /\
 ∀ k' pr' wd' w' H' kvs',Fr [p,tk,a,lg,tl] H H'->PourAt bb (cond bb CL CP) H' p a pl tk ml wd' pls pcs (ts.set i (t+1)) w' kvs'->Po.Right (ahB bb ks) (frs pcs (ts.set i (t+1))) w' 0 pcs.length->SitL (.int (k':Nat)) CA CR H' ks xs a rl ru tl g lg pr'->pr'.length <= pr.length+2 * (alT bb ks pcs (ts.set i (t+1)) i).length->Q (.bl true) H'
theorem cutV_all {xs:List V} {n:Nat} (h:xs.length <= n):cutV xs none (some (n:Int))=xs:=by
 unfold cutV
 rw [HT.sIx_none,HT.sIx_nat,Nat.min_eq_right h]
 simp
theorem sqL_nt {K:W.Frag} {H H':Hp} {a:Addr} {xs:List V} (e:∀ b o,H b=some o->(∀ t,o≠.tbl t)->H' b=some o) (h:SqL K H a xs):SqL K H' a xs:=by
 rcases h with (h | ⟨o,h⟩) | h
 .exact .inl (.inl (e _ _ h (fun _ z=>by cases z)))
 .exact .inl (.inr ⟨o,e _ _ h (fun _ z=>by cases z)⟩)
 .exact .inr h
section
variable {P:Program} {w:World} {K:W.Frag} {mg:Str->Option Value} {base:Heap} {C_Pour C_LastPour C_Asker C_AskedRule C_HallError C_NoPlace C_TooFar C_Spent:Addr} {cc_teller Pt_teller:Addr} {C_PX:Addr} {bb:Bool}
theorem ok_teller {f:Addr} {fd:FuncData} (F:Fun K "_law_teller" "_law_teller" ZBz f fd) (z:fd.code=.ref cc_teller) (C:PySem.W.CodeHd base cc_teller Pt_teller) (B:ZD8 mg base):FnOk P w K mg base CX0 1 f fd ["_law_log"] (ZEX Pt_teller (ZEj ZAN) "_law_teller_here" "_law_teller.<locals>._law_teller_here" (ZAP ZAN) (ZAM ZAN) (ZAD ZAN) ["_law_log"] [0] 1) :=
 teller_ok F sc_teller z C B rfl (fun _ _=>rfl) rfl rfl (fun _ _=>rfl) rfl (by decide) (by decide) (by decide +kernel) (by decide +kernel) (by decide +kernel) (hix_of rfl) rfl
theorem clo_teller (T:Bt K mg C_Pour C_LastPour C_Asker C_AskedRule C_HallError C_NoPlace C_TooFar C_Spent):CloOk P w K mg base 1 (ZBa):=by
 refine clo_of (k:=0) (iname:="_law_teller_here") (iq:="_law_teller.<locals>._law_teller_here") (ip:=ZAP ZAN) (ib:=ZAM ZAN) (isc:=ZAD ZAN) csc_teller (fun f vs H Q h=>?_) (fun f vs H Q h=>?_) (fun cl a1 pm a3 c' us hl=>match us,hl with | [_,_],_=>rfl) (fun g cs cl cd A outer s H vs Q hr C h=>?_)
 .obtain ⟨g,x,y,lg,k,k2,i,j,Z,rfl,rfl,J,hx,hy,hlg,O,q⟩:=h
  exact ⟨_,_,rfl,J⟩
 .obtain ⟨g,x,y,lg,k,k2,i,j,Z,rfl,rfl,J,hx,hy,hlg,O,q⟩:=h
  rfl
 obtain ⟨g,x,y,lg,k,k2,i,j,Z,eg,rfl,J,hx,hy,hlg,O,q⟩:=h
 cases eg
 obtain ⟨a2,C2⟩:=J
 obtain rfl:=C.inj' C2
 refine ⟨_,(ZAC (ZAO (i:=2) csc_teller.nd rfl (by walk_at "o") (ZBl ZD3 (ZBC ZCD (pv 0) ZAH (fun _ _=>rfl)) (ZBC ZCD (pv 1) ZAH (fun _ _=>rfl)) (ZAS _)))
  (ZAC (ZBb (ZD0 PySem.F.plainAttrs_list PySem.F.slot_list_append PySem.F.type_list_append ZCH (pv 3) (ZAA (ZBP (ZAA (ZBC ZCD (pv 0) ZAH (fun _ _=>rfl)) (ZAA (ZBC ZCD (pv 1) ZAH (fun _ _=>rfl)) (ZAA (pv 2) ZAE)))) ZAE)))
  (ZAI (ZAX (pv 2))))),?_⟩
 walk_at "rd"
 have cells:=C.cells
 have Y:hid cl H x=some (.tup [.int k,.int i]):=ZB5 cells hx (by intro ob z;cases z)
 have U:hid cl H y=some (.tup [.int k2,.int j]):=ZB5 cells hy (by intro ob z;cases z)
 have L:hid cl H lg=some (.lst Z):=ZB5 cells hlg (by intro ob z;cases z)
 refine ZBh (SqT.of Y) (ZAq (by decide) rfl) (ZBh (SqT.of U) (ZAq (by decide) rfl) ⟨_,_,rfl,rfl,.inl ⟨rfl,_,SqL.of L⟩,ZBh (SqT.of Y) (ZAq (by decide) rfl) (ZBh (SqT.of U) (ZAq (by decide) rfl) ⟨ZAb (by decide),fun t ht=>?_⟩)⟩)
 have a0:t≠lg:=fun z=>by rw [z,L] at ht;cases ht
 refine ⟨lg,Z,_,rfl,rfl,ZAK ht _ _ _ L,smallL (by omega),fun hn=>?_⟩
 have nt:=hn.ne (b:=t) (by rw [ZAG a0,ZAF])
 have nl:=hn.ne (b:=lg) ZAF
 rw [back_upd nl,back_upd nt,back_hid]
 exact q t (hid_none cells ht nt)
theorem ok_Spent_init {f:Addr} {fd:FuncData} (F:Fun K "__init__" "Spent.__init__" ZA5 f fd) (T:Bt K mg C_Pour C_LastPour C_Asker C_AskedRule C_HallError C_NoPlace C_TooFar C_Spent)
 :FnOk P w K mg base CX0 1 f fd ["self","asked"] (ZCa C_Spent):=by
 refine F.ok sc_Spent_init (fun vs H Q E h=>?_) (fun O A outer s H vs Q E U h=>?_)
 .obtain ⟨e,n,rfl,z,hn,q⟩:=h
  rfl
 obtain ⟨e,n,rfl,z,hn,q⟩:=h
 refine ⟨_,(ZAC (ZBb (pe_clsV T.xb_HallError T.m_HallError rfl (ZAA (pv 0) (ZAA (pe_fs1 ZDz (pv 1)) ZAE))))
  (ZAI (ps_xfld (pv 0) (pv 1) rfl))),?_⟩
 walk_at "rd"
 exact ⟨hn,fun y=>⟨e,_,none,_,rfl,z,T.xi_Spent,e,_,none,rfl,z,T.xk_Spent,T.n_Spent_asked,.inl ⟨rfl,fun d L J=>q d L J⟩⟩⟩
theorem ok_Asker_init {f:Addr} {fd:FuncData} {dv:List Value} (F:FunD K "__init__" "Asker.__init__" ZA7 f fd dv) (T:Bt K mg C_Pour C_LastPour C_Asker C_AskedRule C_HallError C_NoPlace C_TooFar C_Spent)
 :FnOk P w K mg base CX0 1 f fd ["self","row","rule","most"] (ZBZ C_Asker):=by
 refine F.ok sc_Asker_init (fun vs H Q E h=>?_) (fun a0 A outer s H vs Q E hr h=>?_)
 .obtain ⟨x,dx,r,ru,m,xs,rfl,hx,L,q⟩:=h
  rfl
 obtain ⟨x,dx,r,ru,m,xs,rfl,hx,L,q⟩:=h
 refine ⟨_,(ZAC (ZBq (pv 0) (ZBs call_list_of rfl T.b_list PyProof.Rows.boot_list (ZAA (pv 1) ZAE)) rfl)
  (ZAC (ZBq (pv 0) (pv 2) rfl)
  (ZAC (ZBq (pv 0) (pv 3) rfl)
  (ZAC (ZBq (pv 0) ZAH rfl)
  (ZAI (ZBq (pv 0) (ZBr ZAE) rfl)))))),?_⟩
 walk_at "rd"
 refine ⟨r,xs,rfl,.inl (SqL.of L),fun rl hrl=>?_⟩
 have z:x≠rl:=ZAB hx hrl
 obtain ⟨H1,e1,s1,h1⟩:=newH hrl (.lst xs)
 rw [e1];clear e1
 refine setX (s1 _ _ hx) T.cl_Asker T.n_Asker_row (by decide) fun H2 x2 k2=>?_
 walk_at "rd"
 refine setX x2 T.cl_Asker T.n_Asker_rule ZFk fun H3 x3 k3=>?_
 walk_at "rd"
 refine setX x3 T.cl_Asker T.n_Asker_most ZFj fun H4 x4 k4=>?_
 walk_at "rd"
 refine setX x4 T.cl_Asker T.n_Asker_asked ZFi fun H5 x5 k5=>?_
 walk_at "rd"
 refine ⟨ZAb (by decide),fun tl htl=>?_⟩
 obtain ⟨H6,Z,O,h6⟩:=newH htl (.lst [])
 rw [Z];clear Z
 have J:x≠tl:=ZAB x5 htl
 refine setX (O _ _ x5) T.cl_Asker T.n_Asker_told putL4 fun H7 x7 U=>?_
 have up:∀ b o,b≠x->H b=some o->H5 b=some o:=fun b o n e=>by rw [k5 b n,k4 b n,k3 b n,k2 b n];exact s1 b o e
 have Y:H5 rl=some (.lst xs):=by rw [k5 rl (Ne.symm z),k4 rl (Ne.symm z),k3 rl (Ne.symm z),k2 rl (Ne.symm z)];exact h1
 refine q rl tl H7 (fun b o n e=>by rw [U b n];exact O _ _ (up b o n e)) hrl ?_ (ZAB Y htl) ((Ins.of x7 (yAG putL5 (by decide))).congr fA_canon) (by rw [U rl (Ne.symm z)];exact O _ _ Y) (by rw [U tl (Ne.symm J)];exact h6)
 cases e:H tl with
 | none=>rfl
 | some o=>rw [up tl o (Ne.symm J) e] at htl;cases htl
theorem ok_Asker_widen {f:Addr} {fd:FuncData} (F:Fun K "widen" "Asker.widen" ZAz f fd) (T:Bt K mg C_Pour C_LastPour C_Asker C_AskedRule C_HallError C_NoPlace C_TooFar C_Spent)
 :FnOk P w K mg base CX0 1 f fd ["self","more"] (ZDk C_Asker):=by
 refine F.ok sc_Asker_widen (fun vs H Q E h=>?_) (fun J A outer s H vs Q E L h=>?_)
 .obtain ⟨a,rl,ru,tl,m,n,i,rfl,ha,hm,q⟩:=h
  rfl
 obtain ⟨a,rl,ru,tl,m,n,i,rfl,ha,hm,q⟩:=h
 refine ⟨_,(ZAI (ZA4 (ZAQ op_notN (ZAh (pv 0) rfl) ZBE (ZAS _))
  (ZAI (ps_fldaug (pv 0) (pv 1) in_add)) ZAa)),?_⟩
 walk_at "rd"
 refine ha.get T.cl_Asker T.n_Asker_most (by walk_at "lk") ?_
 rcases hm with rfl | ⟨k,rfl⟩
 .rw [if_neg (by simp)]
  exact q H (fun _ _=>rfl) ha
 .rw [if_pos (by simp)]
  refine insAugV ha (j:=i) T.cl_Asker T.n_Asker_most (by walk_at "lk") (fun Q h=>by walk_at "rd";exact h) fun H2 z k2=>?_
  walk_at "rd"
  exact q H2 k2 (z.congr fA_most)
theorem ok_AskedRule_init {f:Addr} {fd:FuncData} (F:Fun K "__init__" "AskedRule.__init__" ZAk f fd) (T:Bt K mg C_Pour C_LastPour C_Asker C_AskedRule C_HallError C_NoPlace C_TooFar C_Spent)
 :FnOk P w K mg base CX0 1 f fd ["self","teller"] (ZCx C_AskedRule):=by
 refine F.ok sc_AskedRule_init (fun vs H Q E h=>?_) (fun J A outer s H vs Q E L h=>?_)
 .obtain ⟨x,dx,g,rfl,hx,q⟩:=h
  rfl
 obtain ⟨x,dx,g,rfl,hx,q⟩:=h
 refine ⟨_,(ZAI (ZBq (pv 0) (pv 1) rfl)),?_⟩
 walk_at "rd"
 refine setX hx T.cl_AskedRule T.n_AskedRule_teller (by decide) fun H2 z k2=>?_
 exact q H2 (fun b o n e=>by rw [k2 b n];exact e) ((Ins.of z (yAG ZFk (by decide))).congr fun f=>by simp only [ZAV,lkc])
theorem ok_AskedRule_before {f:Addr} {fd:FuncData} (F:Fun K "before" "AskedRule.before" ZAe f fd) (T:Bt K mg C_Pour C_LastPour C_Asker C_AskedRule C_HallError C_NoPlace C_TooFar C_Spent)
  (clo_teller:CloOk P w K mg base 1 (ZBa))
 :FnOk P w K mg base CX0 2 f fd ["self","x","y"] (ZC7 C_AskedRule ZBa):=by
 refine F.ok sc_AskedRule_before (fun vs H Q E h=>?_) (fun O A outer s H vs Q E L h=>?_)
 .obtain ⟨ru,g,x,y,rfl,hru,⟨o,J,z⟩,q⟩:=h
  rfl
 obtain ⟨ru,g,x,y,rfl,hru,⟨o,J,z⟩,q⟩:=h
 refine ⟨_,(ZAC (ZAO (i:=3) sc_AskedRule_before.nd rfl (by walk_at "o") (ZAh (pv 0) rfl))
  (ZAI (ZAX (pe_callV (clo_teller.at (L.mono (by decide))) (pv 3) (ZAA (pv 1) (ZAA (pv 2) ZAE)))))),?_⟩
 walk_at "rd"
 refine hru.get T.cl_AskedRule T.n_AskedRule_teller (by walk_at "lk") ⟨⟨g,o,rfl,J,z⟩,?_⟩
 exact q
theorem ok_Asker_ahead {f:Addr} {fd:FuncData} (F:Fun K "ahead" "Asker.ahead" ZA0 f fd) (T:Bt K mg C_Pour C_LastPour C_Asker C_AskedRule C_HallError C_NoPlace C_TooFar C_Spent)
  (J:Mt P w K mg base CX0 C_AskedRule "before" 2 ["self","x","y"] (ZC7 C_AskedRule ZBa))
  (L:XKl P w K mg base CX0 "Spent" C_Spent 1 ["self","asked"] (ZCa C_Spent))
 :FnOk P w K mg base (CXE P w) 3 f fd ["self","p","q"] (ZDH C_Asker C_AskedRule C_Spent ZBa):=by
 refine F.okX sc_Asker_ahead (fun vs H Q E h=>?_) (fun ad A outer s H vs Q E hr h=>?_)
 .obtain ⟨a,rl,ru,tl,m,n,p,q,rfl,ha,hn,hc⟩:=h
  rfl
 obtain ⟨a,rl,ru,tl,m,n,p,q,rfl,ha,hn,hc⟩:=h
 refine ⟨_,(ZAC (ZA4 (PW.pt (ZEZ (ZAQ op_notN (ZAh (pv 0) rfl) ZBE (ZAS _)) (ZEJ (ZAQ op_ge (ZAh (pv 0) rfl) (ZAh (pv 0) rfl) (ZAS _)))))
  (ZAI (ps_raiseK L (hr.mono (by decide)) rfl ZAY (ZAA (ZAh (pv 0) rfl) ZAE))) ZAa)
  (ZAR
  (ZAC (PS.nox (ZAO (i:=3) sc_Asker_ahead.nd rfl (by walk_at "o") (ZAL (call_max2 rfl) rfl T.b_max PyProof.Rows.boot_max (ZAA (pv 1) (ZAA (pv 2) ZAE)))))
  (ZAC (PS.nox (ZAO (i:=4) sc_Asker_ahead.nd rfl (by walk_at "o") (ZAL (call_min2 rfl) rfl T.b_min PyProof.Rows.boot_min (ZAA (pv 1) (ZAA (pv 2) ZAE)))))
  (ZAC (PS.nox (ZAO (i:=5) sc_Asker_ahead.nd rfl (by walk_at "o") (ZDI J (hr.mono (by decide)) ZAY (ZAh (pv 0) rfl) (ZAA (ZBC ZBK (ZAh (pv 0) rfl) (pv 3) (fun _ _=>rfl)) (ZAA (ZBC ZBK (ZAh (pv 0) rfl) (pv 4) (fun _ _=>rfl)) ZAE)))))
  (ZAR
  (ZAC (PS.nox (ps_fldaug (pv 0) ZAH in_add))
  (ZAC (PS.nox (ZBb (ZD0 PySem.F.plainAttrs_list PySem.F.slot_list_append PySem.F.type_list_append ZCH (ZAh (pv 0) rfl) (ZAA (ZBP (ZAA (pv 3) (ZAA (pv 4) (ZAA (pv 5) ZAE)))) ZAE))))
  (ZAI (PS.nox (ZAX (ZCQ (ZAQ ZB3 (pv 1) (pv 3) (ZAS _)) (pv 5) (ZE8 (pv 5)))))))))))))),?_⟩
 walk_at "rd"
 rcases hc with ⟨k,a4,hk,hE⟩ | ⟨hm,hc⟩
 .refine ha.get T.cl_Asker T.n_Asker_most (by walk_at "lk") ?_
  rw [if_pos (by rw [a4];simp)]
  refine ha.get T.cl_Asker T.n_Asker_asked (by walk_at "lk") (ha.get T.cl_Asker T.n_Asker_most (by walk_at "lk") ⟨_,_,rfl,a4,_,rfl,?_⟩)
  rw [if_pos (by simpa using hk)]
  refine ha.get T.cl_Asker T.n_Asker_asked (by walk_at "lk") ⟨by decide,fun e he=>⟨e,n,rfl,ZAF,hn,fun d hd a1=>⟨rfl,some d,ZAF,?_⟩⟩⟩
  have a5:H d=none:=by rw [ZAG a1] at hd;exact hd
  refine hE d _ (fun b o hb=>?_) a5 ?_
  .rw [ZBB (ZAB hb he),ZAG (ZAB hb he),ZAG (ZAB hb a5),ZAG (ZAB hb he)];exact hb
  .rw [ZBB a1,ZAG a1,ZAF]
 apply once0
 .intro Y
  refine ha.get T.cl_Asker T.n_Asker_most (by walk_at "lk") ?_
  rcases hm with hm | ⟨k,hm,hk⟩
  .rw [if_neg (by rw [hm];simp)]
   exact Y
  .rw [if_pos (by rw [hm];simp)]
   refine ha.get T.cl_Asker T.n_Asker_asked (by walk_at "lk") (ha.get T.cl_Asker T.n_Asker_most (by walk_at "lk") ⟨_,_,rfl,hm,_,rfl,?_⟩)
   rw [if_neg (by simp;omega)]
   exact Y
 obtain ⟨xs,ts,x,y,hrl,aa,af,ac,hx,hy,hb⟩:=hc
 obtain ⟨a9,g,x',y',e,hru,ho,a7⟩:=hb
 cases e
 refine ZAW ?_
 walk_at "rd"
 refine ⟨p,q,rfl,p,q,rfl,ha.get T.cl_Asker T.n_Asker_rule (by walk_at "lk") (hru.meth (by walk_at "lk") ?_)⟩
 rw [mx_eq,mn_eq]
 refine ha.get T.cl_Asker T.n_Asker_row (by walk_at "lk") (ZBi (SqL.of hrl) (ZAq (by omega) hx) ?_)
 refine ha.get T.cl_Asker T.n_Asker_row (by walk_at "lk") (ZBi (SqL.of hrl) (ZAq (by omega) hy) ?_)
 refine ⟨ru,g,x,y,rfl,hru,ho,rT_mono (fun v H1 h=>?_) a7⟩
 obtain ⟨b,rfl,a3,a0,ae,hq⟩:=h
 have a2:tl≠a:=a3.ne a0 fun _ _ _ z=>by cases z
 refine ZAW ?_
 walk_at "rd"
 refine a3.aug T.cl_Asker T.n_Asker_asked (by walk_at "lk") fun H2 a8 k2=>?_
 have O:=a8.congr fA_asked
 have U:H2 tl=some (.lst ts):=by rw [k2 tl a2];exact a0
 walk_at "rd"
 refine O.get T.cl_Asker T.n_Asker_told (by walk_at "lk") ?_
 walk_at "rd"
 refine ⟨.inl ⟨rfl,_,SqL.of U⟩,ZAb (by decide),fun t ht=>?_⟩
 have a6:t≠tl:=fun z=>by rw [z,U] at ht;cases ht
 have Z:t≠a:=O.neN ht
 refine ⟨tl,ts,_,rfl,rfl,ZAK ht _ _ _ U,smallL (by omega),?_⟩
 have fin:=hq t (upd (upd H2 t (.tup [.int (max p q),.int (min p q),.bl b])) tl (.lst (ts++[.ref t]))) (by rw [<- k2 t Z];exact ht) (O.keep (by rw [ZAG (Ne.symm a2),ZAG (Ne.symm Z)])) ZAF (by rw [ZAG a6,ZAF]) (fun c h1 h2 h3=>by rw [ZAG h2,ZAG h3,k2 c h1])
 by_cases hlt:q < p
 .rw [if_pos hlt] at fin
  show (if _ then _ else _)
  rw [if_pos (by omega)]
  exact fin
 .rw [if_neg hlt] at fin
  show (if _ then _ else _)
  rw [if_neg (by omega)]
  exact fin
theorem ok_meetings_of {n:Nat} {f:Addr} {fd:FuncData} (F:Fun K "meetings_of" "meetings_of" ZAy f fd) (T:Bt K mg C_Pour C_LastPour C_Asker C_AskedRule C_HallError C_NoPlace C_TooFar C_Spent)
  (J:Fn P w K mg base CX0 "meetings_of" n ["first","beyond"] (ZBV n))
 :FnOk P w K mg base CX0 (n+1) f fd ["first","beyond"] (ZBV (n+1)):=by
 refine F.ok sc_meetings_of (fun vs H Q E h=>?_) (fun ae A outer s H vs Q E hr h=>?_)
 .obtain ⟨f,b,rfl,a8,a5,a4,O,q⟩:=h
  rfl
 obtain ⟨f,b,rfl,a8,a5,a4,O,q⟩:=h
 refine ⟨_,(ZAC (ZA4 (ZAQ ZD3 (ZAT ZCC (pv 1) (pv 0)) ZAH (ZAS _))
  (ZAI (ZAX (ZBr ZAE))) ZAa)
  (ZAC (ZAO (i:=2) sc_meetings_of.nd rfl (by walk_at "o") (ZAT ZBd (pv 0) (ZAT ZAw (ZAT ZBd (ZAT ZCC (pv 1) (pv 0)) ZAH) ZAH)))
  (ZAI (ZAX (ZAT ZEd (ZAT ZEd (ZAs J (hr.mono (yAB _)) rfl ZAY (ZAA (pv 0) (ZAA (pv 2) ZAE))) (ZAs J (hr.mono (yAB _)) rfl ZAY (ZAA (pv 2) (ZAA (pv 1) ZAE)))) (ZBr (ZAA (ZBP (ZAA (pv 0) (ZAA (pv 2) (ZAA (pv 1) ZAE)))) ZAE))))))),?_⟩
 walk_at "rd"
 by_cases hlt:(b:Int)-f < 2
 .rw [if_pos hlt]
  refine ⟨yAH _,fun l hl=>q l _ [] (ZAK hl _) hl ZAF ?_⟩
  rw [Po.mts_leaf (by omega)]
  exact MsAt.nil
 rw [if_neg hlt]
 refine ⟨⟨by decide,by decide⟩,?_⟩
 have hm:=Po.mid_lt (f:=f) (b:=b) (by omega)
 have em:(f:Int)+((b:Int)-f+1) / 2=((Po.mid f b:Nat):Int):=by unfold Po.mid;omega
 rw [em]
 have a3:2 ^ (n+1-1)=2 ^ n:=by rw [Nat.add_sub_cancel]
 rw [a3] at O
 obtain ⟨k,rfl⟩:∃ k,n=k+1:=⟨n-1,by
  cases n with
  | zero=>rw [Nat.pow_zero] at O;omega
  | succ n=>rfl⟩
 rw [Nat.pow_succ] at O
 refine ⟨f,Po.mid f b,rfl,by omega,by omega,by omega,by rw [Nat.add_sub_cancel];unfold Po.mid at *;omega,fun l1 H1 U s1 ad a9 a2=>?_⟩
 refine ⟨Po.mid f b,b,rfl,by omega,by omega,by omega,by rw [Nat.add_sub_cancel];unfold Po.mid at *;omega,fun l2 H2 Y s2 ac aa a0=>?_⟩
 have a1:=a2.len
 have Z:=a0.len
 rw [Po.mts_len] at a1 Z
 refine ⟨l1,l2,U,Y,rfl,rfl,s2 _ _ a9,aa,ZAb (by omega),fun l3 a6=>?_⟩
 obtain ⟨H3,e3,s3,h3⟩:=newH a6 (.lst (U++Y))
 rw [e3];clear e3
 refine ⟨ZAb (by decide),fun t ht=>?_⟩
 obtain ⟨H4,e4,s4,h4⟩:=newH ht (.tup [.int (f:Int),.int ((Po.mid f b:Nat):Int),.int (b:Int)])
 rw [e4];clear e4
 refine ⟨ZAb (by decide),fun l4 a7=>?_⟩
 obtain ⟨H5,e5,s5,h5⟩:=newH a7 (.lst [.ref t])
 rw [e5];clear e5
 refine ⟨l3,l4,_,_,rfl,rfl,s5 _ _ (s4 _ _ h3),h5,ZAb (by rw [yAC,yCC];omega),fun l6 L=>?_⟩
 have S5:=s1.trans (s2.trans (s3.trans (s4.trans s5)))
 refine q l6 _ _ (S5.trans (ZAK L _)) (S5.free L) ZAF ?_
 rw [Po.mts_node (by omega)]
 have up:∀ t x,H5 t=some (.tup x)->upd H5 l6 (.lst (U++Y++[.ref t])) t=some (.tup x):=fun t x h=>ZAK L _ _ _ h
 exact ((a2.keep fun _ _ z=>ZAK L _ _ _ (s5 _ _ (s4 _ _ (s3 _ _ (s2 _ _ z))))).app (a0.keep fun _ _ z=>ZAK L _ _ _ (s5 _ _ (s4 _ _ (s3 _ _ z))))).app (MsAt.one (ZAK L _ _ _ (s5 _ _ h4)))
theorem ok_Pour_front_of {f:Addr} {fd:FuncData} (F:Fun K "front_of" "Pour.front_of" ZAm f fd) (T:Bt K mg C_Pour C_LastPour C_Asker C_AskedRule C_HallError C_NoPlace C_TooFar C_Spent)
 :FnOk P w K mg base CX0 1 f fd ["self","piece","taken"] (ZBm false C_Pour):=by
 refine F.ok sc_Pour_front_of (fun vs H Q E h=>?_) (fun U A outer s H vs Q E Z h=>?_)
 .obtain ⟨p,ak,pl,tk,ml,wd,pls,pcs,i,t,xs,rfl,z,hx,q⟩:=h
  rfl
 obtain ⟨p,ak,pl,tk,ml,wd,pls,pcs,i,t,xs,rfl,z,hx,q⟩:=h
 refine ⟨_,(ZAC (ZAO (i:=3) sc_Pour_front_of.nd rfl (by walk_at "o") (ZBC ZBK (ZAh (pv 0) rfl) (pv 1) (fun _ _=>rfl)))
  (ZAI (ZAX (ZCQ (ZAQ ZD3 (pv 2) (ZAL ZAJ rfl T.b_len PySem.boot_len (ZAA (pv 3) ZAE)) (ZAS _)) (ZBP (ZAA (ZBC ZBK (pv 3) (pv 2) (fun _ _=>rfl)) (ZAA (pv 1) ZAE))) ZBE)))),?_⟩
 walk_at "rd"
 obtain ⟨l,Y,hl⟩:=z.at hx
 have hl:H l=some (.lst (nL xs)):=hl
 refine z.hp.get T.cl_Pour T.n_Pour_pieces (by walk_at "lk") (ZBi (SqL.of z.hpl) (ZAq (v:=.ref l) (by omega) (by rw [Int.toNat_natCast,yAJ,Y];rfl)) ?_)
 walk_at "rd"
 refine ⟨l,_,rfl,.inl (SqL.of hl),?_⟩
 rw [yAA]
 by_cases hlt:(t:Int) < xs.length
 .rw [if_pos hlt]
  have O:t < xs.length:=by omega
  have L:xs[t]?=some xs[t]:=yAD O
  refine ZBi (SqL.of hl) (ZFJ L) ⟨ZAb (by decide),fun r J=>q _ _ (ZAK J _) ?_⟩
  unfold ZCs
  rw [L]
  exact ⟨r,rfl,ZAF⟩
 .rw [if_neg hlt]
  refine q _ _ (.refl _) ?_
  unfold ZCs
  rw [yBE (by omega)]
  rfl
theorem ok_LastPour_front_of {f:Addr} {fd:FuncData} (F:Fun K "front_of" "LastPour.front_of" ZAc f fd) (T:Bt K mg C_Pour C_LastPour C_Asker C_AskedRule C_HallError C_NoPlace C_TooFar C_Spent)
 :FnOk P w K mg base CX0 1 f fd ["self","piece","taken"] (ZBm true C_LastPour):=by
 refine F.ok sc_LastPour_front_of (fun vs H Q E h=>?_) (fun Y A outer s H vs Q E hr h=>?_)
 .obtain ⟨p,ak,pl,tk,ml,wd,pls,pcs,i,t,xs,rfl,z,hx,q⟩:=h
  rfl
 obtain ⟨p,ak,pl,tk,ml,wd,pls,pcs,i,t,xs,rfl,z,hx,q⟩:=h
 refine ⟨_,(ZAC (ZAO (i:=3) sc_LastPour_front_of.nd rfl (by walk_at "o") (ZBC ZBK (ZAh (pv 0) rfl) (pv 1) (fun _ _=>rfl)))
  (ZAI (ZAX (ZCQ (ZAQ ZD3 (pv 2) (ZAL ZAJ rfl T.b_len PySem.boot_len (ZAA (pv 3) ZAE)) (ZAS _)) (ZBP (ZAA (ZBC ZBK (pv 3) (ZAT ZCC (ZAT ZCC (ZAL ZAJ rfl T.b_len PySem.boot_len (ZAA (pv 3) ZAE)) ZAH) (pv 2)) (fun _ _=>rfl)) (ZAA (pv 1) ZAE))) ZBE)))),?_⟩
 walk_at "rd"
 obtain ⟨l,Z,hl⟩:=z.at hx
 have hl:H l=some (.lst (nL xs.reverse)):=hl
 refine z.hp.get T.cl_LastPour T.n_LastPour_pieces (by walk_at "lk") (ZBi (SqL.of z.hpl) (ZAq (v:=.ref l) (by omega) (by rw [Int.toNat_natCast,yAJ,Z];rfl)) ?_)
 walk_at "rd"
 refine ⟨l,_,rfl,.inl (SqL.of hl),?_⟩
 rw [yAA,yBS]
 by_cases hlt:(t:Int) < xs.length
 .rw [if_pos hlt]
  have O:t < xs.length:=by omega
  have L:xs[t]?=some xs[t]:=yAD O
  have U:xs.reverse[xs.length-1-t]?=some xs[t]:=by
   rw [List.getElem?_reverse (by omega),show xs.length-1-(xs.length-1-t)=t by omega];exact L
  refine ⟨l,_,rfl,.inl (SqL.of hl),?_⟩
  rw [yAA,yBS,show (xs.length:Int)-1-t=((xs.length-1-t:Nat):Int) by omega]
  refine ZBi (SqL.of hl) (ZFJ U) ⟨ZAb (by decide),fun r J=>q _ _ (ZAK J _) ?_⟩
  unfold ZCs
  rw [L]
  exact ⟨r,rfl,ZAF⟩
 .rw [if_neg hlt]
  refine q _ _ (.refl _) ?_
  unfold ZCs
  rw [yBE (by omega)]
  rfl
theorem ok_Pour_goes_on {f:Addr} {fd:FuncData} (F:Fun K "goes_on" "Pour.goes_on" ZAr f fd) (T:Bt K mg C_Pour C_LastPour C_Asker C_AskedRule C_HallError C_NoPlace C_TooFar C_Spent)
  (z:Mt P w K mg base (CXE P w) C_Asker "ahead" 3 ["self","p","q"] (ZDH C_Asker C_AskedRule C_Spent ZBa))
 :FnOk P w K mg base (CXE P w) 4 f fd ["self","p","q"] (ZCn C_Asker C_AskedRule C_Spent false C_Pour):=by
 refine F.okX sc_Pour_goes_on (fun vs H Q E h=>?_) (fun Z A outer s H vs Q E Y h=>?_)
 .obtain ⟨mo,ks,xs,a,rl,ru,tl,g,lg,p,pl,tk,ml,wd,pr,x,y,rfl,st,U,J,hx,O,L,ex,q⟩:=h
  rfl
 obtain ⟨mo,ks,xs,a,rl,ru,tl,g,lg,p,pl,tk,ml,wd,pr,x,y,rfl,st,U,J,hx,O,L,ex,q⟩:=h
 refine ⟨_,(ZAI (ZAX (ZDI z (Y.mono (by decide)) ZFA (ZAh (pv 0) rfl) (ZAA (pv 1) (ZAA (pv 2) ZAE))))),?_⟩
 walk_at "rd"
 refine U.get T.cl_Pour T.n_Pour_asker (by walk_at "lk") (st.ha.meth (by walk_at "lk") ?_)
 refine st.ahead (p:=x) (q:=y) J hx O (by omega) ex fun H2 f2 s2=>?_
 rw [ahead_lx J]
 exact q H2 f2 s2
theorem ok_LastPour_goes_on {f:Addr} {fd:FuncData} (F:Fun K "goes_on" "LastPour.goes_on" ZAd f fd) (T:Bt K mg C_Pour C_LastPour C_Asker C_AskedRule C_HallError C_NoPlace C_TooFar C_Spent)
  (J:Mt P w K mg base (CXE P w) C_Asker "ahead" 3 ["self","p","q"] (ZDH C_Asker C_AskedRule C_Spent ZBa))
 :FnOk P w K mg base (CXE P w) 4 f fd ["self","p","q"] (ZCn C_Asker C_AskedRule C_Spent true C_LastPour):=by
 refine F.okX sc_LastPour_goes_on (fun vs H Q E h=>?_) (fun a0 A outer s H vs Q E Z h=>?_)
 .obtain ⟨mo,ks,xs,a,rl,ru,tl,g,lg,p,pl,tk,ml,wd,pr,x,y,rfl,st,Y,L,hx,U,O,ex,q⟩:=h
  rfl
 obtain ⟨mo,ks,xs,a,rl,ru,tl,g,lg,p,pl,tk,ml,wd,pr,x,y,rfl,st,Y,L,hx,U,O,ex,q⟩:=h
 refine ⟨_,(ZAI (ZAX (ZE8 (ZDI J (Z.mono (by decide)) ZFA (ZAh (pv 0) rfl) (ZAA (pv 1) (ZAA (pv 2) ZAE)))))),?_⟩
 walk_at "rd"
 refine Y.get T.cl_LastPour T.n_LastPour_asker (by walk_at "lk") (st.ha.meth (by walk_at "lk") ?_)
 refine st.ahead (p:=x) (q:=y) L hx U (by omega) ex fun H2 f2 s2=>?_
 rw [ahead_lx L]
 refine ⟨_,rfl,?_⟩
 have e:(!decide (lx ks x y))=ahB true ks x y:=by
  show _=decide (lx ks y x)
  by_cases z:lx ks x y
  .rw [decide_eq_true z,decide_eq_false (fun w=>by unfold lx at *;omega)];rfl
  .rw [decide_eq_false z,decide_eq_true (by unfold lx at *;omega)];rfl
 rw [e]
 exact q H2 f2 s2
theorem ok_Pour_met {f:Addr} {fd:FuncData} (F:Fun K "met" "Pour.met" ZBX f fd) (T:Bt K mg C_Pour C_LastPour C_Asker C_AskedRule C_HallError C_NoPlace C_TooFar C_Spent) (TX:BtX K C_PX)
  (J:Mt P w K mg base (CXE P w) C_PX "goes_on" 4 ["self","p","q"] (ZCn C_Asker C_AskedRule C_Spent bb C_PX))
 :FnOk P w K mg base (CXE P w) 5 f fd ["self","one","other"] (ZFP C_Asker C_AskedRule C_Spent bb C_PX):=by
 refine F.okX sc_Pour_met (fun vs H Q E h=>?_) (fun a0 A outer s H vs Q E hr h=>?_)
 .obtain ⟨mo,ks,xs,a,rl,ru,tl,g,lg,p,pl,tk,ml,wd,pr,u1,u2,one,L,rfl,st,hp,h1,h2,hc,U,ex,q⟩:=h
  rfl
 obtain ⟨mo,ks,xs,a,rl,ru,tl,g,lg,p,pl,tk,ml,wd,pr,u1,u2,one,L,rfl,st,hp,h1,h2,hc,U,ex,q⟩:=h
 refine ⟨_,(ZAC (PS.nox (ZA4 (PW.pt (ZCo (ZAQ ZCq (pv 1) ZBE (ZAS _)) (ZCX (ZAQ ZCq (pv 2) ZBE (ZAS _)))))
  (ZAI (ZAX (ZCQ (ZAQ ZCq (pv 1) ZBE (ZAS _)) (pv 2) (pv 1)))) ZAa))
  (ZAI (ZAX (ZCQ (ZCB (ZDI J (hr.mono (by decide)) ZFA (pv 0) (ZAA (ZBC ZCD (pv 1) ZAH (fun _ _=>rfl)) (ZAA (ZBC ZCD (pv 2) ZAH (fun _ _=>rfl)) ZAE)))) (pv 1) (pv 2))))),?_⟩
 walk_at "rd"
 have nn:∀ t,V.ref t≠V.non:=fun _ z=>by cases z
 cases one with
 | none=>
  cases (show u1=V.non from h1)
  rw [if_pos rfl,if_pos rfl]
  refine q u2 H .refl ?_ h2
  show SitL _ _ _ _ _ _ _ _ _ _ _ _ (pr++[])
  rw [yBA]
  exact st
 | some x=>
  obtain ⟨t1,rfl,O⟩:=h1
  rw [if_neg (nn _)]
  cases L with
  | none=>
   cases (show u2=V.non from h2)
   rw [if_pos rfl,if_neg (nn _)]
   refine q _ H .refl ?_ ⟨t1,rfl,O⟩
   show SitL _ _ _ _ _ _ _ _ _ _ _ _ (pr++[])
   rw [yBA]
   exact st
  | some y=>
   obtain ⟨t2,rfl,Y⟩:=h2
   obtain ⟨g1,g2,g3⟩:=hc (x.1,y.1) yAF
   rw [if_neg (nn _)]
   refine hp.meth (by walk_at "lk") (ZBh (SqT.of O) (ZAq (by decide) rfl) (ZBh (SqT.of Y) (ZAq (by decide) rfl) ?_))
   refine ⟨mo,ks,xs,a,rl,ru,tl,g,lg,p,pl,tk,ml,wd,pr,x.1,y.1,rfl,st,hp,g1,g2,g3,U,ex,fun H2 f2 s2=>⟨_,rfl,?_⟩⟩
   have k2:∀ t z,H t=some (.tup z)->H2 t=some (.tup z):=fun t z h=>f2 _ _ (st.tupS h (fun _ z=>by cases z) (fun _ _ _ z=>by cases z)) h
   have Z:Po.met (ahB bb ks) (some x) (some y)=if ahB bb ks x.1 y.1=true then some x else some y:=rfl
   by_cases hd:ahB bb ks x.1 y.1=true
   .rw [if_pos hd]
    rw [if_pos hd] at Z
    exact q _ H2 f2 s2 (by rw [Z];exact ⟨t1,rfl,k2 _ _ O⟩)
   .rw [if_neg hd]
    rw [if_neg hd] at Z
    exact q _ H2 f2 s2 (by rw [Z];exact ⟨t2,rfl,k2 _ _ Y⟩)
theorem ok_Pour_held {f:Addr} {fd:FuncData} (F:Fun K "held" "Pour.held" ZBJ f fd) (T:Bt K mg C_Pour C_LastPour C_Asker C_AskedRule C_HallError C_NoPlace C_TooFar C_Spent) (TX:BtX K C_PX)
  (O:Mt P w K mg base (CXE P w) C_PX "met" 5 ["self","one","other"] (ZFP C_Asker C_AskedRule C_Spent bb C_PX))
 :FnOk P w K mg base (CXE P w) 6 f fd ["self","meetings","went_on"] (ZDx C_Asker C_AskedRule C_Spent bb C_PX):=by
 refine F.okX sc_Pour_held (fun vs H Q E h=>?_) (fun b4 A outer s H vs Q E hr h=>?_)
 .obtain ⟨mo,ks,xs,a,rl,ru,tl,g,lg,p,pl,tk,ml,wd,mt,wo,pr,aj,ms,w0,w1,l,B,c,kvs,rfl,st,hp,np,ah,a6,hM,ay,a9,dt,hB,a4,hl,a3,aa,ex,q⟩:=h
  rfl
 obtain ⟨mo,ks,xs,a,rl,ru,tl,g,lg,p,pl,tk,ml,wd,mt,wo,pr,aj,ms,w0,w1,l,B,c,kvs,rfl,st,hp,np,ah,a6,hM,ay,a9,dt,hB,a4,hl,a3,aa,ex,q⟩:=h
 refine ⟨_,(ZAC (PS.nox (ZAO (i:=3) sc_Pour_held.nd rfl (by walk_at "o") (ZBs (call_dictC) rfl T.b_dict PyProof.Rows.boot_dict (ZAA (pv 2) ZAE))))
  (ZAC (PS.inX (ZCY (passO ⟨rfl,rfl⟩) rfl (ZAv (pv 1)) (ZEa (n:=3) rfl (ZBQ (ZAZ (i:=4) sc_Pour_held.nd rfl (by walk_at "o")) (ZBQ (ZAZ (i:=5) sc_Pour_held.nd rfl (by walk_at "o")) (ZBQ (ZAZ (i:=6) sc_Pour_held.nd rfl (by walk_at "o")) ZDo))))
  (ZAI (ZEK (ZEp hr) (pv 3) (ZBP (ZAA (pv 4) (ZAA (pv 6) ZAE))) (ZDI O (hr.mono (by decide)) passL (pv 0) (ZAA (pe_dget (ZEp hr) (pv 3) (ZBP (ZAA (pv 4) (ZAA (pv 5) ZAE))) (fun _ _=>rfl)) (ZAA (pe_dget (ZEp hr) (pv 3) (ZBP (ZAA (pv 5) (ZAA (pv 6) ZAE))) (fun _ _=>rfl)) ZAE))) rfl))))
  (ZAI (PS.nox (ZAX (pv 3)))))),?_⟩
 walk_at "rd"
 refine ⟨wo,kvs,rfl,dt.hd,dt.sm,fun d hd=>?_⟩
 obtain ⟨H1,e1,s1,h1⟩:=newH hd (.dT kvs)
 rw [e1];clear e1
 have al:DT H1 d w0 B kvs:=⟨h1,dt.sm,dt.len,(dt.mono s1).val⟩
 have aq:d∉[a,lg,tl]:=fun z=>by
  obtain ⟨_,h2,_⟩:=st.hlg
  obtain ⟨_,h3,_⟩:=st.htl
  rcases yAE.mp z with z | z
  .exact st.ha.neN hd z
  rcases yAE.mp z with z | z
  .rw [z,h2] at hd;cases hd
  .rw [yAN.mp z,h3] at hd;cases hd
 refine ZCg (SqL.of (s1 _ _ a6)) (fun i σ X=>∃ v4 v5 v6 wi Z kvi,σ=[some (.ref p),some (.ref mt),some (.ref wo),some (.ref d),v4,v5,v6] /\ Po.run (ahB bb ks) (ms.take i) (w0,[])=some (wi,Z) /\ DT X d wi (B+c * i) kvi /\ SitL mo C_Asker C_AskedRule X ks xs a rl ru tl g lg (pr++Z.map mxp) /\ Fr [a,lg,tl] H X) ⟨_,_,_,w0,[],kvs,rfl,rfl,by rw [Nat.mul_zero];exact al,by rw [List.map_nil,yBA];exact st.mono s1,s1.fr⟩ (fun i σ X _ ⟨_,_,_,_,_,_,_,_,_,_,e⟩=>SqL.of (e _ _ ah a6)) ?_ ?_
 .rintro i x σ X hx ⟨v4,v5,v6,wi,Z,kvi,rfl,J,L,a5,fi⟩
  have hi:=(yAK.mp hx).1
  rw [hM.len] at hi
  obtain ⟨m,hm⟩:∃ m,ms[i]?=some m:=⟨_,yAD hi⟩
  obtain ⟨t,a8,ai⟩:=hM.get i m hm
  rw [hx] at a8
  cases a8
  have az:=fi _ _ (st.tupS ai (fun _ z=>by cases z) (fun _ _ _ z=>by cases z)) ai
  refine ZDP (SqT.of az) rfl ?_
  walk_at "rd"
  obtain ⟨si,q1,q2⟩:=run_cut a4 i
  rw [J] at q1
  cases q1
  rw [ZCT hm] at q2
  obtain ⟨⟨w2,l2⟩,q3,q4⟩:=Option.bind_eq_some_iff.mp (show (Po.step (ahB bb ks) (wi,Z) m).bind (Po.run (ahB bb ks) (ms.drop (i+1)))=some (w1,l) from q2)
  have ae:=ZCJ fi np hp
  unfold Po.step at q3
  dsimp only at q3
  split at q3
  .rename_i x y e1 e2
   cases q3
   obtain ⟨u1,b1,ax⟩:=L.val _ _ _ e1
   obtain ⟨u2,am,au⟩:=L.val _ _ _ e2
   obtain ⟨le,U⟩:=run_grow q4
   have U:l=(Z++Po.mask x y)++le:=U
   refine ae.meth (by walk_at "lk") ⟨ZAb (by decide),fun k1 b0=>?_⟩
   obtain ⟨X1,af,ac,av⟩:=newH b0 (.tup [.int (m.1:Int),.int (m.2.1:Int)])
   rw [af];clear af
   refine ⟨d,u1,rfl,by have:=DGet.t (k:=kQ m.1 m.2.1) (ac _ _ L.hd) av;rw [b1] at this;exact this,ZAb (by decide),fun k2 aw=>?_⟩
   obtain ⟨X2,a7,ak,an⟩:=newH aw (.tup [.int (m.2.1:Int),.int (m.2.2:Int)])
   rw [a7];clear a7
   have S2:=ac.trans ak
   refine ⟨d,u2,rfl,by have:=DGet.t (k:=kQ m.2.1 m.2.2) (S2 _ _ L.hd) an;rw [am] at this;exact this,?_⟩
   have a2:=a5.mono S2
   refine ⟨mo,ks,xs,a,rl,ru,tl,g,lg,p,pl,tk,ml,wd,pr++Z.map mxp,u1,u2,x,y,rfl,a2,ae.mono S2,ax.keep (fun _ _ z=>S2 _ _ z),au.keep (fun _ _ z=>S2 _ _ z),fun c hc=>hl c (by rw [U];exact yBQ _ (yAZ _ hc)),by rw [yAC,yAA];rw [U,yAC,yAC] at aa;omega,ex.sub (l3:=le.map mxp) (fi.trans S2.fr) (by rw [U,yAT,yAT,yAY]),fun u Y fY ao b2=>⟨ZAb (by decide),fun k3 ap=>?_⟩⟩
   obtain ⟨Y2,ag,a0,ar⟩:=newH ap (.tup [.int (m.1:Int),.int (m.2.2:Int)])
   rw [ag];clear ag
   have a1:DT Y2 d wi (B+c * i) kvi:=((L.mono S2).fr fY aq (fun t z h=>a2.tupS h (fun _ z=>by cases z) (fun _ _ _ z=>by cases z))).mono a0
   have b3:c * i <= 400:=by
    rcases a3 with rfl | ⟨rfl,_⟩
    .omega
    .omega
   refine ⟨d,_,rfl,DPut.t (k:=kQ m.1 m.2.2) a1.hd ar (ZBA (by have:=a1.len;omega)),?_⟩
   have ad:=a9 m (yAL hm)
   have hk:c=1∨(wi m.1 m.2.2).isSome=true:=by
    rcases a3 with z | ⟨_,z⟩
    .exact .inl z
    .exact .inr (run_dom J (z m (yAL hm)))
   refine ⟨_,_,_,Po.put wi m.1 m.2.2 (Po.met (ahB bb ks) x y),Z++Po.mask x y,putK kvi (kQ m.1 m.2.2) u,rfl,?_,?_,?_,?_⟩
   .rw [yCA,hm,Po.run_app,J]
    show (Po.step (ahB bb ks) (wi,Z) m).bind (Po.run (ahB bb ks) [])=_
    unfold Po.step
    dsimp only
    rw [e1,e2]
    rfl
   .rw [Nat.mul_succ,<- Nat.add_assoc]
    exact a1.put ad.1 ad.2 (b2.keep fun _ _ z=>a0 _ _ z) hk
   .rw [yAT,<- yAY]
    exact (ao.mono a0).but fun b o hb n=>by rw [ZAG (fun z=>by rw [z,a1.hd] at hb;exact n _ (Option.some.inj hb).symm)];exact hb
   .intro b o n hb
    rw [ZAG (ZAB hb hd)]
    exact a0 _ _ (fY _ _ n (S2 _ _ (fi _ _ n hb)))
  .cases q3
 rintro σ X ⟨v4,v5,v6,wi,Z,kvi,rfl,J,L,a5,fi⟩
 rw [hM.len,yBH (yAB _),a4] at J
 cases J
 rw [hM.len] at L
 walk_at "rd"
 exact q d X kvi fi hd L a5
theorem ok_Pour_top {f:Addr} {fd:FuncData} (F:Fun K "top" "Pour.top" ZBW f fd) (T:Bt K mg C_Pour C_LastPour C_Asker C_AskedRule C_HallError C_NoPlace C_TooFar C_Spent) (U:BtX K C_PX)
 :FnOk P w K mg base CX0 1 f fd ["self"] (ZE0 bb C_PX):=by
 refine F.ok sc_Pour_top (fun vs H Q E h=>?_) (fun a0 A outer s H vs Q E Z h=>?_)
 .obtain ⟨p,ak,pl,tk,ml,wd,pls,pcs,w0,B,kvs,top,rfl,L,O,J,q⟩:=h
  rfl
 obtain ⟨p,ak,pl,tk,ml,wd,pls,pcs,w0,B,kvs,top,rfl,L,O,J,q⟩:=h
 refine ⟨_,(ZAI (ZAX (ZD0 PySem.F.plainAttrs_dict PySem.F.slot_dict_get PySem.F.type_dict_get (mt_dget (ZEp Z)) (ZAh (pv 0) rfl) (ZAA (ZBP (ZAA ZAH (ZAA (ZAL ZAJ rfl T.b_len PySem.boot_len (ZAA (ZAh (pv 0) rfl) ZAE)) ZAE))) ZAE)))),?_⟩
 walk_at "rd"
 refine L.hp.get U.cl_PX U.n_PX_went_on (by walk_at "lk") ?_
 walk_at "rd"
 refine ⟨.inr (.inr (.inl ⟨rfl,.inr ⟨_,O.hd⟩⟩)),?_⟩
 refine L.hp.get U.cl_PX U.n_PX_pieces (by walk_at "lk") ?_
 walk_at "rd"
 refine ⟨pl,_,rfl,.inl (SqL.of L.hpl),ZAb (by decide),fun t ht=>?_⟩
 rw [yAA,L.len]
 obtain ⟨H1,Y,s1,h1⟩:=newH ht (.tup [.int ((0:Nat):Int),.int (pcs.length:Int)])
 rw [show ((0:Nat):Int)=0 from rfl] at Y
 rw [Y];clear Y
 refine ⟨wd,_,_,rfl,rfl,DGet.t (k:=kQ 0 pcs.length) (s1 _ _ O.hd) h1,?_⟩
 rcases J with hv | ⟨rfl,rfl⟩
 .obtain ⟨u,hu,fv⟩:=O.val _ _ _ hv
  rw [hu]
  exact q u H1 s1 (fv.keep fun _ _ z=>s1 _ _ z)
 .have:kvs=[]:=yCW.mp (by have:=O.len;omega)
  rw [this]
  exact q _ H1 s1 rfl
theorem ok_Pour_first {f:Addr} {fd:FuncData} (F:Fun K "first" "Pour.first" ZA6 f fd) (T:Bt K mg C_Pour C_LastPour C_Asker C_AskedRule C_HallError C_NoPlace C_TooFar C_Spent) (TX:BtX K C_PX)
  (J:Mt P w K mg base CX0 C_PX "top" 1 ["self"] (ZE0 bb C_PX))
 :FnOk P w K mg base CX0 2 f fd ["self"] (ZCF bb C_PX):=by
 refine F.ok sc_Pour_first (fun vs H Q E h=>?_) (fun a0 A outer s H vs Q E hr h=>?_)
 .obtain ⟨p,ak,pl,tk,ml,wd,pls,pcs,U,B,kvs,top,rfl,O,Y,L,q⟩:=h
  rfl
 obtain ⟨p,ak,pl,tk,ml,wd,pls,pcs,U,B,kvs,top,rfl,O,Y,L,q⟩:=h
 refine ⟨_,(ZAC (ZAO (i:=1) sc_Pour_first.nd rfl (by walk_at "o") (ZAt J (hr.mono (by decide)) ZAY (pv 0)))
  (ZAI (ZAX (ZCQ (ZAQ ZCq (pv 1) ZBE (ZAS _)) ZBE (ZBC ZCD (pv 1) ZAH (fun _ _=>rfl)))))),?_⟩
 walk_at "rd"
 refine O.hp.meth (by walk_at "lk") ⟨p,ak,pl,tk,ml,wd,pls,pcs,U,B,kvs,top,rfl,O,Y,L,fun u H1 s1 Z=>?_⟩
 walk_at "rd"
 cases top with
 | none=>
  cases (show u=V.non from Z)
  rw [if_pos rfl]
  exact q H1 s1
 | some x=>
  obtain ⟨t,rfl,ht⟩:=Z
  rw [if_neg (fun z=>by cases z)]
  exact ZBh (SqT.of ht) (ZAq (by decide) rfl) (q H1 s1)
theorem ok_Pour_init {f:Addr} {fd:FuncData} (F:Fun K "__init__" "Pour.__init__" ZBI f fd) (T:Bt K mg C_Pour C_LastPour C_Asker C_AskedRule C_HallError C_NoPlace C_TooFar C_Spent) (O:BtX K C_PX)
  (U:Fn P w K mg base CX0 "meetings_of" 9 ["first","beyond"] (ZBV 9))
  (a4:Mt P w K mg base (CXE P w) C_PX "held" 6 ["self","meetings","went_on"] (ZDx C_Asker C_AskedRule C_Spent bb C_PX))
  (L:Mt P w K mg base CX0 C_PX "front_of" 1 ["self","piece","taken"] (ZBm bb C_PX))
 :FnOk P w K mg base (CXE P w) 10 f fd ["self","asker","pieces"] (ZBU C_Asker C_AskedRule C_Spent bb C_PX):=by
 refine F.okX sc_Pour_init (fun vs H Q E h=>?_) (fun de A outer s H vs Q E hr h=>?_)
 .obtain ⟨mo,ks,xs,a,rl,ru,tl,g,lg,x,dx,hl,pr,cg,pcs,rfl,hx,st,ap,al,b7,hn,cf,cn,nx,ct,ex,q⟩:=h
  rfl
 obtain ⟨mo,ks,xs,a,rl,ru,tl,g,lg,x,dx,hl,pr,cg,pcs,rfl,hx,st,ap,al,b7,hn,cf,cn,nx,ct,ex,q⟩:=h
 refine ⟨_,(ZAC (PS.nox (ZBq (pv 0) (pv 1) rfl))
  (ZAC (PS.nox (ZBq (pv 0) (ZB1 rfl (k:=1) (js:=[]) (N':=["piece"]) (by rfl) (ZAv (pv 2)) (fun _ _ _ _=>ZAZ (i:=0) (show (["piece"]:List Str).Nodup by decide +kernel) rfl (by walk_at "o")) (fun _ _ _ _=>ZA1) (fun _ _ _ _=>(ZBs (ZB9 K) rfl T.b_list PyProof.Rows.boot_list (ZAA (pv 0) ZAE)))) rfl))
  (ZAR
  (ZAC (PS.nox (ZBq (pv 0) (ZB1 rfl (k:=1) (js:=[]) (N':=["piece"]) (by rfl) (ZAv (ZAh (pv 0) rfl)) (fun _ _ _ _=>ZAZ (i:=0) (show (["piece"]:List Str).Nodup by decide +kernel) rfl (by walk_at "o")) (fun _ _ _ _=>ZA1) (fun _ _ _ _=>ZAH)) rfl))
  (ZAR
  (ZAC (PS.nox (ZBq (pv 0) (ZAs U (hr.mono (by decide)) rfl ZAY (ZAA ZAH (ZAA (ZAL ZAJ rfl T.b_len PySem.boot_len (ZAA (ZAh (pv 0) rfl) ZAE)) ZAE))) rfl))
  (ZAR
  (ZAC (PS.nox (ZBq (pv 0) pe_dnewT rfl))
  (ZAC (PS.nox (ZCY PassesOwn.never rfl (ZCG rfl T.b_range (ZAA (ZAL ZAJ rfl T.b_len PySem.boot_len (ZAA (ZAh (pv 0) rfl) ZAE)) ZAE)) (ZAZ (i:=3) sc_Pour_init.nd rfl (by walk_at "o"))
  (ZAI (ZEK (ZEp hr) (ZAh (pv 0) rfl) (ZBP (ZAA (pv 3) (ZAA (ZAT ZBd (pv 3) ZAH) ZAE))) (ZDI L (hr.mono (by decide)) ZAY (pv 0) (ZAA (pv 3) (ZAA ZAH ZAE))) rfl))))
  (ZAR
  (ZAI (ZBq (pv 0) (ZDI a4 (hr.mono (by decide)) ZFA (pv 0) (ZAA (ZAh (pv 0) rfl) (ZAA (ZAh (pv 0) rfl) ZAE))) rfl)))))))))))),?_⟩
 walk_at "rd"
 have ck:hl≠x:=fun z=>by rw [z,hx] at ap;cases ap
 refine setX hx O.cl_PX O.n_PX_asker (by decide) fun H2 x2 k2=>?_
 walk_at "rd"
 have ak:∀ b o,b≠x->H b=some o->H2 b=some o:=fun b o n e=>by rw [k2 b n];exact e
 have c8:∀ (i:Nat) l ys,cg[i]?=some l->pcs[i]?=some ys->H2 l=some (.lst (nL (rv bb ys))):=fun i l ys h1 h2=>by
  have h:=b7 i l ys h1 h2
  exact ak _ _ (fun z=>by rw [z,hx] at h;cases h) h
 refine ZBT (SqL.of (ak _ _ ck ap)) (by rw [yAA];omega) (fun i ys σ H'=>∃ v ns,σ=[v] /\ Same H2 H' /\ ys=ns.map V.ref /\ ns.length=i /\ (∀ (j:Nat) l zs,ns[j]?=some l->pcs[j]?=some zs->H' l=some (.lst (nL (rv bb zs)))) /\ ∀ l∈ns,H2 l=none) ⟨_,[],rfl,.refl _,rfl,rfl,fun j l zs h=>by simp at h,fun l h=>by cases h⟩ (fun i ys σ H' _ ⟨_,ns,_,e,e2,e3,_⟩=>⟨SqL.of (e _ _ (ak _ _ ck ap)),by rw [e2,yAA];omega⟩) ?_ ?_
 .rintro i ys u σ H' hi hu ⟨v,ns,rfl,sA,rfl,cz,cw,d8⟩
  rw [yAA] at hi
  have hi2:i < pcs.length:=by omega
  obtain ⟨zs,ax⟩:∃ zs,pcs[i]?=some zs:=⟨_,yAD hi2⟩
  rw [yAJ,yAD hi] at hu
  cases hu
  have d2:=sA _ _ (c8 i _ zs (yAD hi) ax)
  walk_at "rd"
  refine ⟨_,_,rfl,.inl (SqL.of d2),fun l' bi=>?_⟩
  refine Nxt.of (by rw [yAA];exact hi) ⟨_,ns++[l'],rfl,sA.new bi,by rw [yAT];rfl,by rw [yAC,cz];rfl,fun j l d4 h1 h2=>?_,fun l h=>?_⟩
  .by_cases z:j < ns.length
   .rw [yAX z] at h1
    exact ZAK bi _ _ _ (cw j l d4 h1 h2)
   .rw [yAW (by omega)] at h1
    cases hk:j-ns.length with
    | zero=>
     rw [hk] at h1
     cases h1
     rw [show j=i by omega,ax] at h2
     cases h2
     exact ZAF
    | succ m=>rw [hk] at h1;simp at h1
  .rcases yAR.mp h with h | h
   .exact d8 l h
   .rw [yAN.mp h];exact sA.free bi
 rintro ys σ H3 ⟨v,pls,rfl,s3,rfl,ay,ba,az⟩ pl av
 rw [yAA] at ay
 obtain ⟨H4,e4,s4,h4⟩:=newH av (.lst (pls.map V.ref))
 rw [e4];clear e4
 have x4:=s4 _ _ (s3 _ _ x2)
 have a7:pl≠x:=Ne.symm (ZAB (s3 _ _ x2) av)
 refine setX x4 O.cl_PX O.n_PX_pieces ZFk fun H5 x5 k5=>?_
 walk_at "rd"
 have b5:∀ b o,b≠x->H4 b=some o->H5 b=some o:=fun b o n e=>by rw [k5 b n];exact e
 have Y:=b5 _ _ a7 h4
 have a3:∀ l∈pls,l≠x:=fun l h z=>by have:=az l h;rw [z,x2] at this;cases this
 have ad:∀ (j:Nat) l zs,pls[j]?=some l->pcs[j]?=some zs->H5 l=some (.lst (nL (rv bb zs))):=fun j l zs h1 h2=>b5 _ _ (a3 l (yAL h1)) (s4 _ _ (ba j l zs h1 h2))
 refine ZAW ?_
 walk_at "rd"
 have i5:Ins H5 x C_PX [("pieces",.ref pl),("asker",.ref a)]:=(Ins.of x5 (yAG ZFj (by decide))).congr fun f=>by simp only [ZAV,lkc]
 refine i5.get O.cl_PX O.n_PX_pieces (by walk_at "lk") ?_
 refine ZBT (SqL.of Y) (by rw [yAA];omega) (fun i ys σ H'=>∃ v,σ=[v] /\ Same H5 H' /\ ys=nL (List.replicate i 0)) ⟨_,rfl,.refl _,rfl⟩ (fun i ys σ H' _ ⟨_,_,e,e2⟩=>⟨SqL.of (e _ _ Y),by rw [e2,yAA,yBX];exact yAB _⟩) ?_ ?_
 .rintro i ys u σ H' hi hu ⟨v,rfl,sA,rfl⟩
  walk_at "rd"
  refine Nxt.of hi ⟨_,rfl,sA,?_⟩
  unfold nL
  rw [List.replicate_succ',yAT];rfl
 rintro ys σ H6 ⟨v,rfl,s6,rfl⟩ tk ag
 rw [yAA,ay,al]
 obtain ⟨H7,e7,s7,h7⟩:=newH ag (.lst (nL (List.replicate pcs.length 0)))
 rw [e7];clear e7
 have x7:=s7 _ _ (s6 _ _ x5)
 have a9:tk≠x:=Ne.symm (ZAB (s6 _ _ x5) ag)
 refine setX x7 O.cl_PX O.n_PX_taken ZFj fun H8 x8 k8=>?_
 walk_at "rd"
 have b0:∀ b o,b≠x->H5 b=some o->H8 b=some o:=fun b o n e=>by rw [k8 b n];exact s7 _ _ (s6 _ _ e)
 have af:H8 tk=some (.lst (nL (List.replicate pcs.length 0))):=by rw [k8 tk a9];exact h7
 refine ZAW ?_
 walk_at "rd"
 have i8:Ins H8 x C_PX [("taken",.ref tk),("pieces",.ref pl),("asker",.ref a)]:=(Ins.of x8 (yAG ZFi (by decide))).congr fun f=>by simp only [ZAV,lkc]
 refine i8.get O.cl_PX O.n_PX_pieces (by walk_at "lk") ⟨pl,_,rfl,.inl (SqL.of (b0 _ _ a7 Y)),?_⟩
 rw [yAA,ay,al]
 refine ⟨0,pcs.length,rfl,yAH _,by omega,by decide,yAG (by omega:pcs.length-0 <= 256) (by decide),fun ml H9 an s9 ar b8 bz=>?_⟩
 have x9:=s9 _ _ x8
 have b1:ml≠x:=Ne.symm (ZAB x8 ar)
 refine setX x9 O.cl_PX O.n_PX_meetings ZFi fun au br b2=>?_
 walk_at "rd"
 have Z:∀ b o,b≠x->H8 b=some o->au b=some o:=fun b o n e=>by rw [b2 b n];exact s9 _ _ e
 refine ZAW ?_
 walk_at "rd"
 intro wd ai
 obtain ⟨db,c3,bw,ce⟩:=newH ai (.dT [])
 rw [c3];clear c3
 have cb:=bw _ _ br
 have ae:wd≠x:=Ne.symm (ZAB br ai)
 refine setX cb O.cl_PX O.n_PX_went_on putL4 fun a5 d0 bg=>?_
 walk_at "rd"
 have a8:∀ b o,b≠x->au b=some o->a5 b=some o:=fun b o n e=>by rw [bg b n];exact bw _ _ e
 have bp:Ins a5 x C_PX (fP a pl tk ml wd):=(Ins.of d0 (yAG putL5 (by decide))).congr fun f=>by simp only [ZAV,lkc]
 have aa:au ml=some (.lst an):=by rw [b2 ml b1];exact b8
 have bq:MsAt a5 an (Po.mts 0 pcs.length):=bz.keep fun t z h=>by
  have n:t≠x:=fun e=>by rw [e,x9] at h;cases h
  exact a8 _ _ n (by rw [b2 t n];exact h)
 have up:∀ b o,b≠x->H5 b=some o->a5 b=some o:=fun b o n e=>a8 _ _ n (Z _ _ n (b0 _ _ n e))
 have b4:∀ b o,b≠x->H b=some o->a5 b=some o:=fun b o n e=>up _ _ n (b5 _ _ n (s4 _ _ (s3 _ _ (ak _ _ n e))))
 have J:PB bb C_PX a5 x a pl tk ml wd pls pcs:=⟨bp,up _ _ a7 Y,by omega,fun i l ys h1 h2=>up _ _ (a3 l (yAL h1)) (ad i l ys h1 h2)⟩
 have ci:=st.butX hx nx b4
 have fx:∀ b,H2 b=none->H b=none:=fun b h=>by
  cases e:H b with
  | none=>rfl
  | some o=>
   have n:b≠x:=fun z=>by rw [z,x2] at h;cases h
   rw [ak b o n e] at h;cases h
 have f5:∀ b,b≠x->H5 b=none->H b=none:=fun b n h=>fx b (s3.free (s4.free (by rw [<- k5 b n];exact h)))
 have f8:∀ b,b≠x->H8 b=none->H b=none:=fun b n h=>f5 b n (s6.free (s7.free (by rw [<- k8 b n];exact h)))
 have cp:∀ b,b≠x->au b=none->H b=none:=fun b n h=>f8 b n (s9.free (by rw [<- b2 b n];exact h))
 have cq:=fx pl (s3.free av)
 have cc:=f5 tk a9 (s6.free ag)
 have ch:=f8 ml b1 ar
 have cj:=cp wd ae ai
 have b9:∀ l∈pls,H l=none:=fun l h=>fx l (az l h)
 have n5:∀ b o,H5 b=some o->b≠tk:=fun b o h=>ZAB (s6 _ _ h) ag
 have n8:∀ b o,H8 b=some o->b≠ml:=fun b o h=>ZAB h ar
 have aq:∀ b o,au b=some o->b≠wd:=fun b o h=>ZAB h ai
 have ac:a5 wd=some (.dT []):=by rw [bg wd ae];exact ce
 have bv:=a8 _ _ a9 (Z _ _ a9 af)
 have bo:=a8 _ _ b1 aa
 have c4:pl≠wd:=aq _ _ (Z _ _ a7 (b0 _ _ a7 Y))
 have cu:tk≠wd:=aq _ _ (Z _ _ a9 af)
 have cy:ml≠wd:=aq _ _ aa
 have ao:∀ l∈pls,l≠wd /\ l≠tk:=fun l h=>by
  obtain ⟨j,hj,e⟩:=List.getElem_of_mem h
  have e1:pls[j]?=some l:=by rw [yAD hj,e]
  have h5:=ad j l _ e1 (yAD (show j < pcs.length by omega))
  exact ⟨aq _ _ (Z _ _ (a3 l h) (b0 _ _ (a3 l h) h5)),n5 _ _ h5⟩
 have bx:tk≠pl:=Ne.symm (n5 _ _ Y)
 have bn:tk≠ml:=n8 tk _ af
 clear k2 k5 k8 b2 bg x2 x4 x5 x7 x8 x9 br cb i5 i8 ak b5 b0 Z a8 s3 s4 s6 s7 s9 bw bz h4 h7 ce Y ad af b8 aa ba az fx f5 f8 cp n5 n8 aq c8 up
 refine bp.get O.cl_PX O.n_PX_pieces (by walk_at "lk") ⟨pl,_,rfl,.inl (SqL.of J.hpl),?_⟩
 rw [yAA,J.len]
 refine ZDt (by omega) (ZER (fun i σ X=>∃ v3 kvs wi,σ=[some (.ref x),some (.ref a),some (.ref hl),v3] /\ DT X wd wi i kvs /\ (∀ j,j < i->wi j (j+1)=some (frs pcs (List.replicate pcs.length 0) j)) /\ ∀ b o,b≠wd->a5 b=some o->X b=some o) ⟨_,[],fun _ _=>none,rfl,⟨ac,(fun kv h=>by cases h),yAB _,(fun _ _ _ h=>by cases h)⟩,fun j h=>by omega,fun b o _ h=>h⟩ ?_ ?_)
 .rintro i σ X hi ⟨v3,kvs,wi,rfl,d1,cx,kX⟩
  have c6:i < pcs.length:=by omega
  obtain ⟨zs,ax⟩:∃ zs,pcs[i]?=some zs:=⟨_,yAD c6⟩
  have am:PB bb C_PX X x a pl tk ml wd pls pcs:=⟨ZCJ (S:=[wd]) (fun b o n h=>kX b o (fun z=>n (by rw [z];exact yAF)) h) (fun z=>ae (yAN.mp z).symm) J.hp,kX _ _ c4 J.hpl,J.len,fun j l ys h1 h2=>kX _ _ (ao l (yAL h1)).1 (J.pc j l ys h1 h2)⟩
  walk_at "rd"
  rw [Int.zero_add]
  refine am.hp.meth (by walk_at "lk") ⟨x,a,pl,tk,ml,wd,pls,pcs,i,0,zs,rfl,am,ax,fun u X2 bh fv=>?_⟩
  refine (am.mono bh).hp.get O.cl_PX O.n_PX_went_on (by walk_at "lk") ?_
  walk_at "rd"
  refine ⟨ZAb (by decide),fun k1 d3=>?_⟩
  obtain ⟨X3,e3,bj,cv⟩:=newH d3 (.tup [.int (i:Int),.int ((i+1:Nat):Int)])
  rw [show (i:Int)+1=((i+1:Nat):Int) by omega,e3];clear e3
  have bf:=(d1.mono bh).mono bj
  refine ⟨wd,_,rfl,DPut.t (k:=kQ i (i+1)) bf.hd cv (ZBA (by have:=bf.len;omega)),?_⟩
  refine ⟨_,putK kvs (kQ i (i+1)) u,Po.put wi i (i+1) (ZCs zs 0 i),rfl,bf.put (by omega) (by omega) (fv.keep fun _ _ z=>bj _ _ z) (.inl rfl),fun j hj=>?_,fun b o n h=>by rw [ZAG n];exact bj _ _ (bh _ _ (kX b o n h))⟩
  unfold Po.put
  by_cases z:j=i
  .rw [if_pos ⟨z,by omega⟩,z,ZFG ax (by rw [List.getElem?_replicate,if_pos c6])]
  .rw [if_neg (by omega)]
   exact cx j (by omega)
 rintro σ X ⟨v3,kvs,wn,rfl,be,co,kX⟩
 rw [Int.toNat_natCast] at be co
 walk_at "rd"
 refine ZAW ?_
 walk_at "rd"
 have iX:Ins X x C_PX (fP a pl tk ml wd):=ZCJ (S:=[wd]) (fun b o n h=>kX b o (fun z=>n (by rw [z];exact yAF)) h) (fun z=>ae (yAN.mp z).symm) bp
 have ca:SitL mo C_Asker C_AskedRule X ks xs a rl ru tl g lg pr:=ci.but fun b o hb n=>kX b o (fun z=>by rw [z,ac] at hb;exact n _ (Option.some.inj hb).symm) hb
 have bc:=kX _ _ cy bo
 have bd:MsAt X an (Po.mts 0 pcs.length):=bq.keep fun t z h=>kX _ _ (fun e=>by rw [e,ac] at h;cases h) h
 obtain ⟨w1,c7,b6⟩:∃ w1,Po.run (ahB bb ks) (Po.mts 0 pcs.length) (wn,[])=some (w1,Po.asks (fun _=>true) (ahB bb ks) (frs pcs (List.replicate pcs.length 0)) 0 pcs.length) /\ (0 < pcs.length->Po.Right (ahB bb ks) (frs pcs (List.replicate pcs.length 0)) w1 0 pcs.length):=by
  by_cases hz:0 < pcs.length
  .obtain ⟨w1,a1,a2⟩:=Po.make_runs (ah:=ahB bb ks) (fr:=frs pcs (List.replicate pcs.length 0)) (w:=wn) [] hz co
   exact ⟨w1,a1,fun _=>a2⟩
  .rw [Po.mts_leaf (by omega),Po.asks_leaf (by omega)]
   exact ⟨wn,rfl,fun z=>absurd z hz⟩
 have c9:=asks_fine (ks:=ks) (ts:=List.replicate pcs.length 0) (D:=fun _=>true) (ah:=ahB bb ks) (f:=0) (b:=pcs.length) (fun ys h=>(cf ys h).2) cn
 have dc:=ZCj (pcs:=pcs) (ts:=List.replicate pcs.length 0) (D:=fun _=>true) (ah:=ahB bb ks) (n:=pcs.length)
 refine iX.meth (by walk_at "lk") (iX.get O.cl_PX O.n_PX_meetings (by walk_at "lk") (iX.get O.cl_PX O.n_PX_went_on (by walk_at "lk") ?_))
 have sM:=st.newS ch
 refine ⟨mo,ks,xs,a,rl,ru,tl,g,lg,x,pl,tk,ml,wd,ml,wd,pr,an,Po.mts 0 pcs.length,wn,w1,_,pcs.length,1,kvs,rfl,ca,iX,nx,sM,bc,bd,by rw [Po.mts_len];omega,fun m hm=>?_,be,by omega,c7,c9,.inl rfl,by omega,(fun k H' d e1 e2 e3 e5 e6 e7=>ex k H' d e1 e2 e3 (fun b o n1 n2 h=>e5 b o n2 (kX b o (fun z=>by rw [z,cj] at h;cases h) (b4 b o n1 h))) e6 e7),fun d cr c5 aj a0 a6 cm=>?_⟩
 .have:=Po.mts_mem (a:=m.1) (m:=m.2.1) (c:=m.2.2) _ _ hm
  omega
 have bt:=ZCJ aj nx iX
 refine bt.set O.cl_PX O.n_PX_went_on (fun bu d5 d7=>?_) ⟨_,by walk_at "lk"⟩
 have c0:d≠x:=fun z=>by
  obtain ⟨_,_,e1,_⟩:=iX.ex
  rw [z,e1] at a0;cases a0
 have b3:∀ b o,b≠x->cr b=some o->bu b=some o:=fun b o n h=>by rw [d7 b n];exact h
 have gd:H d=none:=by
  cases e:H d with
  | none=>rfl
  | some o=>
   have h1:=b4 d o c0 e
   by_cases z:d=wd
   .rw [z,be.hd] at a0;cases a0
   .rw [kX d o z h1] at a0;cases a0
 have am:PB bb C_PX X x a pl tk ml wd pls pcs:=⟨iX,kX _ _ c4 J.hpl,J.len,fun j l ys h1 h2=>kX _ _ (ao l (yAL h1)).1 (J.pc j l ys h1 h2)⟩
 have aw:=am.fr aj nx (st.newS cq) fun l h=>st.newS (b9 l h)
 obtain ⟨da,d9,d6,_⟩:=bt.ex
 have tX:∀ b o,cr b=some o->(∀ C d f,o≠.ins C d f)->bu b=some o:=fun b o h n=>b3 b o (fun z=>by
  rw [z,d6] at h;exact n _ _ _ (Option.some.inj h).symm) h
 refine q pl tk ml d pls w1 bu c5 (fun b o n1 n2 h=>?_) ⟨⟨d5.congr fun f=>by
   simp only [ZAV,lkc]
   by_cases z:f=Str.ofString "went_on"
   .rw [if_pos z,if_pos z]
   .rw [if_neg z,if_neg z,if_neg z],tX _ _ aw.hpl (fun _ _ _ z=>by cases z),aw.len,fun j l ys h1 h2=>tX _ _ (aw.pc j l ys h1 h2) (fun _ _ _ z=>by cases z)⟩,tX _ _ (aj _ _ (st.newS cc) (kX _ _ cu bv)) (fun _ _ _ z=>by cases z),⟨an,tX _ _ (aj _ _ sM bc) (fun _ _ _ z=>by cases z),(bd.keep fun t z h=>aj _ _ (ca.tupS h (fun _ z=>by cases z) (fun _ _ _ z=>by cases z)) h).keep fun t z h=>tX _ _ h (fun _ _ _ z=>by cases z)⟩,?_,by rw [yBX],?_⟩ b6 ⟨cq,cc,ch,gd,b9⟩ ?_
 .have n3:b≠wd:=fun z=>by rw [z,cj] at h;cases h
  exact b3 b o n1 (aj _ _ n2 (kX b o n3 (b4 b o n1 h)))
 .have e:pcs.length+1 * (Po.mts 0 pcs.length).length=2 * pcs.length-1:=by rw [Po.mts_len];omega
  rw [e] at a6
  exact ⟨b3 d _ c0 a6.hd,a6.sm,a6.len,fun a c v h=>let ⟨u,h1,h2⟩:=a6.val a c v h;⟨u,h1,h2.keep fun t z y=>tX _ _ y (fun _ _ _ z=>by cases z)⟩⟩
 .exact ⟨bx,bn,fun l h=>(ao l h).2⟩
 .exact cm.butI bt nx b3
theorem ok_Pour_take {f:Addr} {fd:FuncData} (F:Fun K "take" "Pour.take" ZBG f fd) (T:Bt K mg C_Pour C_LastPour C_Asker C_AskedRule C_HallError C_NoPlace C_TooFar C_Spent) (TX:BtX K C_PX)
  (Y:Mt P w K mg base CX0 C_PX "top" 1 ["self"] (ZE0 bb C_PX))
  (J:Mt P w K mg base CX0 C_PX "front_of" 1 ["self","piece","taken"] (ZBm bb C_PX))
  (O:Mt P w K mg base (CXE P w) C_PX "held" 6 ["self","meetings","went_on"] (ZDx C_Asker C_AskedRule C_Spent bb C_PX))
 :FnOk P w K mg base (CXE P w) 7 f fd ["self"] (ZBf C_Asker C_AskedRule C_Spent bb C_PX):=by
 refine F.okX sc_Pour_take (fun vs H Q E h=>?_) (fun bz A outer s H vs Q E hr h=>?_)
 .obtain ⟨mo,ks,xs,a,rl,ru,tl,g,lg,p,pl,tk,ml,wd,pr,pls,pcs,ts,w0,kvs,rfl,st,U,px,hn,ay,b4,hR,bf,ex,q1,q2⟩:=h
  rfl
 obtain ⟨mo,ks,xs,a,rl,ru,tl,g,lg,p,pl,tk,ml,wd,pr,pls,pcs,ts,w0,kvs,rfl,st,U,px,hn,ay,b4,hR,bf,ex,q1,q2⟩:=h
 refine ⟨_,(ZAC (PS.nox (ZAO (i:=1) sc_Pour_take.nd rfl (by walk_at "o") (ZAt Y (hr.mono (by decide)) ZAY (pv 0))))
  (ZAC (PS.nox (ZA4 (ZAQ ZCq (pv 1) ZBE (ZAS _))
  (ZAI (ZAX ZBE)) ZAa))
  (ZAR
  (ZAC (PS.nox (ZAO (i:=2) sc_Pour_take.nd rfl (by walk_at "o") (ZBC ZCD (pv 1) ZAH (fun _ _=>rfl))))
  (ZAC (PS.nox (ZAO (i:=3) sc_Pour_take.nd rfl (by walk_at "o") (ZAT ZBd (ZBC ZBK (ZAh (pv 0) rfl) (pv 2) (fun _ _=>rfl)) ZAH)))
  (ZAR
  (ZAC (PS.nox (ZBp (i:=4) sc_Pour_take.nd rfl (Or.inl rfl) rfl (k:=1) (js:=[2]) (N':=["meeting","piece"]) (by rfl) (ZAv (ZAh (pv 0) rfl)) (fun _ _ _ _=>ZAZ (i:=0) (show (["meeting","piece"]:List Str).Nodup by decide +kernel) rfl (by walk_at "o")) (fun _ _ _ _=>(pifs_one (PW.pt (ZEZ (ZAQ op_le (ZBC (ZEO K) (pv 0) ZAH (fun _ _=>rfl)) (pv 1) (ZAS _)) (ZEJ (ZAQ ZD3 (pv 1) (ZBC (ZEO K) (pv 0) ZAH (fun _ _=>rfl)) (ZAS _))))))) (fun _ _ _ _=>(pv 0))))
  (ZAR
  (ZAC (PS.nox (ZAO (i:=5) sc_Pour_take.nd rfl (by walk_at "o") (ZBs (call_dictC) rfl T.b_dict PyProof.Rows.boot_dict (ZAA (ZAh (pv 0) rfl) ZAE))))
  (ZAR
  (ZAC (PS.nox (ZEK (ZEp hr) (pv 5) (ZBP (ZAA (pv 2) (ZAA (ZAT ZBd (pv 2) ZAH) ZAE))) (ZDI J (hr.mono (by decide)) ZAY (pv 0) (ZAA (pv 2) (ZAA (pv 3) ZAE))) rfl))
  (ZAR
  (ZAC (ZBq (pv 0) (ZDI O (hr.mono (by decide)) ZFA (pv 0) (ZAA (pv 4) (ZAA (pv 5) ZAE))) rfl)
  (ZAR
  (ZAC (PS.nox (ZE7 (pv 3) (pg_sub (ZAh (pv 0) rfl) (pv 2) set_list)))
  (ZAI (PS.nox (ZAX (ZBC ZCD (pv 1) ZAH (fun _ _=>rfl)))))))))))))))))))),?_⟩
 walk_at "rd"
 have ad:w0 0 pcs.length=some (if 0 < pcs.length then Po.best (ahB bb ks) (frs pcs ts) 0 pcs.length else none)∨2 * pcs.length-1=0 /\ (if 0 < pcs.length then Po.best (ahB bb ks) (frs pcs ts) 0 pcs.length else none)=none:=by
  by_cases hz:0 < pcs.length
  .rw [if_pos hz];exact .inl ((hR hz).top hz)
  .rw [if_neg hz];exact .inr ⟨by omega,rfl⟩
 refine U.pb.hp.meth (by walk_at "lk") ⟨p,a,pl,tk,ml,wd,pls,pcs,w0,_,kvs,_,rfl,U.pb,U.hwd,ad,fun u H1 s1 fv=>?_⟩
 walk_at "rd"
 by_cases hz:0 < pcs.length
 case neg=>
  rw [if_neg hz] at fv
  cases (show u=V.non from fv)
  rw [if_pos rfl]
  exact q1 (.inl (by omega)) H1 s1
 rw [if_pos hz] at fv
 have hR:=hR hz
 cases htp:Po.best (ahB bb ks) (frs pcs ts) 0 pcs.length with
 | none=>
  rw [htp] at fv
  cases (show u=V.non from fv)
  rw [if_pos rfl]
  exact q1 (.inr htp) H1 s1
 | some xi=>
 rw [htp] at fv
 obtain ⟨x,i⟩:=xi
 obtain ⟨t0,rfl,al⟩:=fv
 rw [if_neg (fun z=>by cases z)]
 obtain ⟨j0,_,a5,bg⟩:=Po.best_mem _ _ hz htp
 obtain ⟨zs,b5,ba,b3⟩:=ZC2 bg
 dsimp only at ba b3
 subst b3
 obtain ⟨t,ht⟩:∃ t,ts[i]?=some t:=⟨_,yAD (show i < ts.length by rw [U.tlen];exact a5)⟩
 have bx:=st.mono s1
 have aa:=U.mono s1
 clear ad q1
 refine ZAW ?_
 walk_at "rd"
 refine ZBh (SqT.of al) (ZAq (by decide) rfl) ?_
 walk_at "rd"
 refine aa.pb.hp.get TX.cl_PX TX.n_PX_taken (by walk_at "lk") (ZBi (SqL.of aa.htk) (ZFJ ht) ?_)
 walk_at "rd"
 rw [show (t:Int)+1=((t+1:Nat):Int) by omega]
 refine ZAW ?_
 walk_at "rd"
 obtain ⟨bt,ae,a8⟩:=aa.hml
 refine aa.pb.hp.get TX.cl_PX TX.n_PX_meetings (by walk_at "lk") ?_
 have aw:=a8.len
 rw [Po.mts_len] at aw
 refine ZBT (SqL.of ae) (by omega) (fun k ys σ H'=>∃ v,σ=[v,some (.int (i:Int))] /\ Same H1 H' /\ MsAt H' ys (((Po.mts 0 pcs.length).take k).filter (Po.onWay i))) ⟨_,rfl,.refl _,MsAt.nil⟩ (fun k ys σ H' _ ⟨_,_,e,hM⟩=>⟨SqL.of (e _ _ ae),by rw [hM.len];exact yAG (yCP _ _) (by rw [yAP];omega)⟩) ?_ ?_
 .rintro k ys u σ H' hk hu ⟨v,rfl,sA,hM⟩
  obtain ⟨m,hm⟩:∃ m,(Po.mts 0 pcs.length)[k]?=some m:=⟨_,yAD (by rw [Po.mts_len];omega)⟩
  obtain ⟨tm,b2,bn⟩:=a8.get k m hm
  rw [hu] at b2
  cases b2
  have aj:=sA _ _ bn
  have am:(Po.mts 0 pcs.length).take (k+1)=(Po.mts 0 pcs.length).take k++[m]:=by rw [yCA,hm];rfl
  walk_at "rd"
  refine ZBh (SqT.of aj) (ZAq (by decide) rfl) ?_
  walk_at "rd"
  by_cases h1:(m.1:Int) <= i
  .rw [if_pos h1]
   refine ZBh (SqT.of aj) (ZAq (by decide) rfl) ?_
   walk_at "rd"
   by_cases h2:(i:Int) < m.2.2
   .rw [if_pos h2]
    refine Nxt.of hk ⟨_,rfl,sA,?_⟩
    rw [am,yBN,yBZ (by unfold Po.onWay;rw [decide_eq_true (by omega),decide_eq_true (by omega)];rfl)]
    exact hM.app (MsAt.one aj)
   .rw [if_neg h2]
    refine Nxt.of hk ⟨_,rfl,sA,?_⟩
    rw [am,yBN,yBV (by unfold Po.onWay;rw [decide_eq_false (show ¬ i < m.2.2 by omega),Bool.and_false];decide),List.filter_nil,yBA]
    exact hM
  .rw [if_neg h1]
   refine Nxt.of hk ⟨_,rfl,sA,?_⟩
   rw [am,yBN,yBV (by unfold Po.onWay;rw [decide_eq_false (show ¬ m.1 <= i by omega),Bool.false_and];decide),List.filter_nil,yBA]
   exact hM
 rintro ys σ H2 ⟨v,rfl,s2,aq⟩ wy af
 rw [a8.len,yBH (yAB _)] at aq
 obtain ⟨H3,e3,s3,h3⟩:=newH af (.lst ys)
 rw [e3];clear e3
 have S3:=s1.trans (s2.trans s3)
 have ak:=U.mono S3
 refine ZAW ?_
 walk_at "rd"
 refine ak.pb.hp.get TX.cl_PX TX.n_PX_went_on (by walk_at "lk") ⟨wd,kvs,rfl,ak.hwd.hd,ak.hwd.sm,fun d2 ao=>?_⟩
 obtain ⟨H4,e4,s4,h4⟩:=newH ao (.dT kvs)
 rw [e4];clear e4
 have S4:=S3.trans s4
 have a7:=U.mono S4
 have ar:DT H4 d2 w0 (2 * pcs.length-1) kvs:=⟨h4,a7.hwd.sm,a7.hwd.len,a7.hwd.val⟩
 refine ZAW ?_
 walk_at "rd"
 refine a7.pb.hp.meth (by walk_at "lk") ⟨p,a,pl,tk,ml,wd,pls,pcs,i,t+1,zs,rfl,a7.pb,b5,fun u H5 s5 fv=>?_⟩
 walk_at "rd"
 rw [show (i:Int)+1=((i+1:Nat):Int) by omega]
 refine ⟨ZAb (by decide),fun k1 b7=>?_⟩
 obtain ⟨H6,e6,s6,h6⟩:=newH b7 (.tup [.int (i:Int),.int ((i+1:Nat):Int)])
 rw [e6];clear e6
 have a1:=(ar.mono s5).mono s6
 have hB:2 * pcs.length-1 <= 400:=by omega
 refine ⟨d2,_,rfl,DPut.t (k:=kQ i (i+1)) a1.hd h6 (ZBA (by have:=a1.len;omega)),?_⟩
 have a4:=a1.put (a:=i) (c:=i+1) (k:=0) (by omega) (by omega) (fv.keep fun _ _ z=>s6 _ _ z) (.inr (by rw [hR.1 i (yAH _) a5];rfl))
 rw [Nat.add_zero] at a4
 have S6:=S4.trans (s5.trans s6)
 have b8:H d2=none:=S3.free ao
 have k7:∀ b o,b≠d2->H6 b=some o->upd H6 d2 (.dT (putK kvs (kQ i (i+1)) u)) b=some o:=fun b o n h=>by rw [ZAG n];exact h
 have S7:Same H (upd H6 d2 (.dT (putK kvs (kQ i (i+1)) u))):=fun b o h=>k7 b o (ZAB h b8) (S6 _ _ h)
 have a2:=(s4.trans (s5.trans s6)) _ _ h3
 have ag:=k7 wy _ (fun z=>by rw [z,a1.hd] at a2;cases a2) a2
 have b1:=aq.keep fun b z h=>by
  have a0:=(s3.trans (s4.trans (s5.trans s6))) _ _ h
  exact k7 b _ (fun z=>by rw [z,a1.hd] at a0;cases a0) a0
 have bc:ZCs zs (t+1) i=frs pcs (ts.set i (t+1)) i:=(ZFG b5 (by rw [yCI,if_pos rfl,if_pos (by rw [U.tlen];exact a5)])).symm
 rw [bc] at a4
 have b9:∀ b z,H1 b=some (.tup z)->upd H6 d2 (.dT (putK kvs (kQ i (i+1)) u)) b=some (.tup z):=fun b z h=>by
  have a0:=(s2.trans (s3.trans (s4.trans (s5.trans s6)))) _ _ h
  exact k7 b _ (fun z=>by rw [z,a1.hd] at a0;cases a0) a0
 generalize upd H6 d2 (.dT (putK kvs (kQ i (i+1)) u))=H7 at a4 S7 ag b1 b9 ⊢
 generalize putK kvs (kQ i (i+1)) u=kv7 at a4
 have bi:∀ b z,H1 b=some (.tup z)->H7 b=some (.tup z):=fun b z h=>b9 b z h
 have az:=st.mono S7
 have L:=U.mono S7
 have c0:=al
 obtain ⟨w1,ac,bh⟩:=Po.take_runs (ah:=ahB bb ks) (fr:=frs pcs ts) (fr':=frs pcs (ts.set i (t+1))) (w:=w0) [] a5 hR fun j hj=>frs_set hj
 rw [yCX] at ac
 have av:=asks_fine (ks:=ks) (ts:=ts.set i (t+1)) (D:=Po.onWay i) (ah:=ahB bb ks) (f:=0) (b:=pcs.length) ay b4
 have bw:=ZCj (pcs:=pcs) (ts:=ts.set i (t+1)) (D:=Po.onWay i) (ah:=ahB bb ks) (n:=pcs.length)
 have bp:H wy=none:=(s1.trans s2).free af
 clear k7 a1 ar s6 S6 a2 h6 b7
 refine ZAW ?_
 walk_at "rd"
 refine L.pb.hp.meth (by walk_at "lk") ⟨mo,ks,xs,a,rl,ru,tl,g,lg,p,pl,tk,ml,wd,wy,d2,pr,ys,_,_,w1,_,2 * pcs.length-1,0,kv7,rfl,az,L.pb.hp,px.p,st.newS bp,ag,b1,yAG (yCP _ _) (by rw [Po.mts_len];omega),fun m hm=>?_,a4,by omega,ac,av,.inr ⟨rfl,fun m hm=>?_⟩,by omega,(ex x i t htp ht).same S7.fr,fun d8 H8 kv8 f8 a9 a6 br=>?_⟩
 .have:=Po.mts_mem (a:=m.1) (m:=m.2.1) (c:=m.2.2) _ _ (yBO.mp hm).1
  omega
 .have bd:=(yBO.mp hm).1
  unfold Po.put
  split
  .rfl
  .exact Right.at hR bd
 have i8:=ZCJ f8 px.p L.pb.hp
 refine i8.set TX.cl_PX TX.n_PX_went_on (fun H9 i9 k9=>?_) ⟨_,by walk_at "lk"⟩
 have ai:Ins H9 p C_PX (fP a pl tk ml d8):=i9.congr fun f=>by
  simp only [ZAV,lkc]
  by_cases z:f=Str.ofString "went_on"
  .rw [if_pos z,if_pos z]
  .rw [if_neg z,if_neg z,if_neg z]
 obtain ⟨bv,c3,e8,_⟩:=i8.ex
 have e9:∀ b o,b≠p->H8 b=some o->H9 b=some o:=fun b o n h=>by rw [k9 b n];exact h
 have tX:∀ b o,H8 b=some o->(∀ C d f,o≠.ins C d f)->H9 b=some o:=fun b o h n=>e9 b o (fun z=>by rw [z,e8] at h;exact n _ _ _ (Option.some.inj h).symm) h
 have a3:=tX _ _ (f8 _ _ px.tk L.htk) (fun _ _ _ z=>by cases z)
 have bo:=br.butI i8 px.p e9
 have bu:d8≠p:=fun z=>by
  obtain ⟨_,_,e1,_⟩:=L.pb.hp.ex
  rw [z,e1] at a9;cases a9
 have ax:d8≠tk:=fun z=>by rw [z,L.htk] at a9;cases a9
 refine ZAW ?_
 walk_at "rd"
 refine ai.get TX.cl_PX TX.n_PX_taken (by walk_at "lk") ?_
 refine ⟨tk,_,_,_,rfl,rfl,a3,ixN_of (by omega) (by rw [yAA,U.tlen];omega),?_⟩
 rw [Int.toNat_natCast]
 have Z:∀ b o,b≠tk->H9 b=some o->upd H9 tk (.lst ((nL ts).set i (.int ((t+1:Nat):Int)))) b=some o:=fun b o n h=>by rw [ZAG n];exact h
 have au:upd H9 tk (.lst ((nL ts).set i (.int ((t+1:Nat):Int)))) tk=some (.lst (nL (ts.set i (t+1)))):=by
  rw [ZAF];unfold nL;rw [List.map_set]
 generalize upd H9 tk (.lst ((nL ts).set i (.int ((t+1:Nat):Int))))=H10 at Z au ⊢
 have be:p≠tk:=fun z=>by
  obtain ⟨_,_,e1,_⟩:=ai.ex
  rw [z,a3] at e1;cases e1
 have up:∀ b o,b∉[a,lg,tl]->b≠tk->H7 b=some o->(∀ C d f,o≠.ins C d f)->H10 b=some o:=fun b o n1 n2 h n3=>Z b o n2 (tX _ _ (f8 _ _ n1 h) n3)
 have tS:∀ b z,H7 b=some (.tup z)->H10 b=some (.tup z):=fun b z h=>up b _ (az.tupS h (fun _ z=>by cases z) (fun _ _ _ z=>by cases z)) (fun y=>by rw [y,L.htk] at h;cases h) h (fun _ _ _ z=>by cases z)
 have bq:=tS _ _ (bi t0 _ al)
 obtain ⟨bj,b6,ap⟩:=L.hml
 rw [Nat.zero_mul,Nat.add_zero] at a6
 have b0:PourAt bb C_PX H10 p a pl tk ml d8 pls pcs (ts.set i (t+1)) w1 kv8:=⟨⟨ZCJ (S:=[tk]) (fun b o n h=>Z b o (fun z=>n (by rw [z];exact yAF)) h) (fun z=>be (yAN.mp z)) ai,up _ _ px.pl (Ne.symm U.ne.1) L.pb.hpl (fun _ _ _ z=>by cases z),U.pb.len,fun j l ys h1 h2=>up _ _ (px.ls l (yAL h1)) (U.ne.2.2 l (yAL h1)) (L.pb.pc j l ys h1 h2) (fun _ _ _ z=>by cases z)⟩,au,⟨bj,up _ _ px.ml (Ne.symm U.ne.2.1) b6 (fun _ _ _ z=>by cases z),ap.keep tS⟩,⟨Z _ _ ax (tX _ _ a6.hd (fun _ _ _ z=>by cases z)),a6.sm,a6.len,fun b c v h=>let ⟨u,h1,h2⟩:=a6.val b c v h;⟨u,h1,h2.keep fun t z y=>Z _ _ (fun e=>by rw [e,f8 _ _ px.tk L.htk] at y;cases y) (tX _ _ y (fun _ _ _ z=>by cases z))⟩⟩,by rw [yCB];exact U.tlen,U.ne⟩
 have an:=bo.apartP (S:=[tk]) (H':=H10) (fun b o n h=>Z b o (fun z=>n (by rw [z];exact yAF)) h) (fun b hb=>by rw [yAN.mp hb];exact ⟨_,a3⟩) ⟨fun z=>px.r (yAN.mp z),fun z=>px.tk (by rw [<- yAN.mp z];exact yAM _ yAF),fun z=>px.tk (by rw [<- yAN.mp z];exact yAM _ (yAM _ yAF))⟩
 walk_at "rd"
 refine ZBh (SqT.of bq) (ZAq (by decide) rfl) ?_
 refine q2 x i t hz htp a5 ht d8 w1 H10 kv8 (fun b o n h=>?_) b0 bh an
 have m:∀ c,c∈[p,tk,a,lg,tl]->b≠c:=fun c hc z=>n (by rw [z];exact hc)
 exact Z b o (m tk (by simp)) (e9 b o (m p (by simp)) (f8 b o (fun z=>n (yAM _ (yAM _ z))) (S7 _ _ h)))
theorem ok_Pour_left {f:Addr} {fd:FuncData} (F:Fun K "left" "Pour.left" ZBH f fd) (T:Bt K mg C_Pour C_LastPour C_Asker C_AskedRule C_HallError C_NoPlace C_TooFar C_Spent) (U:BtX K C_PX)
 :FnOk P w K mg base CX0 1 f fd ["self"] (ZBO bb C_PX):=by
 refine F.ok sc_Pour_left (fun vs H Q E h=>?_) (fun a0 A outer s H vs Q E hr h=>?_)
 .obtain ⟨p,ak,pl,tk,ml,wd,pls,pcs,ts,rfl,z,htk,hpl,htl,L,O,q⟩:=h
  rfl
 obtain ⟨p,ak,pl,tk,ml,wd,pls,pcs,ts,rfl,z,htk,hpl,htl,L,O,q⟩:=h
 refine ⟨_,(ZAI (ZAX (ZAT ZCC (ZAL (call_sum rfl) rfl T.b_sum PyProof.Rows.boot_sum (ZAA (ZB1 rfl (k:=1) (js:=[]) (N':=["piece"]) (by rfl) (ZAv (ZAh (pv 0) rfl)) (fun _ _ _ _=>ZAZ (i:=0) (show (["piece"]:List Str).Nodup by decide +kernel) rfl (by walk_at "o")) (fun _ _ _ _=>ZA1) (fun _ _ _ _=>(ZAL (call_len_seqK K) rfl T.b_len PySem.boot_len (ZAA (pv 0) ZAE)))) ZAE)) (ZAL (call_sum rfl) rfl T.b_sum PyProof.Rows.boot_sum (ZAA (ZAh (pv 0) rfl) ZAE))))),?_⟩
 walk_at "rd"
 refine z.hp.get U.cl_PX U.n_PX_pieces (by walk_at "lk") ?_
 walk_at "rd"
 refine ZBT (SqL.of z.hpl) (by rw [yAA,z.len];omega) (fun i ys σ H'=>∃ v,σ=[v] /\ H'=H /\ ys=((pcs.take i).map fun xs=>((xs.length:Nat):Int)).map V.int) ⟨_,rfl,rfl,rfl⟩ (fun i ys σ H' _ ⟨_,_,e,Z⟩=>⟨by rw [e];exact SqL.of z.hpl,by rw [Z,yAA,yAA,yAP];omega⟩) ?_ ?_
 .rintro i ys x σ H' hi hx ⟨v,rfl,rfl,rfl⟩
  rw [yAA,z.len] at hi
  obtain ⟨xs,J⟩:∃ xs,pcs[i]?=some xs:=⟨_,yAD hi⟩
  obtain ⟨l,el,hl⟩:=z.at J
  rw [yAJ,el] at hx
  cases hx
  walk_at "rd"
  refine ⟨l,_,rfl,.inl (SqL.of hl),?_⟩
  refine Nxt.of (by rw [yAA,z.len];exact hi) ⟨_,rfl,rfl,?_⟩
  rw [yCA,J,yAT,yAT]
  show _=_++[V.int ((xs.length:Nat):Int)]
  rw [yAA,ZE4]
 rintro ys σ H' ⟨v,rfl,rfl,rfl⟩ sl Y
 rw [yAA,z.len,yBH (yAB _)]
 obtain ⟨H1,e1,s1,h1⟩:=newH Y (.lst ((pcs.map fun xs=>((xs.length:Nat):Int)).map V.int))
 rw [e1];clear e1
 refine ⟨sl,_,rfl,SqL.of h1,⟨by rw [yAA];omega,fun x hx=>by
  obtain ⟨xs,h2,rfl⟩:=yBF.mp hx
  have:=L xs h2
  omega⟩,?_⟩
 refine (z.mono s1).hp.get U.cl_PX U.n_PX_taken (by walk_at "lk") ?_
 have Z:nL ts=(ts.map fun (n:Nat)=>(n:Int)).map V.int:=by unfold nL;rw [yCO];rfl
 refine ⟨tk,_,rfl,SqL.of (by rw [<- Z];exact s1 _ _ htk),⟨by rw [yAA];omega,fun x hx=>by
  obtain ⟨t,h2,rfl⟩:=yBF.mp hx
  have:=O t h2
  omega⟩,?_⟩
 rw [sum_nat,show (pcs.map fun xs=>((xs.length:Nat):Int))=(pcs.map List.length).map fun (n:Nat)=>(n:Int) by rw [yCO];rfl,sum_nat]
 exact q H1 s1
theorem ok_cell_at {f:Addr} {fd:FuncData} (F:Fun K "_law_cell_at" "_law_cell_at" ZBo f fd) (T:Bt K mg C_Pour C_LastPour C_Asker C_AskedRule C_HallError C_NoPlace C_TooFar C_Spent)
 :FnOk P w K mg base CX0 1 f fd ["_law_script","_law_k"] (ZDY K):=by
 refine F.ok sc_cell_at (fun vs H Q E h=>?_) (fun O A outer s H vs Q E U h=>?_)
 .obtain ⟨a,ns,k,rfl,J,L,q⟩:=h
  rfl
 obtain ⟨a,ns,k,rfl,J,L,q⟩:=h
 refine ⟨_,(ZAC (ZA4 (ZAQ ZD3 (pv 1) (ZAL ZAJ rfl T.b_len PySem.boot_len (ZAA (pv 0) ZAE)) (ZAS _))
  (ZAI (ZAX (ZBC ZBK (pv 0) (pv 1) (fun _ _=>rfl)))) ZAa)
  (ZAI (ZAX ZAH))),?_⟩
 walk_at "rd"
 refine ⟨a,_,rfl,.inl J,?_⟩
 walk_at "rd"
 rw [yAA]
 unfold cellOf at q
 split
 .rename_i hk
  rw [if_pos hk] at q
  have z:k.toNat < ns.length:=by omega
  refine ZBi J (ZCw L (yAD z)) ?_
  rw [yAD z] at q
  exact q
 .rename_i hk
  rw [if_neg hk] at q
  exact q
theorem ok_stream {f:Addr} {fd:FuncData} (F:Fun K "_law_stream" "_law_stream" ZCL f fd) (T:Bt K mg C_Pour C_LastPour C_Asker C_AskedRule C_HallError C_NoPlace C_TooFar C_Spent)
 :FnOk P w K mg base CX0 1 f fd ["_law_cell","_law_many"] (ZBw):=by
 refine F.ok sc_stream (fun vs H Q E h=>?_) (fun a0 A outer s H vs Q E hr h=>?_)
 .obtain ⟨c,m,rfl,Y,O,q⟩:=h
  rfl
 obtain ⟨c,m,rfl,Y,O,q⟩:=h
 refine ⟨_,(ZAC (ZAO (i:=2) sc_stream.nd rfl (by walk_at "o") (ZBr ZAE))
  (ZAC (ZAO (i:=3) sc_stream.nd rfl (by walk_at "o") (ZAT ZAu (pv 0) ZAH))
  (ZAC (ZCY PassesOwn.never rfl (ZCG rfl T.b_range (ZAA (pv 1) ZAE)) (ZAZ (i:=4) sc_stream.nd rfl (by walk_at "o"))
  (ZAC (ZAO (i:=3) sc_stream.nd rfl (by walk_at "o") (ZAT ZAu (ZAT ZBd (ZAT ZBd (ZAT ZBd (ZAT ZDe (pv 3) (pv 3)) (ZAT ZDe ZAH (pv 3))) (ZAT ZDe ZAH (pv 4))) ZAH) ZAH))
  (ZAI (ZBb (ZD0 PySem.F.plainAttrs_list PySem.F.slot_list_append PySem.F.type_list_append ZCH (pv 2) (ZAA (pv 3) ZAE))))))
  (ZAI (ZAX (pv 2)))))),?_⟩
 walk_at "rd"
 refine ⟨yAH _,fun l hl=>⟨by decide,?_⟩⟩
 have c0:=Int.emod_nonneg c (show (2147483629:Int)≠0 by decide)
 have c1:=Int.emod_lt_of_pos c (show (0:Int) < 2147483629 by decide)
 generalize c % 2147483629=L at c0 c1 ⊢
 refine ZDt (by omega) (ZER (fun i σ H'=>∃ (z:Int) (zs:List Int) (U:Option V),σ=[some (.int c),some (.int m),some (.ref l),some (.int z),U] /\ 0 <= z /\ z < 2147483629 /\ H'=upd H l (.lst (zs.map V.int)) /\ zs.length=i /\ ∀ x∈zs,0 <= x /\ x < 2 ^ 31) ⟨L,[],_,rfl,c0,c1,rfl,rfl,fun _ h=>nomatch h⟩ ?_ ?_)
 .rintro i σ H' hi ⟨z,zs,U,rfl,L,z1,rfl,hz,J⟩
  walk_at "rd"
  have Z:=Int.emod_nonneg (z * z+69621 * z+31 * (0+(i:Int))+5) (show (2147483629:Int)≠0 by decide)
  have y1:=Int.emod_lt_of_pos (z * z+69621 * z+31 * (0+(i:Int))+5) (show (0:Int) < 2147483629 by decide)
  refine ⟨.inl ⟨by omega,by omega⟩,.inl ⟨by decide,by decide⟩,.inl ⟨by decide,by decide⟩,by decide,.inl ⟨rfl,_,SqL.of ZAF⟩,l,zs.map V.int,_,rfl,rfl,ZAF,by rw [yAA];exact ZBA (by omega),?_⟩
  generalize (z * z+69621 * z+31 * (0+(i:Int))+5) % 2147483629=y at Z y1 ⊢
  refine ⟨y,zs++[y],_,rfl,Z,y1,by rw [ZEB,yAT];rfl,by rw [yAC,hz];rfl,fun x hx=>?_⟩
  rcases yAR.mp hx with h | h
  .exact J x h
  .rw [yAN.mp h];omega
 .rintro σ H' ⟨z,zs,U,rfl,L,z1,rfl,hz,J⟩
  walk_at "rd"
  exact q l _ zs (ZAK hl _) hl ZAF (by omega) J
theorem ok_blocks {f:Addr} {fd:FuncData} (F:Fun K "_law_blocks" "_law_blocks" ZCO f fd) (T:Bt K mg C_Pour C_LastPour C_Asker C_AskedRule C_HallError C_NoPlace C_TooFar C_Spent)
  (J:Fn P w K mg base CX0 "_law_stream" 1 ["_law_cell","_law_many"] (ZBw))
 :FnOk P w K mg base CX0 2 f fd ["_law_keys_here","_law_cell"] (ZBx):=by
 refine F.ok sc_blocks (fun vs H Q E h=>?_) (fun a6 A outer s H vs Q E hr h=>?_)
 .obtain ⟨a,ks,c,rfl,ha,hk,q⟩:=h
  rfl
 obtain ⟨a,ks,c,rfl,ha,hk,q⟩:=h
 refine ⟨_,(ZAC (ZAO (i:=2) sc_blocks.nd rfl (by walk_at "o") (ZBr ZAE))
  (ZAC (ZCY PassesOwn.never rfl (ZAv (ZAs J (hr.mono (by decide)) rfl ZAY (ZAA (pv 1) (ZAA (ZAL ZAJ rfl T.b_len PySem.boot_len (ZAA (pv 0) ZAE)) ZAE)))) (ZAZ (i:=3) sc_blocks.nd rfl (by walk_at "o"))
  (ZAC (ZAO (i:=4) sc_blocks.nd rfl (by walk_at "o") (ZAL ZB8 rfl T.b_sorted PyProof.Rows.boot_sorted (ZAA (ZBR ZBy (pv 0) (ZBc (ZAL ZAJ rfl T.b_len PySem.boot_len (ZAA (pv 2) ZAE))) (ZBc (ZAT ZBd (ZAT ZBd (ZAL ZAJ rfl T.b_len PySem.boot_len (ZAA (pv 2) ZAE)) ZAH) (ZAT ZAu (pv 3) ZAH)))) ZAE)))
  (ZAC (ZA4 (ZAQ ZB3 (ZAT ZAu (ZAT ZAw (pv 3) ZAH) ZAH) ZAH (ZAS _))
  (ZAI (ZBb (ZE9 PySem.F.plainAttrs_list PySem.F.slot_list_reverse PySem.F.type_list_reverse mt_reverse (pv 4)))) ZAa)
  (ZAI (ZAO (i:=2) sc_blocks.nd rfl (by walk_at "o") (ZAT ZEd (pv 2) (pv 4)))))))
  (ZAI (ZAX (pv 2))))),?_⟩
 walk_at "rd"
 refine ⟨yAH _,fun p hp=>⟨a,_,rfl,.inl (SqL.of (ZAK hp _ _ _ ha)),?_⟩⟩
 rw [yAA]
 refine ⟨c,ks.length,rfl,by omega,by omega,fun l H1 zs s1 hl h1 hz a0=>?_⟩
 refine ZCg (SqL.of h1) (fun i σ H'=>∃ (v3 v4:Option V) (r:Addr) (row:List Int),σ=[some (.ref a),some (.int c),some (.ref r),v3,v4] /\ H' l=some (.lst (zs.map V.int)) /\ H' r=some (.lst (row.map V.int)) /\ row.length <= ks.length /\ Same H H' /\ H r=none) ⟨_,_,p,[],rfl,h1,s1 _ _ ZAF,yAH _,(ZAK hp _).trans s1,hp⟩ (fun i σ H' _ ⟨v3,v4,r,row,_,h,_⟩=>SqL.of h) ?_ ?_
 .rintro i x σ H' hx ⟨v3,v4,r,row,rfl,U,z,a1,hs,hn⟩
  obtain ⟨n,a4,rfl⟩:=ZCr hx
  walk_at "rd"
  obtain ⟨z0,z1⟩:=a0 n (yAL a4)
  refine ⟨r,_,rfl,.inl (SqL.of z),r,_,rfl,.inl (SqL.of z),by decide,ZCW (SqL.of (hs _ _ ha)) fun p1 a3=>?_⟩
  rw [ZDQ,yAA]
  have a2:((ks.drop (HT.sIx ks.length 0 (some (row.length:Int)))).take (HT.sIx ks.length ks.length (some ((row.length:Int)+1+n % 9))-HT.sIx ks.length 0 (some (row.length:Int)))).length+row.length <= ks.length:=by
   rw [yAP,yBR,HT.sIx_nat]
   omega
  generalize (ks.drop (HT.sIx ks.length 0 (some (row.length:Int)))).take (HT.sIx ks.length ks.length (some ((row.length:Int)+1+n % 9))-HT.sIx ks.length 0 (some (row.length:Int)))=ws at a2 ⊢
  obtain ⟨H2,e2,s2,h2⟩:=newH a3 (.lst (ws.map V.int))
  rw [e2];clear e2
  refine ⟨p1,ws,rfl,SqL.of h2,by omega,fun l2 ms Z Y _=>⟨⟨by decide,by decide⟩,by decide,?_⟩⟩
  have a5:=Y.length_eq
  have nr:r≠l2:=ZAB (s2 _ _ z) Z
  have nl:l≠l2:=ZAB (s2 _ _ U) Z
  have fin:∀ us:List Int,us.length=ms.length->∀ p4,upd H2 l2 (.lst (us.map V.int)) p4=none->∃ (v3 v4:Option V) (r':Addr) (L:List Int),[some (V.ref a),some (.int c),some (.ref p4),some (.int n),some (.ref l2)]=[some (V.ref a),some (.int c),some (.ref r'),v3,v4] /\ (upd (upd H2 l2 (.lst (us.map V.int))) p4 (.lst (row.map V.int++us.map V.int))) l=some (.lst (zs.map V.int)) /\ (upd (upd H2 l2 (.lst (us.map V.int))) p4 (.lst (row.map V.int++us.map V.int))) r'=some (.lst (L.map V.int)) /\ L.length <= ks.length /\ Same H (upd (upd H2 l2 (.lst (us.map V.int))) p4 (.lst (row.map V.int++us.map V.int))) /\ H r'=none:=fun us hu p4 O=>by
   have S2:Same H (upd H2 l2 (.lst (us.map V.int))):=(hs.trans s2).new Z
   have el:upd H2 l2 (.lst (us.map V.int)) l=some (.lst (zs.map V.int)):=by rw [ZAG nl];exact s2 _ _ U
   exact ⟨_,_,p4,row++us,rfl,by rw [ZAG (ZAB el O)];exact el,by rw [ZAF,yAT],by rw [yAC];omega,S2.new O,S2.free O⟩
  split
  .refine ⟨.inl ⟨rfl,_,SqL.of ZAF⟩,l2,_,rfl,rfl,ZAF,?_⟩
   rw [ZEB,<- yCS]
   exact ⟨r,l2,_,_,rfl,rfl,by rw [ZAG nr];exact s2 _ _ z,ZAF,ZAb (by rw [yAA,yAA,yBS];omega),fin _ (yBS ..)⟩
  .exact ⟨r,l2,_,_,rfl,rfl,by rw [ZAG nr];exact s2 _ _ z,ZAF,ZAb (by rw [yAA,yAA];omega),fin _ rfl⟩
 .rintro σ H' ⟨v3,v4,r,row,rfl,U,z,a1,hs,hn⟩
  walk_at "rd"
  exact q r _ row hs hn z (by omega)
theorem ok_nearly {f:Addr} {fd:FuncData} (F:Fun K "_law_nearly" "_law_nearly" ZCM f fd) (T:Bt K mg C_Pour C_LastPour C_Asker C_AskedRule C_HallError C_NoPlace C_TooFar C_Spent)
  (O:Fn P w K mg base CX0 "_law_stream" 1 ["_law_cell","_law_many"] (ZBw))
 :FnOk P w K mg base CX0 2 f fd ["_law_keys_here","_law_cell"] (ZBx):=by
 refine F.ok sc_nearly (fun vs H Q E h=>?_) (fun a9 A outer s H vs Q E hr h=>?_)
 .obtain ⟨a,ks,c,rfl,ha,hk,q⟩:=h
  rfl
 obtain ⟨a,ks,c,rfl,ha,hk,q⟩:=h
 refine ⟨_,(ZAC (ZAO (i:=2) sc_nearly.nd rfl (by walk_at "o") (ZAL ZB8 rfl T.b_sorted PyProof.Rows.boot_sorted (ZAA (pv 0) ZAE)))
  (ZAC (ZCY PassesOwn.never rfl (ZAv (ZAs O (hr.mono (by decide)) rfl ZAY (ZAA (pv 1) (ZAA (ZAT ZAu (pv 1) ZAH) ZAE)))) (ZAZ (i:=3) sc_nearly.nd rfl (by walk_at "o"))
  (ZAI (ZA4 (ZAQ (ZEc hr.units) (pv 2) (ZBr ZAE) (ZAS _))
  (ZAC (ZAO (i:=4) sc_nearly.nd rfl (by walk_at "o") (ZAT ZAu (pv 3) (ZAL ZAJ rfl T.b_len PySem.boot_len (ZAA (pv 2) ZAE))))
  (ZAC (ZAO (i:=5) sc_nearly.nd rfl (by walk_at "o") (ZD0 PySem.F.plainAttrs_list PySem.F.slot_list_pop PySem.F.type_list_pop mt_popAt (pv 2) (ZAA (pv 4) ZAE)))
  (ZAI (ZBb (ZD0 PySem.F.plainAttrs_list PySem.F.slot_list_insert PySem.F.type_list_insert mt_insert (pv 2) (ZAA (ZAL (call_max2 rfl) rfl T.b_max PyProof.Rows.boot_max (ZAA ZAH (ZAA (ZAT ZCC (ZAT ZCC (pv 4) ZAH) (ZAT ZAu (ZAT ZAw (pv 3) ZAH) ZAH)) ZAE))) (ZAA (pv 5) ZAE))))))) ZAa)))
  (ZAI (ZAX (pv 2))))),?_⟩
 walk_at "rd"
 refine ⟨a,ks,rfl,SqL.of ha,by omega,fun r ms Z a2 _=>⟨by decide,?_⟩⟩
 have a8:=a2.length_eq
 refine ⟨c,c % 6,rfl,Int.emod_nonneg _ (by decide),by have:=Int.emod_lt_of_pos c (show (0:Int) < 6 by decide);omega,fun l H1 zs s1 hl h1 hz a3=>?_⟩
 refine ZCg (SqL.of h1) (fun i σ H'=>∃ (v3 v4 v5:Option V) (row:List Int),σ=[some (.ref a),some (.int c),some (.ref r),v3,v4,v5] /\ H' l=some (.lst (zs.map V.int)) /\ H' r=some (.lst (row.map V.int)) /\ row.length=ms.length /\ Same H H') ⟨_,_,_,ms,rfl,h1,s1 _ _ ZAF,rfl,(ZAK Z _).trans s1⟩ (fun i σ H' _ ⟨v3,v4,v5,row,_,h,_⟩=>SqL.of h) ?_ ?_
 .rintro i x σ H' hx ⟨v3,v4,v5,row,rfl,Y,J,U,hs⟩
  obtain ⟨n,a6,rfl⟩:=ZCr hx
  walk_at "rd"
  obtain ⟨z0,z1⟩:=a3 n (yAL a6)
  refine ⟨yAH _,fun p1 a5=>?_⟩
  obtain ⟨H2,e2,s2,h2⟩:=newH a5 (.lst [])
  rw [e2];clear e2
  refine neD_of Enc.int.list (by decide) (a:=row) (b:=[]) (dp_ints (SqL.of (s2 _ _ J))) (dp_ints (xs:=[]) (SqL.of h2)) ⟨_,rfl,?_⟩
  by_cases hrn:row=[]
  .rw [if_neg (by simp [hrn])]
   exact ⟨_,_,_,row,rfl,s2 _ _ Y,s2 _ _ J,U,hs.trans s2⟩
  rw [if_pos (by simp [hrn])]
  have a7:0 < row.length:=List.length_pos_iff.mpr hrn
  refine ⟨r,_,rfl,.inl (SqL.of (s2 _ _ J)),?_⟩
  rw [yAA]
  have a0:=Int.emod_nonneg n (show (row.length:Int)≠0 by omega)
  have a1:=Int.emod_lt_of_pos n (show (0:Int) < row.length by omega)
  obtain ⟨k,ek⟩:∃ k:Nat,n % (row.length:Int)=k:=⟨(n % (row.length:Int)).toNat,by omega⟩
  rw [ek] at a0 a1 ⊢
  have a4:k < row.length:=by omega
  refine ⟨by omega,.inl ⟨rfl,_,SqL.of (s2 _ _ J)⟩,r,_,k,k,.int row[k],rfl,rfl,s2 _ _ J,by omega,by omega,?_,by rw [yAJ,yAD a4];rfl,.inl ⟨rfl,_,SqL.of ZAF⟩,⟨by decide,by decide⟩,by decide,0,_,rfl,?_⟩
  .rw [yAA]
   exact PySem.StrLaws.seqIndex_nonneg (by omega) (by omega)
  rw [mx_eq]
  have m0:=Int.emod_nonneg (n / 997) (show (4:Int)≠0 by decide)
  have m1:=Int.emod_lt_of_pos (n / 997) (show (0:Int) < 4 by decide)
  generalize (n / 997) % 4=w4 at m0 m1 ⊢
  refine ⟨r,_,_,_,rfl,rfl,ZAF,by rw [List.length_eraseIdx,yAA];exact ZBA (by split <;> omega),by omega,?_⟩
  rw [ZEB]
  obtain ⟨L,er,aa⟩:∃ L:List Int,insV ((row.map V.int).eraseIdx k) (max 0 ((k:Int)-1-w4)) (.int row[k])=L.map V.int /\ L.length=row.length:=by
   have e1:(row.map V.int).eraseIdx k=(row.eraseIdx k).map V.int:=by rw [List.eraseIdx_eq_take_drop_succ,List.eraseIdx_eq_take_drop_succ,yAT,List.map_take,List.map_drop]
   rw [e1]
   unfold insV
   dsimp only
   generalize (if (max 0 ((k:Int)-1-w4)) < 0 then ((max 0 ((k:Int)-1-w4))+(((row.eraseIdx k).map V.int).length:Int)).toNat else min (max 0 ((k:Int)-1-w4)).toNat ((row.eraseIdx k).map V.int).length)=kk
   refine ⟨(row.eraseIdx k).take kk++row[k]::(row.eraseIdx k).drop kk,by rw [yAT,yAV,List.map_take,List.map_drop],?_⟩
   rw [yAC,yAQ,yAP,yBR,List.length_eraseIdx,if_pos a4]
   omega
  rw [er]
  have nl:l≠r:=fun z=>by
   rw [z] at hl
   rw [ZAF] at hl
   cases hl
  exact ⟨_,_,_,L,rfl,by rw [ZAG nl];exact s2 _ _ Y,ZAF,by omega,(hs.trans s2).upd Z⟩
 .rintro σ H' ⟨v3,v4,v5,row,rfl,Y,J,U,hs⟩
  walk_at "rd"
  exact q r _ row hs Z J (by omega)
theorem ok_digits {f:Addr} {fd:FuncData} (F:Fun K "_law_digits" "_law_digits" ZCN f fd) (T:Bt K mg C_Pour C_LastPour C_Asker C_AskedRule C_HallError C_NoPlace C_TooFar C_Spent)
  (Z:Fn P w K mg base CX0 "_law_stream" 1 ["_law_cell","_law_many"] (ZBw))
  (J:Fn P w K mg base CX0 "_law_cell_at" 1 ["_law_script","_law_k"] (ZDY K))
 :FnOk P w K mg base CX0 2 f fd ["_law_script","_law_k","_law_base"] (ZC6 K):=by
 refine F.ok sc_digits (fun vs H Q E h=>?_) (fun ai A outer s H vs Q E hr h=>?_)
 .obtain ⟨a,ns,k,b,rfl,hS,a9,hk,a0,ae,q⟩:=h
  rfl
 obtain ⟨a,ns,k,b,rfl,hS,a9,hk,a0,ae,q⟩:=h
 refine ⟨_,(ZAC (ZAO (i:=3) sc_digits.nd rfl (by walk_at "o") (ZAs Z (hr.mono (by decide)) rfl ZAY (ZAA (ZAT ZBd (ZAL ((call_sumB rfl)) rfl T.b_sum PyProof.Rows.boot_sum (ZAA (pv 0) ZAE)) (pv 1)) (ZAA ZAH ZAE))))
  (ZAC (ZAO (i:=4) sc_digits.nd rfl (by walk_at "o") (ZBr ZAE))
  (ZAC (ZCY PassesOwn.never rfl (ZAv (ZBr (ZAA (ZAs J (hr.mono (by decide)) rfl ZAY (ZAA (pv 0) (ZAA (pv 1) ZAE))) (ZAA (ZAs J (hr.mono (by decide)) rfl ZAY (ZAA (pv 0) (ZAA (ZAT ZBd (pv 1) ZAH) ZAE))) ZAE)))) (ZAZ (i:=5) sc_digits.nd rfl (by walk_at "o"))
  (ZAI (ZCY PassesOwn.never rfl (ZCG rfl T.b_range (ZAA ZAH ZAE)) (ZAZ (i:=6) sc_digits.nd rfl (by walk_at "o"))
  (ZAC (ZA4 (ZAQ ZD3 (pv 5) ZAH (ZAS _))
  (ZAI (ZAO (i:=5) sc_digits.nd rfl (by walk_at "o") (ZBC ZBK (pv 3) (ZAL ZAJ rfl T.b_len PySem.boot_len (ZAA (pv 4) ZAE)) (fun _ _=>rfl)))) ZAa)
  (ZAC (ZBb (ZD0 PySem.F.plainAttrs_list PySem.F.slot_list_append PySem.F.type_list_append ZCH (pv 4) (ZAA (ZAT ZAu (pv 5) (pv 2)) ZAE)))
  (ZAI (ZAO (i:=5) sc_digits.nd rfl (by walk_at "o") (ZAT ZAw (pv 5) (pv 2)))))))))
  (ZAI (ZAX (pv 4)))))),?_⟩
 walk_at "rd"
 refine ⟨a,ns,rfl,hS,_,120,rfl,by decide,by decide,fun sp H1 zs s1 ag h1 hz af=>⟨yAH _,fun l hl=>?_⟩⟩
 obtain ⟨H2,e2,s2,h2⟩:=newH hl (.lst [])
 rw [e2];clear e2
 have S2:Same H H2:=s1.trans s2
 refine ⟨a,ns,k,rfl,S2.seq hS,hk,?_⟩
 generalize cellOf ns k=c1
 refine ⟨a,ns,k+1,rfl,S2.seq hS,by omega,?_⟩
 generalize cellOf ns (k+1)=c2
 refine ⟨ZAb (by decide),fun tw a7=>?_⟩
 obtain ⟨H3,e3,s3,h3⟩:=newH a7 (.lst [.int c1,.int c2])
 rw [e3];clear e3
 have ad:tw≠l:=Ne.symm (ZAB h2 a7)
 have aa:sp≠l:=ZAB h1 hl
 have a6:=s3 _ _ (s2 _ _ h1)
 refine ZCg (SqL.of h3) (fun i σ H'=>∃ (v5 v6:Option V) (us:List Int),σ=[some (.ref a),some (.int k),some (.int b),some (.ref sp),some (.ref l),v5,v6] /\ H' l=some (.lst (us.map V.int)) /\ (∀ c,c≠l->H' c=H3 c) /\ us.length=60 * i /\ ∀ z∈us,0 <= z /\ z < b) ⟨_,_,[],rfl,s3 _ _ h2,fun _ _=>rfl,rfl,fun _ h=>nomatch h⟩ (fun i σ H' _ ⟨v5,v6,us,_,_,h,_⟩=>SqL.of (by rw [h _ ad];exact h3)) ?_ ?_
 .rintro i x σ H' hx ⟨v5,v6,us,rfl,a3,a4,a2,O⟩
  obtain ⟨c,rfl,hi⟩:∃ c:Int,x=.int c /\ i < 2:=by
   match i,hx with
   | 0,hx=>exact ⟨c1,(Option.some.inj hx).symm,by decide⟩
   | 1,hx=>exact ⟨c2,(Option.some.inj hx).symm,by decide⟩
  walk_at "rd"
  refine ZDt (by decide) (ZER (fun t σ H''=>∃ (c:Int) (v6:Option V) (us:List Int),σ=[some (.ref a),some (.int k),some (.int b),some (.ref sp),some (.ref l),some (.int c),v6] /\ H'' l=some (.lst (us.map V.int)) /\ (∀ c,c≠l->H'' c=H3 c) /\ us.length=60 * i+t /\ ∀ z∈us,0 <= z /\ z < b) ⟨c,_,us,rfl,a3,a4,by omega,O⟩ ?_ ?_)
  .rintro t σ H4 ht ⟨c,v6,us,rfl,U,a1,L,Y⟩
   have ah:t < 60:=ht
   walk_at "rd"
   have fin:∀ c:Int,∃ (c':Int) (v6:Option V) (a5:List Int),[some (V.ref a),some (V.int k),some (V.int b),some (V.ref sp),some (V.ref l),some (V.int (c / b)),some (V.int (0+(t:Int)))]=[some (V.ref a),some (V.int k),some (V.int b),some (V.ref sp),some (V.ref l),some (V.int c'),v6] /\ (upd H4 l (.lst (us.map V.int++[.int (c % b)]))) l=some (.lst (a5.map V.int)) /\ (∀ d,d≠l->upd H4 l (.lst (us.map V.int++[.int (c % b)])) d=H3 d) /\ a5.length=60 * i+(t+1) /\ ∀ z∈a5,0 <= z /\ z < b:=fun c=>by
    refine ⟨c / b,_,us++[c % b],rfl,by rw [ZAF,yAT];rfl,fun d hd=>by rw [ZAG hd];exact a1 d hd,by rw [yAC,L];rfl,fun z ac=>?_⟩
    rcases yAR.mp ac with h | h
    .exact Y z h
    .rw [yAN.mp h]
     exact ⟨Int.emod_nonneg _ (by omega),Int.emod_lt_of_pos _ a0⟩
   by_cases hc:c < 1
   .rw [if_pos hc]
    refine ⟨l,_,rfl,.inl (SqL.of U),?_⟩
    rw [yAA,L]
    have a8:60 * i+t < zs.length:=by omega
    refine ZBi (SqL.of (by rw [a1 _ aa];exact a6)) (ZCw (v:=zs[60 * i+t]) (by omega) (by rw [Int.toNat_natCast];exact yAD a8)) ?_
    walk_at "rd"
    exact ⟨.inl ⟨rfl,_,SqL.of U⟩,a0,l,_,_,rfl,rfl,U,by rw [yAA];exact ZBA (by omega),⟨a0,by omega⟩,fin _⟩
   .rw [if_neg hc]
    exact ⟨.inl ⟨rfl,_,SqL.of U⟩,a0,l,_,_,rfl,rfl,U,by rw [yAA];exact ZBA (by omega),⟨a0,by omega⟩,fin _⟩
  .rintro σ H4 ⟨c,v6,us,rfl,U,a1,L,Y⟩
   exact ⟨_,_,us,rfl,U,a1,by rw [L];show 60 * i+60=_;omega,Y⟩
 .rintro σ H' ⟨v5,v6,us,rfl,a3,a4,a2,O⟩
  walk_at "rd"
  have S3:Same H H':=fun c o h=>by
   rw [a4 c (ZAB (s1 _ _ h) hl)]
   exact s3 _ _ (S2 _ _ h)
  exact q l _ us S3 (s1.free hl) a3 (by rw [a2];rfl) O
theorem ok_keys {f:Addr} {fd:FuncData} (F:Fun K "_law_keys" "_law_keys" ZDb f fd) (T:Bt K mg C_Pour C_LastPour C_Asker C_AskedRule C_HallError C_NoPlace C_TooFar C_Spent)
  (z:Fn P w K mg base CX0 "_law_cell_at" 1 ["_law_script","_law_k"] (ZDY K))
  (O:Fn P w K mg base CX0 "_law_blocks" 2 ["_law_keys_here","_law_cell"] (ZBx))
  (U:Fn P w K mg base CX0 "_law_nearly" 2 ["_law_keys_here","_law_cell"] (ZBx))
  (L:Fn P w K mg base CX0 "_law_digits" 2 ["_law_script","_law_k","_law_base"] (ZC6 K))
  (J:Fn P w K mg base CX0 "_law_stream" 1 ["_law_cell","_law_many"] (ZBw))
 :FnOk P w K mg base CX0 3 f fd ["_law_script","_law_most"] (ZE2 K):=by
 refine F.ok sc_keys (fun vs H Q E h=>?_) (fun ae A outer s H vs Q E hr h=>?_)
 .obtain ⟨a,ns,rfl,hS,a1,q⟩:=h
  rfl
 obtain ⟨a,ns,rfl,hS,a1,q⟩:=h
 refine ⟨_,(ZAC (ZAO (i:=2) sc_keys.nd rfl (by walk_at "o") (ZAs z (hr.mono (by decide)) rfl ZAY (ZAA (pv 0) (ZAA ZAH ZAE))))
  (ZAC (ZAO (i:=3) sc_keys.nd rfl (by walk_at "o") (ZAs z (hr.mono (by decide)) rfl ZAY (ZAA (pv 0) (ZAA ZAH ZAE))))
  (ZAC (ZA4 (ZAQ ZB3 (ZAT ZAu (ZAT ZAw (pv 2) ZAH) ZAH) ZAH (ZAS _))
  (ZAI (ZAX (ZBR ZBy (ZAs L (hr.mono (by decide)) rfl ZAY (ZAA (pv 0) (ZAA ZAH (ZAA ZAH ZAE)))) ZCc (ZBc (ZAT ZAu (ZAT ZAw (pv 2) ZAH) (ZAT ZDe ZAH (pv 1))))))) ZAa)
  (ZAC (ZAO (i:=4) sc_keys.nd rfl (by walk_at "o") (ZBC ZBK (ZBr (ZAA ZAH (ZAA ZAH (ZAA ZAH (ZAA (ZAT op_pow ZAH ZAH) ZAE))))) (ZAT ZAu (pv 2) ZAH) (fun _ _=>rfl)))
  (ZAC (ZBp (i:=5) sc_keys.nd rfl (Or.inl rfl) rfl (k:=1) (js:=[4]) (N':=["_law_cell","_law_width"]) (by rfl) (ZAv (ZBR ZBy (pv 0) (ZBc ZAH) (ZBc (ZAT ZBd ZAH (pv 1))))) (fun _ _ _ _=>ZAZ (i:=0) (show (["_law_cell","_law_width"]:List Str).Nodup by decide +kernel) rfl (by walk_at "o")) (fun _ _ _ _=>ZA1) (fun _ _ _ _=>(ZAT ZCC (ZAT ZAu (pv 0) (pv 1)) (ZAT ZAw (pv 1) ZAH))))
  (ZAC (ZAO (i:=6) sc_keys.nd rfl (by walk_at "o") (ZAT ZAu (ZAT ZAw (pv 2) ZAH) ZAH))
  (ZAC (ZA4 (PW.pt (ZCo (ZAQ ZB3 (pv 6) ZAH (ZAS _)) (ZCX (ZAQ ZB3 (pv 6) ZAH (ZAS _)))))
  (ZAI (ZAX (ZAs O (hr.mono (by decide)) rfl ZAY (ZAA (pv 5) (ZAA (pv 3) ZAE))))) ZAa)
  (ZAC (ZA4 (ZAQ ZB3 (pv 6) ZAH (ZAS _))
  (ZAI (ZAX (ZAL ZB8 rfl T.b_sorted PyProof.Rows.boot_sorted (ZAA (pv 5) ZAE)))) ZAa)
  (ZAC (ZA4 (ZAQ ZB3 (pv 6) ZAH (ZAS _))
  (ZAI (ZAX (pe_list_rev rfl rfl T.b_list rfl T.b_reversed (ZAA (ZAL ZB8 rfl T.b_sorted PyProof.Rows.boot_sorted (ZAA (pv 5) ZAE)) ZAE)))) ZAa)
  (ZAC (ZA4 (ZAQ ZB3 (pv 6) ZAH (ZAS _))
  (ZAI (ZAX (ZB1 rfl (k:=1) (js:=[4]) (N':=["_law_number","_law_width"]) (by rfl) (ZAv (ZAs J (hr.mono (by decide)) rfl ZAY (ZAA (pv 3) (ZAA (ZAT ZAu (pv 3) (ZAT ZDe ZAH (pv 1))) ZAE)))) (fun _ _ _ _=>ZAZ (i:=0) (show (["_law_number","_law_width"]:List Str).Nodup by decide +kernel) rfl (by walk_at "o")) (fun _ _ _ _=>ZA1) (fun _ _ _ _=>(ZAT ZCC (ZAT ZAu (pv 0) (pv 1)) (ZAT ZAw (pv 1) ZAH)))))) ZAa)
  (ZAC (ZA4 (ZAQ ZB3 (pv 6) ZAH (ZAS _))
  (ZAI (ZAX (ZAs U (hr.mono (by decide)) rfl ZAY (ZAA (pv 5) (ZAA (pv 3) ZAE))))) ZAa)
  (ZAI (ZAX (pv 5)))))))))))))),?_⟩
 walk_at "rd"
 refine ⟨a,ns,0,rfl,hS,by decide,?_⟩
 generalize cellOf ns 0=md
 refine ⟨a,ns,1,rfl,hS,by decide,?_⟩
 generalize cellOf ns 1=mx
 walk_at "rd"
 refine ⟨⟨by decide,by decide⟩,by decide,?_⟩
 split
 .refine ⟨a,ns,4,120,rfl,hS,a1,by decide,by decide,by decide,fun l H1 zs s1 hl h1 hz _=>?_⟩
  walk_at "rd"
  have m0:=Int.emod_nonneg (md / 64) (show (2 * 60:Int)≠0 by decide)
  have m1:=Int.emod_lt_of_pos (md / 64) (show (0:Int) < 2 * 60 by decide)
  refine ⟨⟨by decide,by decide⟩,.inl ⟨by decide,by decide⟩,by decide,ZCW (SqL.of h1) fun p1 a0=>?_⟩
  rw [ZDQ]
  refine q p1 _ _ (s1.new a0) (s1.free a0) ZAF ?_
  rw [yAP,HT.sIx_none]
  obtain ⟨mm,em⟩:∃ mm:Nat,md / 64 % (2 * 60)=mm:=⟨(md / 64 % (2 * 60)).toNat,by omega⟩
  rw [em,HT.sIx_nat]
  omega
 refine ⟨⟨by decide,by decide,by decide⟩,ZAb (by decide),fun wl a6=>⟨by decide,?_⟩⟩
 obtain ⟨H1,e1,s1,h1⟩:=newH a6 (.lst [.int 2,.int 5,.int 100,.int (10 ^ Int.toNat 60)])
 rw [e1];clear e1
 have hm:∃ m:Int,0 < m /\ atI [V.int 2,.int 5,.int 100,.int (10 ^ Int.toNat 60)] (md % 4)=some (.int m):=by
  have:md % 4=0∨md % 4=1∨md % 4=2∨md % 4=3:=by omega
  rcases this with e | e | e | e <;> rw [e]
  .exact ⟨2,by decide,ZAq (by decide) rfl⟩
  .exact ⟨5,by decide,ZAq (by decide) rfl⟩
  .exact ⟨100,by decide,ZAq (by decide) rfl⟩
  .exact ⟨10 ^ Int.toNat 60,by decide,ZAq (by decide) rfl⟩
 obtain ⟨m,a5,a7⟩:=hm
 refine ZBi (SqL.of h1) a7 ?_
 refine ZCW (s1.seq hS) fun sl a8=>?_
 rw [ZDQ]
 have a9:((ns.drop (HT.sIx ns.length 0 (some 4))).take (HT.sIx ns.length ns.length (some (4+60))-HT.sIx ns.length 0 (some 4))).length <= 63:=by
  rw [yAP,yBR]
  omega
 generalize (ns.drop (HT.sIx ns.length 0 (some 4))).take (HT.sIx ns.length ns.length (some (4+60))-HT.sIx ns.length 0 (some 4))=ms at a9 ⊢
 obtain ⟨H2,e2,s2,h2⟩:=newH a8 (.lst (ms.map V.int))
 rw [e2];clear e2
 refine compI_gen (rest:=[some (.int m)]) (SqL.of h2) (by omega) rfl (fun _ _=>True) (fun c H' hc e Q' k=>?_) fun ks H3 kl ac _ s3 a4=>?_
 .walk_at "rd"
  exact ⟨a5,⟨by decide,by decide⟩,k _ _ (Same.refl _) trivial⟩
 obtain ⟨H4,e4,s4,h4⟩:=newH a4 (.lst (ks.map V.int))
 rw [e4];clear e4
 have S3:Same H H3:=fun b o h=>s3 _ _ (s2 _ _ (s1 _ _ h))
 have Y:Same H H4:=S3.trans s4
 walk_at "rd"
 refine ⟨⟨by decide,by decide⟩,by decide,?_⟩
 generalize md / 4 % 8=wy
 have Z:ZBx [.ref kl,.int mx] H4 Q E0:=⟨kl,ks,mx,rfl,h4,by omega,fun l H' zs s hl h hz=>q l H' zs (Y.trans s) (Y.free hl) h (by omega)⟩
 split
 .exact Z
 split
 .exact Z
 split
 .exact ⟨kl,ks,rfl,SqL.of h4,by omega,fun l us hl hp _=>q l _ us (Y.new hl) (Y.free hl) ZAF (by have:=hp.length_eq;omega)⟩
 split
 .refine ⟨kl,ks,rfl,SqL.of h4,by omega,fun l us hl hp _=>⟨l,_,rfl,SqL.of ZAF,fun r a3=>?_⟩⟩
  rw [<- yCS]
  exact q r _ us.reverse ((Y.new hl).new a3) ((Y.new hl).free a3) ZAF (by have:=hp.length_eq;rw [yBS];omega)
 split
 .have ad:=Int.emod_lt_of_pos mx (show (0:Int) < 2 * 60 by decide)
  refine ⟨.inl ⟨by decide,by decide⟩,by decide,mx,mx % (2 * 60),rfl,Int.emod_nonneg _ (by decide),by omega,fun l H5 zs s5 hl h5 hz aa=>?_⟩
  refine compI_gen (rest:=[some (.int m)]) (SqL.of h5) (by omega) rfl (fun _ _=>True) (fun c H' hc e Q' k=>?_) fun us H6 l6 af _ s6 a2=>?_
  .walk_at "rd"
   exact ⟨a5,⟨by decide,by decide⟩,k _ _ (Same.refl _) trivial⟩
  have S6:Same H H6:=fun b o h=>s6 _ _ (s5 _ _ (Y _ _ h))
  exact q l6 _ us (S6.new a2) (S6.free a2) ZAF (by omega)
 split
 .exact Z
 exact q kl H4 ks Y (S3.free a4) h4 (by omega)
theorem ok_whole {f:Addr} {fd:FuncData} (F:Fun K "_law_whole" "_law_whole" ZCy f fd) (T:Bt K mg C_Pour C_LastPour C_Asker C_AskedRule C_HallError C_NoPlace C_TooFar C_Spent)
 :FnOk P w K mg base CX0 1 f fd ["_law_found"] (ZDE):=by
 refine F.ok sc_whole (fun vs H Q E h=>?_) (fun z A outer s H vs Q E J h=>?_)
 .obtain ⟨i,rfl,q⟩:=h
  rfl
 obtain ⟨i,rfl,q⟩:=h
 refine ⟨_,(ZAI (ZAX (ZDd (ZAL call_isinst rfl T.b_isinstance PyProof.Rows.boot_isinstance (ZAA (pv 0) (ZAA (pe_bty rfl T.b_int PyProof.Rows.boot_int) ZAE))) (ZEb (ZE8 (ZAL call_isinst rfl T.b_isinstance PyProof.Rows.boot_isinstance (ZAA (pv 0) (ZAA (pe_bty rfl T.b_bool PyProof.Rows.boot_bool) ZAE)))))))),?_⟩
 walk_at "rd"
 refine inst_int ?_
 walk_at "rd"
 refine inst_int_bl T.kit_int_bool ?_
 walk_at "rd"
 exact q
theorem ok_dealt {f:Addr} {fd:FuncData} (F:Fun K "_law_dealt" "_law_dealt" ZC0 f fd) (T:Bt K mg C_Pour C_LastPour C_Asker C_AskedRule C_HallError C_NoPlace C_TooFar C_Spent)
  (L:Fn P w K mg base CX0 "_law_cell_at" 1 ["_law_script","_law_k"] (ZDY K))
  (a9:Fn P w K mg base CX0 "_law_digits" 2 ["_law_script","_law_k","_law_base"] (ZC6 K))
  (a8:Fn P w K mg base CX0 "_law_stream" 1 ["_law_cell","_law_many"] (ZBw))
 :FnOk P w K mg base CX0 3 f fd ["_law_keys_here","_law_script"] (ZDG K):=by
 refine F.ok sc_dealt (fun vs H Q E h=>?_) (fun cq A outer s H vs Q E hr h=>?_)
 .obtain ⟨ky,a,ks,ns,rfl,ap,c5,hS,bc,q⟩:=h
  rfl
 obtain ⟨ky,a,ks,ns,rfl,ap,c5,hS,bc,q⟩:=h
 refine ⟨_,(ZAC (ZAO (i:=2) sc_dealt.nd rfl (by walk_at "o") (ZAs L (hr.mono (by decide)) rfl ZAY (ZAA (pv 1) (ZAA ZAH ZAE))))
  (ZAC (ZAO (i:=3) sc_dealt.nd rfl (by walk_at "o") (ZAs L (hr.mono (by decide)) rfl ZAY (ZAA (pv 1) (ZAA ZAH ZAE))))
  (ZAC (ZAO (i:=4) sc_dealt.nd rfl (by walk_at "o") (ZBl ZB3 (ZAT ZAu (ZAT ZAw (ZAs L (hr.mono (by decide)) rfl ZAY (ZAA (pv 1) (ZAA ZAH ZAE))) ZAH) ZAH) ZAH (ZAS _)))
  (ZAC (ZAO (i:=5) sc_dealt.nd rfl (by walk_at "o") (ZAT ZAu (pv 2) ZAH))
  (ZAC (ZA4 (ZAQ ZB3 (ZAT ZAu (ZAT ZAw (pv 2) ZAH) ZAH) ZAH (ZAS _))
  (ZAI (ZAO (i:=5) sc_dealt.nd rfl (by walk_at "o") (ZAT ZAu (ZAT ZAw (pv 2) ZAH) ZAH))) ZAa)
  (ZAR
  (ZAC (ZBp (i:=6) sc_dealt.nd rfl (Or.inl rfl) rfl (k:=1) (js:=[]) (N':=["_law_number"]) (by rfl) (ZCG rfl T.b_range (ZAA (pv 5) ZAE)) (fun _ _ _ _=>ZAZ (i:=0) (show (["_law_number"]:List Str).Nodup by decide +kernel) rfl (by walk_at "o")) (fun _ _ _ _=>ZA1) (fun _ _ _ _=>(ZBr ZAE)))
  (ZAR
  (ZAC (ZBp (i:=7) sc_dealt.nd rfl (Or.inl rfl) rfl (k:=1) (js:=[]) (N':=["_law_number"]) (by rfl) (ZAv (ZAs a8 (hr.mono (by decide)) rfl ZAY (ZAA (ZAT ZAw (pv 3) ZAH) (ZAA (ZAL ZAJ rfl T.b_len PySem.boot_len (ZAA (pv 0) ZAE)) ZAE)))) (fun _ _ _ _=>ZAZ (i:=0) (show (["_law_number"]:List Str).Nodup by decide +kernel) rfl (by walk_at "o")) (fun _ _ _ _=>ZA1) (fun _ _ _ _=>(ZAT ZAw (pv 0) ZAH)))
  (ZAC (ZA4 (ZCB (pv 4))
  (ZAI (ZAO (i:=7) sc_dealt.nd rfl (by walk_at "o") (ZAs a9 (hr.mono (by decide)) rfl ZAY (ZAA (pv 1) (ZAA ZAH (ZAA ZAH ZAE)))))) ZAa)
  (ZAR
  (ZAC (ZCY PassesOwn.never rfl (ZAv (ZB1 rfl (k:=1) (js:=[]) (N':=["_law_pair"]) (by rfl) (ZAv (ZAL call_sortedT rfl T.b_sorted PyProof.Rows.boot_sorted (ZAA (ZB1 rfl (k:=1) (js:=[0]) (N':=["_law_p","_law_keys_here"]) (by rfl) (ZCG rfl T.b_range (ZAA (ZAL ZAJ rfl T.b_len PySem.boot_len (ZAA (pv 0) ZAE)) ZAE)) (fun _ _ _ _=>ZAZ (i:=0) (show (["_law_p","_law_keys_here"]:List Str).Nodup by decide +kernel) rfl (by walk_at "o")) (fun _ _ _ _=>ZA1) (fun _ _ _ _=>(ZBP (ZAA (ZBC (ix_listK K) (pv 1) (pv 0) (fun _ _=>rfl)) (ZAA (pv 0) ZAE))))) ZAE))) (fun _ _ _ _=>ZAZ (i:=0) (show (["_law_pair"]:List Str).Nodup by decide +kernel) rfl (by walk_at "o")) (fun _ _ _ _=>ZA1) (fun _ _ _ _=>(ZBC (ZEO K) (pv 0) ZAH (fun _ _=>rfl))))) (ZAZ (i:=8) sc_dealt.nd rfl (by walk_at "o"))
  (ZAC (ZAO (i:=9) sc_dealt.nd rfl (by walk_at "o") (ZAT ZAu (ZBC ZBK (pv 7) (pv 8) (fun _ _=>rfl)) (ZAT ZBd (pv 5) ZAH)))
  (ZAC (ZA4 (PW.pt (ZEZ (ZAQ op_gt (pv 5) ZAH (ZAS _)) (ZEZ (ZAQ ZB3 (ZAT ZAu (pv 3) ZAH) ZAH (ZAS _)) (ZEJ (ZDc (ZCB (pv 4)))))))
  (ZAI (ZAO (i:=9) sc_dealt.nd rfl (by walk_at "o") (ZAT ZAw (ZAT ZDe (pv 8) (pv 5)) (ZAL ZAJ rfl T.b_len PySem.boot_len (ZAA (pv 0) ZAE))))) ZAa)
   (ZAR
  (ZAI (ZA4 (ZAQ ZD3 (pv 9) (pv 5) (ZAS _))
  (ZAI (ZBb (ZD0 PySem.F.plainAttrs_list PySem.F.slot_list_append PySem.F.type_list_append ZCH (ZBC ZBK (pv 6) (pv 9) (fun _ _=>rfl)) (ZAA (pv 8) ZAE)))) ZAa))))))
  (ZAR
  (ZAI (ZAX (pv 6)))))))))))))))),?_⟩
 walk_at "rd"
 refine ⟨a,ns,2,rfl,hS,by decide,?_⟩
 walk_at "rd"
 refine ⟨a,ns,3,rfl,hS,by decide,?_⟩
 walk_at "rd"
 refine ⟨a,ns,0,rfl,hS,by decide,?_⟩
 walk_at "rd"
 generalize cellOf ns 2=c
 generalize cellOf ns 3=m
 generalize decide (cellOf ns 0 / 32 % 2=1)=dg
 refine ⟨⟨by decide,by decide⟩,by decide,by decide,⟨by decide,by decide⟩,by decide,?_⟩
 apply onceS (fun n:Nat=>[some (.ref ky),some (.ref a),some (.int c),some (.int m),some (.bl dg),some (.int (n:Int)),none,none,none,none]) (fun n=>n <= 40)
 .intro J
  by_cases h:c / 9 % 4=1
  .rw [if_pos h]
   refine ⟨⟨by decide,by decide⟩,by decide,?_⟩
   obtain ⟨k,hk⟩:∃ k:Nat,c / 36 % 41=k:=⟨(c / 36 % 41).toNat,by omega⟩
   rw [hk]
   exact J k (by omega)
  .rw [if_neg h]
   obtain ⟨k,hk⟩:∃ k:Nat,c % 9=k:=⟨(c % 9).toNat,by omega⟩
   rw [hk]
   exact J k (by omega)
 rintro n hn
 refine ZAW ?_
 walk_at "rd"
 refine compR1_of (by omega) (fun i ys σ H'=>∃ v hls,σ=[v] /\ Same H H' /\ ys=hls.map V.ref /\ hls.length=i /\ hls.Nodup /\ ∀ b∈hls,H' b=some (.lst []) /\ H b=none) ⟨_,[],rfl,.refl _,rfl,rfl,List.nodup_nil,fun b h=>by cases h⟩ (fun i ys σ H' ⟨_,hls,_,_,e,e2,_⟩=>by rw [e,yAA];omega) ?_ ?_
 .rintro i ys σ H' hi ⟨v,hls,rfl,sA,rfl,al,b6,a0⟩
  walk_at "rd"
  refine ⟨yAH _,fun b hb=>?_⟩
  refine Nxt.of hi ⟨_,hls++[b],rfl,sA.new hb,by rw [yAT];rfl,by rw [yAC,al];rfl,?_,fun b' h=>?_⟩
  .refine List.nodup_append.mpr ⟨b6,yCQ.mpr ⟨yBC,List.nodup_nil⟩,fun x hx y hy=>?_⟩
   rw [yAN.mp hy]
   exact ZAB (a0 x hx).1 hb
  .rcases yAR.mp h with h | h
   .exact ⟨ZAK hb _ _ _ (a0 b' h).1,(a0 b' h).2⟩
   .rw [yAN.mp h];exact ⟨ZAF,sA.free hb⟩
 rintro ys σ H1 ⟨v,hls,rfl,s1,rfl,al,b6,a0⟩ l b3
 rw [Int.toNat_natCast] at al
 obtain ⟨H2,e2,s2,h2⟩:=newH b3 (.lst (hls.map V.ref))
 rw [e2];clear e2
 have S2:=s1.trans s2
 refine ZAW ?_
 walk_at "rd"
 refine ⟨⟨by decide,by decide⟩,ky,_,rfl,.inl (SqL.of (S2 _ _ ap)),?_⟩
 rw [yAA]
 refine ⟨m / 2,ks.length,rfl,by omega,by omega,fun cn c0 az ay b5 a5 ag be=>?_⟩
 refine ZBT (SqL.of a5) (by rw [yAA];omega) (fun i ys σ H'=>∃ v,σ=[v] /\ Same c0 H' /\ ys=((az.take i).map fun z=>z / 7).map V.int) ⟨_,rfl,.refl _,rfl⟩ (fun i ys σ H' _ ⟨_,_,e,e2⟩=>⟨SqL.of (e _ _ a5),by rw [e2,yAA,yAA,yAP];omega⟩) ?_ ?_
 .rintro i ys x σ H' hi hx ⟨v,rfl,sA,rfl⟩
  obtain ⟨z,hz,rfl⟩:=ZCr hx
  walk_at "rd"
  refine ⟨⟨by decide,by decide⟩,?_⟩
  refine Nxt.of hi ⟨_,rfl,sA,?_⟩
  rw [yCA,hz,yAT,yAT];rfl
 rintro ys σ cr ⟨v,rfl,b7,rfl⟩ c3 a6
 rw [yAA,yBH (yAB _)]
 obtain ⟨ci,bv,bi,ba⟩:=newH a6 (.lst ((az.map fun z=>z / 7).map V.int))
 rw [bv];clear bv
 have ae:=ay.trans (b7.trans bi)
 apply ZFR (α:=Addr×List Int×Hp) (fun x=>[some (.ref ky),some (.ref a),some (.int c),some (.int m),some (.bl dg),some (.int (n:Int)),some (.ref l),some (.ref x.1),none,none]) (fun x=>x.2.2) (fun x=>Same H2 x.2.2 /\ x.2.2 x.1=some (.lst (x.2.1.map V.int)) /\ ks.length <= x.2.1.length /\ H2 x.1=none)
 .intro J
  cases dg with
  | false=>
   rw [if_neg (by decide)]
   exact J (c3,az.map (fun z=>z / 7),ci) ⟨ae,ba,by rw [yAA];omega,(ay.trans b7).free a6⟩
  | true=>
   rw [if_pos rfl]
   exact ⟨a,ns,6,41,rfl,(S2.trans ae).seq hS,bc,by decide,by decide,by decide,fun cf c4 bq cc bw ca cm _=>J (cf,bq,c4) ⟨ae.trans cc,ca,by show _ <= bq.length;omega,ae.free bw⟩⟩
 rintro ⟨sm,zs,H3⟩ ⟨s3,bg,cj,ac⟩
 dsimp only at s3 bg cj ac
 have S3:=S2.trans s3
 have ak:=S3 _ _ ap
 clear b5 a5 ag be ay b7 bi ae ba a6
 have a5:=ac
 refine ZAW ?_
 walk_at "rd"
 refine ⟨ky,_,rfl,.inl (SqL.of ak),?_⟩
 rw [yAA]
 refine compR1_of (by omega) (fun i ys σ H'=>∃ v,σ=[v,some (.ref ky)] /\ Same H3 H' /\ ys.length=i /\ ∀ (j:Nat) k,j < i->ks[j]?=some k->∃ r,ys[j]?=some (V.ref r) /\ H' r=some (.tup [.int k,.int j])) ⟨_,rfl,.refl _,rfl,fun _ _ h=>by omega⟩ (fun i ys σ H' ⟨_,_,_,l,_⟩=>Nat.le_of_eq l) ?_ ?_
 .rintro i ys σ H' hi ⟨v,rfl,sA,hl,am⟩
  have bh:i < ks.length:=by omega
  walk_at "rd"
  rw [show (0+(i:Int))=i by omega]
  refine ZBi (SqL.of (sA _ _ ak)) (ZCw (by omega) (by rw [Int.toNat_natCast];exact ZFD bh)) ⟨ZAb (by decide),fun t ht=>?_⟩
  refine Nxt.of hi ⟨_,rfl,sA.new ht,by rw [yAC,hl];rfl,fun j k' hj b9=>?_⟩
  by_cases z:j < i
  .obtain ⟨r,Y,a2⟩:=am j k' z b9
   exact ⟨r,by rw [yAX (by omega)];exact Y,ZAK ht _ _ _ a2⟩
  .have:j=i:=by omega
   subst this
   rw [ZFD bh] at b9;cases b9
   exact ⟨t,by rw [<- hl,yAW (yAB _),yBU];rfl,ZAF⟩
 rintro rs σ co ⟨v,rfl,bo,hrl,af⟩ zl ag
 rw [Int.toNat_natCast] at hrl af
 obtain ⟨bn,bf,b8,cg⟩:=newH ag (.lst rs)
 rw [bf];clear bf
 have am:Things bn ks rs:=⟨by omega,fun i k hk=>by
  have hi:=(yAK.mp hk).1
  obtain ⟨r,Y,a2⟩:=af i k (by omega) hk
  exact ⟨r,Y,b8 _ _ a2⟩⟩
 obtain ⟨zz,c6,br,ao⟩:=am.zz
 have hz:∀ z∈zz,∃ q:Nat,z.2=(kat ks q,(q:Int)) /\ q < ks.length /\ bn z.1=some (.tup [.int (kat ks q),.int q]):=fun z a7=>by
  obtain ⟨i,hi,e⟩:=List.getElem_of_mem a7
  obtain ⟨Y,a2⟩:=ao i z (by rw [yAD hi,e])
  exact ⟨i,Y,by omega,a2⟩
 have an:zz.Pairwise (fun (x y:PrA)=>x.2.2≠y.2.2):=by
  rw [List.pairwise_iff_getElem]
  intro i j hi hj ch
  have Y:=(ao i _ (yAD hi)).1
  have a2:=(ao j _ (yAD hj)).1
  rw [Y,a2]
  show (i:Int)≠j
  omega
 refine ⟨zl,zz,rfl,SqL.of (by rw [<- c6];exact cg),fun z a7=>?_,by omega,fun sl ms cb U a3=>?_⟩
 .obtain ⟨q,Y,_,a4⟩:=hz z a7
  rw [Y]
  exact SqT.of a4
 obtain ⟨HE,eE,sE,hE⟩:=newH cb (.lst (ms.map fun z=>V.ref z.1))
 rw [eE];clear eE
 have bp:ms.length=zz.length:=U.length_eq
 have ad:∀ z∈ms,∃ q:Nat,z.2=(kat ks q,(q:Int)) /\ q < ks.length /\ HE z.1=some (.tup [.int (kat ks q),.int q]):=fun z a7=>by
  obtain ⟨q,Y,a2,a4⟩:=hz z (U.mem_iff.mp a7)
  exact ⟨q,Y,a2,sE _ _ a4⟩
 have av:ms.Pairwise (fun (x y:PrA)=>x.2.2≠y.2.2):=(U.pairwise_iff fun {x y} z=>Ne.symm z).mpr an
 have bu:(ms.map fun z=>z.2.2.toNat).Pairwise (lx ks):=by
  rw [List.pairwise_map]
  refine (a3.and av).imp_of_mem fun {x y} hx hy z=>?_
  obtain ⟨q1,Y,_,_⟩:=ad x hx
  obtain ⟨q2,b1,_,_⟩:=ad y hy
  have z1:=z.1
  have z2:=z.2
  rw [Y,b1] at z1 z2
  rw [Y,b1]
  show lx ks (q1:Int).toNat (q2:Int).toNat
  rw [Int.toNat_natCast,Int.toNat_natCast]
  unfold lxP at z1
  dsimp only at z1 z2
  unfold lx
  omega
 have aj:∀ x∈ms.map (fun z=>z.2.2.toNat),x < ks.length:=fun x hx=>by
  obtain ⟨z,a7,rfl⟩:=yBF.mp hx
  obtain ⟨q,Y,a2,_⟩:=ad z a7
  rw [Y]
  show (q:Int).toNat < _
  rw [Int.toNat_natCast]
  exact a2
 have aw:(ms.map fun z=>z.2.2.toNat).length=ms.length:=yAA ..
 refine ZBT (SqL.of hE) (by rw [yAA];omega) (fun i ys σ H'=>∃ v,σ=[v] /\ Same HE H' /\ ys=nL ((ms.map fun z=>z.2.2.toNat).take i)) ⟨_,rfl,.refl _,rfl⟩ (fun i ys σ H' _ ⟨_,_,e,e2⟩=>⟨SqL.of (e _ _ hE),by rw [e2,yAA,yAP];omega⟩) ?_ ?_
 .rintro i ys x σ H' hi hx ⟨v,rfl,sA,rfl⟩
  rw [yAA] at hi
  rw [yAJ,yAD hi] at hx
  cases hx
  obtain ⟨q,Y,a2,a4⟩:=ad ms[i] (List.getElem_mem hi)
  walk_at "rd"
  refine ZBh (SqT.of (sA _ _ a4)) (ZAq (by decide) rfl) ?_
  refine Nxt.of (by rw [yAA];exact hi) ⟨_,rfl,sA,?_⟩
  rw [yCA,yAJ,yAD hi]
  unfold nL
  rw [yAT]
  show _=_++[V.int ((ms[i].2.2.toNat:Nat):Int)]
  rw [Y]
  show _=_++[V.int (((q:Int).toNat:Nat):Int)]
  rw [Int.toNat_natCast]
 rintro ys σ HF ⟨v,rfl,sF,rfl⟩ od bz
 rw [yAA,yBH (by rw [yAA];exact yAB _)]
 rw [bp,br] at aw
 generalize (ms.map fun z=>z.2.2.toNat)=os at bu aj aw ⊢
 obtain ⟨H13,eO,sO,ah⟩:=newH bz (.lst (nL os))
 rw [eO];clear eO
 have aq:Same H3 H13:=bo.trans (b8.trans (sE.trans (sF.trans sO)))
 clear ad av bp a3 U an hz ao am af
 have SA:Same H1 H13:=(s2.trans s3).trans aq
 have b4:=aq _ _ ak
 have b2:=aq _ _ bg
 have ar:=(s3.trans aq) _ _ h2
 have ai:∀ b∈hls,b≠l /\ b≠ky /\ b≠sm /\ b≠od:=fun b hb=>by
  obtain ⟨h1,Z⟩:=a0 b hb
  exact ⟨ZAB h1 b3,(fun z=>by rw [z,ap] at Z;cases Z),ZAB (s2 _ _ h1) a5,ZAB ((s2.trans (s3.trans (bo.trans (b8.trans (sE.trans sF))))) _ _ h1) bz⟩
 obtain ⟨O,au⟩:∃ O:Nat->Nat,∀ p,O p=if (0 < n /\ m % 2=1) /\ dg=false then p * n / ks.length else (zs.getD p 0 % ((n:Int)+1)).toNat:=⟨_,fun _=>rfl⟩
 refine ZCg (SqL.of ah) (fun i σ X=>∃ v6 v7,σ=[some (.ref ky),some (.ref a),some (.int c),some (.int m),some (.bl dg),some (.int (n:Int)),some (.ref l),some (.ref sm),v6,v7] /\ PL X hls (ZC4 n O (os.take i)) /\ ∀ b o,b∉hls->H13 b=some o->X b=some o) ⟨_,_,rfl,⟨by rw [ZBN];exact al,fun i b us h1 Z=>?_,b6⟩,fun _ _ _ h=>h⟩ (fun i σ X _ ⟨_,_,_,_,e⟩=>SqL.of (e _ _ (fun z=>(ai _ z).2.2.2 rfl) ah)) ?_ ?_
 .have hb:=yAL h1
  have hi:i < n:=by have:=(yAK.mp h1).1;omega
  rw [ZB2 hi] at Z
  cases Z
  exact SA _ _ (a0 b hb).1
 .rintro i x σ X hx ⟨v6,v7,rfl,aa,kX⟩
  have hi:=(yAK.mp hx).1
  rw [yAA] at hi
  obtain ⟨p,hp⟩:∃ p,os[i]?=some p:=⟨_,yAD hi⟩
  rw [yAJ,hp] at hx
  cases hx
  have cp:=aj p (yAL hp)
  have bx:os.take (i+1)=os.take i++[p]:=by rw [yCA,hp];rfl
  have an:p < zs.length:=by omega
  have bd:=kX _ _ (fun z=>(ai _ z).2.2.1 rfl) b2
  have c7:=kX _ _ (fun z=>(ai _ z).1 rfl) ar
  have bt:=kX _ _ (fun z=>(ai _ z).2.1 rfl) b4
  walk_at "rd"
  refine ZBi (SqL.of bd) (show atI (zs.map V.int) (p:Int)=some (.int (zs.getD p 0)) from ZCw (by omega) (by rw [Int.toNat_natCast,yBI,yAD an];rfl)) ?_
  walk_at "rd"
  refine ⟨by omega,?_⟩
  apply onceS (fun j:Nat=>[some (.ref ky),some (.ref a),some (.int c),some (.int m),some (.bl dg),some (.int (n:Int)),some (.ref l),some (.ref sm),some (.int (p:Int)),some (.int (j:Int))]) (fun j=>j=O p)
  .intro J
   have ck:=Int.emod_nonneg (zs.getD p 0) (show ((n:Int)+1)≠0 by omega)
   obtain ⟨k,hk⟩:∃ k:Nat,zs.getD p 0 % ((n:Int)+1)=k:=⟨(zs.getD p 0 % ((n:Int)+1)).toNat,by omega⟩
   have b0:¬ ((0 < n /\ m % 2=1) /\ dg=false)->k=O p:=fun z=>by rw [au,if_neg z,hk,Int.toNat_natCast]
   rw [hk]
   by_cases h0:(0:Int) < n
   .rw [if_pos h0]
    refine ⟨by decide,?_⟩
    by_cases h1:m % 2=1
    .rw [if_pos h1]
     by_cases h2:dg=false
     .rw [if_pos h2]
      refine ⟨.inl ⟨by omega,by omega⟩,ky,_,rfl,.inl (SqL.of bt),⟨by rw [yAA];omega,by rw [yAA];omega⟩,?_⟩
      rw [yAA,show (p:Int) * n / (ks.length:Int)=((p * n / ks.length:Nat):Int) by rw [Int.natCast_ediv,Int.natCast_mul]]
      exact J _ (by rw [au,if_pos ⟨⟨by omega,h1⟩,h2⟩])
     .rw [if_neg h2]
      exact J k (b0 fun z=>h2 z.2)
    .rw [if_neg h1]
     exact J k (b0 fun z=>h1 z.1.2)
   .rw [if_neg h0]
    exact J k (b0 fun z=>h0 (by omega))
  rintro j hj
  subst hj
  refine ZAW ?_
  walk_at "rd"
  by_cases hlt:((O p:Nat):Int) < n
  .rw [if_pos hlt]
   have ax:O p < n:=by omega
   obtain ⟨b,hb⟩:∃ b,hls[O p]?=some b:=⟨_,yAD (show O p < hls.length by omega)⟩
   have bj:=aa.at' _ b _ hb (ZB2 ax)
   refine ZBi (SqL.of c7) (show atI (hls.map V.ref) ((O p:Nat):Int)=some (.ref b) from ZAq (by omega) (by rw [Int.toNat_natCast,yAJ,hb];rfl)) ?_
   walk_at "rd"
   refine ⟨.inl ⟨rfl,_,SqL.of bj⟩,b,_,_,rfl,rfl,bj,ZBA (by rw [yAA];exact yAG (yCP _ _) (by rw [yAP];omega)),?_⟩
   refine ⟨_,_,rfl,?_,fun b' o n' h=>?_⟩
   .rw [bx,pcsOf_snoc,if_pos ax]
    have:=aa.push (ys:=[]) hb (((os.take i).filter fun q=>decide (O q=O p))++[p])
    unfold nL at this
    rw [yAT] at this
    exact this
   .rw [ZAG (fun z=>n' (by rw [z];exact yAL hb))]
    exact kX b' o n' h
  .rw [if_neg hlt]
   exact ⟨_,_,rfl,by rw [bx,pcsOf_snoc,if_neg (by omega)];exact aa,kX⟩
 rintro σ X ⟨v6,v7,rfl,aa,kX⟩
 rw [yAA,yBH (yAB _)] at aa
 walk_at "rd"
 refine ZAW ?_
 walk_at "rd"
 have c8:∀ ys∈ZC4 n O os,∃ i,ys=os.filter fun p=>decide (O p=i):=fun ys h=>by
  obtain ⟨i,_,e⟩:=yBF.mp h
  exact ⟨i,e.symm⟩
 have SX:Same H X:=fun b o h=>kX b o (fun z=>by rw [(a0 b z).2] at h;cases h) ((s1.trans SA) _ _ h)
 refine q l hls _ X SX (s1.free b3) (kX _ _ (fun z=>(ai _ z).1 rfl) ar) aa (fun b h=>(a0 b h).2) (by rw [ZBN];omega) (fun ys h=>?_) (fun i j xi xj y ch h1 Z c9 ce=>?_) (by rw [pcs_sum];exact yAG (yCP _ _) (by omega))
 .obtain ⟨i,rfl⟩:=c8 ys h
  exact ⟨bu.filter _,fun y hy=>aj y (yBO.mp hy).1,yAG (yCP _ _) (by omega)⟩
 .have hi:i < n:=by have:=(yAK.mp h1).1;rw [ZBN] at this;exact this
  have hj:j < n:=by have:=(yAK.mp Z).1;rw [ZBN] at this;exact this
  rw [ZB2 hi] at h1
  rw [ZB2 hj] at Z
  cases h1
  cases Z
  have Y:=of_decide_eq_true (yBO.mp c9).2
  have a2:=of_decide_eq_true (yBO.mp ce).2
  omega
theorem ok_made {f:Addr} {fd:FuncData} (F:Fun K "_law_made" "_law_made" ZDa f fd) (T:Bt K mg C_Pour C_LastPour C_Asker C_AskedRule C_HallError C_NoPlace C_TooFar C_Spent)
  (O:Kl P w K mg base (CXE P w) "LastPour" C_LastPour 10 ["self","asker","pieces"] (ZBU C_Asker C_AskedRule C_Spent true C_LastPour))
  (a2:Kl P w K mg base (CXE P w) "Pour" C_Pour 10 ["self","asker","pieces"] (ZBU C_Asker C_AskedRule C_Spent false C_Pour))
 :FnOk P w K mg base CX0 12 f fd ["_law_asker","_law_pieces","_law_last"] (ZDm C_Asker C_AskedRule C_LastPour C_Pour):=by
 refine F.ok sc_made (fun vs H Q E h=>?_) (fun ac A outer s H vs Q E hr h=>?_)
 .obtain ⟨mo,ks,xs,a,rl,ru,tl,g,lg,hl,pr,aa,pcs,bb,rfl,st,a3,Z,a0,hn,a6,a7,a4,qx,q⟩:=h
  rfl
 obtain ⟨mo,ks,xs,a,rl,ru,tl,g,lg,hl,pr,aa,pcs,bb,rfl,st,a3,Z,a0,hn,a6,a7,a4,qx,q⟩:=h
 refine ⟨_,(ZAC (ZAO (i:=3) sc_made.nd rfl (by walk_at "o") ZBE)
  (ZAC (ps_try0 ⟨rfl,rfl⟩ rfl T.m_Spent (fun pn xe E hp=>
  (ZAI (ZA4 (ZCB (pv 2))
  (ZAI (ZAO (i:=3) sc_made.nd rfl (by walk_at "o") (pe_mkS O (hr.mono (by decide)) rfl hp (ZAA (pv 0) (ZAA (ZB1 rfl (k:=1) (js:=[]) (N':=["_law_piece"]) (by rfl) (pi_listK K (pv 1)) (fun _ _ _ _=>ZAZ (i:=0) (show (["_law_piece"]:List Str).Nodup by decide +kernel) rfl (by walk_at "o")) (fun _ _ _ _=>ZA1) (fun _ _ _ _=>(ZBs (ZB9 K) rfl T.b_list PyProof.Rows.boot_list (ZAA (pv 0) ZAE)))) ZAE)))))
  (ZAI (ZAO (i:=3) sc_made.nd rfl (by walk_at "o") (pe_mkS a2 (hr.mono (by decide)) rfl hp (ZAA (pv 0) (ZAA (ZB1 rfl (k:=1) (js:=[]) (N':=["_law_piece"]) (by rfl) (pi_listK K (pv 1)) (fun _ _ _ _=>ZAZ (i:=0) (show (["_law_piece"]:List Str).Nodup by decide +kernel) rfl (by walk_at "o")) (fun _ _ _ _=>ZA1) (fun _ _ _ _=>(ZBs (ZB9 K) rfl T.b_list PyProof.Rows.boot_list (ZAA (pv 0) ZAE)))) ZAE)))))))) (fun e=>
  (ZAI (ZAO (i:=3) sc_made.nd rfl (by walk_at "o") ZBE))))
  (ZAI (ZAX (pv 3))))),?_⟩
 walk_at "rd"
 have a5:∀ (hd:Addr) (L:List Addr) (H1:Hp),Same H H1->H hd=none->H1 hd=some (.lst (L.map V.ref))->L.length=pcs.length->(∀ (j:Nat) l ys,L[j]?=some l->pcs[j]?=some ys->H1 l=some (.lst (nL (rv bb ys))))->∀ x dx,H1 x=none->H1 dx=none->dx≠x->∀ E:XK,(∀ d X,Q .non X->E (.ref C_Spent) d X)->ZBU C_Asker C_AskedRule C_Spent bb (cond bb C_LastPour C_Pour) [.ref x,.ref a,.ref hd] (upd (upd H1 dx (.own x)) x (.ins (cond bb C_LastPour C_Pour) dx [])) (fun v H2=>v=.non /\ Q (.ref x) H2) E:=by
  intro hd L H1 s1 g1 h1 l1 Y x dx hx a1 nd E hE
  have a9:upd H1 dx (.own x) x=none:=by rw [ZAG (Ne.symm nd)];exact hx
  have s2:Same H1 (upd (upd H1 dx (.own x)) x (.ins (cond bb C_LastPour C_Pour) dx [])):=(ZAK a1 _).trans (ZAK a9 _)
  have h2:(upd (upd H1 dx (.own x)) x (.ins (cond bb C_LastPour C_Pour) dx [])) x=some (.ins (cond bb C_LastPour C_Pour) dx []):=ZAF
  generalize upd (upd H1 dx (.own x)) x (.ins (cond bb C_LastPour C_Pour) dx [])=H2 at s2 h2 ⊢
  have U:=s1.trans s2
  have a8:=(st.mono s1).newS hx
  have fr:∀ H',(∀ b o,b≠x->b∉[a,lg,tl]->H2 b=some o->H' b=some o)->Fr [a,lg,tl] H H':=fun H' e b o n h=>e b o (ZAB (s1 _ _ h) hx) n (U _ _ h)
  refine ⟨mo,ks,xs,a,rl,ru,tl,g,lg,x,dx,hd,pr,L,pcs,rfl,h2,st.mono U,s2 _ _ h1,l1,fun j l ys e1 e2=>s2 _ _ (Y j l ys e1 e2),hn,a6,a7,a8,a4,fun k H' d e1 e2 e3 e4 e5 e6=>hE d H' (qx k H' e1 e2 e3 (fr H' e4) e6),fun pl tk ml wd pls w H' kvs k' pa hR J st'=>⟨rfl,q x pl tk ml wd pls w H' kvs (fr H' k') pa hR ?_ ?_ st'⟩⟩
  .exact ⟨(fun z=>by have:=U.free J.2.1;rw [<- z,st.hrl] at this;cases this),a8,st.newS (U.free J.1),st.newS (U.free J.2.1),st.newS (U.free J.2.2.1),fun l h=>st.newS (U.free (J.2.2.2.2 l h))⟩
  .exact ⟨s1.free hx,U.free J.1,U.free J.2.1,U.free J.2.2.1,U.free J.2.2.2.1,fun l h=>U.free (J.2.2.2.2 l h)⟩
 cases bb
 .rw [if_neg (by decide)]
  exact copies67 a3 Z a0 hn fun hd L H1 s1 g1 h1 l1 Y x dx hx a1 nd=>a5 hd L H1 s1 g1 h1 l1 Y x dx hx a1 nd _ fun d X hq=>⟨T.xm_Spent_Spent,by walk_at "rd";exact hq⟩
 .rw [if_pos rfl]
  exact copies67 a3 Z a0 hn fun hd L H1 s1 g1 h1 l1 Y x dx hx a1 nd=>a5 hd L H1 s1 g1 h1 l1 Y x dx hx a1 nd _ fun d X hq=>⟨T.xm_Spent_Spent,by walk_at "rd";exact hq⟩
theorem ok_taken {f:Addr} {fd:FuncData} (F:Fun K "_law_taken" "_law_taken" ZCz f fd) (T:Bt K mg C_Pour C_LastPour C_Asker C_AskedRule C_HallError C_NoPlace C_TooFar C_Spent)
  (L:Mt P w K mg base (CXE P w) C_Pour "take" 7 ["self"] (ZBf C_Asker C_AskedRule C_Spent false C_Pour))
  (J:Mt P w K mg base (CXE P w) C_LastPour "take" 7 ["self"] (ZBf C_Asker C_AskedRule C_Spent true C_LastPour))
 :FnOk P w K mg base CX0 8 f fd ["_law_pour"] (ZDF C_Asker C_AskedRule C_Spent C_LastPour C_Pour):=by
 refine F.ok sc_taken (fun vs H Q E h=>?_) (fun a9 A outer s H vs Q E hr h=>?_)
 .obtain ⟨bb,mo,ks,xs,a,rl,ru,tl,g,lg,p,pl,tk,ml,wd,pr,pls,pcs,ts,w0,kvs,x,i,t,rfl,st,pa,px,hn,a7,a8,hR,a5,hz,hb,hi,ht,qx,q⟩:=h
  rfl
 obtain ⟨bb,mo,ks,xs,a,rl,ru,tl,g,lg,p,pl,tk,ml,wd,pr,pls,pcs,ts,w0,kvs,x,i,t,rfl,st,pa,px,hn,a7,a8,hR,a5,hz,hb,hi,ht,qx,q⟩:=h
 refine ⟨_,(ZAC (ZAO (i:=1) sc_taken.nd rfl (by walk_at "o") ZBE)
  (ZAC (ps_try (i:=2) ⟨rfl,rfl⟩ rfl rfl T.m_HallError sc_taken.nd rfl rfl (fun pn xe E hp=>
  (ZAI (ZAO (i:=1) sc_taken.nd rfl (by walk_at "o") (ZBP (ZAA ZDz (ZAA (ZAp (pe_mtS0 L (hr.mono (by decide)) hp (pv 0)) (pe_mtS0 J (hr.mono (by decide)) hp (pv 0))) ZAE)))))) (fun e=>
  (ZAI (ZAO (i:=1) sc_taken.nd rfl (by walk_at "o") (ZBP (ZAA ZDz (ZAA (pv 2) ZAE)))))))
  (ZAI (ZAX (pv 1))))),?_⟩
 walk_at "rd"
 have e1:(pcs.length=0∨Po.best (ahB bb ks) (frs pcs ts) 0 pcs.length=none)->False:=by
  rintro (z | z)
  .omega
  .rw [hb] at z;cases z
 have e2:∀ x' i' t',Po.best (ahB bb ks) (frs pcs ts) 0 pcs.length=some (x',i')->ts[i']?=some t'->x'=x /\ i'=i /\ t'=t:=fun x' i' t' h1 h2=>by
  rw [hb] at h1
  cases h1
  rw [ht] at h2
  cases h2
  exact ⟨rfl,rfl,rfl⟩
 have a6:∀ (R:VK) (E:XK),(∀ U w' Z Y,Fr [p,tk,a,lg,tl] H Z->PourAt bb (cond bb C_LastPour C_Pour) Z p a pl tk ml U pls pcs (ts.set i (t+1)) w' Y->Po.Right (ahB bb ks) (frs pcs (ts.set i (t+1))) w' 0 pcs.length->SitL mo C_Asker C_AskedRule Z ks xs a rl ru tl g lg (pr++alT bb ks pcs (ts.set i (t+1)) i)->R (.int (x:Int)) Z)->XL mo C_Asker C_AskedRule C_Spent ks xs a rl ru tl g lg pr (alT bb ks pcs (ts.set i (t+1)) i) H E->ZBf C_Asker C_AskedRule C_Spent bb (cond bb C_LastPour C_Pour) [.ref p] H R E:=by
  intro R E hr hE
  refine ⟨mo,ks,xs,a,rl,ru,tl,g,lg,p,pl,tk,ml,wd,pr,pls,pcs,ts,w0,kvs,rfl,st,pa,px,hn,a7,a8,hR,a5,fun x' i' t' h1 h2=>?_,fun z=>(e1 z).elim,fun x' i' t' h0 h1 h2 h3 U w' Z Y fZ a4 a3 a2=>?_⟩
  .obtain ⟨rfl,rfl,rfl⟩:=e2 x' i' t' h1 h2
   exact hE
  .obtain ⟨rfl,rfl,rfl⟩:=e2 x' i' t' h1 h3
   exact hr U w' Z Y fZ a4 a3 a2
 have R1:∀ U w' Z Y,Fr [p,tk,a,lg,tl] H Z->PourAt bb (cond bb C_LastPour C_Pour) Z p a pl tk ml U pls pcs (ts.set i (t+1)) w' Y->Po.Right (ahB bb ks) (frs pcs (ts.set i (t+1))) w' 0 pcs.length->SitL mo C_Asker C_AskedRule Z ks xs a rl ru tl g lg (pr++alT bb ks pcs (ts.set i (t+1)) i)->2 <= sizeLine /\ ∀ t0,Z t0=none->Q (.ref t0) (upd Z t0 (.tup [.str (Str.ofString "told"),.int (x:Int)])):=fun U w' Z Y fZ a4 a3 a2=>
  ⟨ZAb (by decide),fun t0 O=>q t0 U w' _ Y (fZ.trans (ZAK O _).fr) (a4.mono (ZAK O _)) a3 (a2.mono (ZAK O _)) ZAF⟩
 have R2:∀ (k:Nat) H' d,mo=.int k->pr.length <= k->k < pr.length+(alT bb ks pcs (ts.set i (t+1)) i).length->Fr [a,lg,tl] H H'->H' d=some (xdM d (fS k))->SitL mo C_Asker C_AskedRule H' ks xs a rl ru tl g lg (pr++(alT bb ks pcs (ts.set i (t+1)) i).take (k-pr.length))->∀ ea,H' ea=none->2 <= sizeLine /\ ∀ t0,upd H' ea (excO ea (.ref C_Spent) (some d)) t0=none->Q (.ref t0) (upd (upd H' ea (excO ea (.ref C_Spent) (some d))) t0 (.tup [.str (Str.ofString "refused"),.ref ea])):=fun k H' d e1 e2 e3 f h1 a1 ea a0=>
  ⟨ZAb (by decide),fun t0 O=>qx k t0 ea d _ e1 e2 e3 (f.trans ((ZAK a0 _).trans (ZAK O _)).fr) ZAF (ZAK O _ _ _ ZAF) (ZAK O _ _ _ (ZAK a0 _ _ _ h1)) (a1.mono ((ZAK a0 _).trans (ZAK O _)))⟩
 cases bb
 .refine .inl (pa.pb.hp.meth (by walk_at "lk") (a6 _ _ R1 fun k H' d e1 e2 e3 f h1 a1=>⟨T.xm_Spent_HallError,fun ea a0=>?_⟩))
  have:=R2 k H' d e1 e2 e3 f h1 a1 ea a0
  walk_at "rd"
  exact this
 .refine .inr (pa.pb.hp.meth (by walk_at "lk") (a6 _ _ R1 fun k H' d e1 e2 e3 f h1 a1=>⟨T.xm_Spent_HallError,fun ea a0=>?_⟩))
  have:=R2 k H' d e1 e2 e3 f h1 a1 ea a0
  walk_at "rd"
  exact this
theorem ok_refused {f:Addr} {fd:FuncData} (F:Fun K "_law_refused" "_law_refused" ZBn f fd) (T:Bt K mg C_Pour C_LastPour C_Asker C_AskedRule C_HallError C_NoPlace C_TooFar C_Spent)
  (z:Fn P w K mg base CX0 "_law_whole" 1 ["_law_found"] (ZDE))
 :FnOk P w K mg base CX0 2 f fd ["_law_e","_law_asker"] (ZCb C_Asker C_AskedRule C_Spent):=by
 refine F.ok sc_refused (fun vs H Q E h=>?_) (fun U A outer s H vs Q E L h=>?_)
 .obtain ⟨k,ks,xs,a,rl,ru,tl,g,lg,e,d,pr,rfl,st,O,J,hd,q⟩:=h
  rfl
 obtain ⟨k,ks,xs,a,rl,ru,tl,g,lg,e,d,pr,rfl,st,O,J,hd,q⟩:=h
 refine ⟨_,(ZAC (ZA4 (PW.pt (ZCo (ZDc (ZCB (ZAL (ZCh K) rfl T.b_isinstance PyProof.Rows.boot_isinstance (ZAA (pv 0) (ZAA (ZEL rfl T.m_Spent) ZAE))))) (ZCo (ZCB (ZAL (ZCh K) rfl T.b_isinstance PyProof.Rows.boot_isinstance (ZAA (pv 0) (ZAA (ZEL rfl T.m_NoPlace) ZAE)))) (ZCX (ZCB (ZAL (ZCh K) rfl T.b_isinstance PyProof.Rows.boot_isinstance (ZAA (pv 0) (ZAA (ZEL rfl T.m_TooFar) ZAE))))))))
  (ZAI (ZAX ZD1)) ZAa)
  (ZAI (ZAX (ZDd (ZAs z (L.mono (by decide)) rfl ZAY (ZAA (pe_xfldMK K (pv 0) rfl) ZAE)) (ZEb (pe_chain ZB3 ZB3 (pe_xfldMK K (pv 0) rfl) (ZAh (pv 1) rfl) (ZAh (pv 1) rfl))))))),?_⟩
 walk_at "rd"
 refine isX J T.xc_Spent T.xk_Spent.hd T.kit_Spent_Spent rfl ?_
 rw [if_neg (by decide)]
 refine isX J T.xc_Spent T.xk_Spent.hd T.kit_Spent_NoPlace rfl ?_
 rw [if_neg (by decide)]
 refine isX J T.xc_Spent T.xk_Spent.hd T.kit_Spent_TooFar rfl ?_
 rw [if_neg (by decide)]
 refine ⟨e,_,d,_,_,rfl,.inl J,hd,T.xc_Spent,T.xk_Spent.hd,T.n_Spent_asked,by walk_at "lk",⟨_,rfl,_,rfl,?_⟩⟩
 rw [if_pos rfl]
 refine ⟨e,_,d,_,_,rfl,.inl J,hd,T.xc_Spent,T.xk_Spent.hd,T.n_Spent_asked,by walk_at "lk",?_⟩
 refine st.ha.get T.cl_Asker T.n_Asker_asked (by walk_at "lk") ?_
 walk_at "rd"
 rw [if_pos (by omega)]
 refine st.ha.get T.cl_Asker T.n_Asker_most (by walk_at "lk") ?_
 walk_at "rd"
 rw [decide_eq_true (by omega)]
 exact q H (.refl _)
theorem ok_step {f:Addr} {fd:FuncData} (F:Fun K "_law_step" "_law_step" ZDZ f fd) (T:Bt K mg C_Pour C_LastPour C_Asker C_AskedRule C_HallError C_NoPlace C_TooFar C_Spent)
  (a4:Fn P w K mg base CX0 "_law_taken" 8 ["_law_pour"] (ZDF C_Asker C_AskedRule C_Spent C_LastPour C_Pour))
  (a3:Fn P w K mg base CX0 "_law_whole" 1 ["_law_found"] (ZDE))
  (a5:Fn P w K mg base CX0 "_law_refused" 2 ["_law_e","_law_asker"] (ZCb C_Asker C_AskedRule C_Spent))
  (L:Mt P w K mg base CX0 C_Pour "left" 1 ["self"] (ZBO false C_Pour))
  (J:Mt P w K mg base CX0 C_LastPour "left" 1 ["self"] (ZBO true C_LastPour))
  (U:Mt P w K mg base CX0 C_Pour "first" 2 ["self"] (ZCF false C_Pour))
  (O:Mt P w K mg base CX0 C_LastPour "first" 2 ["self"] (ZCF true C_LastPour))
  (a2:Mt P w K mg base CX0 C_Asker "widen" 1 ["self","more"] (ZDk C_Asker))
 :FnOk P w K mg base CX0 9 f fd ["_law_pour","_law_asker","_law_log","_law_due","_law_asks","_law_more"] (ZDl C_Asker C_AskedRule C_Spent C_LastPour C_Pour):=by
 refine F.ok sc_step (fun vs H Q E h=>?_) (fun c8 A outer s H vs Q E hr h=>?_)
 .obtain ⟨bb,k,ks,xs,a,rl,ru,tl,g,lg,p,pl,tk,ml,wd,aa,pr,pls,pcs,ts,w0,kvs,x,i,t,m,mr,us,rfl,st,pa,px,hn,an,av,hR,bt,hz,hb,hi,ht,ac,aq,hm,ay,aw,ad,bp,q⟩:=h
  rfl
 obtain ⟨bb,k,ks,xs,a,rl,ru,tl,g,lg,p,pl,tk,ml,wd,aa,pr,pls,pcs,ts,w0,kvs,x,i,t,m,mr,us,rfl,st,pa,px,hn,an,av,hR,bt,hz,hb,hi,ht,ac,aq,hm,ay,aw,ad,bp,q⟩:=h
 refine ⟨_,(ZAC (ZAO (i:=6) sc_step.nd rfl (by walk_at "o") (ZAp (ZAt L (hr.mono (by decide)) ZAY (pv 0)) (ZAt J (hr.mono (by decide)) ZAY (pv 0))))
  (ZAR
  (ZAC (ZAO (i:=7) sc_step.nd rfl (by walk_at "o") (ZAp (ZAt U (hr.mono (by decide)) ZAY (pv 0)) (ZAt O (hr.mono (by decide)) ZAY (pv 0))))
  (ZAR
  (ZAC (ZAO (i:=8) sc_step.nd rfl (by walk_at "o") (ZAL ZAJ rfl T.b_len PySem.boot_len (ZAA (pv 2) ZAE)))
  (ZAR
  (ZAC (ZE7 (ZAs a4 (hr.mono (by decide)) rfl ZAY (ZAA (pv 0) ZAE)) (ZEa (n:=2) rfl (ZBQ (ZAZ (i:=9) sc_step.nd rfl (by walk_at "o")) (ZBQ (ZAZ (i:=10) sc_step.nd rfl (by walk_at "o")) ZDo))))
  (ZAR
  (ZAC (ZA4 (ZAQ ZB3 (pv 9) ZDz (ZAS _))
  (ZAC (ZA4 (PW.pt (ZCo (ZDc (ZCB (ZAs a5 (hr.mono (by decide)) rfl ZAY (ZAA (pv 10) (ZAA (pv 1) ZAE))))) (ZCo (ZAQ ZD2 (ZAp (ZAt L (hr.mono (by decide)) ZAY (pv 0)) (ZAt J (hr.mono (by decide)) ZAY (pv 0))) (pv 6) (ZAS _)) (ZCX (ZAQ ZD2 (ZAp (ZAt U (hr.mono (by decide)) ZAY (pv 0)) (ZAt O (hr.mono (by decide)) ZAY (pv 0))) (pv 7) (ZAS _))))))
  (ZAI (ZAX ZD1)) ZAa)
  (ZAC (ZA4 (PW.pt (ZCo (ZAQ (ZEc hr.units) (ZBR ZBy (pv 2) (ZBc (pv 8)) ZCc) (ZBR ZBy (pv 4) ZCc (ZBc (ZAT ZCC (ZAL ZAJ rfl T.b_len PySem.boot_len (ZAA (pv 2) ZAE)) (pv 8)))) (ZAS _)) (ZCX (ZAQ op_ge (ZAT ZCC (ZAL ZAJ rfl T.b_len PySem.boot_len (ZAA (pv 2) ZAE)) (pv 8)) (ZAL ZAJ rfl T.b_len PySem.boot_len (ZAA (pv 4) ZAE)) (ZAS _)))))
  (ZAI (ZAX ZD1)) ZAa)
  (ZAC (ZBb (ZDI a2 (hr.mono (by decide)) ZAY (pv 1) (ZAA (pv 5) ZAE)))
  (ZAC (ZAO (i:=8) sc_step.nd rfl (by walk_at "o") (ZAL ZAJ rfl T.b_len PySem.boot_len (ZAA (pv 2) ZAE)))
  (ZAI (ZE7 (ZAs a4 (hr.mono (by decide)) rfl ZAY (ZAA (pv 0) ZAE)) (ZEa (n:=2) rfl (ZBQ (ZAZ (i:=9) sc_step.nd rfl (by walk_at "o")) (ZBQ (ZAZ (i:=10) sc_step.nd rfl (by walk_at "o")) ZDo))))))))) ZAa)
  (ZAR
  (ZAC (ZA4 (PW.pt (ZCo (ZAQ ZD2 (pv 9) ZDz (ZAS _)) (ZCo (ZDc (ZCB (ZAs a3 (hr.mono (by decide)) rfl ZAY (ZAA (pv 10) ZAE)))) (ZCo (ZAQ ZD2 (pv 10) (pv 7) (ZAS _)) (ZCX (ZAQ ZD2 (pv 10) (pv 3) (ZAS _)))))))
  (ZAI (ZAX ZD1)) ZAa)
  (ZAR
  (ZAI (ZAX (ZDd (ZBl (op_eqD hr.units) (ZBR ZBy (pv 2) (ZBc (pv 8)) ZCc) (pv 4) (ZAS _)) (ZDd (ZAs a3 (hr.mono (by decide)) rfl ZAY (ZAA (ZAp (ZAt L (hr.mono (by decide)) ZAY (pv 0)) (ZAt J (hr.mono (by decide)) ZAY (pv 0))) ZAE)) (ZEb (ZBl ZB3 (ZAp (ZAt L (hr.mono (by decide)) ZAY (pv 0)) (ZAt J (hr.mono (by decide)) ZAY (pv 0))) (ZAT ZCC (pv 6) ZAH) (ZAS _))))))))))))))))))),?_⟩
 walk_at "rd"
 have ah:=(hR hz).top hz
 rw [hb] at ah
 have ak:∀ t∈ts,t <= 500:=fun t h=>yAG (aq t h) (by decide)
 have a8:ts.length <= 500:=by rw [pa.tlen];omega
 have eL:∀ X,PourAt bb (cond bb C_LastPour C_Pour) X p a pl tk ml wd pls pcs ts w0 kvs->∀ R:VK,(∀ X',Same X X'->R (.int (m:Int)) X')->((∃ a dx fs,V.ref p=V.ref a /\ X a=some (HO.ins C_Pour dx fs) /\ List.lookup (Str.ofString "left") fs=none /\ ZBO false C_Pour [V.ref p] X R E0)∨(∃ a dx fs,V.ref p=V.ref a /\ X a=some (HO.ins C_LastPour dx fs) /\ List.lookup (Str.ofString "left") fs=none /\ ZBO true C_LastPour [V.ref p] X R E0)):=fun X a0 R h=>by
  have lf:ZBO bb (cond bb C_LastPour C_Pour) [.ref p] X R E0:=⟨p,a,pl,tk,ml,wd,pls,pcs,ts,rfl,a0.pb,a0.htk,by omega,a8,ac,ak,fun X' sX=>by
   have:=h X' sX
   rw [hm,Int.natCast_add,show ((ts.sum:Nat):Int)+(m:Nat)-((ts.sum:Nat):Int)=(m:Int) by omega]
   exact this⟩
  cases bb
  .exact .inl (a0.pb.hp.meth (by walk_at "lk") lf)
  .exact .inr (a0.pb.hp.meth (by walk_at "lk") lf)
 have eM:∀ X a1 w' ag,PourAt bb (cond bb C_LastPour C_Pour) X p a pl tk ml a1 pls pcs (ts.set i (t+1)) w' ag->∀ R:VK,(∀ X',Same X X'->R (.int ((m:Int)-1)) X')->((∃ a dx fs,V.ref p=V.ref a /\ X a=some (HO.ins C_Pour dx fs) /\ List.lookup (Str.ofString "left") fs=none /\ ZBO false C_Pour [V.ref p] X R E0)∨(∃ a dx fs,V.ref p=V.ref a /\ X a=some (HO.ins C_LastPour dx fs) /\ List.lookup (Str.ofString "left") fs=none /\ ZBO true C_LastPour [V.ref p] X R E0)):=fun X a1 w' ag a0 R h=>by
  have lf:ZBO bb (cond bb C_LastPour C_Pour) [.ref p] X R E0:=⟨p,a,pl,tk,ml,a1,pls,pcs,ts.set i (t+1),rfl,a0.pb,a0.htk,by omega,by rw [yCB];exact a8,ac,(fun u hu=>by
    rcases List.mem_or_eq_of_mem_set hu with z | z
    .exact ak u z
    .have:=aq t (yAL ht);omega),fun X' sX=>by
   have:=h X' sX
   rw [ZEG ht,hm,show (((ts.sum+m:Nat):Int)-((ts.sum+1:Nat):Int))=(m:Int)-1 by omega]
   exact this⟩
  cases bb
  .exact .inl (a0.pb.hp.meth (by walk_at "lk") lf)
  .exact .inr (a0.pb.hp.meth (by walk_at "lk") lf)
 have eF:∀ X,PourAt bb (cond bb C_LastPour C_Pour) X p a pl tk ml wd pls pcs ts w0 kvs->∀ R:VK,(∀ X',Same X X'->R (.int (x:Int)) X')->((∃ a dx fs,V.ref p=V.ref a /\ X a=some (HO.ins C_Pour dx fs) /\ List.lookup (Str.ofString "first") fs=none /\ ZCF false C_Pour [V.ref p] X R E0)∨(∃ a dx fs,V.ref p=V.ref a /\ X a=some (HO.ins C_LastPour dx fs) /\ List.lookup (Str.ofString "first") fs=none /\ ZCF true C_LastPour [V.ref p] X R E0)):=fun X a0 R h=>by
  have lf:ZCF bb (cond bb C_LastPour C_Pour) [.ref p] X R E0:=⟨p,a,pl,tk,ml,wd,pls,pcs,w0,_,kvs,some (x,i),rfl,a0.pb,a0.hwd,.inl ah,fun Y sY=>h Y sY⟩
  cases bb
  .exact .inl (a0.pb.hp.meth (by walk_at "lk") lf)
  .exact .inr (a0.pb.hp.meth (by walk_at "lk") lf)
 refine eL H pa _ fun Y sY=>?_
 refine ZAW ?_
 walk_at "rd"
 refine eF Y (pa.mono sY) _ fun Y1 bo=>?_
 refine ZAW ?_
 walk_at "rd"
 have S1:=sY.trans bo
 have ba:=pa.mono S1
 have ap:=st.mono S1
 obtain ⟨bq,b7,b4⟩:=ap.hlg
 refine ⟨lg,bq,rfl,.inl (SqL.of b7),?_⟩
 rw [b4.len]
 refine ZAW ?_
 walk_at "rd"
 apply ZFR (α:=Hp×Nat×List (Nat×Nat)×Addr×Po.W×List (List Key×V)) (fun z=>[some (.ref p),some (.ref a),some (.ref lg),some (.int (x:Int)),some (.ref aa),some (.int (mr:Int)),some (.int (m:Int)),some (.int (x:Int)),some (.int (z.2.2.1.length:Int)),some (.str (Str.ofString "told")),some (.int (x:Int))]) (fun z=>z.1) (fun z=>Fr [p,tk,a,lg,tl] H z.1 /\ PourAt bb (cond bb C_LastPour C_Pour) z.1 p a pl tk ml z.2.2.2.1 pls pcs (ts.set i (t+1)) z.2.2.2.2.1 z.2.2.2.2.2 /\ Po.Right (ahB bb ks) (frs pcs (ts.set i (t+1))) z.2.2.2.2.1 0 pcs.length /\ SitL (.int (z.2.1:Nat)) C_Asker C_AskedRule z.1 ks xs a rl ru tl g lg (z.2.2.1++alT bb ks pcs (ts.set i (t+1)) i) /\ z.2.2.1.length <= pr.length+(alT bb ks pcs (ts.set i (t+1)) i).length)
 .intro a7
  refine ⟨bb,.int k,ks,xs,a,rl,ru,tl,g,lg,p,pl,tk,ml,wd,pr,pls,pcs,ts,w0,kvs,x,i,t,rfl,ap,ba,px,hn,an,av,hR,by omega,hz,hb,hi,ht,fun k' t0 e d H2 ek e2 e3 f2 au he hd st2=>?_,fun t0 a1 w' H2 a6 f2 bw c0 st2 au=>?_⟩
  .injection ek with ek
   have ek:k'=k:=by omega
   subst ek
   have c6:(alT bb ks pcs (ts.set i (t+1)) i).length <= pcs.length:=by rw [yAA];exact ZCj
   have lk:(pr++(alT bb ks pcs (ts.set i (t+1)) i).take (k' - pr.length)).length=k':=by rw [yAC,yAP];omega
   refine ZDP (SqT.of au) rfl ?_
   walk_at "rd"
   refine ZAW ?_
   walk_at "rd"
   refine ⟨k',ks,xs,a,rl,ru,tl,g,lg,e,d,_,rfl,st2,lk,he,hd,fun H3 s3=>⟨_,rfl,?_⟩⟩
   rw [if_neg (by decide)]
   have b5:=(ba.px ap px f2).mono s3
   refine eL H3 b5 _ fun X4 s4=>?_
   walk_at "rd"
   rw [if_neg (by simp)]
   refine eF X4 (b5.mono s4) _ fun X5 s5=>?_
   walk_at "rd"
   rw [if_neg (by simp)]
   have b8:=s3.trans (s4.trans s5)
   have bg:=st2.mono b8
   obtain ⟨ax,a9,ai⟩:=bg.hlg
   have f5:Fr [a,lg,tl] H X5:=S1.fr.trans (f2.trans b8.fr)
   have b1:aa∉[a,lg,tl]:=fun z=>aw (yAM _ (yAM _ z))
   have aj:=f5 _ _ b1 ay
   have b0:=ad.keep fun b z h=>f5 _ _ (st.tupS h (fun _ z=>by cases z) (fun _ _ _ z=>by cases z)) h
   have al:=ai.len
   rw [lk] at al
   refine ZCW (SqL.of a9) fun l1 ar=>?_
   rw [ZCv _ _ (by omega)]
   obtain ⟨X6,e6,s6,h6⟩:=newH ar (.lst (ax.drop pr.length))
   rw [e6];clear e6
   refine ⟨lg,ax,rfl,.inl (SqL.of (s6 _ _ a9)),?_⟩
   rw [al,show (k':Int)-(pr.length:Int)=((k' - pr.length:Nat):Int) by omega]
   refine ZCW (SqL.of (s6 _ _ aj)) fun l2 bx=>?_
   rw [cutV_to (by rw [ad.len];omega)]
   obtain ⟨X7,e7,s7,h7⟩:=newH bx (.lst (us.take (k' - pr.length)))
   rw [e7];clear e7
   have kt:∀ b z,X5 b=some (.tup z)->X7 b=some (.tup z):=fun b z h=>s7 _ _ (s6 _ _ h)
   refine ZDi (s7 _ _ h6) h7 ((ai.keep kt).dropP) ((b0.keep kt).tk _) ?_
   refine ⟨_,rfl,?_⟩
   rw [if_neg (by decide)]
   refine ⟨lg,ax,rfl,.inl (SqL.of (s7 _ _ (s6 _ _ a9))),aa,us,rfl,.inl (SqL.of (s7 _ _ (s6 _ _ aj))),?_⟩
   rw [al,ad.len,if_neg (by omega)]
   have ao:=bg.mono (s6.trans s7)
   refine ao.ha.meth (by walk_at "lk") ⟨a,rl,ru,tl,_,_,((mr:Nat):Int),rfl,ao.ha,.inr ⟨_,rfl⟩,fun H8 k8 b3=>?_⟩
   have ew:wdn (V.int (k':Nat)) ((mr:Nat):Int)=V.int ((k' + mr:Nat):Int):=by show V.int _=_;rw [Int.natCast_add]
   rw [ew] at b3
   have bf:=ao.widened k8 b3 (.inr ⟨_,rfl,by omega⟩)
   have f8:Fr [a,lg,tl] H H8:=f5.trans ((s6.trans s7).fr.trans fun b o n h=>(k8 b (fun z=>n (by rw [z];exact yAF))).trans h)
   have bv:=pa.px st px f8
   obtain ⟨bi,b2,bh⟩:=bf.hlg
   refine ⟨lg,bi,rfl,.inl (SqL.of b2),?_⟩
   rw [bh.len]
   refine ⟨bb,.int ((k' + mr:Nat):Int),ks,xs,a,rl,ru,tl,g,lg,p,pl,tk,ml,wd,_,pls,pcs,ts,w0,kvs,x,i,t,rfl,bf,bv,px,hn,an,av,hR,by omega,hz,hb,hi,ht,fun k3 t3 e3 d3 H9 bc c7 c5 f9 be c4 c3 b6=>?_,fun t3 a1 w' H9 a6 f9 bj bn b6 be=>?_⟩
   .exfalso
    injection bc with bc
    omega
   .refine ZDP (SqT.of be) rfl ?_
    walk_at "rd"
    exact a7 (H9,k' + mr,pr++(alT bb ks pcs (ts.set i (t+1)) i).take (k' - pr.length),a1,w',a6) ⟨Fr.trans (fun b o n h=>f8 b o (fun z=>n (yAM _ (yAM _ z))) h) f9,bj,bn,b6,by rw [lk];omega⟩
  .refine ZDP (SqT.of au) rfl ?_
   walk_at "rd"
   refine ZAW ?_
   walk_at "rd"
   rw [if_neg (by decide)]
   exact a7 (H2,k,pr,a1,w',a6) ⟨S1.fr.trans f2,bw,c0,st2,Nat.le_add_right _ _⟩
 rintro ⟨Z,k2,bu,a1,w',a6⟩ ⟨fZ,ae,az,am,bz⟩
 dsimp only at fZ ae az am bz
 refine ZAW ?_
 walk_at "rd"
 rw [if_neg (fun z=>z trivial)]
 refine ⟨_,rfl,_,rfl,?_⟩
 rw [if_neg (by decide),if_neg (fun z=>z trivial),if_neg (fun z=>z trivial)]
 refine ZAW ?_
 walk_at "rd"
 obtain ⟨br,b9,af⟩:=am.hlg
 have bd:=fZ _ _ aw ay
 refine ZCW (SqL.of b9) fun l1 ar=>?_
 rw [ZCv _ _ (by rw [af.len,yAC];omega)]
 obtain ⟨X6,e6,s6,h6⟩:=newH ar (.lst (br.drop bu.length))
 rw [e6];clear e6
 have tS:∀ b z,H b=some (.tup z)->b∉[p,tk,a,lg,tl]:=fun b z h y=>by
  rcases yAE.mp y with y | y
  .obtain ⟨_,_,e1,_⟩:=pa.pb.hp.ex
   rw [y,e1] at h;cases h
  rcases yAE.mp y with y | y
  .rw [y,pa.htk] at h;cases h
  exact st.tupS h (fun _ z=>by cases z) (fun _ _ _ z=>by cases z) y
 refine told_eq h6 (s6 _ _ bd) ((af.keep fun b z h=>s6 _ _ h).dropP) (ad.keep fun b z h=>s6 _ _ (fZ _ _ (tS b z h) h)) ⟨_,rfl,?_⟩
 rw [if_pos rfl]
 refine eM X6 a1 w' a6 (ae.mono s6) _ fun X7 s7=>⟨_,rfl,_,rfl,?_⟩
 rw [if_pos rfl]
 refine eM X7 a1 w' a6 (ae.mono (s6.trans s7)) _ fun X8 s8=>?_
 walk_at "rd"
 have S8:=s6.trans (s7.trans s8)
 exact q k2 _ a1 w' X8 a6 (fZ.trans S8.fr) (ae.mono S8) az (am.mono S8) (by rw [yAC];omega)
theorem ok_law {f:Addr} {fd:FuncData} (F:Fun K "law" "law" ZDn f fd) (T:Bt K mg C_Pour C_LastPour C_Asker C_AskedRule C_HallError C_NoPlace C_TooFar C_Spent)
  (du:Fn P w K mg base CX0 "_law_keys" 3 ["_law_script","_law_most"] (ZE2 K))
  (dh:Fn P w K mg base CX0 "_law_dealt" 3 ["_law_keys_here","_law_script"] (ZDG K))
  (b9:Fn P w K mg base CX0 "_law_made" 12 ["_law_asker","_law_pieces","_law_last"] (ZDm C_Asker C_AskedRule C_LastPour C_Pour))
  (af:Fn P w K mg base CX0 "_law_cell_at" 1 ["_law_script","_law_k"] (ZDY K))
  (b5:Fn P w K mg base CX0 "_law_teller" 1 ["_law_log"] (ZEX Pt_teller (ZEj ZAN) "_law_teller_here" "_law_teller.<locals>._law_teller_here" (ZAP ZAN) (ZAM ZAN) (ZAD ZAN) ["_law_log"] [0] 1))
  (co:Fn P w K mg base CX0 "_law_whole" 1 ["_law_found"] (ZDE))
  (dv:Fn P w K mg base CX0 "_law_step" 9 ["_law_pour","_law_asker","_law_log","_law_due","_law_asks","_law_more"] (ZDl C_Asker C_AskedRule C_Spent C_LastPour C_Pour))
  (av:Mt P w K mg base CX0 C_Asker "widen" 1 ["self","more"] (ZDk C_Asker))
  (a7:Mt P w K mg base CX0 C_Pour "left" 1 ["self"] (ZBO false C_Pour))
  (L:Mt P w K mg base CX0 C_LastPour "left" 1 ["self"] (ZBO true C_LastPour))
  (ai:Mt P w K mg base (CXE P w) C_Pour "take" 7 ["self"] (ZBf C_Asker C_AskedRule C_Spent false C_Pour))
  (a6:Mt P w K mg base (CXE P w) C_LastPour "take" 7 ["self"] (ZBf C_Asker C_AskedRule C_Spent true C_LastPour))
  (cm:Kl P w K mg base CX0 "Asker" C_Asker 1 ["self","row","rule","most"] (ZBZ C_Asker))
  (br:KlD P w K mg base CX0 "Asker" C_Asker 1 ["self","row","rule","most"] (ZBZ C_Asker) [.non])
  (ah:Kl P w K mg base CX0 "AskedRule" C_AskedRule 1 ["self","teller"] (ZCx C_AskedRule))
 :FnOk P w K mg base CX0 13 f fd ["_law_script"] (ZE1 K [(cc_teller,Pt_teller)]):=by
 refine F.ok sc_law (fun vs H Q E h=>?_) (fun jw A outer s H vs Q E hr h=>?_)
 .obtain ⟨a,ns,rfl,hS,fq,hT,q⟩:=h
  rfl
 obtain ⟨a,ns,rfl,hS,fq,hT,q⟩:=h
 refine ⟨_,(ZAC (ZAO (i:=1) sc_law.nd rfl (by walk_at "o") (ZAs du (hr.mono (by decide)) rfl ZAY (ZAA (pv 0) (ZAA ZAH ZAE))))
  (ZAR
  (ZAC (ZAO (i:=2) sc_law.nd rfl (by walk_at "o") (ZAs dh (hr.mono (by decide)) rfl ZAY (ZAA (pv 1) (ZAA (pv 0) ZAE))))
  (ZAR
  (ZAC (ZBp (i:=3) sc_law.nd rfl (Or.inl rfl) rfl (k:=2) (js:=[]) (N':=["_law_k","_law_key"]) (by rfl) (pi_enum rfl T.b_enumerate (ZAA (pv 1) ZAE)) (fun _ _ _ _=>pg_tupK (n:=2) K rfl (ZBQ (ZAZ (i:=0) (show (["_law_k","_law_key"]:List Str).Nodup by decide +kernel) rfl (by walk_at "o")) (ZBQ (ZAZ (i:=1) (show (["_law_k","_law_key"]:List Str).Nodup by decide +kernel) rfl (by walk_at "o")) ZDo))) (fun _ _ _ _=>ZA1) (fun _ _ _ _=>(ZBP (ZAA (pv 1) (ZAA (pv 0) ZAE)))))
  (ZAR
  (ZAC (ZAO (i:=4) sc_law.nd rfl (by walk_at "o") (ZAT ZAu (ZAs af (hr.mono (by decide)) rfl ZAY (ZAA (pv 0) (ZAA ZAH ZAE))) ZAH))
  (ZAR
  (ZAC (ZAO (i:=5) sc_law.nd rfl (by walk_at "o") (ZBl ZB3 (ZAT ZAu (ZAT ZAw (ZAs af (hr.mono (by decide)) rfl ZAY (ZAA (pv 0) (ZAA ZAH ZAE))) ZAH) ZAH) ZAH (ZAS _)))
  (ZAR
  (ZAC (ZAO (i:=6) sc_law.nd rfl (by walk_at "o") (ZBr ZAE))
  (ZAR
  (ZAC (ZAO (i:=7) sc_law.nd rfl (by walk_at "o") (ZAs b9 (hr.mono (by decide)) rfl ZAY (ZAA (pe_mkD br (hr.mono (by decide)) rfl ZAY (ZAA (pv 3) (ZAA (ZFl ah (hr.mono (by decide)) rfl ZAY (ZAA (ZAs b5 (hr.mono (by decide)) rfl ZAY (ZAA (pv 6) ZAE)) ZAE)) ZAE))) (ZAA (pv 2) (ZAA (pv 5) ZAE)))))
  (ZAR
  (ZAC (ZAO (i:=8) sc_law.nd rfl (by walk_at "o") (ZBr ZAE))
  (ZAR
  (ZAC (ZAO (i:=9) sc_law.nd rfl (by walk_at "o") (ZFl cm (hr.mono (by decide)) rfl ZAY (ZAA (pv 3) (ZAA (ZFl ah (hr.mono (by decide)) rfl ZAY (ZAA (ZAs b5 (hr.mono (by decide)) rfl ZAY (ZAA (pv 8) ZAE)) ZAE)) (ZAA (pv 4) ZAE)))))
  (ZAR
  (ZAC (ZAO (i:=10) sc_law.nd rfl (by walk_at "o") (ZAs b9 (hr.mono (by decide)) rfl ZAY (ZAA (pv 9) (ZAA (pv 2) (ZAA (pv 5) ZAE)))))
  (ZAR
  (ZAC (ZA4 (PW.pt (ZCo (ZAQ ZD2 (ZBl ZCq (pv 10) ZBE (ZAS _)) (ZBl op_gt (ZAL ZAJ rfl T.b_len PySem.boot_len (ZAA (pv 6) ZAE)) (pv 4) (ZAS _)) (ZAS _)) (ZCX (ZAQ (ZEc hr.units) (pv 8) (ZBR ZBy (pv 6) ZCc (ZBc (pv 4))) (ZAS _)))))
  (ZAI (ZAX ZD1)) ZAa)
  (ZAR
  (ZAC (ZA4 (ZAQ ZCq (pv 10) ZBE (ZAS _))
  (ZAC (ZBb (ZDI av (hr.mono (by decide)) ZAY (pv 9) (ZAA (ZAL ZAJ rfl T.b_len PySem.boot_len (ZAA (pv 2) ZAE)) ZAE)))
  (ZAC (ZAO (i:=10) sc_law.nd rfl (by walk_at "o") (ZAs b9 (hr.mono (by decide)) rfl ZAY (ZAA (pv 9) (ZAA (pv 2) (ZAA (pv 5) ZAE)))))
  (ZAI (ZA4 (PW.pt (ZCo (ZAQ ZCq (pv 10) ZBE (ZAS _)) (ZCX (ZAQ (ZEc hr.units) (ZBR ZBy (pv 8) (ZBc (pv 4)) ZCc) (pv 6) (ZAS _)))))
  (ZAI (ZAX ZD1)) ZAa)))) ZAa)
  (ZAR
  (ZAC (ZAO (i:=11) sc_law.nd rfl (by walk_at "o") (ZAT ZBd (ZE9 PySem.F.plainAttrs_int PySem.F.slot_int_bit_length PySem.F.type_int_bit_length mt_bitlen (ZAL ZAJ rfl T.b_len PySem.boot_len (ZAA (pv 2) ZAE))) (ZAT ZAu (ZAT ZAw (ZAs af (hr.mono (by decide)) rfl ZAY (ZAA (pv 0) (ZAA ZAH ZAE))) ZAH) ZAH)))
  (ZAR
  (ZAC (ZAO (i:=12) sc_law.nd rfl (by walk_at "o") (ZBr ZAE))
  (ZAR
  (ZAC (ZCY PassesOwn.never rfl (ZAv (pv 2)) (ZAZ (i:=13) sc_law.nd rfl (by walk_at "o"))
  (ZAI (ZAO (i:=12) sc_law.nd rfl (by walk_at "o") (ZAT ZEd (pv 12) (ZB1 rfl (k:=1) (js:=[1]) (N':=["_law_place","_law_keys_here"]) (by rfl) (ZAv (pv 13)) (fun _ _ _ _=>ZAZ (i:=0) (show (["_law_place","_law_keys_here"]:List Str).Nodup by decide +kernel) rfl (by walk_at "o")) (fun _ _ _ _=>ZA1) (fun _ _ _ _=>(ZBP (ZAA (ZBC (ix_listK K) (pv 1) (pv 0) (fun _ _=>rfl)) (ZAA (pv 0) ZAE)))))))))
  (ZAR
  (ZAC (ZAO (i:=12) sc_law.nd rfl (by walk_at "o") (ZAL call_sortedT rfl T.b_sorted PyProof.Rows.boot_sorted (ZAA (pv 12) ZAE)))
  (ZAR
  (ZAC (ZA4 (ZCB (pv 5))
  (ZAI (ZBb (ZE9 PySem.F.plainAttrs_list PySem.F.slot_list_reverse PySem.F.type_list_reverse mt_reverse (pv 12)))) ZAa)
  (ZAR
  (ZAC (ZA4 (PW.pt (ZCo (ZDc (ZCB (ZAs co (hr.mono (by decide)) rfl ZAY (ZAA (ZAp (ZAt a7 (hr.mono (by decide)) ZAY (pv 10)) (ZAt L (hr.mono (by decide)) ZAY (pv 10))) ZAE)))) (ZCX (ZAQ ZD2 (ZAp (ZAt a7 (hr.mono (by decide)) ZAY (pv 10)) (ZAt L (hr.mono (by decide)) ZAY (pv 10))) (ZAL ZAJ rfl T.b_len PySem.boot_len (ZAA (pv 12) ZAE)) (ZAS _)))))
  (ZAI (ZAX ZD1)) ZAa)
  (ZAR
  (ZAC (ZCY PassesOwn.never rfl (ZAv (pv 12)) (ZAZ (i:=14) sc_law.nd rfl (by walk_at "o"))
  (ZAC (ZAO (i:=15) sc_law.nd rfl (by walk_at "o") (ZAL ZAJ rfl T.b_len PySem.boot_len (ZAA (pv 6) ZAE)))
  (ZAI (ZA4 (PW.pt (ZCo (ZAQ ZD2 (ZAp (ZAt ai (hr.mono (by decide)) ZFQ (pv 7)) (ZAt a6 (hr.mono (by decide)) ZFQ (pv 7))) (ZBC ZCD (pv 14) ZAH (fun _ _=>rfl)) (ZAS _)) (ZCX (ZDc (ZCB (ZAs dv (hr.mono (by decide)) rfl ZAY (ZAA (pv 10) (ZAA (pv 9) (ZAA (pv 8) (ZAA (ZBC ZCD (pv 14) ZAH (fun _ _=>rfl)) (ZAA (ZBR ZBy (pv 6) (ZBc (pv 15)) ZCc) (ZAA (pv 11) ZAE))))))))))))
  (ZAI (ZAX ZD1)) ZAa))))
  (ZAR
  (ZAI (ZAX (ZDd (ZBl ZCq (ZAp (ZAt ai (hr.mono (by decide)) ZFQ (pv 10)) (ZAt a6 (hr.mono (by decide)) ZFQ (pv 10))) ZBE (ZAS _)) (ZDd (ZBl ZB3 (ZAp (ZAt a7 (hr.mono (by decide)) ZAY (pv 10)) (ZAt L (hr.mono (by decide)) ZAY (pv 10))) ZAH (ZAS _)) (ZEb (ZBl ZB3 (ZAh (pv 9) rfl) (ZAL ZAJ rfl T.b_len PySem.boot_len (ZAA (pv 8) ZAE)) (ZAS _))))))))))))))))))))))))))))))))))))))))))))),?_⟩
 walk_at "rd"
 refine ⟨a,ns,rfl,hS,fq,fun ky Hk ks gu jo em j6=>?_⟩
 refine ZAW ?_
 walk_at "rd"
 refine ⟨ky,a,ks,ns,rfl,em,j6,gu.seq hS,fq,fun aw ap zss Hd sD iv i1 gn jl k8 ao d7 f8=>?_⟩
 have hu:=gn.len
 have cp:=sD _ _ em
 refine ZAW ?_
 walk_at "rd"
 refine compE_of (SqL.of cp) (by rw [yAA];omega) (fun i ys σ H'=>∃ v w,σ=[v,w] /\ Same Hd H' /\ ys.length=i /\ ∀ (j:Nat) k,j < i->ks[j]?=some k->∃ r,ys[j]?=some (V.ref r) /\ H' r=some (.tup [.int k,.int j])) ⟨_,_,rfl,.refl _,rfl,fun _ _ h=>by omega⟩ (fun i ys σ H' _ ⟨_,_,_,s,l,_⟩=>⟨SqL.of (s _ _ cp),Nat.le_of_eq l⟩) ?_ ?_
 .rintro i ys x σ H' p hi hx ⟨v,w,rfl,s3,hl,cw⟩ hp
  obtain ⟨k,hk,rfl⟩:=ZCr hx
  walk_at "rd"
  refine ZDP (SqT.of ZAF) rfl ?_
  walk_at "rd"
  refine ⟨ZAb (by decide),fun t ht=>?_⟩
  refine Nxt.of hi ⟨_,_,rfl,(s3.new hp).new ht,by rw [yAC,hl];rfl,fun j k' hj fn=>?_⟩
  by_cases z:j < i
  .obtain ⟨r,a1,a2⟩:=cw j k' z fn
   exact ⟨r,by rw [yAX (by omega)];exact a1,ZAK ht _ _ _ (ZAK hp _ _ _ a2)⟩
  .have:j=i:=by omega
   subst this
   rw [hk] at fn;cases fn
   exact ⟨t,by rw [<- hl,yAW (yAB _),yBU];rfl,ZAF⟩
 rintro xs σ H3 ⟨v,w,rfl,s3,hh,cw⟩ rw en
 rw [yAA] at hh cw
 obtain ⟨H0,e0,s0,gv⟩:=newH en (.lst xs)
 rw [e0];clear e0
 have bx:Things H0 ks xs:=⟨hh,fun i k hk=>let ⟨r,a1,a2⟩:=cw i k (yAK.mp hk).1 hk;⟨r,a1,s0 _ _ a2⟩⟩
 have dw:=s3.trans s0
 have ct:=gu.trans (sD.trans dw)
 have gf:=dw _ _ cp
 have aq:=dw _ _ i1
 have eu:∀ (i:Nat) b ys,ap[i]?=some b->zss[i]?=some ys->H0 b=some (.lst (nL ys)):=fun i b ys h1 h2=>dw _ _ (gn.at' i b ys h1 h2)
 have i7:H Pt_teller=some (.tbl #[]):=hT _ yAF
 clear cw en s3 s0
 refine ZAW ?_
 walk_at "rd"
 refine ⟨a,ns,1,rfl,ct.seq hS,by decide,?_⟩
 generalize cellOf ns 1=c1
 walk_at "rd"
 refine ⟨by decide,?_⟩
 obtain ⟨mb,im,jp⟩:∃ mb:Nat,c1 % 60=(mb:Int) /\ mb < 60:=⟨(c1 % 60).toNat,by omega,by omega⟩
 rw [im]
 refine ZAW ?_
 walk_at "rd"
 refine ⟨a,ns,1,rfl,ct.seq hS,by decide,?_⟩
 generalize cellOf ns 1=c2
 walk_at "rd"
 refine ⟨⟨by decide,by decide⟩,by decide,?_⟩
 generalize decide (c2 / 60 % 2=1)=bb
 refine ZAW ?_
 walk_at "rd"
 refine ⟨yAH _,fun lg hlg=>?_⟩
 obtain ⟨H4,e4,az,ed⟩:=newH hlg (.lst [])
 rw [e4];clear e4
 have h4:=az _ _ gv
 have ee:Things H4 ks xs:=⟨bx.1,fun i k hk=>let ⟨r,a1,a2⟩:=bx.2 i k hk;⟨r,a1,az _ _ a2⟩⟩
 have e8:TabT H4 Pt_teller:=.inl (az _ _ (ct _ _ i7))
 have jf:Bd .non ([]:List (Nat×Nat)).length:=.inl rfl
 refine ZAW ?_
 walk_at "rd"
 have e9:∃ t,H4 Pt_teller=some (.tbl t):=by
  rcases e8 with h | ⟨c',h,_⟩
  .exact ⟨_,h⟩
  .exact ⟨_,h⟩
 refine ⟨rfl,e8,fun g H5 md=>?_⟩
 have nP:∀ b o,H4 b=some o->(∀ t,o≠.tbl t)->b≠Pt_teller:=fun b o h n z=>by obtain ⟨t,ht⟩:=e9;rw [z,ht] at h;exact n _ (Option.some.inj h).symm
 intro ru dr hru d5 jd
 have ev:upd H5 dr (.own ru) ru=none:=by rw [ZAG (Ne.symm jd)];exact hru
 have s6:Same H5 (upd (upd H5 dr (.own ru)) ru (.ins C_AskedRule dr [])):=(ZAK d5 _).trans (ZAK ev _)
 refine ⟨ru,dr,g,rfl,ZAF,fun H7 k7 ir=>⟨rfl,?_⟩⟩
 have b0:∀ b o,H5 b=some o->H7 b=some o:=fun b o h=>k7 b o (ZAB h hru) (s6 _ _ h)
 intro ak da cc hv j2
 have ez:upd H7 da (.own ak) ak=none:=by rw [ZAG (Ne.symm j2)];exact cc
 have s8:Same H7 (upd (upd H7 da (.own ak)) ak (.ins C_Asker da [])):=(ZAK hv _).trans (ZAK ez _)
 have et:∃ t,H5 Pt_teller=some (.tbl t):=by
  rcases md.tab with h | ⟨c',h,_⟩
  .exact ⟨_,h⟩
  .exact ⟨_,h⟩
 have u7:∀ b o,H4 b=some o->(∀ t,o≠.tbl t)->H7 b=some o:=fun b o h n=>b0 _ _ (md.same b o (nP b o h n) h)
 have eh:=u7 rw _ h4 fun _ z=>by cases z
 refine ⟨ak,da,rw,ru,_,xs,rfl,ZAF,s8 _ _ eh,fun rl tl HA k9 f6 e1 iz ia ej htl=>⟨rfl,?_⟩⟩
 have u9:∀ b o,H7 b=some o->HA b=some o:=fun b o h=>k9 b o (ZAB h cc) (s8 _ _ h)
 have c4:=u7 lg _ ed fun _ z=>by cases z
 have eb:upd (upd H7 da (.own ak)) ak (.ins C_Asker da []) ak=some (.ins C_Asker da []):=ZAF
 obtain ⟨jz,jr,er,_,_⟩:=ir.ex
 have ba:ru≠ak:=ZAB er cc
 have st:SitL _ C_Asker C_AskedRule HA ks xs ak rl ru tl g lg []:={
  ha:=ia
  hrl:=ej
  hru:=ZCJ (S:=[ak]) (fun b o n h=>k9 b o (fun z=>n (by rw [z];exact yAF)) (s8 _ _ h)) (fun z=>ba (yAN.mp z)) ir
  clo:=md.clo.mono fun b o h=>u9 _ _ (b0 _ _ h)
  len:=ee.1
  row:=fun i k hk=>by
   obtain ⟨r,a1,a2⟩:=ee.2 i k hk
   exact ⟨r,a1,u9 _ _ (u7 _ _ a2 fun _ z=>by cases z)⟩
  hlg:=⟨[],u9 _ _ c4,rfl,fun j p q h=>by simp at h⟩
  htl:=⟨[],htl,rfl,fun j p q h=>by simp at h⟩
  ne:=⟨ZAB (s8 _ _ c4) e1,ZEn (Ne.symm (ZAB eb f6)) (Ne.symm (ZAB (s8 _ _ c4) f6)) iz,ba⟩
  hmo:=jf }
 have dk:∀ b o,b≠Pt_teller->H4 b=some o->HA b=some o /\ (b≠lg->b∉[ak,lg,tl]):=fun b o n h=>by
  have h7:=b0 _ _ (md.same b o n h)
  exact ⟨u9 _ _ h7,fun nl=>ZEn (ZAB h7 cc) nl (ZAB (s8 _ _ h7) e1)⟩
 have hd:TabT HA Pt_teller:=by
  rcases md.tab with h | ⟨c',h,hc⟩
  .exact .inl (u9 _ _ (b0 _ _ h))
  .exact .inr ⟨c',u9 _ _ (b0 _ _ h),hc.mono fun b o hb=>u9 _ _ (b0 _ _ hb)⟩
 have ff:Pt_teller∉[ak,lg,tl]:=by
  obtain ⟨t,ht⟩:=et
  exact ZEn (ZAB (b0 _ _ ht) cc) (Ne.symm (nP lg _ ed fun _ z=>by cases z)) (ZAB (s8 _ _ (b0 _ _ ht)) e1)
 have back:∀ H',Fr [ak,lg,tl] HA H'->(∀ b o,b≠Pt_teller->H0 b=some o->H' b=some o) /\ TabT H' Pt_teller:=fun H' f=>by
  refine ⟨fun b o n h=>?_,?_⟩
  .obtain ⟨x1,x2⟩:=dk b o n (az _ _ h)
   exact f b o (x2 (ZAB h hlg)) x1
  .rcases hd with h | ⟨c',h,hc⟩
   .exact .inl (f _ _ ff h)
   .exact .inr ⟨c',f _ _ ff h,hc.mono fun b o hb=>f _ _ (st.tupS hb (fun _ z=>by cases z) (fun _ _ _ z=>by cases z)) hb⟩
 have up:∀ {b:Addr} {l:List V},H0 b=some (.lst l)->HA b=some (.lst l) /\ b∉[ak,lg,tl]:=fun {b l} h=>by
  obtain ⟨x1,x2⟩:=dk b _ (nP b _ (az _ _ h) fun _ z=>by cases z) (az _ _ h)
  exact ⟨x1,x2 (ZAB h hlg)⟩
 have ow:∀ b o,H0 b=some o->(∀ t,o≠.tbl t)->b∉[ak,rl,ru,tl,lg]:=fun b o h n z=>by
  have h5:=md.same b o (nP b o (az _ _ h) n) (az _ _ h)
  have h7:=b0 _ _ h5
  simp only [yAE,yBC,or_false] at z
  rcases z with z | z | z | z | z
  .exact ZAB h7 cc z
  .exact ZAB (s8 _ _ h7) f6 z
  .exact ZAB h5 hru z
  .exact ZAB (s8 _ _ h7) e1 z
  .exact ZAB h hlg z
 have fk:∀ b o,H0 b=some o->(∀ t,o≠.tbl t)->HA b=some o:=fun b o h n=>(dk b o (nP b o (az _ _ h) n) (az _ _ h)).1
 clear u7 u9 k9 k7 b0 md s8 s6 et eh c4 er eb ba ia ej htl hru ev ez d5 hv dk
 obtain ⟨pcs,an⟩:∃ pcs,pcs=zss.map (rv bb):=⟨_,rfl⟩
 have k6:pcs.length=zss.length:=by rw [an,yAA]
 have b1:∀ (i j:Nat) xi xj y,i≠j->pcs[i]?=some xi->pcs[j]?=some xj->y∈xi->y∉xj:=by rw [an];exact rvm_dj d7
 have gx:∀ ys∈pcs,ys.length <= 119 /\ ∀ y∈ys,y < ks.length:=fun ys h=>by
  rw [an] at h
  obtain ⟨zs,h1,rfl⟩:=yBF.mp h
  exact ⟨by rw [ZE4];exact (ao zs h1).2.2,fun y hy=>(ao zs h1).2.1 y (rv_mem.mp hy)⟩
 have al:∀ ys∈pcs,ys.length <= 500 /\ ∀ y∈ys,y < ks.length:=fun ys h=>⟨yAG (gx ys h).1 (by decide),(gx ys h).2⟩
 have dz:∀ ys∈pcs,ys.Pairwise (lxB bb ks):=by rw [an];exact rvm_srt fun ys h=>(ao ys h).1
 have c9:∀ X:Hp,(∀ b l,H0 b=some (.lst l)->X b=some (.lst l))->∀ (i:Nat) l ys,ap[i]?=some l->pcs[i]?=some ys->X l=some (.lst (nL (rv bb ys))):=fun X e i l ys h1 h2=>by
  rw [an] at h2
  obtain ⟨zs,h3,rfl⟩:=ZE3 h2
  rw [rv_rv]
  exact e _ _ (eu i l zs h1 h3)
 have uA:∀ b l,H0 b=some (.lst l)->HA b=some (.lst l):=fun b l h=>fk b _ h fun _ z=>by cases z
 have aj:pcs.length <= 200:=by omega
 refine ⟨.non,ks,xs,ak,rl,ru,tl,g,lg,aw,[],ap,pcs,bb,rfl,st,uA _ _ aq,by omega,c9 HA uA,aj,al,b1,by decide,(fun k H' e=>nomatch e),fun p pl tk ml wd pls w HB kvs fB pa hR px b6 fc=>?_⟩
 rw [yCX] at fc
 have w1:W67 .non C_Asker C_AskedRule (cond bb C_LastPour C_Pour) bb HB ks xs ak rl ru tl g lg p pl tk ml wd pls pcs (List.replicate pcs.length 0) w kvs (alM bb ks pcs):=⟨fc,pa,px,hR⟩
 obtain ⟨gm,di⟩:=back HB fB
 have bc:∀ b o,H0 b=some o->(∀ t,o≠.tbl t)->HB b=some o:=fun b o h n=>gm b o (fun z=>by rw [z,ct _ _ i7] at h;exact n _ (Option.some.inj h).symm) h
 have ik:∀ b o,H0 b=some o->(∀ t,o≠.tbl t)->b∉O67 ak rl ru tl lg p pl tk ml pls:=fun b o h n z=>by
  have h1:=ow b o h n
  have h2:=fk b o h n
  simp only [yAE,yBC,or_false] at h1
  simp only [O67,yAE] at z
  rcases z with z | z | z | z | z | z | z | z | z | z
  .exact h1 (.inl z)
  .exact h1 (.inr (.inl z))
  .exact h1 (.inr (.inr (.inl z)))
  .exact h1 (.inr (.inr (.inr (.inl z))))
  .exact h1 (.inr (.inr (.inr (.inr z))))
  .exact ZAB h2 b6.1 z
  .exact ZAB h2 b6.2.1 z
  .exact ZAB h2 b6.2.2.1 z
  .exact ZAB h2 b6.2.2.2.1 z
  .exact ZAB h2 (b6.2.2.2.2.2 b z) rfl
 clear st up back ow fk hd ff nP e9 fc pa px hR b6 uA gm fB
 refine ZAW ?_
 walk_at "rd"
 obtain ⟨b2,gj⟩:∃ b2,b2=HB:=⟨_,rfl⟩
 rw [<- gj] at w1 di bc ⊢
 clear gj
 refine ⟨yAH _,fun J c6=>?_⟩
 obtain ⟨cg,h8,ac,cx⟩:=newH c6 (.lst [])
 rw [h8];clear h8
 have je:=ac _ _ (bc _ _ gv fun _ z=>by cases z)
 have d3:Things cg ks xs:=⟨bx.1,fun i k hk=>let ⟨r,a1,a2⟩:=bx.2 i k hk;⟨r,a1,ac _ _ (bc _ _ a2 fun _ z=>by cases z)⟩⟩
 have bo:TabT cg Pt_teller:=tabT_same ac di
 have he:Bd (.int (mb:Nat)) ([]:List (Nat×Nat)).length:=.inr ⟨mb,rfl,yAH _⟩
 refine ZAW ?_
 walk_at "rd"
 have d4:∃ t,cg Pt_teller=some (.tbl t):=by
  rcases bo with h | ⟨c',h,_⟩
  .exact ⟨_,h⟩
  .exact ⟨_,h⟩
 refine ⟨rfl,bo,fun gB de bn=>?_⟩
 have ca:∀ b o,cg b=some o->(∀ t,o≠.tbl t)->b≠Pt_teller:=fun b o h n z=>by obtain ⟨t,ht⟩:=d4;rw [z,ht] at h;exact n _ (Option.some.inj h).symm
 intro U dq bz ec i2
 have d6:upd de dq (.own U) U=none:=by rw [ZAG (Ne.symm i2)];exact bz
 have gq:Same de (upd (upd de dq (.own U)) U (.ins C_AskedRule dq [])):=(ZAK ec _).trans (ZAK d6 _)
 refine ⟨U,dq,gB,rfl,ZAF,fun bp i4 gs=>⟨rfl,?_⟩⟩
 have ae:∀ b o,de b=some o->bp b=some o:=fun b o h=>i4 b o (ZAB h bz) (gq _ _ h)
 intro akB bv b4 el g9
 have d9:upd bp bv (.own akB) akB=none:=by rw [ZAG (Ne.symm g9)];exact b4
 have b3:Same bp (upd (upd bp bv (.own akB)) akB (.ins C_Asker bv [])):=(ZAK el _).trans (ZAK d9 _)
 have cz:∃ t,de Pt_teller=some (.tbl t):=by
  rcases bn.tab with h | ⟨c',h,_⟩
  .exact ⟨_,h⟩
  .exact ⟨_,h⟩
 have dy:∀ b o,cg b=some o->(∀ t,o≠.tbl t)->bp b=some o:=fun b o h n=>ae _ _ (bn.same b o (ca b o h n) h)
 have dc:=dy rw _ je fun _ z=>by cases z
 refine ⟨akB,bv,rw,U,_,xs,rfl,ZAF,b3 _ _ dc,fun a8 O ag fz d8 c7 gd g5 ch ea=>⟨rfl,?_⟩⟩
 have bf:∀ b o,bp b=some o->ag b=some o:=fun b o h=>fz b o (ZAB h b4) (b3 _ _ h)
 have b7:=dy J _ cx fun _ z=>by cases z
 have cr:upd (upd bp bv (.own akB)) akB (.ins C_Asker bv []) akB=some (.ins C_Asker bv []):=ZAF
 obtain ⟨jt,jg,g7,_,_⟩:=gs.ex
 have ay:U≠akB:=ZAB g7 b4
 have g4:SitL _ C_Asker C_AskedRule ag ks xs akB a8 U O gB J []:={
  ha:=g5
  hrl:=ch
  hru:=ZCJ (S:=[akB]) (fun b o n h=>fz b o (fun z=>n (by rw [z];exact yAF)) (b3 _ _ h)) (fun z=>ay (yAN.mp z)) gs
  clo:=bn.clo.mono fun b o h=>bf _ _ (ae _ _ h)
  len:=d3.1
  row:=fun i k hk=>by
   obtain ⟨r,a1,a2⟩:=d3.2 i k hk
   exact ⟨r,a1,bf _ _ (dy _ _ a2 fun _ z=>by cases z)⟩
  hlg:=⟨[],bf _ _ b7,rfl,fun j p q h=>by simp at h⟩
  htl:=⟨[],ea,rfl,fun j p q h=>by simp at h⟩
  ne:=⟨ZAB (b3 _ _ b7) c7,ZEn (Ne.symm (ZAB cr d8)) (Ne.symm (ZAB (b3 _ _ b7) d8)) gd,ay⟩
  hmo:=he }
 have c0:∀ b o,b≠Pt_teller->cg b=some o->ag b=some o /\ (b≠J->b∉[akB,J,O]):=fun b o n h=>by
  have h7:=ae _ _ (bn.same b o n h)
  exact ⟨bf _ _ h7,fun nl=>ZEn (ZAB h7 b4) nl (ZAB (b3 _ _ h7) c7)⟩
 have ey:TabT ag Pt_teller:=by
  rcases bn.tab with h | ⟨c',h,hc⟩
  .exact .inl (bf _ _ (ae _ _ h))
  .exact .inr ⟨c',bf _ _ (ae _ _ h),hc.mono fun b o hb=>bf _ _ (ae _ _ hb)⟩
 have cy:Pt_teller∉[akB,J,O]:=by
  obtain ⟨t,ht⟩:=cz
  exact ZEn (ZAB (ae _ _ ht) b4) (Ne.symm (ca J _ cx fun _ z=>by cases z)) (ZAB (b3 _ _ (ae _ _ ht)) c7)
 have fm:∀ H',Fr [akB,J,O] ag H'->(∀ b o,b≠Pt_teller->b2 b=some o->H' b=some o) /\ TabT H' Pt_teller:=fun H' f=>by
  refine ⟨fun b o n h=>?_,?_⟩
  .obtain ⟨x1,x2⟩:=c0 b o n (ac _ _ h)
   exact f b o (x2 (ZAB h c6)) x1
  .rcases ey with h | ⟨c',h,hc⟩
   .exact .inl (f _ _ cy h)
   .exact .inr ⟨c',f _ _ cy h,hc.mono fun b o hb=>f _ _ (g4.tupS hb (fun _ z=>by cases z) (fun _ _ _ z=>by cases z)) hb⟩
 have iw:∀ {b:Addr} {l:List V},b2 b=some (.lst l)->ag b=some (.lst l) /\ b∉[akB,J,O]:=fun {b l} h=>by
  obtain ⟨x1,x2⟩:=c0 b _ (ca b _ (ac _ _ h) fun _ z=>by cases z) (ac _ _ h)
  exact ⟨x1,x2 (ZAB h c6)⟩
 have fo:∀ b o,b2 b=some o->(∀ t,o≠.tbl t)->b∉[akB,a8,U,O,J]:=fun b o h n z=>by
  have h5:=bn.same b o (ca b o (ac _ _ h) n) (ac _ _ h)
  have h7:=ae _ _ h5
  simp only [yAE,yBC,or_false] at z
  rcases z with z | z | z | z | z
  .exact ZAB h7 b4 z
  .exact ZAB (b3 _ _ h7) d8 z
  .exact ZAB h5 bz z
  .exact ZAB (b3 _ _ h7) c7 z
  .exact ZAB h c6 z
 have d0:∀ b o,b2 b=some o->(∀ t,o≠.tbl t)->ag b=some o:=fun b o h n=>(c0 b o (ca b o (ac _ _ h) n) (ac _ _ h)).1
 clear dy bf fz i4 ae bn b3 gq cz dc b7 g7 cr ay g5 ch ea bz d6 d9 ec el c0
 have g3:∀ b o,H0 b=some o->(∀ t,o≠.tbl t)->ag b=some o:=fun b o h n=>d0 b o (bc b o h n) n
 have hL:(alM bb ks pcs).length <= pcs.length:=by rw [yAA];exact ZCj
 have kB:∀ X b o,Fr [akB,J,O] ag X->b2 b=some o->(∀ t,o≠.tbl t)->X b=some o:=fun X b o f h n=>f _ _ (fun z=>fo b o h n (by
  simp only [yAE,yBC,or_false] at z ⊢
  rcases z with z | z | z
  .exact .inl z
  .exact .inr (.inr (.inr (.inr z)))
  .exact .inr (.inr (.inr (.inl z))))) (d0 b o h n)
 have e7:∀ X,Fr [akB,J,O] ag X->W67 .non C_Asker C_AskedRule (cond bb C_LastPour C_Pour) bb X ks xs ak rl ru tl g lg p pl tk ml wd pls pcs (List.replicate pcs.length 0) w kvs (alM bb ks pcs):=fun X f=>w1.kept fun b o z h=>kB X b o f h fun t y=>by
  rcases z with z | z
  .rcases w1.own b z with ⟨l,hl⟩ | ⟨C,d,f,hl⟩ <;> (rw [hl,y] at h;cases h)
  .exact z.2.2 t y
 have df:∀ (X X':Hp) (pB a5 a3 a4:Addr) (plsB:List Addr),(∀ b o,b2 b=some o->(∀ t,o≠.tbl t)->X b=some o)->X pB=none->X a5=none->X a3=none->X a4=none->(∀ l∈plsB,X l=none)->∀ b o,b2 b=some o->(∀ t,o≠.tbl t)->b∉O67 akB a8 U O J pB a5 a3 a4 plsB:=fun X X' pB a5 a3 a4 plsB e h1 h2 h3 h4 h5 b o h n z=>by
  have y1:=fo b o h n
  have y2:=e b o h n
  simp only [yAE,yBC,or_false] at y1
  simp only [O67,yAE] at z
  rcases z with z | z | z | z | z | z | z | z | z | z
  .exact y1 (.inl z)
  .exact y1 (.inr (.inl z))
  .exact y1 (.inr (.inr (.inl z)))
  .exact y1 (.inr (.inr (.inr (.inl z))))
  .exact y1 (.inr (.inr (.inr (.inr z))))
  .exact ZAB y2 h1 z
  .exact ZAB y2 h2 z
  .exact ZAB y2 h3 z
  .exact ZAB y2 h4 z
  .exact ZAB y2 (h5 b z) rfl
 refine ZAW ?_
 walk_at "rd"
 apply ZFR (α:=Hp×Nat×(Addr×Addr×Addr×Addr×Addr)×List Addr×Po.W×List (List Key×V)×List (Nat×Nat)) (fun z=>[some (.ref a),some (.ref ky),some (.ref aw),some (.ref rw),some (.int (mb:Int)),some (.bl bb),some (.ref lg),some (.ref p),some (.ref J),some (.ref akB),some (.ref z.2.2.1.1),none,none,none,none,none]) (fun z=>z.1) (fun z=>(∀ b o,b2 b=some o->(∀ t,o≠.tbl t)->z.1 b=some o /\ b∉O67 akB a8 U O J z.2.2.1.1 z.2.2.1.2.1 z.2.2.1.2.2.1 z.2.2.1.2.2.2.1 z.2.2.2.1) /\ W67 (.int (z.2.1:Nat)) C_Asker C_AskedRule (cond bb C_LastPour C_Pour) bb z.1 ks xs akB a8 U O gB J z.2.2.1.1 z.2.2.1.2.1 z.2.2.1.2.2.1 z.2.2.1.2.2.2.1 z.2.2.1.2.2.2.2 z.2.2.2.1 pcs (List.replicate pcs.length 0) z.2.2.2.2.1 z.2.2.2.2.2.1 z.2.2.2.2.2.2 /\ z.2.2.2.2.2.2.length <= 500)
 .intro ar
  refine ⟨.int (mb:Nat),ks,xs,akB,a8,U,O,gB,J,aw,[],ap,pcs,bb,rfl,g4,g3 _ _ aq (fun _ z=>by cases z),by omega,c9 ag (fun b l h=>g3 _ _ h fun _ z=>by cases z),aj,al,b1,by decide,fun k X1 ek e2 e3 f1 b8=>?_,fun pB a5 a3 a4 dj plsB wB X1 dm f1 f7 f9 fu a0 b8=>?_⟩
  .injection ek with ek
   have ek:mb=k:=by omega
   subst ek
   rw [yCX] at b8
   have wX:=e7 X1 f1
   obtain ⟨bi,au,ad⟩:=wX.st.hlg
   refine ZAW ?_
   walk_at "rd"
   refine ⟨lg,bi,rfl,.inl (SqL.of au),?_⟩
   rw [ad.len]
   rw [yBL,yCH] at e3
   rw [yBL,Nat.sub_zero] at b8
   rw [if_neg (fun z=>z (by rw [decide_eq_true (show ((mb:Nat):Int) < ((alM bb ks pcs).length:Nat) by omega)];rfl))]
   refine ZCW (SqL.of au) fun l1 bg=>?_
   rw [cutV_to (by rw [ad.len];omega)]
   obtain ⟨X2,cn,s2,h2⟩:=newH bg (.lst (bi.take mb))
   rw [cn];clear cn
   obtain ⟨ix,bq,dg⟩:=b8.hlg
   refine ZDi (s2 _ _ bq) h2 (dg.keep fun _ _ z=>s2 _ _ z) ((ad.keep fun _ _ z=>s2 _ _ z).tk mb) ⟨_,rfl,?_⟩
   rw [if_neg (by decide)]
   have st2:=b8.mono s2
   have f2:Fr [akB,J,O] ag X2:=f1.trans s2.fr
   refine ZAW ?_
   walk_at "rd"
   refine st2.ha.meth (by walk_at "lk") ⟨aw,_,rfl,.inl (SqL.of (kB X2 aw _ f2 (bc _ _ aq (fun _ z=>by cases z)) (fun _ z=>by cases z))),?_⟩
   rw [yAA]
   refine ⟨akB,a8,U,O,_,_,((ap.length:Nat):Int),rfl,st2.ha,.inr ⟨_,rfl⟩,fun X3 k3 g6=>?_⟩
   have ew:wdn (V.int (mb:Nat)) ((ap.length:Nat):Int)=V.int ((mb+ap.length:Nat):Int):=by show V.int _=_;rw [Int.natCast_add]
   rw [ew] at g6
   have st3:=st2.widened k3 g6 (.inr ⟨_,rfl,by rw [yAP];omega⟩)
   have f3:Fr [akB,J,O] ag X3:=f2.trans fun b o n h=>(k3 b (fun z=>n (by rw [z];exact yAF))).trans h
   refine ⟨.int ((mb+ap.length:Nat):Int),ks,xs,akB,a8,U,O,gB,J,aw,_,ap,pcs,bb,rfl,st3,kB X3 aw _ f3 (bc _ _ aq (fun _ z=>by cases z)) (fun _ z=>by cases z),by omega,c9 X3 (fun b l h=>kB X3 b _ f3 (bc _ _ h (fun _ z=>by cases z)) (fun _ z=>by cases z)),aj,al,b1,by rw [yAP];omega,fun k4 X4 gb jx ji f4 st4=>?_,fun pB a5 a3 a4 dj plsB wB X4 dm f4 f7 f9 fu a0 st4=>?_⟩
   .exfalso
    injection gb with gb
    rw [yAP] at ji
    omega
   .walk_at "rd"
    rw [if_neg (fun z=>by cases z)]
    obtain ⟨ga,g0,cv⟩:=st4.hlg
    obtain ⟨ka,i3,gg⟩:=(e7 X4 (f3.trans f4)).st.hlg
    refine ZCW (SqL.of g0) fun l5 iu=>?_
    rw [ZCv _ _ (by rw [cv.len,yAC,yAP];omega)]
    obtain ⟨X5,gw,s5,h5⟩:=newH iu (.lst (ga.drop mb))
    rw [gw];clear gw
    have d5:=(cv.keep fun _ _ z=>s5 _ _ z).dropP
    rw [yAP,yCV (by omega)] at d5
    refine ZDi h5 (s5 _ _ i3) d5 (gg.keep fun _ _ z=>s5 _ _ z) ⟨_,rfl,?_⟩
    rw [if_neg (by decide)]
    exact ar (X5,mb+ap.length,(pB,a5,a3,a4,dj),plsB,wB,dm,(alM bb ks pcs).take mb++alM bb ks pcs) ⟨fun b o h n=>⟨kB X5 b o (f3.trans (f4.trans s5.fr)) h n,df X3 X4 pB a5 a3 a4 plsB (fun b o h n=>kB X3 b o f3 h n) a0.1 a0.2.1 a0.2.2.1 a0.2.2.2.1 a0.2.2.2.2.2 b o h n⟩,⟨st4.mono s5,f7.mono s5,fu,f9⟩,by show List.length (_++_) <= 500;rw [yAC,yAP];omega⟩
  .rw [yCX] at b8
   have wX:=e7 X1 f1
   obtain ⟨bi,au,ad⟩:=wX.st.hlg
   refine ZAW ?_
   walk_at "rd"
   refine ⟨lg,bi,rfl,.inl (SqL.of au),?_⟩
   rw [ad.len]
   have gk:(alM bb ks pcs).length <= mb:=by
    rcases b8.hmo with z | ⟨k,z1,z2⟩
    .cases z
    .injection z1 with z1;omega
   rw [if_neg (fun z=>z (by rw [decide_eq_false (show ¬ ((mb:Nat):Int) < ((alM bb ks pcs).length:Nat) by omega),decide_eq_false (fun z=>by cases z)]))]
   refine ZCW (SqL.of au) fun l1 bg=>?_
   rw [cutV_all (by rw [ad.len];omega)]
   obtain ⟨X2,cn,s2,h2⟩:=newH bg (.lst bi)
   rw [cn];clear cn
   obtain ⟨ix,bq,dg⟩:=b8.hlg
   refine ZDi (s2 _ _ bq) h2 (dg.keep fun _ _ z=>s2 _ _ z) (ad.keep fun _ _ z=>s2 _ _ z) ⟨_,rfl,?_⟩
   rw [if_neg (by decide)]
   refine ZAW ?_
   walk_at "rd"
   rw [if_neg (fun z=>by cases z)]
   exact ar (X2,mb,(pB,a5,a3,a4,dj),plsB,wB,dm,alM bb ks pcs) ⟨fun b o h n=>⟨kB X2 b o (f1.trans s2.fr) h n,df ag X1 pB a5 a3 a4 plsB (fun b o h n=>kB ag b o .refl h n) a0.1 a0.2.1 a0.2.2.1 a0.2.2.2.1 a0.2.2.2.2.2 b o h n⟩,⟨b8.mono s2,f7.mono s2,fu,f9⟩,by show (alM bb ks pcs).length <= 500;omega⟩
 rintro ⟨Z,k2,⟨pB,a5,a3,a4,dj⟩,plsB,wB,dm,ju⟩ ⟨cb,w2,gc⟩
 dsimp only at cb w2 gc
 refine ZAW ?_
 walk_at "rd"
 have dt:∀ b o,H0 b=some o->(∀ t,o≠.tbl t)->Z b=some o:=fun b o h n=>(cb b o (bc b o h n) n).1
 have gt:W67 .non C_Asker C_AskedRule (cond bb C_LastPour C_Pour) bb Z ks xs ak rl ru tl g lg p pl tk ml wd pls pcs (List.replicate pcs.length 0) w kvs (alM bb ks pcs):=w1.kept fun b o z h=>(cb b o h fun t y=>by
  rcases z with z | z
  .rcases w1.own b z with ⟨l,hl⟩ | ⟨C,d,f,hl⟩ <;> (rw [hl,y] at h;cases h)
  .exact z.2.2 t y).1
 have fh:∀ b∈O67 ak rl ru tl lg p pl tk ml pls,b∉O67 akB a8 U O J pB a5 a3 a4 plsB:=fun b hb=>by
  rcases w1.own b hb with ⟨l,hl⟩ | ⟨C,d,f,hl⟩
  .exact (cb b _ hl fun _ z=>by cases z).2
  .exact (cb b _ hl fun _ z=>by cases z).2
 have jq:∀ b o,H0 b=some o->(∀ t,o≠.tbl t)->b∉O67 ak rl ru tl lg p pl tk ml pls++O67 akB a8 U O J pB a5 a3 a4 plsB:=fun b o h n z=>(yAR.mp z).elim (ik b o h n) (cb b o (bc b o h n) n).2
 have ck:=dt _ _ aq (fun _ z=>by cases z)
 have hg:SqL K Z a (ns.map V.int):=sqL_nt (fun b o h n=>dt b o (ct _ _ h) n) hS
 clear g4 iw fm fo d0 ey cy ca d4 kB e7 df w1 g3
 refine ⟨aw,_,rfl,.inl (SqL.of ck),rfl,_,rfl,rfl,?_⟩
 rw [yAA,hu]
 refine ⟨a,ns,1,rfl,hg,by decide,?_⟩
 generalize cellOf ns 1=c3
 walk_at "rd"
 refine ⟨⟨by decide,by decide⟩,by decide,?_⟩
 obtain ⟨bt,gy⟩:∃ bt,Builtin.Int.intBits (zss.length:Int)=bt:=⟨_,rfl⟩
 have jm:pcs.length <= 2 ^ bt:=by
  have h1:=(bits_le (show (0:Int) <= (zss.length:Int) by omega)).mp (Nat.le_of_eq gy)
  have h2:(2:Int) ^ bt=((2 ^ bt:Nat):Int):=by simp
  omega
 rw [gy]
 obtain ⟨mr,io,jn⟩:∃ mr:Nat,((bt:Nat):Int)+c3 / 120 % 4=(mr:Int) /\ bt <= mr:=⟨((bt:Int)+c3 / 120 % 4).toNat,by omega,by omega⟩
 rw [io]
 refine ZAW ?_
 walk_at "rd"
 refine ⟨yAH _,fun o0 ja=>?_⟩
 obtain ⟨He,eE,sE,hE⟩:=newH ja (.lst [])
 rw [eE];clear eE
 have gp:=dt _ _ gf (fun _ z=>by cases z)
 have gz:∀ (i:Nat) b ys,ap[i]?=some b->zss[i]?=some ys->Z b=some (.lst (nL ys)):=fun i b ys h1 h2=>dt _ _ (eu i b ys h1 h2) (fun _ z=>by cases z)
 refine ZAW ?_
 walk_at "rd"
 refine ZCg (SqL.of (sE _ _ ck)) (fun i σ X=>∃ od zz cu,σ=[some (.ref a),some (.ref ky),some (.ref aw),some (.ref rw),some (.int (mb:Int)),some (.bl bb),some (.ref lg),some (.ref p),some (.ref J),some (.ref akB),some (.ref pB),some (.int (mr:Int)),some (.ref od),cu,none,none] /\ Same Z X /\ X od=some (.lst (zz.map fun z=>V.ref z.1)) /\ Prs X ks zz (zss.take i).flatten) ⟨o0,[],_,rfl,sE,hE,rfl,fun z hz=>by (cases hz)⟩ (fun i σ X _ ⟨_,_,_,_,e,_⟩=>SqL.of (e _ _ ck)) ?_ ?_
 .rintro i x σ X hx ⟨od,zz,cu,rfl,sX,g1,be⟩
  have hi:=(yAK.mp hx).1
  rw [yAA] at hi
  obtain ⟨ys,dl⟩:∃ ys,zss[i]?=some ys:=⟨_,yAD (by omega)⟩
  rw [yAJ,yAD hi] at hx
  cases hx
  have hq:=sX _ _ (gz i _ ys (yAD hi) dl)
  have it:=ao ys (yAL dl)
  walk_at "rd"
  refine ZBT (SqL.of hq) (by unfold nL;rw [yAA];omega) (fun j us σ X'=>∃ v yy,σ=[v,some (.ref ky)] /\ Same X X' /\ us=yy.map (fun z:PrA=>V.ref z.1) /\ yy.length=j /\ Prs X' ks yy (ys.take j)) ⟨_,[],rfl,.refl _,rfl,rfl,rfl,fun z h=>nomatch h⟩ (fun j us σ X' _ ⟨_,_,_,e,e2,e3,_⟩=>⟨SqL.of (e _ _ hq),by rw [e2,yAA];omega⟩) ?_ ?_
  .rintro j us x σ X' hj hx ⟨v,yy,rfl,sY,rfl,i8,ci⟩
   obtain ⟨y,hy,rfl⟩:∃ y,ys[j]?=some y /\ x=.int (y:Int):=by
    unfold nL at hx;rw [yAJ] at hx;obtain ⟨y,h1,h2⟩:=yBM.mp hx;exact ⟨y,h1,h2.symm⟩
   have ie:=it.2.1 y (yAL hy)
   walk_at "rd"
   refine ZBi (SqL.of (sY _ _ (sX _ _ gp))) (ZCw (by omega) (by rw [Int.toNat_natCast];exact ZFD ie)) ⟨ZAb (by decide),fun t ht=>?_⟩
   refine Nxt.of hj ⟨_,yy++[(t,kat ks y,(y:Int))],rfl,sY.new ht,by rw [yAT];rfl,by rw [yAC,i8];rfl,?_⟩
   rw [yCA,hy]
   exact (ci.mono (ZAK ht _)).app ⟨rfl,fun z hz=>by rw [yAN.mp hz];exact ZAF⟩
  rintro us σ X' ⟨v,yy,rfl,sY,rfl,i8,ci⟩ l1 bg
  rw [show (nL ys).length=ys.length by unfold nL;rw [yAA],yBH (yAB _)] at ci
  have jy:=be.len
  have g2:=ci.len
  have ii:=flat_take zss i
  rw [dl,Option.getD_some] at ii
  refine ⟨od,l1,_,_,rfl,rfl,ZAK bg _ _ _ (sY _ _ g1),ZAF,by rw [yAA,yAA,sizeLine_eq];omega,fun l2 fj=>⟨l2,zz++yy,_,rfl,sX.trans (sY.trans ((ZAK bg _).new fj)),by rw [yAT];exact ZAF,?_⟩⟩
  rw [yCA,dl,Option.toList_some,List.flatten_append,List.flatten_singleton]
  exact (be.mono (sY.trans ((ZAK bg _).new fj))).app (ci.mono ((ZAK bg _).new fj))
 rintro σ Z1 ⟨od,zz,cu,rfl,fy,g1,be⟩
 rw [yAA,hu,yBH (yAB _)] at be
 have jv:zz.length <= 119:=by
  have:=flat_take zss zss.length
  rw [yBH (yAB _)] at this
  rw [be.len];omega
 refine ZAW ?_
 walk_at "rd"
 refine ZAW ?_
 walk_at "rd"
 refine ⟨od,zz,rfl,SqL.of g1,fun z hz=>SqT.of (be.2 z hz),by omega,fun ax ms bj gh jb=>?_⟩
 obtain ⟨Z2,e2,s2,h2⟩:=newH bj (.lst (ms.map fun z=>V.ref z.1))
 rw [e2];clear e2
 have hf:∀ z∈ms,Z2 z.1=some (.tup [.int z.2.1,.int z.2.2]):=fun z hz=>s2 _ _ (be.2 z (gh.mem_iff.mp hz))
 obtain ⟨ord,cj,f5⟩:=be.order gh
 have eo:∀ ys∈zss,ys.Pairwise (lx ks):=fun ys h=>(ao ys h).1
 have j4:=ord_pw cj jb (f5.nodup_iff.mpr (flat_nd eo d7))
 have fa:=rvm_wk (bb:=bb) eo d7 j4 f5
 rw [<- an] at fa
 have g8:ord.length=(zss.map List.length).sum:=by rw [f5.length_eq,ZDA zss]
 have S2:=fy.trans s2
 refine ZAW ?_
 walk_at "rd"
 apply ZFR (α:=Hp×List PrA) (fun _=>[some (.ref a),some (.ref ky),some (.ref aw),some (.ref rw),some (.int (mb:Int)),some (.bl bb),some (.ref lg),some (.ref p),some (.ref J),some (.ref akB),some (.ref pB),some (.int (mr:Int)),some (.ref ax),cu,none,none]) (fun z=>z.1) (fun z=>Same Z z.1 /\ z.1 ax=some (.lst (z.2.map fun z=>V.ref z.1)) /\ Prs z.1 ks z.2 (rv bb ord))
 .intro ar
  by_cases hbb:bb=true
  .have e:rv bb ord=ord.reverse:=by rw [hbb];rfl
   rw [if_pos hbb]
   refine ⟨.inl ⟨rfl,_,SqL.of h2⟩,ax,_,rfl,rfl,h2,?_⟩
   refine ar (upd Z2 ax (.lst (ms.map fun z=>V.ref z.1).reverse),ms.reverse) ⟨fun b o h=>?_,?_,?_⟩
   .show upd Z2 ax _ b=some o
    rw [ZAG (ZAB h (fy.free bj))]
    exact S2 _ _ h
   .show upd Z2 ax _ ax=_
    rw [ZAF,yCS]
   .rw [e]
    refine ⟨by show (ms.reverse).map _=_;rw [yCS,cj,yCS],fun z hz=>?_⟩
    have hz:=hf z (yCG.mp hz)
    show upd Z2 ax _ z.1=_
    rw [ZAG (fun y=>by rw [y,h2] at hz;cases hz)]
    exact hz
  .have e:rv bb ord=ord:=by cases bb;rfl;exact absurd rfl hbb
   rw [if_neg hbb]
   refine ar (Z2,ms) ⟨S2,h2,?_⟩
   rw [e]
   exact ⟨cj,hf⟩
 rintro ⟨Z3,mm⟩ ⟨S3,h3,c5⟩
 dsimp only at S3 h3 c5
 generalize hmany:(zss.map List.length).sum=many at f8 fa g8
 have bu:(pcs.map List.length).sum=many:=by rw [an,rvm_sum];exact hmany
 have go:mm.length=many:=by rw [c5.len,ZE4];exact g8
 have eL:∀ X a9 w' ei ts (m:Nat),PourAt bb (cond bb C_LastPour C_Pour) X pB akB a5 a3 a4 a9 plsB pcs ts w' ei->(∀ t∈ts,t <= 500)->many=ts.sum+m->∀ R:VK,(∀ X',Same X X'->R (.int (m:Int)) X')->((∃ a dx fs,V.ref pB=V.ref a /\ X a=some (HO.ins C_Pour dx fs) /\ List.lookup (Str.ofString "left") fs=none /\ ZBO false C_Pour [V.ref pB] X R E0)∨(∃ a dx fs,V.ref pB=V.ref a /\ X a=some (HO.ins C_LastPour dx fs) /\ List.lookup (Str.ofString "left") fs=none /\ ZBO true C_LastPour [V.ref pB] X R E0)):=fun X a9 w' ei ts m bd j1 hm R h=>by
  have lf:ZBO bb (cond bb C_LastPour C_Pour) [.ref pB] X R E0:=⟨pB,akB,a5,a3,a4,a9,plsB,pcs,ts,rfl,bd.pb,bd.htk,by omega,by rw [bd.tlen];omega,fun ys hy=>(al ys hy).1,j1,fun X' sX=>by
   have:=h X' sX
   rw [bu,hm,Int.natCast_add,show ((ts.sum:Nat):Int)+(m:Nat)-((ts.sum:Nat):Int)=(m:Int) by omega]
   exact this⟩
  clear di bo c9
  revert bd lf
  cases bb
  .intro bd lf;exact .inl (bd.pb.hp.meth (by walk_at "lk") lf)
  .intro bd lf;exact .inr (bd.pb.hp.meth (by walk_at "lk") lf)
 have jk:=gt.mono S3
 have fx:=w2.mono S3
 have gr:∀ t∈List.replicate pcs.length 0,t <= 500:=fun t h=>by rw [(List.mem_replicate.mp h).2];omega
 refine ZAW ?_
 walk_at "rd"
 refine eL Z3 _ _ _ _ many fx.pa gr (by simp) _ fun Z4 s4=>⟨_,rfl,_,rfl,?_⟩
 rw [if_neg (by decide)]
 refine eL Z4 _ _ _ _ many (fx.mono s4).pa gr (by simp) _ fun Z5 s5=>?_
 have ce:=s4.trans s5
 refine ⟨ax,_,rfl,.inl (SqL.of (ce _ _ h3)),?_⟩
 rw [yAA,go]
 walk_at "rd"
 rw [if_neg (by simp)]
 have S5:=S3.trans ce
 have h5:=ce _ _ h3
 have fe:=c5.mono ce
 have eT:∀ X a9 w' am pr' ts x i0 t,W67 .non C_Asker C_AskedRule (cond bb C_LastPour C_Pour) bb X ks xs ak rl ru tl g lg p pl tk ml a9 pls pcs ts w' am pr'->pr'.length <= 50000->0 < pcs.length->Po.best (ahB bb ks) (frs pcs ts) 0 pcs.length=some (x,i0)->ts[i0]?=some t->∀ R:VK,(∀ cq w2 X' d1,Fr [p,tk,ak,lg,tl] X X'->W67 .non C_Asker C_AskedRule (cond bb C_LastPour C_Pour) bb X' ks xs ak rl ru tl g lg p pl tk ml cq pls pcs (ts.set i0 (t+1)) w2 d1 (pr'++alT bb ks pcs (ts.set i0 (t+1)) i0)->R (.int (x:Int)) X')->((∃ a dx fs,V.ref p=V.ref a /\ X a=some (HO.ins C_Pour dx fs) /\ List.lookup (Str.ofString "take") fs=none /\ ZBf C_Asker C_AskedRule C_Spent false C_Pour [V.ref p] X R E0)∨(∃ a dx fs,V.ref p=V.ref a /\ X a=some (HO.ins C_LastPour dx fs) /\ List.lookup (Str.ofString "take") fs=none /\ ZBf C_Asker C_AskedRule C_Spent true C_LastPour [V.ref p] X R E0)):=fun X a9 w' am pr' ts x i0 t W ft hz hb ht R h=>by
  have lf:ZBf C_Asker C_AskedRule C_Spent bb (cond bb C_LastPour C_Pour) [.ref p] X R E0:=by
   refine ⟨.non,ks,xs,ak,rl,ru,tl,g,lg,p,pl,tk,ml,a9,pr',pls,pcs,ts,w',am,rfl,W.st,W.pa,W.px,aj,fun ys h=>(al ys h).2,b1,W.R,ft,(fun x i t _ _ k H' d e=>nomatch e),fun z=>?_,fun x' i' t' h0 h1 h2 h3 cq w2 Y d1 fY jc iy ig=>?_⟩
   .exfalso
    rcases z with z | z
    .omega
    .rw [hb] at z;cases z
   .rw [hb] at h1
    cases h1
    rw [ht] at h3
    cases h3
    exact h cq w2 Y d1 fY ⟨ig,jc,W.px,fun _=>iy⟩
  have hp:=W.pa.pb.hp
  clear W h hb
  revert hp lf
  cases bb
  .intro lf hp;exact .inl (hp.meth (by walk_at "lk") lf)
  .intro lf hp;exact .inr (hp.meth (by walk_at "lk") lf)
 have eN:∀ X a9 w' am pr' ts (k':Nat),W67 (.int (k':Nat)) C_Asker C_AskedRule (cond bb C_LastPour C_Pour) bb X ks xs akB a8 U O gB J pB a5 a3 a4 a9 plsB pcs ts w' am pr'->pr'.length <= 50000->(pcs.length=0∨Po.best (ahB bb ks) (frs pcs ts) 0 pcs.length=none)->∀ R:VK,(∀ X',Same X X'->R .non X')->((∃ a dx fs,V.ref pB=V.ref a /\ X a=some (HO.ins C_Pour dx fs) /\ List.lookup (Str.ofString "take") fs=none /\ ZBf C_Asker C_AskedRule C_Spent false C_Pour [V.ref pB] X R E0)∨(∃ a dx fs,V.ref pB=V.ref a /\ X a=some (HO.ins C_LastPour dx fs) /\ List.lookup (Str.ofString "take") fs=none /\ ZBf C_Asker C_AskedRule C_Spent true C_LastPour [V.ref pB] X R E0)):=fun X a9 w' am pr' ts k' W ft e6 R h=>by
  have no:∀ x i t,Po.best (ahB bb ks) (frs pcs ts) 0 pcs.length=some (x,i)->ts[i]?=some t->False:=fun x i t h1 h2=>by
   rcases e6 with z | z
   .have:=(yAK.mp h2).1
    rw [W.pa.tlen] at this;omega
   .rw [z] at h1;cases h1
  have lf:ZBf C_Asker C_AskedRule C_Spent bb (cond bb C_LastPour C_Pour) [.ref pB] X R E0:=⟨.int (k':Nat),ks,xs,akB,a8,U,O,gB,J,pB,a5,a3,a4,a9,pr',plsB,pcs,ts,w',am,rfl,W.st,W.pa,W.px,aj,fun ys h=>(al ys h).2,b1,W.R,ft,(fun x i t h1 h2=>(no x i t h1 h2).elim),fun _=>h,fun x' i' t' h0 h1 h2 h3=>(no x' i' t' h1 h3).elim⟩
  have hp:=W.pa.pb.hp
  clear W h e6 no
  revert hp lf
  cases bb
  .intro lf hp;exact .inl (hp.meth (by walk_at "lk") lf)
  .intro lf hp;exact .inr (hp.meth (by walk_at "lk") lf)
 have h9:=jk.mono ce
 have i5:=fx.mono ce
 have i9:ax∉O67 ak rl ru tl lg p pl tk ml pls++O67 akB a8 U O J pB a5 a3 a4 plsB:=fun z=>by
  have hn:=fy.free bj
  rcases yAR.mp z with z | z
  .rcases gt.own _ z with ⟨l,hl⟩ | ⟨C,d,f,hl⟩ <;> (rw [hn] at hl;cases hl)
  .rcases w2.own _ z with ⟨l,hl⟩ | ⟨C,d,f,hl⟩ <;> (rw [hn] at hl;cases hl)
 have eq:∀ b t,Z5 b=some (.tup t)->b∉O67 ak rl ru tl lg p pl tk ml pls++O67 akB a8 U O J pB a5 a3 a4 plsB:=fun b t h z=>by
  rcases yAR.mp z with z | z
  .rcases h9.own _ z with ⟨l,hl⟩ | ⟨C,d,f,hl⟩ <;> (rw [h] at hl;cases hl)
  .rcases i5.own _ z with ⟨l,hl⟩ | ⟨C,d,f,hl⟩ <;> (rw [h] at hl;cases hl)
 refine ZAW ?_
 walk_at "rd"
 refine ZCg (SqL.of h5) (fun i σ X=>∃ fg fi a9 w' am pr' c8 e5 bw bh k',σ=[some (.ref a),some (.ref ky),some (.ref aw),some (.ref rw),some (.int (mb:Int)),some (.bl bb),some (.ref lg),some (.ref p),some (.ref J),some (.ref akB),some (.ref pB),some (.int (mr:Int)),some (.ref ax),cu,fg,fi] /\ Fr (O67 ak rl ru tl lg p pl tk ml pls++O67 akB a8 U O J pB a5 a3 a4 plsB) Z5 X /\ W67 .non C_Asker C_AskedRule (cond bb C_LastPour C_Pour) bb X ks xs ak rl ru tl g lg p pl tk ml a9 pls pcs (wk bb ks pcs i).1 w' am pr' /\ W67 (.int (k':Nat)) C_Asker C_AskedRule (cond bb C_LastPour C_Pour) bb X ks xs akB a8 U O gB J pB a5 a3 a4 c8 plsB pcs (wk bb ks pcs i).1 e5 bw bh /\ pr'.length <= 500+100 * i /\ bh.length <= 500+100 * i) ⟨_,_,_,_,_,_,_,_,_,_,_,rfl,.refl,h9,i5,by omega,by omega⟩ (fun i σ X _ ⟨_,_,_,_,_,_,_,_,_,_,_,_,e,_⟩=>SqL.of (e _ _ i9 h5)) ?_ ?_
 .rintro i x σ X hx ⟨fg,fi,a9,w',am,pr',c8,e5,bw,bh,k',rfl,fX,V1,V2,j5,h6⟩
  have hi:i < many:=by have:=(yAK.mp hx).1;rw [yAA] at this;omega
  obtain ⟨z,hz,rfl⟩:∃ z,mm[i]?=some z /\ x=V.ref z.1:=by
   rw [yAJ] at hx;obtain ⟨y,h1,h2⟩:=yBM.mp hx;exact ⟨y,h1,h2.symm⟩
  obtain ⟨x,i0,t,hb,j3,ho,ht,i6,gi⟩:=wk_at (bb:=bb) (ks:=ks) dz b1 (k:=i) (by rw [bu];exact hi)
  rw [bu,fa] at i6
  have db:=Wf.all (bb:=bb) (ks:=ks) dz b1 i (by rw [bu];omega)
  have g2:z.2=(kat ks x,(x:Int)):=by
   have h1:(mm.map fun z=>z.2)[i]?=some z.2:=by rw [yAJ,hz];rfl
   rw [c5.1,yAJ,i6] at h1
   exact (Option.some.inj h1).symm
  have fw:=fe.2 z (yAL hz)
  have ic:=fX _ _ (eq _ _ fw) fw
  obtain ⟨ws,d2,fv⟩:=V1.st.hlg
  walk_at "rd"
  refine ⟨lg,ws,rfl,.inl (SqL.of d2),?_⟩
  rw [fv.len]
  refine eT X a9 w' am pr' _ x i0 t V1 (by omega) ho hb ht _ fun cq j8 X1 d1 f1 ge=>?_
  have eg:=f1 _ _ (fun y=>eq _ _ fw (yAR.mpr (.inl (ZDW y)))) ic
  refine ZBh (SqT.of eg) (ZAq (by decide) rfl) ?_
  walk_at "rd"
  rw [if_neg (by rw [g2];simp)]
  refine ZBh (SqT.of eg) (ZAq (by decide) rfl) ?_
  obtain ⟨bi,au,ad⟩:=ge.st.hlg
  refine ZCW (SqL.of au) fun aa ef=>?_
  rw [ZCv _ _ (by rw [ad.len,yAC];omega)]
  obtain ⟨X2,e2,cf,il⟩:=newH ef (.lst (bi.drop pr'.length))
  rw [e2];clear e2
  have V2':=(V2.apart f1 (fun b hb=>V1.own b (ZDW hb)) fun b hb y=>fh b (ZDW y) hb).mono cf
  have gk:(alT bb ks pcs ((wk bb ks pcs i).1.set i0 (t+1)) i0).length <= bt:=by rw [yAA];exact yAG (Po.asks_le _ _) (Po.way_len i0 0 pcs.length bt (by omega))
  have j9:(alT bb ks pcs ((wk bb ks pcs i).1.set i0 (t+1)) i0).length <= pcs.length:=by rw [yAA];exact ZCj
  have jh:aa∉[pB,a3,akB,J,O]:=fun y=>by
   rcases (V2.apart f1 (fun b hb=>V1.own b (ZDW hb)) fun b hb y=>fh b (ZDW y) hb).own aa (ZDW y) with ⟨l,hl⟩ | ⟨C,d,f,hl⟩ <;> (rw [ef] at hl;cases hl)
  refine ⟨bb,k',ks,xs,akB,a8,U,O,gB,J,pB,a5,a3,a4,c8,aa,bh,plsB,pcs,(wk bb ks pcs i).1,e5,bw,x,i0,t,many-i,mr,bi.drop pr'.length,by rw [g2],V2'.st,V2'.pa,V2'.px,aj,fun ys h=>(al ys h).2,b1,V2'.R,by omega,ho,hb,j3,ht,fun ys h=>(al ys h).1,fun t h=>by have:=db.tb t h;omega,by rw [bu,db.ts];omega,il,jh,(ad.keep fun _ _ z=>cf _ _ z).dropP,by omega,fun k3 ij jj wC X3 j0 f3 hs gl j7 ih=>?_⟩
  refine ⟨_,rfl,?_⟩
  rw [if_neg (by decide)]
  have ep:=(ge.mono cf).apart f3 (fun b hb=>V2'.own b (ZDW hb)) fun b hb y=>fh b hb (ZDW y)
  rw [<- gi] at ep hs gl gk j9 ih
  refine ⟨_,_,cq,j8,d1,_,jj,wC,j0,ij,k3,rfl,fun b o n h=>f3 b o (fun y=>n (yAR.mpr (.inr (ZDW y)))) (cf _ _ (f1 b o (fun y=>n (yAR.mpr (.inl (ZDW y)))) (fX b o n h))),ep,⟨j7,hs,V2.px,fun _=>gl⟩,?_,by omega⟩
  rw [yAC]
  omega
 rintro σ X ⟨fg,fi,a9,w',am,pr',c8,e5,bw,bh,k',rfl,fX,V1,V2,j5,h6⟩
 rw [yAA,go] at V2 h6
 have db:=Wf.all (bb:=bb) (ks:=ks) dz b1 many (by rw [bu];omega)
 have e6:pcs.length=0∨Po.best (ahB bb ks) (frs pcs (wk bb ks pcs many).1) 0 pcs.length=none:=by
  by_cases h0:pcs.length=0
  .exact .inl h0
  .right;rw [<- bu];exact wk_none dz b1 (by omega)
 walk_at "rd"
 refine ZAW ?_
 walk_at "rd"
 refine eN X _ _ _ _ _ _ V2 (by omega) e6 _ fun X1 s1=>?_
 rw [if_pos rfl]
 refine eL X1 _ _ _ _ 0 (V2.mono s1).pa (fun t h=>by have:=db.tb t h;omega) (by rw [db.ts];rfl) _ fun X2 cf=>?_
 have V3:=V2.mono (s1.trans cf)
 obtain ⟨ws,d2,fv⟩:=V3.st.hlg
 walk_at "rd"
 rw [if_pos (by rfl)]
 refine V3.st.ha.get T.cl_Asker T.n_Asker_asked (by walk_at "lk") ?_
 walk_at "rd"
 refine ⟨J,ws,rfl,.inl (SqL.of d2),?_⟩
 rw [fv.len]
 walk_at "rd"
 exact q X2
end
theorem all_mk {l:PySem.W.OpenLaw} {w:World} {K:W.Frag} {h:Heap} {mg:Str->Option Value} {fa C_zaJ cb c8 bo bg b9 bc be bf bj C_zaH cf c9 C_zaI c5 gk bz cc C_zaG bx c6 C_HallError C_NoPlace C_TooFar C_Spent b8 df di d5 cz dg d2 d8 d0 d1 cx d9 dj db cv cw ap b6:Addr} (X:K.In h) (G:h.Ns mainGlobals mg) (vr:mg "law"=some (.ref fa))
  {pb q5:Option Addr} {nf:Array (Option Value)} {pa o9 li i9 dl on:Value}
  {lf r0:Option Addr} {oj:Array (Option Value)} {k4 qm pu i5 dr m9:Value}
  {nk i2:Option Addr} {jg:Array (Option Value)} {lq lc l6 jn dw l4:Value}
  {mb nq:Option Addr} {no:Array (Option Value)} {oq kk ph kr ev qx:Value}
  {m6 qb:Option Addr} {qg:Array (Option Value)} {j5 po hz pe eu kq:Value}
  {l8 nw:Option Addr} {ll:Array (Option Value)} {ko jd nb lz dq mm:Value}
  {q0 m3:Option Addr} {jt:Array (Option Value)} {om qy jl n2 ea qe:Value}
  {j2 o4:Option Addr} {je:Array (Option Value)} {r4 jx n9 mt e5 qf:Value}
  {nl jh:Option Addr} {qp:Array (Option Value)} {lr it jz j7 dv qh:Value}
  {nu qt:Option Addr} {oo:Array (Option Value)} {n3 ns mq pc e8 ki:Value}
  {pg nj:Option Addr} {qn:Array (Option Value)} {kx jq pn qq ed oi:Value}
  {fz:Value} {hp:Option Addr} {ja:Nat} {gw:Array (Option Value)}
  {q6 ig:Option Addr} {q7:Array (Option Value)} {ix oz qw jf dy jc:Value}
  {n6 m8:Option Addr} {q4:Array (Option Value)} {my op mr ku ei p0:Value}
  {k9 nv:Option Addr} {ql:Array (Option Value)} {nd iw i0 mw er nx:Value}
  {jk pi:Option Addr} {p7:Array (Option Value)} {jv kd j9 m4 et lv:Value}
  {km kw:Option Addr} {ma:Array (Option Value)} {ow o7 iu l3 ec qu:Value}
  {qj lb:Option Addr} {qa:Array (Option Value)} {pd kt l7 kc dz r1:Value}
  {m5 n1:Option Addr} {l5:Array (Option Value)} {j3 ie md pk e7 ni:Value}
  {ou hx:Option Addr} {i6:Array (Option Value)} {ng jm l1 j4 e1 jj:Value}
  {kj qi:Option Addr} {r2:Array (Option Value)} {n7 q9 il qo dt jp:Value}
  {nn l2:Option Addr} {jb:Array (Option Value)} {ic lp qd q3 ee mj:Value}
  {oa nc:Option Addr} {jw:Array (Option Value)} {m1 qk pp q8 ek qs:Value}
  {kh mc:Option Addr} {ju:Array (Option Value)} {k6 o8 pj mu ej ij:Value}
  {iy lh:Option Addr} {pf:Array (Option Value)} {kz na ol o6 en kg:Value}
  {mf od:Option Addr} {kf:Array (Option Value)} {r5 o3 pz ia ep l0:Value}
  {lj oy:Option Addr} {iz:Array (Option Value)} {kp ka m7 kb e6 m2:Value}
  {qc ik:Option Addr} {lw:Array (Option Value)} {mv ji lu q1 ef l9:Value}
  {pm mk:Option Addr} {n4:Array (Option Value)} {kl oh im ih e9 hy:Value}
  {i3 ob:Option Addr} {jr:Array (Option Value)} {kv iv io ii e3 i4:Value}
  {p3 ms:Option Addr} {p9:Array (Option Value)} {mn n8 n0 pq eh og:Value}
  {o1 eg:Option Addr} {mx:Array (Option Value)} {mz e2 e4 eq c3 em:Value}
  {ho:Value} {gr:Option Addr} {eo:Array Value} {hu:Array (Option Value)}
  {k8 mi:Option Addr} {nh:Array (Option Value)} {p8 mh ke ny j6:Value}
  (fm:W.nsIn K mainGlobals "Pour"=some (some (.ref C_zaJ)))
  (j1:PySem.W.plainGet K C_zaJ Str.empty=true)
  (j8:PySem.W.hasDictIn K C_zaJ=true)
  (nr:PySem.W.plainOver K C_zaJ=true)
  (ky:W.findIn K (.ref C_zaJ) "__setattr__"=some (some (.builtin "object.__setattr__")))
  (ox:PySem.W.makesIn K C_zaJ=true)
  (i7:W.keepIn K (.ref C_zaJ)=true)
  (am:W.findIn K (.ref C_zaJ) "asker"=some none)
  (ah:W.findIn K (.ref C_zaJ) "pieces"=some none)
  (an:W.findIn K (.ref C_zaJ) "taken"=some none)
  (a4:W.findIn K (.ref C_zaJ) "meetings"=some none)
  (aa:W.findIn K (.ref C_zaJ) "went_on"=some none)
  (v7:W.findIn K (.ref C_zaJ) "front_of"=some (some (.ref cb)))
  (sb:PySem.W.isFn K (.ref cb)=true)
  (v2:K.lookup cb=some ⟨pa,pb,.func (W.fnOf "front_of" "Pour.front_of" (ZAP ZAm) (ZAM ZAm) (ZAD ZAm) .none o9 li i9 q5 dl on),nf⟩)
  (r8:W.codeIn K dl "Pour.front_of"=true)
  (g9:W.keepIn K (.ref cb)=true)
  (u6:W.findIn K (.ref C_zaJ) "goes_on"=some (some (.ref c8)))
  (sa:PySem.W.isFn K (.ref c8)=true)
  (v8:K.lookup c8=some ⟨k4,lf,.func (W.fnOf "goes_on" "Pour.goes_on" (ZAP ZAr) (ZAM ZAr) (ZAD ZAr) .none qm pu i5 r0 dr m9),oj⟩)
  (tr:W.codeIn K dr "Pour.goes_on"=true)
  (fi:W.keepIn K (.ref c8)=true)
  (uu:W.findIn K (.ref C_zaJ) "met"=some (some (.ref bo)))
  (gv:PySem.W.isFn K (.ref bo)=true)
  (ug:K.lookup bo=some ⟨lq,nk,.func (W.fnOf "met" "Pour.met" (ZAP ZBX) (ZAM ZBX) (ZAD ZBX) .none lc l6 jn i2 dw l4),jg⟩)
  (vk:W.codeIn K dw "Pour.met"=true)
  (cn:W.keepIn K (.ref bo)=true)
  (t9:W.findIn K (.ref C_zaJ) "held"=some (some (.ref bg)))
  (h4:PySem.W.isFn K (.ref bg)=true)
  (v9:K.lookup bg=some ⟨oq,mb,.func (W.fnOf "held" "Pour.held" (ZAP ZBJ) (ZAM ZBJ) (ZAD ZBJ) .none kk ph kr nq ev qx),no⟩)
  (u0:W.codeIn K ev "Pour.held"=true)
  (d7:W.keepIn K (.ref bg)=true)
  (ra:W.findIn K (.ref C_zaJ) "top"=some (some (.ref b9)))
  (g3:PySem.W.isFn K (.ref b9)=true)
  (t6:K.lookup b9=some ⟨j5,m6,.func (W.fnOf "top" "Pour.top" (ZAP ZBW) (ZAM ZBW) (ZAD ZBW) .none po hz pe qb eu kq),qg⟩)
  (re:W.codeIn K eu "Pour.top"=true)
  (co:W.keepIn K (.ref b9)=true)
  (rz:W.findIn K (.ref C_zaJ) "first"=some (some (.ref bc)))
  (h7:PySem.W.isFn K (.ref bc)=true)
  (tu:K.lookup bc=some ⟨ko,l8,.func (W.fnOf "first" "Pour.first" (ZAP ZA6) (ZAM ZA6) (ZAD ZA6) .none jd nb lz nw dq mm),ll⟩)
  (uk:W.codeIn K dq "Pour.first"=true)
  (cp:W.keepIn K (.ref bc)=true)
  (rc:W.findIn K (.ref C_zaJ) "__init__"=some (some (.ref be)))
  (g1:PySem.W.isFn K (.ref be)=true)
  (s9:K.lookup be=some ⟨om,q0,.func (W.fnOf "__init__" "Pour.__init__" (ZAP ZBI) (ZAM ZBI) (ZAD ZBI) .none qy jl n2 m3 ea qe),jt⟩)
  (sc:W.codeIn K ea "Pour.__init__"=true)
  (vl:W.keepIn K (.ref be)=true)
  (vg:W.findIn K (.ref C_zaJ) "take"=some (some (.ref bf)))
  (h0:PySem.W.isFn K (.ref bf)=true)
  (ub:K.lookup bf=some ⟨r4,j2,.func (W.fnOf "take" "Pour.take" (ZAP ZBG) (ZAM ZBG) (ZAD ZBG) .none jx n9 mt o4 e5 qf),je⟩)
  (s6:W.codeIn K e5 "Pour.take"=true)
  (d3:W.keepIn K (.ref bf)=true)
  (ss:W.findIn K (.ref C_zaJ) "left"=some (some (.ref bj)))
  (hb:PySem.W.isFn K (.ref bj)=true)
  (uw:K.lookup bj=some ⟨lr,nl,.func (W.fnOf "left" "Pour.left" (ZAP ZBH) (ZAM ZBH) (ZAD ZBH) .none it jz j7 jh dv qh),qp⟩)
  (vo:W.codeIn K dv "Pour.left"=true)
  (dc:W.keepIn K (.ref bj)=true)
  (ga:W.nsIn K mainGlobals "LastPour"=some (some (.ref C_zaH)))
  (q2:PySem.W.plainGet K C_zaH Str.empty=true)
  (pw:PySem.W.hasDictIn K C_zaH=true)
  (p5:PySem.W.plainOver K C_zaH=true)
  (ir:W.findIn K (.ref C_zaH) "__setattr__"=some (some (.builtin "object.__setattr__")))
  (jy:PySem.W.makesIn K C_zaH=true)
  (qr:W.keepIn K (.ref C_zaH)=true)
  (ar:W.findIn K (.ref C_zaH) "asker"=some none)
  (af:W.findIn K (.ref C_zaH) "pieces"=some none)
  (au:W.findIn K (.ref C_zaH) "taken"=some none)
  (a5:W.findIn K (.ref C_zaH) "meetings"=some none)
  (ac:W.findIn K (.ref C_zaH) "went_on"=some none)
  (uy:W.findIn K (.ref C_zaH) "front_of"=some (some (.ref cf)))
  (si:PySem.W.isFn K (.ref cf)=true)
  (sg:K.lookup cf=some ⟨n3,nu,.func (W.fnOf "front_of" "LastPour.front_of" (ZAP ZAc) (ZAM ZAc) (ZAD ZAc) .none ns mq pc qt e8 ki),oo⟩)
  (uq:W.codeIn K e8 "LastPour.front_of"=true)
  (gg:W.keepIn K (.ref cf)=true)
  (t5:W.findIn K (.ref C_zaH) "goes_on"=some (some (.ref c9)))
  (ri:PySem.W.isFn K (.ref c9)=true)
  (sm:K.lookup c9=some ⟨kx,pg,.func (W.fnOf "goes_on" "LastPour.goes_on" (ZAP ZAd) (ZAM ZAd) (ZAD ZAd) .none jq pn qq nj ed oi),qn⟩)
  (rk:W.codeIn K ed "LastPour.goes_on"=true)
  (go:W.keepIn K (.ref c9)=true)
  (b3:W.findIn K (.ref C_zaH) "met"=some (some (.ref bo)))
  (ax:W.findIn K (.ref C_zaH) "held"=some (some (.ref bg)))
  (b5:W.findIn K (.ref C_zaH) "top"=some (some (.ref b9)))
  (ao:W.findIn K (.ref C_zaH) "first"=some (some (.ref bc)))
  (b1:W.findIn K (.ref C_zaH) "__init__"=some (some (.ref be)))
  (b2:W.findIn K (.ref C_zaH) "take"=some (some (.ref bf)))
  (aw:W.findIn K (.ref C_zaH) "left"=some (some (.ref bj)))
  (ct:W.nsIn K mainGlobals "Asker"=some (some (.ref C_zaI)))
  (i1:PySem.W.plainGet K C_zaI Str.empty=true)
  (ld:PySem.W.hasDictIn K C_zaI=true)
  (k7:PySem.W.plainOver K C_zaI=true)
  (n5:W.findIn K (.ref C_zaI) "__setattr__"=some (some (.builtin "object.__setattr__")))
  (du:PySem.W.makesIn K C_zaI=true)
  (e0:W.keepIn K (.ref C_zaI)=true)
  (cu:W.findIn K (.ref C_zaI) "row"=some none)
  (ck:W.findIn K (.ref C_zaI) "rule"=some none)
  (cm:W.findIn K (.ref C_zaI) "most"=some none)
  (bw:W.findIn K (.ref C_zaI) "asked"=some none)
  (cj:W.findIn K (.ref C_zaI) "told"=some none)
  (fj:W.findIn K (.ref C_zaI) "__init__"=some (some (.ref c5)))
  (g5:PySem.W.isFn K (.ref c5)=true)
  (sd:K.lookup c5=some ⟨ix,q6,.func (W.fnOf "__init__" "Asker.__init__" (ZAP ZA7) (ZAM ZA7) (ZAD ZA7) (.ref gk) oz qw jf ig dy jc),q7⟩)
  (vm:W.codeIn K dy "Asker.__init__"=true)
  (se:K.lookup gk=some ⟨fz,hp,.seq ([.none]:List Value).toArray ja,gw⟩)
  (sx:W.keepIn K (.ref c5)=true)
  (t3:W.findIn K (.ref C_zaI) "widen"=some (some (.ref bz)))
  (uo:PySem.W.isFn K (.ref bz)=true)
  (rb:K.lookup bz=some ⟨my,n6,.func (W.fnOf "widen" "Asker.widen" (ZAP ZAz) (ZAM ZAz) (ZAD ZAz) .none op mr ku m8 ei p0),q4⟩)
  (ue:W.codeIn K ei "Asker.widen"=true)
  (g7:W.keepIn K (.ref bz)=true)
  (vn:W.findIn K (.ref C_zaI) "ahead"=some (some (.ref cc)))
  (uf:PySem.W.isFn K (.ref cc)=true)
  (v3:K.lookup cc=some ⟨nd,k9,.func (W.fnOf "ahead" "Asker.ahead" (ZAP ZA0) (ZAM ZA0) (ZAD ZA0) .none iw i0 mw nv er nx),ql⟩)
  (rf:W.codeIn K er "Asker.ahead"=true)
  (gf:W.keepIn K (.ref cc)=true)
  (gc:W.nsIn K mainGlobals "AskedRule"=some (some (.ref C_zaG)))
  (me:PySem.W.plainGet K C_zaG Str.empty=true)
  (i8:PySem.W.hasDictIn K C_zaG=true)
  (ly:PySem.W.plainOver K C_zaG=true)
  (nz:W.findIn K (.ref C_zaG) "__setattr__"=some (some (.builtin "object.__setattr__")))
  (ot:PySem.W.makesIn K C_zaG=true)
  (jo:W.keepIn K (.ref C_zaG)=true)
  (bp:W.findIn K (.ref C_zaG) "teller"=some none)
  (s7:W.findIn K (.ref C_zaG) "__init__"=some (some (.ref bx)))
  (v0:PySem.W.isFn K (.ref bx)=true)
  (u5:K.lookup bx=some ⟨jv,jk,.func (W.fnOf "__init__" "AskedRule.__init__" (ZAP ZAk) (ZAM ZAk) (ZAD ZAk) .none kd j9 m4 pi et lv),p7⟩)
  (u1:W.codeIn K et "AskedRule.__init__"=true)
  (uv:W.keepIn K (.ref bx)=true)
  (v5:W.findIn K (.ref C_zaG) "before"=some (some (.ref c6)))
  (ro:PySem.W.isFn K (.ref c6)=true)
  (u3:K.lookup c6=some ⟨ow,km,.func (W.fnOf "before" "AskedRule.before" (ZAP ZAe) (ZAM ZAe) (ZAD ZAe) .none o7 iu l3 kw ec qu),ma⟩)
  (tj:W.codeIn K ec "AskedRule.before"=true)
  (hd:W.keepIn K (.ref c6)=true)
  (c0:W.nsIn K mainGlobals "HallError"=some (some (.ref C_HallError)))
  (dk:W.nsIn K mainGlobals "NoPlace"=some (some (.ref C_NoPlace)))
  (f3:W.nsIn K mainGlobals "TooFar"=some (some (.ref C_TooFar)))
  (ch:W.nsIn K mainGlobals "Spent"=some (some (.ref C_Spent)))
  (vq:W.findIn K (.ref C_Spent) "__init__"=some (some (.ref b8)))
  (sj:PySem.W.isFn K (.ref b8)=true)
  (rj:K.lookup b8=some ⟨pd,qj,.func (W.fnOf "__init__" "Spent.__init__" (ZAP ZA5) (ZAM ZA5) (ZAD ZA5) .none kt l7 kc lb dz r1),qa⟩)
  (sk:W.codeIn K dz "Spent.__init__"=true)
  (rs:W.keepIn K (.ref b8)=true)
  (f6:W.findIn K (.ref C_Spent) "__getattribute__"=some (some (.builtin "BaseException.__getattribute__")))
  (f9:W.findIn K (.ref C_Spent) "__getattr__"=some none)
  (ey:W.findIn K (.ref C_Spent) "__class__"=some (some (.builtin "object.__class__")))
  (fc:PySem.W.specialIn K (.builtin "object.__class__") "__get__"=some (some (.builtin "getset_descriptor.__get__")))
  (f4:PySem.W.takesIn K (.builtin "object.__class__")=some true)
  (f7:PySem.W.mroIn K C_Spent (.type "object")=some true)
  (f2:PySem.W.mroIn K C_Spent (.type "BaseException")=some true)
  (f5:PySem.W.hasDictIn K C_Spent=true)
  (ff:ZET K C_Spent=true)
  (fe:W.findIn K (.ref C_Spent) "__setattr__"=some (some (.builtin "object.__setattr__")))
  (bu:ZC3 K C_Spent b8 bmV "ValueError.__new__"=true)
  (ez:W.keepIn K (.ref C_Spent)=true)
  (ad:PySem.W.exmOne K (.ref C_Spent) (.ref C_HallError)=some true)
  (b4:PySem.W.exmOne K (.ref C_Spent) (.ref C_Spent)=some true)
  (bd:W.findIn K (.ref C_Spent) "asked"=some none)
  (ba:PySem.W.specialIn K (.ref C_HallError) "__getattribute__"=some (some (.builtin "type.__getattribute__")))
  (bh:PySem.W.readsIn K C_HallError (.type "type")=true)
  (bn:PySem.W.findCls K (.ref C_HallError) (.type "type") "__init__"=some (.val (.builtin "ValueError.__init__")))
  (va:W.nsIn K mainGlobals "meetings_of"=some (some (.ref df)))
  (ve:K.lookup df=some ⟨j3,m5,.func (W.fnOf "meetings_of" "meetings_of" (ZAP ZAy) (ZAM ZAy) (ZAD ZAy) .none ie md pk n1 e7 ni),l5⟩)
  (ua:W.codeIn K e7 "meetings_of"=true)
  (gm:W.keepIn K (.ref df)=true)
  (ry:W.nsIn K mainGlobals "_law_cell_at"=some (some (.ref di)))
  (s4:K.lookup di=some ⟨ng,ou,.func (W.fnOf "_law_cell_at" "_law_cell_at" (ZAP ZBo) (ZAM ZBo) (ZAD ZBo) .none jm l1 j4 hx e1 jj),i6⟩)
  (vp:W.codeIn K e1 "_law_cell_at"=true)
  (fw:W.keepIn K (.ref di)=true)
  (tx:W.nsIn K mainGlobals "_law_stream"=some (some (.ref d5)))
  (rh:K.lookup d5=some ⟨n7,kj,.func (W.fnOf "_law_stream" "_law_stream" (ZAP ZCL) (ZAM ZCL) (ZAD ZCL) .none q9 il qo qi dt jp),r2⟩)
  (t7:W.codeIn K dt "_law_stream"=true)
  (gy:W.keepIn K (.ref d5)=true)
  (r9:W.nsIn K mainGlobals "_law_blocks"=some (some (.ref cz)))
  (tf:K.lookup cz=some ⟨ic,nn,.func (W.fnOf "_law_blocks" "_law_blocks" (ZAP ZCO) (ZAM ZCO) (ZAD ZCO) .none lp qd q3 l2 ee mj),jb⟩)
  (um:W.codeIn K ee "_law_blocks"=true)
  (ht:W.keepIn K (.ref cz)=true)
  (sl:W.nsIn K mainGlobals "_law_nearly"=some (some (.ref dg)))
  (sw:K.lookup dg=some ⟨m1,oa,.func (W.fnOf "_law_nearly" "_law_nearly" (ZAP ZCM) (ZAM ZCM) (ZAD ZCM) .none qk pp q8 nc ek qs),jw⟩)
  (u2:W.codeIn K ek "_law_nearly"=true)
  (fk:W.keepIn K (.ref dg)=true)
  (vd:W.nsIn K mainGlobals "_law_digits"=some (some (.ref d2)))
  (vc:K.lookup d2=some ⟨k6,kh,.func (W.fnOf "_law_digits" "_law_digits" (ZAP ZCN) (ZAM ZCN) (ZAD ZCN) .none o8 pj mu mc ej ij),ju⟩)
  (s5:W.codeIn K ej "_law_digits"=true)
  (gq:W.keepIn K (.ref d2)=true)
  (ul:W.nsIn K mainGlobals "_law_keys"=some (some (.ref d8)))
  (so:K.lookup d8=some ⟨kz,iy,.func (W.fnOf "_law_keys" "_law_keys" (ZAP ZDb) (ZAM ZDb) (ZAD ZDb) .none na ol o6 lh en kg),pf⟩)
  (sf:W.codeIn K en "_law_keys"=true)
  (fh:W.keepIn K (.ref d8)=true)
  (s0:W.nsIn K mainGlobals "_law_whole"=some (some (.ref d0)))
  (rr:K.lookup d0=some ⟨r5,mf,.func (W.fnOf "_law_whole" "_law_whole" (ZAP ZCy) (ZAM ZCy) (ZAD ZCy) .none o3 pz ia od ep l0),kf⟩)
  (sr:W.codeIn K ep "_law_whole"=true)
  (hj:W.keepIn K (.ref d0)=true)
  (v4:W.nsIn K mainGlobals "_law_dealt"=some (some (.ref d1)))
  (uz:K.lookup d1=some ⟨kp,lj,.func (W.fnOf "_law_dealt" "_law_dealt" (ZAP ZC0) (ZAM ZC0) (ZAD ZC0) .none ka m7 kb oy e6 m2),iz⟩)
  (rp:W.codeIn K e6 "_law_dealt"=true)
  (hv:W.keepIn K (.ref d1)=true)
  (rg:W.nsIn K mainGlobals "_law_made"=some (some (.ref cx)))
  (ud:K.lookup cx=some ⟨mv,qc,.func (W.fnOf "_law_made" "_law_made" (ZAP ZDa) (ZAM ZDa) (ZAD ZDa) .none ji lu q1 ik ef l9),lw⟩)
  (ui:W.codeIn K ef "_law_made"=true)
  (h6:W.keepIn K (.ref cx)=true)
  (sv:W.nsIn K mainGlobals "_law_taken"=some (some (.ref d9)))
  (s3:K.lookup d9=some ⟨kl,pm,.func (W.fnOf "_law_taken" "_law_taken" (ZAP ZCz) (ZAM ZCz) (ZAD ZCz) .none oh im ih mk e9 hy),n4⟩)
  (vb:W.codeIn K e9 "_law_taken"=true)
  (gz:W.keepIn K (.ref d9)=true)
  (t1:W.nsIn K mainGlobals "_law_refused"=some (some (.ref dj)))
  (sq:K.lookup dj=some ⟨kv,i3,.func (W.fnOf "_law_refused" "_law_refused" (ZAP ZBn) (ZAM ZBn) (ZAD ZBn) .none iv io ii ob e3 i4),jr⟩)
  (rt:W.codeIn K e3 "_law_refused"=true)
  (gd:W.keepIn K (.ref dj)=true)
  (tp:W.nsIn K mainGlobals "_law_step"=some (some (.ref db)))
  (sy:K.lookup db=some ⟨mn,p3,.func (W.fnOf "_law_step" "_law_step" (ZAP ZDZ) (ZAM ZDZ) (ZAD ZDZ) .none n8 n0 pq ms eh og),p9⟩)
  (rm:W.codeIn K eh "_law_step"=true)
  (gb:W.keepIn K (.ref db)=true)
  (vh:W.nsIn K mainGlobals "law"=some (some (.ref cv)))
  (rx:K.lookup cv=some ⟨mz,o1,.func (W.fnOf "law" "law" (ZAP ZDn) (ZAM ZDn) (ZAD ZDn) .none e2 e4 eq eg c3 em),mx⟩)
  (tq:W.codeIn K c3 "law"=true)
  (sh:W.keepIn K (.ref cv)=true)
  (ge:W.nsIn K mainGlobals "_law_teller"=some (some (.ref cw)))
  (g2:K.lookup cw=some ⟨p8,k8,.func (W.fnOf "_law_teller" "_law_teller" (ZAP ZBz) (ZAM ZBz) (ZAD ZBz) .none mh ke ny mi (.ref ap) j6),nh⟩)
  (uh:W.codeIn K (.ref ap) "_law_teller"=true)
  (o2:K.lookup ap=some ⟨ho,gr,.fields eo,hu⟩)
  (py:eo[11]?=some (.ref b6))
  (hg:W.keepIn K (.ref cw)=true)
  (u4:W.nsIn K mainGlobals "len"=some none)
  (g4:W.nsIn K mainGlobals "range"=some none)
  (m0:W.nsIn K mainGlobals "list"=some none)
  (bq:W.nsIn K mainGlobals "isinstance"=some none)
  (ls:W.nsIn K mainGlobals "bool"=some none)
  (rq:W.nsIn K mainGlobals "int"=some none)
  (r7:W.nsIn K mainGlobals "max"=some none)
  (vj:W.nsIn K mainGlobals "min"=some none)
  (t0:W.nsIn K mainGlobals "sum"=some none)
  (f8:W.nsIn K mainGlobals "sorted"=some none)
  (ci:W.nsIn K mainGlobals "reversed"=some none)
  (ce:W.nsIn K mainGlobals "enumerate"=some none)
  (oe:W.nsIn K mainGlobals "dict"=some none)
  (bt:W.nsIn K mainGlobals "ValueError"=some none)
  (br:PySem.W.kitOne K (.type "int") (.type "bool")=some false)
  (b0:PySem.W.kitOne K (.ref C_Spent) (.ref C_Spent)=some true)
  (aj:PySem.W.kitOne K (.ref C_Spent) (.ref C_NoPlace)=some false)
  (aq:PySem.W.kitOne K (.ref C_Spent) (.ref C_TooFar)=some false)
  (nt:PySem.W.noTabs K=true) :
  ∃ (tabs:List (Addr×Addr)) (fd:FuncData),PySem.W.noTabs K=true /\ (∀ t∈tabs,∃ y∈(["_law_teller"]:List Str),PySem.W.tabIn K y=some t) /\ (∀ (s:Shared) (v:Value),BindsTo s fd ⟨[v],[]⟩ [("_law_script",v)]) /\ ∀ base:Heap,K.In base->base.Ns mainGlobals mg->(∀ t∈tabs,PySem.W.CodeHd base t.1 t.2)->ZD8 mg base->FnOk l.prog w K mg base CX0 13 fa fd ["_law_script"] (ZE1 K tabs):=by
 have e:=vr.symm.trans (PySem.W.mg_of X G vh)
 cases e
 have O:Cls K C_zaJ:=⟨j1,j8,nr,ky⟩
 have fo:=ZAi (st:=ZAm) v2 r8 g9
 have tw:=fo.binds (ps:=["self","piece","taken"]) fun _ _ _ _ _ _ us hl=>by obtain ⟨_,_,_,rfl⟩:=us3 hl;rfl
 have gi:=ZAi (st:=ZAr) v8 tr fi
 have v1:=gi.binds (ps:=["self","p","q"]) fun _ _ _ _ _ _ us hl=>by obtain ⟨_,_,_,rfl⟩:=us3 hl;rfl
 have de:=ZAi (st:=ZBX) ug vk cn
 have h8:=de.binds (ps:=["self","one","other"]) fun _ _ _ _ _ _ us hl=>by obtain ⟨_,_,_,rfl⟩:=us3 hl;rfl
 have dh:=ZAi (st:=ZBJ) v9 u0 d7
 have g8:=dh.binds (ps:=["self","meetings","went_on"]) fun _ _ _ _ _ _ us hl=>by obtain ⟨_,_,_,rfl⟩:=us3 hl;rfl
 have d6:=ZAi (st:=ZBW) t6 re co
 have h5:=d6.binds (ps:=["self"]) fun _ _ _ _ _ _ us hl=>by obtain ⟨_,rfl⟩:=us1 hl;rfl
 have da:=ZAi (st:=ZA6) tu uk cp
 have fx:=da.binds (ps:=["self"]) fun _ _ _ _ _ _ us hl=>by obtain ⟨_,rfl⟩:=us1 hl;rfl
 have cy:=ZAi (st:=ZBI) s9 sc vl
 have gl:=cy.binds (ps:=["self","asker","pieces"]) fun _ _ _ _ _ _ us hl=>by obtain ⟨_,_,_,rfl⟩:=us3 hl;rfl
 have cq:=ZAi (st:=ZBG) ub s6 d3
 have fv:=cq.binds (ps:=["self"]) fun _ _ _ _ _ _ us hl=>by obtain ⟨_,rfl⟩:=us1 hl;rfl
 have cr:=ZAi (st:=ZBH) uw vo dc
 have he:=cr.binds (ps:=["self"]) fun _ _ _ _ _ _ us hl=>by obtain ⟨_,rfl⟩:=us1 hl;rfl
 have Y:BtX K C_zaJ:=⟨O,am,ah,an,a4,aa⟩
 have U:Cls K C_zaH:=⟨q2,pw,p5,ir⟩
 have fq:=ZAi (st:=ZAc) sg uq gg
 have u7:=fq.binds (ps:=["self","piece","taken"]) fun _ _ _ _ _ _ us hl=>by obtain ⟨_,_,_,rfl⟩:=us3 hl;rfl
 have gx:=ZAi (st:=ZAd) sm rk go
 have t8:=gx.binds (ps:=["self","p","q"]) fun _ _ _ _ _ _ us hl=>by obtain ⟨_,_,_,rfl⟩:=us3 hl;rfl
 have J:BtX K C_zaH:=⟨U,ar,af,au,a5,ac⟩
 have c4:Cls K C_zaI:=⟨i1,ld,k7,n5⟩
 have ca:=funD_mk (st:=ZA7) sd vm sx se
 have fn:=ca.binds (ps:=["self","row","rule","most"]) (ds:=[]) fun _ _ _ _ _ _ _ us hl=>by obtain ⟨_,_,_,_,rfl⟩:=us4 (us_len (n:=4) hl rfl);exact ⟨_,rfl,rfl⟩
 have gt:=ca.binds (ps:=["self","row","rule","most"]) (ds:=[.none]) fun _ _ _ _ _ _ _ us hl=>by obtain ⟨_,_,_,rfl⟩:=us3 (us_len (n:=3) hl rfl);exact ⟨_,rfl,rfl⟩
 have g6:=ZAi (st:=ZAz) rb ue g7
 have su:=g6.binds (ps:=["self","more"]) fun _ _ _ _ _ _ us hl=>by obtain ⟨_,_,rfl⟩:=us2 hl;rfl
 have gh:=ZAi (st:=ZA0) v3 rf gf
 have u9:=gh.binds (ps:=["self","p","q"]) fun _ _ _ _ _ _ us hl=>by obtain ⟨_,_,_,rfl⟩:=us3 hl;rfl
 have el:Cls K C_zaG:=⟨me,i8,ly,nz⟩
 have ft:=ZAi (st:=ZAk) u5 u1 uv
 have vf:=ft.binds (ps:=["self","teller"]) fun _ _ _ _ _ _ us hl=>by obtain ⟨_,_,rfl⟩:=us2 hl;rfl
 have gp:=ZAi (st:=ZAe) u3 tj hd
 have tn:=gp.binds (ps:=["self","x","y"]) fun _ _ _ _ _ _ us hl=>by obtain ⟨_,_,_,rfl⟩:=us3 hl;rfl
 have gu:=ZAi (st:=ZA5) rj sk rs
 have u8:=gu.binds (ps:=["self","asked"]) fun _ _ _ _ _ _ us hl=>by obtain ⟨_,_,rfl⟩:=us2 hl;rfl
 have hk:=ZAi (st:=ZAy) ve ua gm
 have uc:=hk.binds (ps:=["first","beyond"]) fun _ _ _ _ _ _ us hl=>by obtain ⟨_,_,rfl⟩:=us2 hl;rfl
 have gj:=ZAi (st:=ZBo) s4 vp fw
 have s8:=gj.binds (ps:=["_law_script","_law_k"]) fun _ _ _ _ _ _ us hl=>by obtain ⟨_,_,rfl⟩:=us2 hl;rfl
 have g0:=ZAi (st:=ZCL) rh t7 gy
 have v6:=g0.binds (ps:=["_law_cell","_law_many"]) fun _ _ _ _ _ _ us hl=>by obtain ⟨_,_,rfl⟩:=us2 hl;rfl
 have hf:=ZAi (st:=ZCO) tf um ht
 have t4:=hf.binds (ps:=["_law_keys_here","_law_cell"]) fun _ _ _ _ _ _ us hl=>by obtain ⟨_,_,rfl⟩:=us2 hl;rfl
 have hq:=ZAi (st:=ZCM) sw u2 fk
 have ut:=hq.binds (ps:=["_law_keys_here","_law_cell"]) fun _ _ _ _ _ _ us hl=>by obtain ⟨_,_,rfl⟩:=us2 hl;rfl
 have h3:=ZAi (st:=ZCN) vc s5 gq
 have tz:=h3.binds (ps:=["_law_script","_law_k","_law_base"]) fun _ _ _ _ _ _ us hl=>by obtain ⟨_,_,_,rfl⟩:=us3 hl;rfl
 have hh:=ZAi (st:=ZDb) so sf fh
 have vi:=hh.binds (ps:=["_law_script","_law_most"]) fun _ _ _ _ _ _ us hl=>by obtain ⟨_,_,rfl⟩:=us2 hl;rfl
 have hr:=ZAi (st:=ZCy) rr sr hj
 have ux:=hr.binds (ps:=["_law_found"]) fun _ _ _ _ _ _ us hl=>by obtain ⟨_,rfl⟩:=us1 hl;rfl
 have fu:=ZAi (st:=ZC0) uz rp hv
 have ur:=fu.binds (ps:=["_law_keys_here","_law_script"]) fun _ _ _ _ _ _ us hl=>by obtain ⟨_,_,rfl⟩:=us2 hl;rfl
 have gn:=ZAi (st:=ZDa) ud ui h6
 have rn:=gn.binds (ps:=["_law_asker","_law_pieces","_law_last"]) fun _ _ _ _ _ _ us hl=>by obtain ⟨_,_,_,rfl⟩:=us3 hl;rfl
 have fy:=ZAi (st:=ZCz) s3 vb gz
 have r6:=fy.binds (ps:=["_law_pour"]) fun _ _ _ _ _ _ us hl=>by obtain ⟨_,rfl⟩:=us1 hl;rfl
 have fg:=ZAi (st:=ZBn) sq rt gd
 have uj:=fg.binds (ps:=["_law_e","_law_asker"]) fun _ _ _ _ _ _ us hl=>by obtain ⟨_,_,rfl⟩:=us2 hl;rfl
 have hs:=ZAi (st:=ZDZ) sy rm gb
 have t2:=hs.binds (ps:=["_law_pour","_law_asker","_law_log","_law_due","_law_asks","_law_more"]) fun _ _ _ _ _ _ us hl=>by obtain ⟨_,_,_,_,_,_,rfl⟩:=us6 hl;rfl
 have gs:=ZAi (st:=ZDn) rx tq sh
 have vt:=gs.binds (ps:=["_law_script"]) fun _ _ _ _ _ _ us hl=>by obtain ⟨_,rfl⟩:=us1 hl;rfl
 have h9:=ZAi (st:=ZBz) g2 uh hg
 have tm:=h9.binds (ps:=["_law_log"]) fun _ _ _ _ _ _ us hl=>by obtain ⟨_,rfl⟩:=us1 hl;rfl
 have T:Bt K mg C_zaJ C_zaH C_zaI C_zaG C_HallError C_NoPlace C_TooFar C_Spent:=⟨PySem.W.mg_none_of X G u4,PySem.W.mg_none_of X G g4,PySem.W.mg_none_of X G m0,PySem.W.mg_none_of X G bq,PySem.W.mg_none_of X G ls,PySem.W.mg_none_of X G rq,PySem.W.mg_none_of X G r7,PySem.W.mg_none_of X G vj,PySem.W.mg_none_of X G t0,PySem.W.mg_none_of X G f8,PySem.W.mg_none_of X G ci,PySem.W.mg_none_of X G ce,PySem.W.mg_none_of X G oe,PySem.W.mg_none_of X G bt,PySem.W.mg_of X G fm,O,am,ah,an,a4,aa,PySem.W.mg_of X G ga,U,ar,af,au,a5,ac,PySem.W.mg_of X G ct,c4,cu,ck,cm,bw,cj,PySem.W.mg_of X G gc,el,bp,PySem.W.mg_of X G c0,PySem.W.mg_of X G dk,PySem.W.mg_of X G f3,PySem.W.mg_of X G ch,⟨f6,f9,ey,fc,f4,f7,f2⟩,⟨f5,ff,fe⟩,⟨_,bu⟩,ad,b4,bd,⟨ba,bh,bn⟩,br,b0,aj,aq⟩
 refine ⟨[(ap,b6)],W.fnOf "law" "law" (ZAP ZDn) (ZAM ZDn) (ZAD ZDn) .none e2 e4 eq eg c3 em,nt,List.forall_mem_cons.mpr ⟨⟨"_law_teller",by simp,tabIn_of ge g2 rfl o2 py⟩,fun _ h=>nomatch h⟩,fun s v=>.of_eq rfl,fun base _ _ hC hB=>?_⟩
 have b7:Fn l.prog w K mg base CX0 "_law_cell_at" 1 ["_law_script","_law_k"] (ZDY K):=⟨_,_,ok_cell_at gj T ,s8,fw,PySem.W.mg_of X G ry⟩
 have av:Fn l.prog w K mg base CX0 "_law_stream" 1 ["_law_cell","_law_many"] (ZBw):=⟨_,_,ok_stream g0 T ,v6,gy,PySem.W.mg_of X G tx⟩
 have ln:Fn l.prog w K mg base CX0 "_law_blocks" 2 ["_law_keys_here","_law_cell"] (ZBx):=⟨_,_,ok_blocks hf T av,t4,ht,PySem.W.mg_of X G r9⟩
 have oc:Fn l.prog w K mg base CX0 "_law_nearly" 2 ["_law_keys_here","_law_cell"] (ZBx):=⟨_,_,ok_nearly hq T av,ut,fk,PySem.W.mg_of X G sl⟩
 have eb:Fn l.prog w K mg base CX0 "_law_digits" 2 ["_law_script","_law_k","_law_base"] (ZC6 K):=⟨_,_,ok_digits h3 T av b7,tz,gq,PySem.W.mg_of X G vd⟩
 have ov:Fn l.prog w K mg base CX0 "_law_keys" 3 ["_law_script","_law_most"] (ZE2 K):=⟨_,_,ok_keys hh T b7 ln oc eb av,vi,fh,PySem.W.mg_of X G ul⟩
 have lm:Fn l.prog w K mg base CX0 "_law_dealt" 3 ["_law_keys_here","_law_script"] (ZDG K):=⟨_,_,ok_dealt fu T b7 eb av,ur,hv,PySem.W.mg_of X G v4⟩
 have dm:Fn l.prog w K mg base CX0 "meetings_of" 9 ["first","beyond"] (ZBV 9):=rec_fn (sp:=ZBV) (fun _ _ _ _ z=>spMeetings_no z) uc gm (PySem.W.mg_of X G va) (fun n h=>ok_meetings_of hk T h) 9
 have c7:CloOk l.prog w K mg base 1 (ZBa):=clo_teller T
 have a8:Mt l.prog w K mg base CX0 C_zaG "before" 2 ["self","x","y"] (ZC7 C_zaG ZBa):=⟨el,_,_,ok_AskedRule_before gp T c7,tn,v5,ro,hd⟩
 have d4:XKl l.prog w K mg base CX0 "Spent" C_Spent 1 ["self","asked"] (ZCa C_Spent):=⟨PySem.W.mg_of X G ch,_,_,ok_Spent_init gu T ,u8,bu,sj,ez⟩
 have a6:Mt l.prog w K mg base (CXE l.prog w) C_zaI "ahead" 3 ["self","p","q"] (ZDH C_zaI C_zaG C_Spent ZBa):=⟨c4,_,_,ok_Asker_ahead gh T a8 d4,u9,vn,uf,gf⟩
 have a9:Mt l.prog w K mg base (CXE l.prog w) C_zaH "goes_on" 4 ["self","p","q"] (ZCn C_zaI C_zaG C_Spent true C_zaH):=⟨U,_,_,ok_LastPour_goes_on gx T a6,t8,t5,ri,go⟩
 have az:Mt l.prog w K mg base (CXE l.prog w) C_zaH "met" 5 ["self","one","other"] (ZFP C_zaI C_zaG C_Spent true C_zaH):=⟨U,_,_,ok_Pour_met de T J a9,h8,b3,gv,cn⟩
 have a2:Mt l.prog w K mg base (CXE l.prog w) C_zaH "held" 6 ["self","meetings","went_on"] (ZDx C_zaI C_zaG C_Spent true C_zaH):=⟨U,_,_,ok_Pour_held dh T J az,g8,ax,h4,d7⟩
 have L:Mt l.prog w K mg base CX0 C_zaH "front_of" 1 ["self","piece","taken"] (ZBm true C_zaH):=⟨U,_,_,ok_LastPour_front_of fq T ,u7,uy,si,gg⟩
 have p1:Kl l.prog w K mg base (CXE l.prog w) "LastPour" C_zaH 10 ["self","asker","pieces"] (ZBU C_zaI C_zaG C_Spent true C_zaH):=⟨PySem.W.mg_of X G ga,_,_,ok_Pour_init cy T J dm a2 L,gl,jy,b1,g1,qr⟩
 have ay:Mt l.prog w K mg base (CXE l.prog w) C_zaJ "goes_on" 4 ["self","p","q"] (ZCn C_zaI C_zaG C_Spent false C_zaJ):=⟨O,_,_,ok_Pour_goes_on gi T a6,v1,u6,sa,fi⟩
 have bv:Mt l.prog w K mg base (CXE l.prog w) C_zaJ "met" 5 ["self","one","other"] (ZFP C_zaI C_zaG C_Spent false C_zaJ):=⟨O,_,_,ok_Pour_met de T Y ay,h8,uu,gv,cn⟩
 have ae:Mt l.prog w K mg base (CXE l.prog w) C_zaJ "held" 6 ["self","meetings","went_on"] (ZDx C_zaI C_zaG C_Spent false C_zaJ):=⟨O,_,_,ok_Pour_held dh T Y bv,g8,t9,h4,d7⟩
 have a0:Mt l.prog w K mg base CX0 C_zaJ "front_of" 1 ["self","piece","taken"] (ZBm false C_zaJ):=⟨O,_,_,ok_Pour_front_of fo T ,tw,v7,sb,g9⟩
 have o5:Kl l.prog w K mg base (CXE l.prog w) "Pour" C_zaJ 10 ["self","asker","pieces"] (ZBU C_zaI C_zaG C_Spent false C_zaJ):=⟨PySem.W.mg_of X G fm,_,_,ok_Pour_init cy T Y dm ae a0,gl,ox,rc,g1,i7⟩
 have qz:Fn l.prog w K mg base CX0 "_law_made" 12 ["_law_asker","_law_pieces","_law_last"] (ZDm C_zaI C_zaG C_zaH C_zaJ):=⟨_,_,ok_made gn T p1 o5,rn,h6,PySem.W.mg_of X G rg⟩
 have p4:Fn l.prog w K mg base CX0 "_law_teller" 1 ["_law_log"] (ZEX b6 (ZEj ZAN) "_law_teller_here" "_law_teller.<locals>._law_teller_here" (ZAP ZAN) (ZAM ZAN) (ZAD ZAN) ["_law_log"] [0] 1):=⟨_,_,ok_teller h9 rfl (hC (ap,b6) (by simp)) hB,tm,hg,PySem.W.mg_of X G ge⟩
 have cg:Fn l.prog w K mg base CX0 "_law_whole" 1 ["_law_found"] (ZDE):=⟨_,_,ok_whole hr T ,ux,hj,PySem.W.mg_of X G s0⟩
 have al:Mt l.prog w K mg base CX0 C_zaJ "top" 1 ["self"] (ZE0 false C_zaJ):=⟨O,_,_,ok_Pour_top d6 T Y ,h5,ra,g3,co⟩
 have ag:Mt l.prog w K mg base (CXE l.prog w) C_zaJ "take" 7 ["self"] (ZBf C_zaI C_zaG C_Spent false C_zaJ):=⟨O,_,_,ok_Pour_take cq T Y al a0 ae,fv,vg,h0,d3⟩
 have a3:Mt l.prog w K mg base CX0 C_zaH "top" 1 ["self"] (ZE0 true C_zaH):=⟨U,_,_,ok_Pour_top d6 T J ,h5,b5,g3,co⟩
 have Z:Mt l.prog w K mg base (CXE l.prog w) C_zaH "take" 7 ["self"] (ZBf C_zaI C_zaG C_Spent true C_zaH):=⟨U,_,_,ok_Pour_take cq T J a3 L a2,fv,b2,h0,d3⟩
 have j0:Fn l.prog w K mg base CX0 "_law_taken" 8 ["_law_pour"] (ZDF C_zaI C_zaG C_Spent C_zaH C_zaJ):=⟨_,_,ok_taken fy T ag Z,r6,gz,PySem.W.mg_of X G sv⟩
 have p6:Fn l.prog w K mg base CX0 "_law_refused" 2 ["_law_e","_law_asker"] (ZCb C_zaI C_zaG C_Spent):=⟨_,_,ok_refused fg T cg,uj,gd,PySem.W.mg_of X G t1⟩
 have ai:Mt l.prog w K mg base CX0 C_zaJ "left" 1 ["self"] (ZBO false C_zaJ):=⟨O,_,_,ok_Pour_left cr T Y ,he,ss,hb,dc⟩
 have a1:Mt l.prog w K mg base CX0 C_zaH "left" 1 ["self"] (ZBO true C_zaH):=⟨U,_,_,ok_Pour_left cr T J ,he,aw,hb,dc⟩
 have bi:Mt l.prog w K mg base CX0 C_zaJ "first" 2 ["self"] (ZCF false C_zaJ):=⟨O,_,_,ok_Pour_first da T Y al,fx,rz,h7,cp⟩
 have ak:Mt l.prog w K mg base CX0 C_zaH "first" 2 ["self"] (ZCF true C_zaH):=⟨U,_,_,ok_Pour_first da T J a3,fx,ao,h7,cp⟩
 have a7:Mt l.prog w K mg base CX0 C_zaI "widen" 1 ["self","more"] (ZDk C_zaI):=⟨c4,_,_,ok_Asker_widen g6 T ,su,t3,uo,g7⟩
 have qv:Fn l.prog w K mg base CX0 "_law_step" 9 ["_law_pour","_law_asker","_law_log","_law_due","_law_asks","_law_more"] (ZDl C_zaI C_zaG C_Spent C_zaH C_zaJ):=⟨_,_,ok_step hs T j0 cg p6 ai a1 bi ak a7,t2,gb,PySem.W.mg_of X G tp⟩
 have r3:Kl l.prog w K mg base CX0 "Asker" C_zaI 1 ["self","row","rule","most"] (ZBZ C_zaI):=⟨PySem.W.mg_of X G ct,_,_,ok_Asker_init ca T ,fn,du,fj,g5,e0⟩
 have ew:KlD l.prog w K mg base CX0 "Asker" C_zaI 1 ["self","row","rule","most"] (ZBZ C_zaI) [.non]:=⟨PySem.W.mg_of X G ct,_,_,_,ok_Asker_init ca T ,gt,(.cons rfl .nil),du,fj,g5,e0⟩
 have o0:Kl l.prog w K mg base CX0 "AskedRule" C_zaG 1 ["self","teller"] (ZCx C_zaG):=⟨PySem.W.mg_of X G gc,_,_,ok_AskedRule_init ft T ,vf,ot,s7,v0,jo⟩
 exact ok_law gs T ov lm qz b7 p4 cg qv a7 ai a1 ag Z r3 ew o0
end Law
open PySem PySem.W PyProof.Rows
set_option maxRecDepth 100000 in
set_option maxHeartbeats 0 in
theorem PySem.Challenge.cw_sorthall_k67_whole_stopped_holds : PySem.Challenge.rw_sorthall_k67_whole_stopped.Holds := by
 refine L2.hd0 ?_
 k_fill
 refine L2.walk_ofT2 (l:=PySem.Challenge.rw_sorthall_k67_whole_stopped) (k:=13) (x:="_law_script") (names:=["_law_teller"]) rfl rfl ⟨rfl,by decide,by decide,rfl⟩ (fun w h Y=>PySem.W.km_in_of Y) (List.forall_mem_cons.mpr ⟨⟨_,rfl⟩,fun _ h=>nomatch h⟩) ?F
 case F=>
  intro w mg fa h KX G hmg
  refine' Law.all_mk KX G hmg ?a_zaJ ?pg_zaJ ?hd_zaJ ?po_zaJ ?sa_zaJ ?mk_zaJ ?kc_zaJ ?n_zaJ_asker ?n_zaJ_pieces ?n_zaJ_taken ?n_zaJ_meetings ?n_zaJ_went_on ?a_zae ?i_zae ?l_zae ?c_zae ?k_zae ?a_zaf ?i_zaf ?l_zaf ?c_zaf ?k_zaf ?a_zar ?i_zar ?l_zar ?c_zar ?k_zar ?a_zao ?i_zao ?l_zao ?c_zao ?k_zao ?a_zaq ?i_zaq ?l_zaq ?c_zaq ?k_zaq ?a_zaj ?i_zaj ?l_zaj ?c_zaj ?k_zaj ?a_zam ?i_zam ?l_zam ?c_zam ?k_zam ?a_zan ?i_zan ?l_zan ?c_zan ?k_zan ?a_zap ?i_zap ?l_zap ?c_zap ?k_zap ?a_zaH ?pg_zaH ?hd_zaH ?po_zaH ?sa_zaH ?mk_zaH ?kc_zaH ?n_zaH_asker ?n_zaH_pieces ?n_zaH_taken ?n_zaH_meetings ?n_zaH_went_on ?a_zaa ?i_zaa ?l_zaa ?c_zaa ?k_zaa ?a_zab ?i_zab ?l_zab ?c_zab ?k_zab ?a_LastPour_met ?a_LastPour_held ?a_LastPour_top ?a_LastPour_first ?a_LastPour_init ?a_LastPour_take ?a_LastPour_left ?a_zaI ?pg_zaI ?hd_zaI ?po_zaI ?sa_zaI ?mk_zaI ?kc_zaI ?n_zaI_row ?n_zaI_rule ?n_zaI_most ?n_zaI_asked ?n_zaI_told ?a_zal ?i_zal ?l_zal ?c_zal ?d_zal ?k_zal ?a_zag ?i_zag ?l_zag ?c_zag ?k_zag ?a_zah ?i_zah ?l_zah ?c_zah ?k_zah ?a_zaG ?pg_zaG ?hd_zaG ?po_zaG ?sa_zaG ?mk_zaG ?kc_zaG ?n_zaG_teller ?a_zad ?i_zad ?l_zad ?c_zad ?k_zad ?a_zac ?i_zac ?l_zac ?c_zac ?k_zac ?a_HallError ?a_NoPlace ?a_TooFar ?a_Spent ?a_zak ?i_zak ?l_zak ?c_zak ?k_zak ?xg_Spent ?xh_Spent ?xa_Spent ?xs_Spent ?xt_Spent ?xo_Spent ?xb_Spent ?xd_Spent ?xv_Spent ?xw_Spent ?xi_Spent ?xp_Spent ?xm_Spent_HallError ?xm_Spent_Spent ?n_Spent_asked ?xbg_HallError ?xbr_HallError ?xbf_HallError ?a_zai ?l_zai ?c_zai ?k_zai ?a_zat ?l_zat ?c_zat ?k_zat ?a_zax ?l_zax ?c_zax ?k_zax ?a_zay ?l_zay ?c_zay ?k_zay ?a_zau ?l_zau ?c_zau ?k_zau ?a_zaw ?l_zaw ?c_zaw ?k_zaw ?a_zaC ?l_zaC ?c_zaC ?k_zaC ?a_zaA ?l_zaA ?c_zaA ?k_zaA ?a_zaz ?l_zaz ?c_zaz ?k_zaz ?a_zaE ?l_zaE ?c_zaE ?k_zaE ?a_zaB ?l_zaB ?c_zaB ?k_zaB ?a_zas ?l_zas ?c_zas ?k_zas ?a_zaD ?l_zaD ?c_zaD ?k_zaD ?a_zaF ?l_zaF ?c_zaF ?k_zaF ?a_zav ?l_zav ?c_zav ?lc_zav ?tp_zav ?k_zav ?z_len ?z_range ?z_list ?z_isinstance ?z_bool ?z_int ?z_max ?z_min ?z_sum ?z_sorted ?z_reversed ?z_enumerate ?z_dict ?z_ValueError ?kit_int_bool ?kit_Spent_Spent ?kit_Spent_NoPlace ?kit_Spent_TooFar ?nt
  (case a_zaJ=>k_is)
  (case pg_zaJ=>k_is)
  (case hd_zaJ=>k_is)
  (case po_zaJ=>k_is)
  (case sa_zaJ=>k_is)
  (case mk_zaJ=>k_is)
  (case kc_zaJ=>k_is)
  (case n_zaJ_asker=>k_is)
  (case n_zaJ_pieces=>k_is)
  (case n_zaJ_taken=>k_is)
  (case n_zaJ_meetings=>k_is)
  (case n_zaJ_went_on=>k_is)
  (case a_zae=>k_is)
  (case i_zae=>k_is)
  (case l_zae=>k_is)
  (case c_zae=>k_is)
  (case k_zae=>k_is)
  (case a_zaf=>k_is)
  (case i_zaf=>k_is)
  (case l_zaf=>k_is)
  (case c_zaf=>k_is)
  (case k_zaf=>k_is)
  (case a_zar=>k_is)
  (case i_zar=>k_is)
  (case l_zar=>k_is)
  (case c_zar=>k_is)
  (case k_zar=>k_is)
  (case a_zao=>k_is)
  (case i_zao=>k_is)
  (case l_zao=>k_is)
  (case c_zao=>k_is)
  (case k_zao=>k_is)
  (case a_zaq=>k_is)
  (case i_zaq=>k_is)
  (case l_zaq=>k_is)
  (case c_zaq=>k_is)
  (case k_zaq=>k_is)
  (case a_zaj=>k_is)
  (case i_zaj=>k_is)
  (case l_zaj=>k_is)
  (case c_zaj=>k_is)
  (case k_zaj=>k_is)
  (case a_zam=>k_is)
  (case i_zam=>k_is)
  (case l_zam=>k_is)
  (case c_zam=>k_is)
  (case k_zam=>k_is)
  (case a_zan=>k_is)
  (case i_zan=>k_is)
  (case l_zan=>k_is)
  (case c_zan=>k_is)
  (case k_zan=>k_is)
  (case a_zap=>k_is)
  (case i_zap=>k_is)
  (case l_zap=>k_is)
  (case c_zap=>k_is)
  (case k_zap=>k_is)
  (case a_zaH=>k_is)
  (case pg_zaH=>k_is)
  (case hd_zaH=>k_is)
  (case po_zaH=>k_is)
  (case sa_zaH=>k_is)
  (case mk_zaH=>k_is)
  (case kc_zaH=>k_is)
  (case n_zaH_asker=>k_is)
  (case n_zaH_pieces=>k_is)
  (case n_zaH_taken=>k_is)
  (case n_zaH_meetings=>k_is)
  (case n_zaH_went_on=>k_is)
  (case a_zaa=>k_is)
  (case i_zaa=>k_is)
  (case l_zaa=>k_is)
  (case c_zaa=>k_is)
  (case k_zaa=>k_is)
  (case a_zab=>k_is)
  (case i_zab=>k_is)
  (case l_zab=>k_is)
  (case c_zab=>k_is)
  (case k_zab=>k_is)
  (case a_LastPour_met=>k_is)
  (case a_LastPour_held=>k_is)
  (case a_LastPour_top=>k_is)
  (case a_LastPour_first=>k_is)
  (case a_LastPour_init=>k_is)
  (case a_LastPour_take=>k_is)
  (case a_LastPour_left=>k_is)
  (case a_zaI=>k_is)
  (case pg_zaI=>k_is)
  (case hd_zaI=>k_is)
  (case po_zaI=>k_is)
  (case sa_zaI=>k_is)
  (case mk_zaI=>k_is)
  (case kc_zaI=>k_is)
  (case n_zaI_row=>k_is)
  (case n_zaI_rule=>k_is)
  (case n_zaI_most=>k_is)
  (case n_zaI_asked=>k_is)
  (case n_zaI_told=>k_is)
  (case a_zal=>k_is)
  (case i_zal=>k_is)
  (case l_zal=>k_is)
  (case c_zal=>k_is)
  (case d_zal=>k_is)
  (case k_zal=>k_is)
  (case a_zag=>k_is)
  (case i_zag=>k_is)
  (case l_zag=>k_is)
  (case c_zag=>k_is)
  (case k_zag=>k_is)
  (case a_zah=>k_is)
  (case i_zah=>k_is)
  (case l_zah=>k_is)
  (case c_zah=>k_is)
  (case k_zah=>k_is)
  (case a_zaG=>k_is)
  (case pg_zaG=>k_is)
  (case hd_zaG=>k_is)
  (case po_zaG=>k_is)
  (case sa_zaG=>k_is)
  (case mk_zaG=>k_is)
  (case kc_zaG=>k_is)
  (case n_zaG_teller=>k_is)
  (case a_zad=>k_is)
  (case i_zad=>k_is)
  (case l_zad=>k_is)
  (case c_zad=>k_is)
  (case k_zad=>k_is)
  (case a_zac=>k_is)
  (case i_zac=>k_is)
  (case l_zac=>k_is)
  (case c_zac=>k_is)
  (case k_zac=>k_is)
  (case a_HallError=>k_is)
  (case a_NoPlace=>k_is)
  (case a_TooFar=>k_is)
  (case a_Spent=>k_is)
  (case a_zak=>k_is)
  (case i_zak=>k_is)
  (case l_zak=>k_is)
  (case c_zak=>k_is)
  (case k_zak=>k_is)
  (case xg_Spent=>k_is)
  (case xh_Spent=>k_is)
  (case xa_Spent=>k_is)
  (case xs_Spent=>k_is)
  (case xt_Spent=>k_is)
  (case xo_Spent=>k_is)
  (case xb_Spent=>k_is)
  (case xd_Spent=>k_is)
  (case xv_Spent=>kernel_rfl)
  (case xw_Spent=>k_is)
  (case xi_Spent=>kernel_rfl)
  (case xp_Spent=>k_is)
  (case xm_Spent_HallError=>kts_exm)
  (case xm_Spent_Spent=>kts_exm)
  (case n_Spent_asked=>k_is)
  (case xbg_HallError=>k_is)
  (case xbr_HallError=>k_is)
  (case xbf_HallError=>k_is)
  (case a_zai=>k_is)
  (case l_zai=>k_is)
  (case c_zai=>k_is)
  (case k_zai=>k_is)
  (case a_zat=>k_is)
  (case l_zat=>k_is)
  (case c_zat=>k_is)
  (case k_zat=>k_is)
  (case a_zax=>k_is)
  (case l_zax=>k_is)
  (case c_zax=>k_is)
  (case k_zax=>k_is)
  (case a_zay=>k_is)
  (case l_zay=>k_is)
  (case c_zay=>k_is)
  (case k_zay=>k_is)
  (case a_zau=>k_is)
  (case l_zau=>k_is)
  (case c_zau=>k_is)
  (case k_zau=>k_is)
  (case a_zaw=>k_is)
  (case l_zaw=>k_is)
  (case c_zaw=>k_is)
  (case k_zaw=>k_is)
  (case a_zaC=>k_is)
  (case l_zaC=>k_is)
  (case c_zaC=>k_is)
  (case k_zaC=>k_is)
  (case a_zaA=>k_is)
  (case l_zaA=>k_is)
  (case c_zaA=>k_is)
  (case k_zaA=>k_is)
  (case a_zaz=>k_is)
  (case l_zaz=>k_is)
  (case c_zaz=>k_is)
  (case k_zaz=>k_is)
  (case a_zaE=>k_is)
  (case l_zaE=>k_is)
  (case c_zaE=>k_is)
  (case k_zaE=>k_is)
  (case a_zaB=>k_is)
  (case l_zaB=>k_is)
  (case c_zaB=>k_is)
  (case k_zaB=>k_is)
  (case a_zas=>k_is)
  (case l_zas=>k_is)
  (case c_zas=>k_is)
  (case k_zas=>k_is)
  (case a_zaD=>k_is)
  (case l_zaD=>k_is)
  (case c_zaD=>k_is)
  (case k_zaD=>k_is)
  (case a_zaF=>k_is)
  (case l_zaF=>k_is)
  (case c_zaF=>k_is)
  (case k_zaF=>k_is)
  (case a_zav=>k_is)
  (case l_zav=>k_is)
  (case c_zav=>k_is)
  (case lc_zav=>k_is)
  (case tp_zav=>rfl)
  (case k_zav=>k_is)
  (case z_len=>k_is)
  (case z_range=>k_is)
  (case z_list=>k_is)
  (case z_isinstance=>k_is)
  (case z_bool=>k_is)
  (case z_int=>k_is)
  (case z_max=>k_is)
  (case z_min=>k_is)
  (case z_sum=>k_is)
  (case z_sorted=>k_is)
  (case z_reversed=>k_is)
  (case z_enumerate=>k_is)
  (case z_dict=>k_is)
  (case z_ValueError=>k_is)
  (case kit_int_bool=>kit_is)
  (case kit_Spent_Spent=>kit_is)
  (case kit_Spent_NoPlace=>kit_is)
  (case kit_Spent_TooFar=>kit_is)
  (case nt=>kernel_rfl)
