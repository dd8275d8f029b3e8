import PyProof.Rows.All
import Wide.All
import OpenK.AllK
import Wide.FinOn
import Lean
import PyProof.EqAt
import PyProof.EqKinds
import PyProof.TupleCall
import KE.KRevIter
import PyProof.CollectIter
import PyProof.SumWalkG
import PyProof.Rows.SortRuns
import PyProof.Rows.SortShell
import KE.KDictOf
import PyProof.IsiH_list
import PyProof.RaisesAny
import PyProof.Rows.FStrParts
import PyProof.P3In
import PySem.Challenge.RW_sorthall_k38_whole_reach
local macro_rules | `(tactic| omega)=>`(tactic| first | with_reducible assumption | lia | omega (splitDisjunctions:=true))
set_option Elab.async false
set_option linter.all false
set_option maxRecDepth 100000
open Nat renaming le_refl→yAA,zero_le→yAD,ne_of_lt→yAE,le_trans→yAF,lt_of_lt_of_le→yAQ,le_succ→yAY,lt_irrefl→yBG,ne_of_gt→yBN,le_of_lt→yBP,lt_succ_self→yBQ,sub_self→yBU,le_add_right→yBW,zero_add→yCG,min_eq_left→yCM
open List renaming length_map→yAB,length_append→yAC,mem_cons→yAG,getElem?_eq_getElem→yAH,mem_cons_self→yAJ,length_cons→yAK,mem_cons_of_mem→yAL,getElem?_eq_some_iff→yAM,size_toArray→yAN,mem_of_getElem?→yAO,mem_singleton→yAP,length_drop→yAR,length_take→yAS,getElem?_map→yAT,map_cons→yAU,append_assoc→yAV,mem_append_right→yAW,getElem?_append_right→yAX,getElem?_append_left→yAZ,getElem?_eq_none→yBA,mem_append→yBB,append_nil→yBD,getElem?_drop→yBH,map_append→yBI,mem_map→yBJ,getElem?_of_mem→yBK,length_nil→yBL,mem_range→yBM,take_append_drop→yBR,length_range→yBS,lookup_cons→yBV,mem_append_left→yBX,getElem?_take_of_lt→yBY,length_singleton→yBZ,length_replicate→yCC,take_of_length_le→yCD,extract_eq_drop_take→yCF,length_reverse→yCH,forIn_nil→yCI,getD_eq_getElem?_getD→yCJ,ext_getElem?→yCK,perm_append_comm→yCL,find?_cons→yCN
open Array renaming length_toList→yAI,getElem?_toList→yBE,getElem?_eq_some_iff→yBF,toList_append→yBT,toList_extract→yCE
open Bool renaming false_ne_true→yBC,false_eq_true→yCB
open Option renaming map_eq_some_iff→yBO,map_some→yCA
namespace L2
open PySem PySem.W
theorem left_boot {p q:Program} {loose:List Str} {Xt:Shared->Bool} {α:Type} {Yf:Shared->α} {Ya:World->α} {N:Nat} {g0:Bool}
  (z:∀ w:World,(fencedOpening treeTable p w N).map (fun s=>(s.heap,s.gens,s.drawn,s.toks))=some (boot_heap w.params,Array.mk [],boot_drawn,boot_toks))
  (h:∀ (w:World) (os:OsState),(topFrom treeTable p w N ⟨boot_heap w.params,Array.mk [],boot_drawn,boot_toks,os⟩).map (fun s=>(openSeen q loose (importedModules p.main.body) Xt g0 s,Yf s))=some (openGood q loose,Ya w)):LeftO p q loose Xt Yf Ya N g0:=fun w=>by
 obtain ⟨⟨hh,gs,d,k,os⟩,e,J⟩:=yBO.mp (z w)
 obtain ⟨rfl,rfl,rfl,rfl⟩:hh=boot_heap w.params /\ gs=Array.mk [] /\ d=boot_drawn /\ k=boot_toks:=by simpa using J
 unfold openEnds
 rw [e]
 exact h w os
theorem left_two {p q:Program} {loose:List Str} {Xt:Shared->Bool} {α:Type} {Yf:Shared->α} {Ya:World->α} {N:Nat} {g0:Bool}
  (z:∀ w:World,(fencedOpening treeTable p w N).map (fun s=>(s.heap,s.gens,s.drawn,s.toks))=some (boot_heap w.params,Array.mk [],boot_drawn,boot_toks))
  (h1:∀ (w:World) (os:OsState),(topFrom treeTable p w N ⟨boot_heap w.params,Array.mk [],boot_drawn,boot_toks,os⟩).map (fun s=>openSeen q loose (importedModules p.main.body) Xt g0 s)=some (openGood q loose))
  (h2:∀ (w:World) (os:OsState),(topFrom treeTable p w N ⟨boot_heap w.params,Array.mk [],boot_drawn,boot_toks,os⟩).map (fun s=>Yf s)=some (Ya w)):LeftO p q loose Xt Yf Ya N g0 :=
 left_boot z fun w os=>by
  have a:=h1 w os
  have b:=h2 w os
  generalize topFrom treeTable p w N ⟨boot_heap w.params,Array.mk [],boot_drawn,boot_toks,os⟩=r at a b
  cases r with
  | none=>cases a
  | some s=>exact congrArg some (Prod.ext (Option.some.inj a) (Option.some.inj b))
noncomputable def s0B (w:World) (os:OsState):Shared:=⟨boot_heap w.params,Array.mk [],boot_drawn,boot_toks,os⟩
noncomputable def ofLB:List Obj->Nat->BT->BT
 | [],_,t=>t
 | o::r,n,t=>ofLB r (n+1) (t.ins n o)
noncomputable def sTB (w:World) (os:OsState):SharedT:=⟨ofLB (boot_heap w.params).objs.toList 0 .nil,(boot_heap w.params).objs.size,(boot_heap w.params).life,Array.mk [],boot_drawn,boot_toks,os⟩
noncomputable def topRunQ (p:Program) (w:World) (n₀:Nat) (ann:Option Value):Nat->SharedT->Thread->Option SharedT
 | 0,_,_=>none
 | n+1,s,t=>match through t with
  | true=>some s
  | false=>match PySem.W.Fast.tw6613529449190102663 n₀ ann t with
   | false=>none
   | true=>match PySem.W.Fast.tw10156331382660048174 (PySem.W.Fast.tw11892475500146522536 PySem.W.Fast.tw14364793385576792824) p w s t with
    | some (s',t')=>topRunQ p w n₀ ann n s' t'
    | none=>none
theorem topRunQ_spec {p:Program} {w:World} {z:Nat} {J:Option Value}:∀ {n:Nat} {s s':SharedT} {t:Thread},topRunQ p w z J n s t=some s'->topRun treeTable p w z J n s.abs t=some s'.abs
 | 0,_,_,_,h=>by cases h
 | n+1,s,s',t,h=>by
  unfold topRunQ at h
  rw [<- PySem.W.Fast.te6613529449190102663,<- PySem.W.Fast.te10156331382660048174,<- PySem.W.Fast.te11892475500146522536,<- PySem.W.Fast.te14364793385576792824] at h
  unfold topRun
  cases he:through t with
  | true=>rw [he] at h;cases h;rfl
  | false=>
   rw [he] at h
   cases hk:stepOk z J t with
   | false=>rw [hk] at h;cases h
   | true=>
    rw [hk] at h
    cases hs:stepT (denote treeTable) p w s t with
    | none=>rw [hs] at h;cases h
    | some r=>obtain ⟨O,L⟩:=r;rw [hs] at h;rw [stepT_spec hs];exact topRunQ_spec h
set_option maxHeartbeats 0 in
theorem sTB_abs:∀ (w:World) (os:OsState),(sTB w os).abs=s0B w os:=by
 intro w os
 kernel_rfl
set_option maxHeartbeats 0 in
theorem s0B_ns:∀ (w:World) (os:OsState),((s0B w os).heap.isNs mainGlobals && (s0B w os).gens.size == 0)=true:=by
 intro w os
 kernel_rfl
noncomputable def topOkB (p:Program) (s₀ s₁:Shared):Bool:=staticsOk (importedModules p.main.body) s₀.heap s₁.heap && namesBound p s₁.heap && gensDone s₁ && laidKept s₀.heap s₁.heap
theorem via_tree {α:Type} {p:Program} {N:Nat} {F:Shared->α} {G:α} (w:World) (os:OsState)
  (h:(topRunQ p w (s0B w os).heap.objs.size ((s0B w os).heap.nsMap mainGlobals "__annotations__") N (sTB w os) (topStub p)).map (fun s=>(topOkB p (s0B w os) s.abs,F s.abs))=some (true,G)):(topFrom treeTable p w N ⟨boot_heap w.params,Array.mk [],boot_drawn,boot_toks,os⟩).map F=some G:=by
 obtain ⟨s',z,e2⟩:=yBO.mp h
 have r:=topRunQ_spec z
 rw [sTB_abs] at r
 obtain ⟨e3,e4⟩:=Prod.mk.inj e2
 show (topFrom treeTable p w N (s0B w os)).map F=some G
 unfold topFrom
 rw [s0B_ns w os]
 dsimp only
 rw [r,Option.bind_some]
 unfold topOkB at e3
 rw [e3]
 exact congrArg some e4
noncomputable def vw (p:Program) (ix:List Nat):Program:={ p with main:={ p.main with body:=ix.filterMap fun i=>p.main.body[i]? } }
noncomputable def Vw:Program:=vw PySem.Challenge.pw_sorthall_k38_whole_reach [0,2,3,4,5,6,8,10,12,14,15,16,17,18,19,20,22,23,25,26,27,28,29,30,31,32,33,34,35,36,37,38,39,40]
set_option maxHeartbeats 0 in
theorem seen1:∀ (w:World) (os:OsState),(topFrom treeTable PySem.Challenge.pw_sorthall_k38_whole_reach w 5840 ⟨boot_heap w.params,Array.mk [],boot_drawn,boot_toks,os⟩).map (fun s=>openSeen L2.Vw [] (importedModules PySem.Challenge.pw_sorthall_k38_whole_reach.main.body) (fun s=>xlAt L2.Vw [] s && recOk (RowW.records (OpenRow.toRowW (OpenLaw.row PySem.Challenge.rw_sorthall_k38_whole_reach))) s) true s)=some (openGood L2.Vw []):=by
 intro w os
 refine via_tree w os ?_
 rw [PySem.W.Fast.te4187177175401517315]
 kernel_rfl
local macro_rules | `(tactic| o_law)=>`(tactic| refine holds_law (by decide +kernel) fun said=>?_)
set_option hygiene false in
local macro_rules | `(tactic| o_head $H)=>`(tactic| (refine holds_open (q:=L2.Vw) (loose:=[]) (Xt:=fun s=>xlAt L2.Vw [] s && recOk (RowW.records _) s) (XP:=XL L2.Vw []) (Yf:=Hook.obs $H) (Ya:=Hook.val $H) (YP:=Hook.says $H) (N:=5840) ?hl (Hook.of $H) (Hook.keeps $H) (fun s e=>xl_of s (Bool.and_eq_true_iff.mp e).1) XL.keeps (by rfl) (by rfl) (by rfl) (fun s e=>recFacts_of (Bool.and_eq_true_iff.mp e).2) (by rfl) (by first | assumption | decide +kernel) (by decide +kernel) ⟨rfl,rfl,rfl,rfl,rfl,by decide +kernel⟩ ?hw ?hc;(case hl=>(refine L2.left_two (PySem.W.boot_open (by rfl) (by decide) (fun s=>rfl)) (fun w os=>?h1) (fun w os=>?h2);(case h1=>exact L2.seen1 w os);(case h2=>(refine L2.via_tree w os ?_;kernel_rfl))))))
set_option maxHeartbeats 0 in
open_top hd0 for PySem.Challenge.rw_sorthall_k38_whole_reach
end L2
namespace L2
open PySem PySem.Spec PyProof.Rows
noncomputable abbrev Key:=Sum Int Str
noncomputable def ZED:Key->Value->Bool
 | .inl k,v=>Value.isInt k v
 | .inr x,v=>Value.isStrOf x v
noncomputable def keyH (w:World):Key->Int
 | .inl k=>hashInt k
 | .inr x=>hashStr w x
theorem ZAi:∀ {k:Key} {v:Value},ZED k v=true->(∃ i t,k=Sum.inl i /\ v=Value.int i t)∨(∃ x t,k=Sum.inr x /\ v=Value.str x t)
 | .inl i,v,h=>by
  obtain ⟨t,e⟩:=Value.isInt_shape (k:=i) (v:=v) h
  exact .inl ⟨i,t,rfl,e⟩
 | .inr x,v,h=>by
  obtain ⟨t,e⟩:=Value.isStrOf_shape (x:=x) (v:=v) h
  exact .inr ⟨x,t,rfl,e⟩
theorem keyIs_int (i:Int) (t:Tok):ZED (.inl i) (.int i t)=true:=by simp [ZED,Value.isInt]
theorem keyIs_str (x:Str) (t:Tok):ZED (.inr x) (.str x t)=true:=by simp [ZED,Value.isStrOf]
theorem key_ll (a b:Int):decide ((Sum.inl a:Key)=Sum.inl b)=(a == b):=by
 by_cases e:a=b
 .subst e;simp
 .have h:¬ (Sum.inl a:Key)=Sum.inl b:=fun q=>e (Sum.inl.inj q)
  rw [decide_eq_false h]
  exact (beq_eq_false_iff_ne.mpr e).symm
theorem key_rr (a b:Str):decide ((Sum.inr a:Key)=Sum.inr b)=decide (a=b):=by
 by_cases e:a=b
 .subst e;simp
 .have h:¬ (Sum.inr a:Key)=Sum.inr b:=fun q=>e (Sum.inr.inj q)
  rw [decide_eq_false h,decide_eq_false e]
theorem key_lr (a:Int) (b:Str):decide ((Sum.inl a:Key)=Sum.inr b)=false:=decide_eq_false (fun q=>nomatch q)
theorem key_rl (a:Str) (b:Int):decide ((Sum.inr a:Key)=Sum.inl b)=false:=decide_eq_false (fun q=>nomatch q)
noncomputable def ZAZ (prog:Program) (w:World):PySem.KeyKind prog w Key where
 is:=ZED
 hash:=keyH w
 inj:=fun v a b ha hb=>by
  rcases ZAi ha with ⟨i,t,rfl,rfl⟩ | ⟨x,t,rfl,rfl⟩
  .rcases ZAi hb with ⟨j,u,rfl,e⟩ | ⟨y,u,rfl,e⟩
   .injection e with e1 _;rw [e1]
   .exact nomatch e
  .rcases ZAi hb with ⟨j,u,rfl,e⟩ | ⟨y,u,rfl,e⟩
   .exact nomatch e
   .injection e with e1 _;rw [e1]
 byValue:=fun k v h=>by
  rcases ZAi h with ⟨i,t,rfl,rfl⟩ | ⟨x,t,rfl,rfl⟩ <;> rfl
 pyHash:=fun hv h=>by
  rcases ZAi hv with ⟨i,t,rfl,rfl⟩ | ⟨x,t,rfl,rfl⟩
  .exact wpAny_pyHash_int h
  .exact wpAny_pyHash_str h
 eqBool:=fun hu hv h=>by
  rcases ZAi hu with ⟨i,t,rfl,rfl⟩ | ⟨x,t,rfl,rfl⟩
  .rcases ZAi hv with ⟨j,u,rfl,rfl⟩ | ⟨y,u,rfl,rfl⟩
   .rw [key_ll] at h;exact wpAny_eqBool_int h
   .rw [key_lr] at h;exact SeqAt.EqAt.int_str i t y u _ _ _ _ h
  .rcases ZAi hv with ⟨j,u,rfl,rfl⟩ | ⟨y,u,rfl,rfl⟩
   .rw [key_rl] at h;exact SeqAt.EqAt.str_int x t j u _ _ _ _ h
   .rw [key_rr] at h;exact wpAny_eqBool_str h
 «strs»:=fun k x t v h=>by
  rcases ZAi h with ⟨i,u,rfl,e⟩ | ⟨y,u,rfl,e⟩
  .exact nomatch e
  .injection e with e1 _
   subst e1
   cases v <;> rfl
theorem mixKind_is (prog:Program) (w:World) (k:Key) (v:Value):(ZAZ prog w).is k v=ZED k v:=rfl
theorem mixKind_int (prog:Program) (w:World) (i:Int) (t:Tok):(ZAZ prog w).is (.inl i) (.int i t)=true:=keyIs_int i t
theorem mixKind_str (prog:Program) (w:World) (x:Str) (t:Tok):(ZAZ prog w).is (.inr x) (.str x t)=true:=keyIs_str x t
inductive V where
 | non | bl (b:Bool) | int (i:Int) | str (x:Str) | byt (b:Array UInt8) | flt (b:UInt64) | ref (a:Addr) | ty (n:String)
 deriving DecidableEq
noncomputable def RelV:V->Value->Prop
 | .non,u=>u=Value.none
 | .bl b,u=>u=Value.bool b
 | .int i,u=>∃ t,u=Value.int i t
 | .str x,u=>∃ t,u=Value.str x t
 | .byt b,u=>∃ t,u=Value.bytes b t
 | .flt b,u=>∃ t,u=Value.float b t
 | .ref a,u=>u=Value.ref a
 | .ty n,u=>u=Value.type n
noncomputable abbrev Vals:List V->List Value->Prop:=Paired RelV
theorem Vals.length {xs:List V} {us:List Value} (r:Vals xs us):xs.length=us.length:=Paired.length r
theorem Vals.get:∀ {xs:List V} {us:List Value} {i:Nat} {x:V},Vals xs us->xs[i]?=some x->∃ u,us[i]?=some u /\ RelV x u
 | _,_,_,_,.nil,e=>by simp at e
 | _,_,0,_,.cons r _,e=>by simp at e;subst e;exact ⟨_,rfl,r⟩
 | _,_,i+1,x,.cons _ t,e=>by
  obtain ⟨u,h1,h2⟩:=Vals.get (i:=i) (x:=x) t (by simpa using e)
  exact ⟨u,by simpa using h1,h2⟩
theorem Vals.set {x:V} {u:Value} (r:RelV x u):∀ {xs:List V} {us:List Value} (i:Nat),Vals xs us->Vals (xs.set i x) (us.set i u)
 | _,_,_,.nil=>.nil
 | _,_,0,.cons _ t=>.cons r t
 | _,_,i+1,.cons q t=>.cons q (Vals.set r i t)
theorem Vals.append:∀ {xs ys:List V} {us ws:List Value},Vals xs us->Vals ys ws->Vals (xs++ys) (us++ws)
 | _,_,_,_,.nil,s=>s
 | _,_,_,_,.cons r t,s=>.cons r (Vals.append t s)
theorem Vals.take:∀ {xs:List V} {us:List Value} (n:Nat),Vals xs us->Vals (xs.take n) (us.take n)
 | _,_,0,_=>.nil
 | _,_,_+1,.nil=>.nil
 | _,_,n+1,.cons r t=>.cons r (Vals.take n t)
theorem Vals.drop:∀ {xs:List V} {us:List Value} (n:Nat),Vals xs us->Vals (xs.drop n) (us.drop n)
 | _,_,0,r=>r
 | _,_,_+1,.nil=>.nil
 | _,_,n+1,.cons _ t=>Vals.drop n t
noncomputable def RelO:Option V->Option Value->Prop
 | some v,some u=>RelV v u
 | none,none=>True
 | _,_=>False
noncomputable def KV {κ:Type}:List (κ×V)->List (κ×Value)->Prop:=Paired fun (p:κ×V) (q:κ×Value)=>p.1=q.1 /\ RelV p.2 q.2
noncomputable def kV:Key->V
 | .inl i=>.int i
 | .inr x=>.str x
inductive HO where
 | lst (xs:List V)
 | tup (xs:List V)
 | dK (kvs:List (Key×V)) | dT (kvs:List (List Key×V))
 | set (S:Int->Bool) (n:Nat)
 | ins (C dx:Addr) (fs:List (Str×V))
 | own (x:Addr)
 | xd (fs:List (Str×V))
 | met (f x:Addr)
 | rng (lo hi:Int)
 | frz (o:Obj) (u:HO)
 | tbl (ps:Array Value)
 | ext (φ:Heap->Prop)
noncomputable abbrev Hp:=Addr->Option HO
noncomputable def upd (H:Hp) (a:Addr) (o:HO):Hp:=fun b=>if b=a then some o else H b
theorem ZAD {H:Hp} {a:Addr} {o:HO}:upd H a o a=some o:=by unfold upd;rw [if_pos rfl]
theorem ZAG {H:Hp} {a b:Addr} {o:HO} (h:b≠a):upd H a o b=H b:=by unfold upd;rw [if_neg h]
theorem ZDz {H:Hp} {a:Addr} {o u:HO}:upd (upd H a o) a u=upd H a u:=by
 funext b;unfold upd;split <;> rfl
theorem ne_of {H:Hp} {a b:Addr} {o u:HO} (h:H a=some o) (h':H b=some u) (d:o≠u):a≠b:=by
 intro e;subst e;rw [h] at h';exact d (Option.some.inj h')
theorem ZAF {H:Hp} {a b:Addr} {o:HO} (h:H a=some o) (h':H b=none):a≠b:=by
 intro e;subst e;rw [h] at h';cases h'
section
variable (P:Program) (w:World)
noncomputable def ObjOk (H:Hp) (h:Heap) (a:Addr):HO->Prop
 | .lst xs=>xs.length <= sizeLine /\ ∃ (its:List Value) (n:Nat),Vals xs its /\ h.get? a=some { cls:=.type "list",data:=.seq its.toArray n }
 | .tup xs=>xs.length <= sizeLine /\ ∃ its:List Value,Vals xs its /\ IsTup h a its.toArray
 | .dK kvs=>kvs.length <= sizeLine /\ (a == sysModules)=false /\ ∃ vs,KV kvs vs /\ h.DictOf (ZAZ P w) a vs
 | .dT kvs=>kvs.length <= sizeLine /\ (a == sysModules)=false /\ ∃ xs:List (List Key×Addr×Value),
   Paired (fun (p:List Key×V) (q:List Key×Addr×Value)=>p.1=q.1 /\ H q.2.1=some (.tup (p.1.map kV)) /\ RelV p.2 q.2.2) kvs xs /\
   ∃ o es ep,h.get? a=some o /\ o.ExactDict /\ o.data=.dict es ep /\ es.toList=xs.map (entryOfKey (tupleKind (ZAZ P w))) /\ (xs.map (·.1)).Nodup
 | .set S n=>h.SetOf (intKind P w) a S n
 | .ins C dx fs=>H dx=some (.own a) /\ fs.length <= 1000 /\ dx≠a /\ h.get? a=some (PySem.W.instObj C dx) /\
   ∃ mA,h.Ns1 dx mA /\ (∀ f,RelO (fs.lookup f) (mA f)) /\ PySem.Within mA (fs.map (·.1))
 | .own _=>∃ o,h.get? a=some o
 | .xd fs=>∃ mA,h.Ns1 a mA /\ ∀ f,RelO (fs.lookup f) (mA f)
 | .rng lo hi=>∃ t u v,h.get? a=some { cls:=.type "range",data:=.fields #[.int lo t,.int hi u,.int 1 v] }
 | .frz o u=>h.get? a=some o /\ ObjOk H h a u
 | .tbl ps=>h.get? a=some { cls:=.none,data:=.fields ps }
 | .met f x=>h.get? a=some (PySem.W.methodObj (.ref f) (.ref x))
 | .ext φ=>φ h /\ (∃ o,h.get? a=some o) /\ ∀ h1 h2:Heap,φ h1->(∀ o,h1.get? a=some o->h2.get? a=some o)->φ h2
noncomputable def HOk (H:Hp) (h:Heap):Prop:=∀ a o,H a=some o->ObjOk P w H h a o
end
section
variable {P:Program} {w:World} {H H':Hp} {h h':Heap} {a:Addr} {o:HO}
theorem ObjOk.lt (x:ObjOk P w H h a o):a < h.objs.size:=by
 cases o with
 | lst xs=>obtain ⟨_,_,_,_,e⟩:=x;exact Heap.lt_size e
 | tup xs=>obtain ⟨_,_,_,p⟩:=x;exact p.lt
 | dK kvs=>obtain ⟨_,_,_,_,o,_,_,e,_⟩:=x;exact Heap.lt_size e
 | dT kvs=>obtain ⟨_,_,_,_,o,_,_,e,_⟩:=x;exact Heap.lt_size e
 | set S n=>obtain ⟨o,_,_,_,e,_⟩:=x;exact Heap.lt_size e
 | ins C dx fs=>obtain ⟨_,_,_,e,_⟩:=x;exact Heap.lt_size e
 | own y=>obtain ⟨_,e⟩:=x;exact Heap.lt_size e
 | xd fs=>obtain ⟨_,⟨_,_,_,e,_⟩,_⟩:=x;exact Heap.lt_size e
 | rng lo hi=>obtain ⟨_,_,_,e⟩:=x;exact Heap.lt_size e
 | frz ob u=>obtain ⟨e,_⟩:=x;exact Heap.lt_size e
 | tbl ps=>exact Heap.lt_size (show h.get? a=some _ from x)
 | met f y=>exact Heap.lt_size (show h.get? a=some _ from x)
 | ext φ=>obtain ⟨_,⟨_,e⟩,_⟩:=x;exact Heap.lt_size e
theorem Paired.mapP {α z:Type} {F G:α->z->Prop}:∀ {l₁:List α} {l₂:List z},Paired F l₁ l₂->(∀ a b,F a b->G a b)->Paired G l₁ l₂
 | _,_,.nil,_=>.nil
 | _,_,.cons r t,f=>.cons (f _ _ r) (Paired.mapP t f)
theorem ObjOk.stay (x:ObjOk P w H h a o) (k:∀ b u,(b=a∨H b=some (.own a))->h.get? b=some u->h'.get? b=some u)
  (O:∀ b,H b=some (.own a)->H' b=some (.own a)) (L:∀ b xs,H b=some (.tup xs)->H' b=some (.tup xs)):ObjOk P w H' h' a o:=by
 induction o with
 | lst xs=>obtain ⟨z,its,n,r,e⟩:=x;exact ⟨z,its,n,r,k _ _ (.inl rfl) e⟩
 | tup xs=>obtain ⟨z,its,r,ob,e,c⟩:=x;exact ⟨z,its,r,ob,k _ _ (.inl rfl) e,c⟩
 | dK kvs=>obtain ⟨z,y,vs,r,ob,es,ep,e,c⟩:=x;exact ⟨z,y,vs,r,ob,es,ep,k _ _ (.inl rfl) e,c⟩
 | dT kvs=>
  obtain ⟨z,y,xs,r,ob,es,ep,e,c⟩:=x
  exact ⟨z,y,xs,Paired.mapP r fun p q z=>⟨z.1,L _ _ z.2.1,z.2.2⟩,ob,es,ep,k _ _ (.inl rfl) e,c⟩
 | set S n=>obtain ⟨ob,es,ep,t,e,c⟩:=x;exact ⟨ob,es,ep,t,k _ _ (.inl rfl) e,c⟩
 | ins C dx fs=>
  obtain ⟨d,z,ne,e,mA,⟨J,es,ep,e2,c⟩,r⟩:=x
  exact ⟨O _ d,z,ne,k _ _ (.inl rfl) e,mA,⟨J,es,ep,k _ _ (.inr d) e2,c⟩,r⟩
 | own y=>obtain ⟨ob,e⟩:=x;exact ⟨ob,k _ _ (.inl rfl) e⟩
 | xd fs=>obtain ⟨mA,⟨J,es,ep,e,c⟩,r⟩:=x;exact ⟨mA,⟨J,es,ep,k _ _ (.inl rfl) e,c⟩,r⟩
 | rng lo hi=>obtain ⟨t,u,v,e⟩:=x;exact ⟨t,u,v,k _ _ (.inl rfl) e⟩
 | frz ob u ih=>obtain ⟨e,q⟩:=x;exact ⟨k _ _ (.inl rfl) e,ih q⟩
 | tbl ps=>
  have e:h.get? a=some { cls:=.none,data:=.fields ps }:=x
  show h'.get? a=some { cls:=.none,data:=.fields ps }
  exact k a _ (.inl rfl) e
 | met f y=>
  have e:h.get? a=some (PySem.W.methodObj (.ref f) (.ref y)):=x
  show h'.get? a=some (PySem.W.methodObj (.ref f) (.ref y))
  exact k a _ (.inl rfl) e
 | ext φ=>obtain ⟨p,⟨o,e⟩,st⟩:=x;exact ⟨st _ _ p fun o q=>k _ _ (.inl rfl) q,⟨o,k _ _ (.inl rfl) e⟩,st⟩
theorem HOk.lt (x:HOk P w H h) (e:H a=some o):a < h.objs.size:=(x a o e).lt
theorem HOk.fresh (x:HOk P w H h) (e:h.objs.size <= a):H a=none:=by
 cases q:H a with
 | none=>rfl
 | some u=>exact absurd (yAQ (x.lt q) e) (yBG _)
theorem HOk.kept (x:HOk P w H h) (k:∀ b u,h.get? b=some u->h'.get? b=some u):HOk P w H h':=fun a o e=>
 (x a o e).stay (fun b u _ q=>k b u q) (fun _ q=>q) fun _ _ q=>q
theorem HOk.laid (x:HOk P w H h) (k:∀ b u,h.get? b=some u->h'.get? b=some u) (z:h.objs.size <= a) (new:ObjOk P w (upd H a o) h' a o):HOk P w (upd H a o) h':=fun b u e=>by
 have hn:=x.fresh z
 by_cases hb:b=a
 .subst hb;rw [ZAD] at e;cases e;exact new
 .rw [ZAG hb] at e
  exact (x b u e).stay (fun c v _ q=>k c v q) (fun c q=>by rw [ZAG (ZAF q hn)];exact q) fun c xs q=>by rw [ZAG (ZAF q hn)];exact q
end
noncomputable def Rd (H:Hp) (a:Addr) (u:HO):Prop:=H a=some u∨∃ o,H a=some (.frz o u)
theorem Rd.ok {P:Program} {w:World} {H:Hp} {h:Heap} {a:Addr} {u:HO} (r:Rd H a u) (x:HOk P w H h):ObjOk P w H h a u:=by
 rcases r with r | ⟨o,r⟩
 .exact x a u r
 .obtain ⟨_,q⟩:=x a _ r
  exact q
noncomputable def Mut:Option HO->Prop
 | some (.lst _)=>True
 | some (.dK _)=>True
 | some (.dT _)=>True
 | some (.set _ _)=>True
 | some (.ins _ _ _)=>True
 | some (.ext _)=>True
 | _=>False
section
variable {P:Program} {w:World} {H:Hp} {h h':Heap} {x e:Addr} {o':HO}
theorem HOk.write (ok:HOk P w H h) (O:Mut (H x)) (Y:e=x∨H e=some (.own x)) (k:∀ b u,b≠e->h.get? b=some u->h'.get? b=some u) (U:∃ u,h'.get? e=some u)
  (new:ObjOk P w (upd H x o') h' x o'):HOk P w (upd H x o') h':=fun b u q=>by
 have J:∀ c y,H c=some (.own y)->c≠x:=fun c y r z=>by subst z;rw [r] at O;exact O
 have L:∀ c xs,H c=some (.tup xs)->c≠x:=fun c xs r z=>by subst z;rw [r] at O;exact O
 by_cases hb:b=x
 .subst hb;rw [ZAD] at q;cases q;exact new
 .rw [ZAG hb] at q
  by_cases hbe:b=e
  .have Z:H b=some (.own x):=by
    rcases Y with z | z
    .exact absurd (hbe.trans z) hb
    .rw [hbe];exact z
   rw [q] at Z;cases Z
   obtain ⟨v,hv⟩:=U
   exact ⟨v,by rw [hbe];exact hv⟩
  .refine (ok b u q).stay (fun c v hc r=>k c v ?_ r) (fun c r=>by rw [ZAG (J c b r)];exact r) fun c xs r=>by rw [ZAG (L c xs r)];exact r
   rcases hc with rfl | hc
   .exact hbe
   .rintro rfl
    rcases Y with z | z
    .exact J c b hc z
    .rw [hc] at z;cases z;exact hb rfl
end
structure Un (fs ex:List Addr) (H H':Hp) (h h':Heap):Prop where
 keep:∀ b o,h.get? b=some o->H b=none->b∉fs->b∉ex->h'.get? b=some o
 slot:∀ b o,h.get? b=some o->H b=none->b∈fs->b∉ex->∃ sl,h'.get? b=some { o with slots:=sl }
 free:∀ b o,h.get? b=some o->H b=none->b∉ex->H' b=none
 there:∀ b o,h.get? b=some o->b∉ex->∃ o',h'.get? b=some o'
 tups:∀ b xs,H b=some (.tup xs)->H' b=some (.tup xs)
 frzs:∀ b o u,H b=some (.frz o u)->H' b=some (.frz o u)
 tbls:∀ b ps,H b=some (.tbl ps)->∃ more,H' b=some (.tbl (ps++more))
section
variable {fs fs' ex ex':List Addr} {H H1 H2:Hp} {h h1 h2 h':Heap} {a x e:Addr} {o:HO}
theorem Un.any (u:Un fs ex H H1 h h1) {b:Addr} {ob:Obj} (q:h.get? b=some ob) (n:H b=none) (hx:b∉ex):∃ z,h1.get? b=some { ob with slots:=z }:=by
 by_cases hb:b∈fs
 .exact u.slot b ob q n hb hx
 .exact ⟨ob.slots,u.keep b ob q n hb hx⟩
theorem Un.trans (a:Un fs ex H H1 h h1) (b:Un fs ex H1 H2 h1 h2):Un fs ex H H2 h h2 where
 keep:=fun c ob q n hc hx=>b.keep c ob (a.keep c ob q n hc hx) (a.free c ob q n hx) hc hx
 slot:=fun c ob q n hc hx=>by
  obtain ⟨U,z⟩:=a.slot c ob q n hc hx
  obtain ⟨J,e2⟩:=b.slot c _ z (a.free c ob q n hx) hc hx
  exact ⟨J,e2⟩
 free:=fun c ob q n hx=>by
  obtain ⟨o',z⟩:=a.there c ob q hx
  exact b.free c o' z (a.free c ob q n hx) hx
 there:=fun c ob q hx=>by
  obtain ⟨o',z⟩:=a.there c ob q hx
  exact b.there c o' z hx
 tups:=fun c xs q=>b.tups c xs (a.tups c xs q)
 frzs:=fun c ob xs q=>b.frzs c ob xs (a.frzs c ob xs q)
 tbls:=fun c ps q=>by
  obtain ⟨O,z⟩:=a.tbls c ps q
  obtain ⟨L,e2⟩:=b.tbls c _ z
  exact ⟨O++L,by rw [e2,Array.append_assoc]⟩
theorem Un.kept (k:∀ b u,h.get? b=some u->h'.get? b=some u):Un fs ex H H h h' :=
 ⟨fun b ob q _ _ _=>k b ob q,fun b ob q _ _ _=>⟨ob.slots,k b ob q⟩,fun _ _ _ n _=>n,fun b ob q _=>⟨ob,k b ob q⟩,fun _ _ q=>q,fun _ _ _ q=>q,fun _ ps q=>⟨#[],by rw [q];simp⟩⟩
theorem Un.refl:Un fs ex H H h h:=Un.kept fun _ _ q=>q
theorem Un.laid (k:∀ b u,h.get? b=some u->h'.get? b=some u) (z:h.objs.size <= a) (hn:H a=none):Un fs ex H (upd H a o) h h' where
 keep:=fun b u q _ _ _=>k b u q
 slot:=fun b u q _ _ _=>⟨u.slots,k b u q⟩
 free:=fun b u q n _=>by rw [ZAG (yAE (yAQ (Heap.lt_size q) z))];exact n
 there:=fun b u q _=>⟨u,k b u q⟩
 tups:=fun b xs q=>by rw [ZAG (ZAF q hn)];exact q
 frzs:=fun b u xs q=>by rw [ZAG (ZAF q hn)];exact q
 tbls:=fun b ps q=>⟨#[],by rw [ZAG (ZAF q hn),q];simp⟩
theorem Un.write (J:Mut (H x)) (U:e=x∨H e=some (.own x)) (k:∀ b u,b≠e->h.get? b=some u->h'.get? b=some u) (L:∃ u,h'.get? e=some u):Un fs ex H (upd H x o) h h':=by
 have hx:∀ b,H b=none->b≠x:=fun b n z=>by subst z;rw [n] at J;exact J
 have O:∀ b,H b=none->b≠e:=fun b n z=>by
  subst z
  rcases U with r | r
  .exact hx b n r
  .rw [n] at r;cases r
 have hm:∀ b u,H b=some u->¬ Mut (some u)->b≠x:=fun b u q nm z=>by subst z;rw [q] at J;exact nm J
 refine ⟨fun b u q n _ _=>k b u (O b n) q,fun b u q n _ _=>⟨u.slots,k b u (O b n) q⟩,fun b u q n _=>by rw [ZAG (hx b n)];exact n,fun b u q _=>?_,
  fun b xs q=>by rw [ZAG (hm b _ q fun z=>z)];exact q,fun b u xs q=>by rw [ZAG (hm b _ q fun z=>z)];exact q,fun b ps q=>⟨#[],by rw [ZAG (hm b _ q fun z=>z),q];simp⟩⟩
 by_cases hbe:b=e
 .subst hbe;exact L
 .exact ⟨u,k b u hbe q⟩
end
noncomputable def trk (h:Heap) (H:Hp):List Addr:=(List.range h.objs.size).filter fun a=>(H a).isSome
noncomputable def hidT (h:Heap) (H:Hp):Heap:=PySem.W.hideAll h (trk h H)
theorem hidT_size (h:Heap) (H:Hp):(hidT h H).objs.size=h.objs.size:=PySem.W.hideAll_size _ _
theorem hidT_get {h:Heap} {H:Hp} {b:Addr} {o:Obj} (e:h.get? b=some o) (n:H b=none):(hidT h H).get? b=some o :=
 PySem.W.hideAll_get _ e fun hm=>by
  have q:(H b).isSome=true:=(List.mem_filter.mp hm).2
  rw [n] at q;simp at q
theorem of_hidT {h:Heap} {H:Hp} {b:Addr} {o:Obj} (e:(hidT h H).get? b=some o):h.get? b=some o /\ H b=none:=by
 have J:h.get? b=some o:=PySem.W.of_hideAll (trk h H) e
 refine ⟨J,?_⟩
 cases q:H b with
 | none=>rfl
 | some x=>
  have hm:b∈trk h H:=List.mem_filter.mpr ⟨yBM.mpr (Heap.lt_size J),by simp [q]⟩
  have z:(hidT h H).get? b=none:=PySem.W.hideAll_none (trk h H) hm
  rw [z] at e;cases e
structure Mod (K:W.Frag) (mg:Str->Option Value) (base:Heap):Prop where
 kin:K.In base
 glob:base.Ns mainGlobals mg
 blt:∃ mb,base.Ns builtinsNs mb /\ ∀ x:Str,x≠"__name__"->mb x=bootBuiltins x
 nolimit:base.NoLimit
structure Cx where
 prog:Program
 w:World
 K:W.Frag
 mg:Str->Option Value
 base:Heap
 A:Around
 N:List Str
 s₀:Shared
 H₀:Hp
 env:Env
 outer:List Env
 stack:List Env
 ex:List Addr
 fn:Str->Bool
 calm:Bool
 pn:List (Addr×Obj)
 xe:Value->Shared->Prop
noncomputable def frs (l:List Env):List Addr:=l.filterMap (·.frame)
noncomputable abbrev Cx.fs (X:Cx):List Addr:=frs X.outer
noncomputable def Vis (sc:Scope) (x:Str):Prop:=sc.names.lookup x=some .local∨sc.names.lookup x=some .cell∨sc.names.lookup x=some .free
noncomputable def Loc (sc:Scope) (x:Str):Prop:=sc.names.lookup x=some .local∨sc.names.lookup x=some .cell
noncomputable def Look (env:Env) (h:Heap) (m:Str->Option Value) (x:Str) (u:Value):Prop :=
 (env.kindOf x=some .local /\ m x=some u)∨((env.kindOf x=some .cell∨env.kindOf x=some .free) /\ ∃ c,env.cells.lookup x=some c /\ h.IsCell c (some u))
structure Cx.Ok (X:Cx):Prop where
 mod:Mod X.K X.mg X.base
 kind:X.env.scope.kind=.function
 glob:X.env.globals=mainGlobals
 blt:X.env.builtins=builtinsNs
 above:X.s₀.heap.objs.size <= X.env.locals
 inj:∀ x y c,X.env.cells.lookup x=some c->X.env.cells.lookup y=some c->x=y
 has:∀ x,(X.env.kindOf x=some .cell∨X.env.kindOf x=some .free)->∃ c,X.env.cells.lookup x=some c
 cab:∀ x c,X.fn x=true->X.env.cells.lookup x=some c->X.s₀.heap.objs.size <= c
 hd:X.calm=true->X.A.handled=none
 frames:X.A.frames=some X.stack
 stk:X.stack=X.outer∨(X.stack=X.env::X.outer /\ X.env.frame=some X.env.locals)
 exf:∀ b∈X.ex,b≠X.env.locals /\ ∀ x c,X.env.cells.lookup x=some c->c≠b
 bs:∀ b o,X.base.get? b=some o->X.s₀.heap.get? b=some o /\ X.H₀ b=none
 bsz:X.base.objs.size <= X.s₀.heap.objs.size
 noex:∀ b o,X.base.get? b=some o->b∉X.ex
 exfs:∀ b∈X.ex,b∉X.fs
 funs:X.s₀.heap.FunFrames X.base X.outer
 frf:∀ b∈X.fs,X.H₀ b=none
structure Inv (X:Cx) (pins:List (Addr×Obj)) (σ:List (Option V)) (H:Hp) (s:Shared):Prop where
 ok:X.Ok
 os:s.os=X.s₀.os
 bare:AllBare s.gens
 base:Un X.fs X.ex X.H₀ H X.s₀.heap s.heap
 loc:∃ m,s.heap.Ns X.env.locals m /\ ∀ (i:Nat) (x:Str) (v:V),X.N[i]?=some x->σ[i]?=some (some v)->Vis X.env.scope x->∃ u,RelV v u /\ Look X.env s.heap m x u
 cell:∀ x c,X.env.cells.lookup x=some c->∃ v,s.heap.IsCell c v
 free:H X.env.locals=none
 freeC:∀ x c,X.env.cells.lookup x=some c->H c=none
 pin:∀ p∈X.pn++pins,s.heap.get? p.1=some p.2 /\ H p.1=none /\ p.1≠X.env.locals /\ p.1∉X.fs /\ ∀ v,p.2.data≠.cell v
 hok:HOk X.prog X.w H s.heap
 len:σ.length=X.N.length
section
variable {X:Cx} {pins:List (Addr×Obj)} {σ:List (Option V)} {H H':Hp} {s:Shared} {h':Heap}
theorem Cx.Ok.nofr (ok:X.Ok) {b:Addr} {o:Obj} (e:X.base.get? b=some o):b∉X.fs:=fun z=>by
 have:=(ok.funs.mem z).1
 rw [e] at this;cases this
theorem Inv.bs (I:Inv X pins σ H s):∀ b o,X.base.get? b=some o->s.heap.get? b=some o /\ H b=none:=fun b o e=>
 ⟨I.base.keep b o (I.ok.bs b o e).1 (I.ok.bs b o e).2 (I.ok.nofr e) (I.ok.noex b o e),I.base.free b o (I.ok.bs b o e).1 (I.ok.bs b o e).2 (I.ok.noex b o e)⟩
theorem Inv.bk (I:Inv X pins σ H s):∀ b o,X.base.get? b=some o->s.heap.get? b=some o:=fun b o e=>(I.bs b o e).1
theorem Inv.mod (I:Inv X pins σ H s):Mod X.K X.mg X.base:=I.ok.mod
theorem Inv.kIn (I:Inv X pins σ H s):X.K.In s.heap:=I.ok.mod.kin.keeps I.bk
theorem Inv.lt (I:Inv X pins σ H s):X.env.locals < s.heap.objs.size:=let ⟨_,hn,_⟩:=I.loc;hn.lt
theorem Inv.sz (I:Inv X pins σ H s):X.s₀.heap.objs.size <= s.heap.objs.size:=yAF I.ok.above (yBP I.lt)
theorem Inv.nofs (I:Inv X pins σ H s) {a:Addr} (h:s.heap.objs.size <= a):a∉X.fs:=fun z=>by
 obtain ⟨_,o,J,_⟩:=I.ok.funs.mem z
 exact absurd (yAQ (Heap.lt_size J) (yAF I.sz h)) (yBG _)
theorem Inv.cne (I:Inv X pins σ H s):∀ x c,X.env.cells.lookup x=some c->c≠X.env.locals:=fun x c e z=>by
 obtain ⟨v,o,O,U⟩:=I.cell x c e
 obtain ⟨m,⟨o',es,ep,J,L,_⟩,_⟩:=I.loc
 rw [z,J] at O;cases O;rw [L] at U;cases U
theorem Inv.funs (I:Inv X pins σ H s):s.heap.FunFrames X.base X.outer:=by
 have all:∀ (l:List Env),(∀ b∈frs l,b∈X.fs)->X.s₀.heap.FunFrames X.base l->s.heap.FunFrames X.base l:=by
  intro l
  induction l with
  | nil=>intro _ _;trivial
  | cons env r ih=>
   intro Y hl
   obtain ⟨hk,⟨L,o,O,hn,ho,hd⟩,Z⟩:=hl
   have U:L∈X.fs:=Y L (by unfold frs;rw [List.filterMap_cons,O];exact yAJ)
   obtain ⟨sl,e⟩:=I.base.slot L o ho (I.ok.frf L U) U fun z=>I.ok.exfs L z U
   exact ⟨hk,⟨L,_,O,hn,e,hd⟩,ih (fun b J=>Y b (by unfold frs;rw [List.filterMap_cons,O];exact yAL _ J)) Z⟩
 exact all X.outer (fun _ J=>J) I.ok.funs
theorem Inv.stack (I:Inv X pins σ H s):s.heap.FunFrames X.base X.stack:=by
 rcases I.ok.stk with e | ⟨e,z⟩
 .rw [e];exact I.funs
 .rw [e]
  obtain ⟨m,hn,_⟩:=I.loc
  refine .cons (by rw [I.ok.kind];decide) z hn ?_ I.funs
  exact Heap.get?_none_of_le (yAF I.ok.bsz I.ok.above)
theorem Inv.stkSub (I:Inv X pins σ H s):∀ b∈frs X.stack,b∈X.env.locals::X.fs:=fun b z=>by
 rcases I.ok.stk with e | ⟨e,J⟩
 .rw [e] at z;exact yAL _ z
 .rw [e] at z
  unfold frs at z
  rw [List.filterMap_cons,J] at z
  exact z
theorem Inv.stkFree (I:Inv X pins σ H s):∀ b∈frs X.stack,H b=none:=fun b J=>by
 rcases yAG.mp (I.stkSub b J) with e | J
 .rw [e];exact I.free
 .obtain ⟨_,o,L,_⟩:=I.ok.funs.mem J
  exact I.base.free b o L (I.ok.frf b J) fun z=>I.ok.exfs b z J
theorem Inv.step {g':Array GenState} {t':Nat} {d':Drawn} {ch:List Addr} (I:Inv X pins σ H s)
  (O:∀ b∈ch,(b∈X.ex∨X.s₀.heap.objs.size <= b) /\ b≠X.env.locals /\ (∀ x c,X.env.cells.lookup x=some c->c≠b) /\ ∀ p∈X.pn++pins,p.1≠b)
  (keep:∀ b o,b≠X.env.locals->b∉X.fs->b∉ch->s.heap.get? b=some o->H b=none->h'.get? b=some o)
  (slot:∀ b o,b≠X.env.locals->b∈X.fs->b∉ch->s.heap.get? b=some o->H b=none->∃ sl,h'.get? b=some { o with slots:=sl }) (free:∀ b o,b∉ch->s.heap.get? b=some o->H b=none->H' b=none)
  (there:∀ b o,b∉ch->s.heap.get? b=some o->∃ o',h'.get? b=some o')
  (tups:∀ b xs,H b=some (.tup xs)->H' b=some (.tup xs)) (frzs:∀ b o u,H b=some (.frz o u)->H' b=some (.frz o u)) (tbls:∀ b ps,H b=some (.tbl ps)->∃ more,H' b=some (.tbl (ps++more)))
  (ns:∀ m,s.heap.Ns X.env.locals m->h'.Ns X.env.locals m) (a1:HOk X.prog X.w H' h') (hg:AllBare g') :
  Inv X pins σ H' { s with heap:=h',gens:=g',drawn:=d',toks:=t' }:=by
 have a0:∀ b o,X.s₀.heap.get? b=some o->b≠X.env.locals:=fun b o e=>yAE (yAQ (Heap.lt_size e) I.ok.above)
 have Y:∀ b o,X.s₀.heap.get? b=some o->b∉X.ex->b∉ch:=fun b o e hx Z=>by
  rcases (O b Z).1 with z | z
  .exact hx z
  .exact absurd (yAQ (Heap.lt_size e) z) (yBG _)
 have L:∀ x c,X.env.cells.lookup x=some c->∀ v,s.heap.IsCell c v->h'.IsCell c v:=fun x c e v ⟨o,ho,hd⟩=>by
  have J:c∉ch:=fun z=>(O c z).2.2.1 x c e rfl
  by_cases hc:c∈X.fs
  .obtain ⟨sl,q⟩:=slot c o (I.cne x c e) hc J ho (I.freeC x c e)
   exact ⟨_,q,hd⟩
  .exact ⟨o,keep c o (I.cne x c e) hc J ho (I.freeC x c e),hd⟩
 refine ⟨I.ok,I.os,hg,⟨fun b o e n Z hx=>?_,fun b o e n Z hx=>?_,fun b o e n hx=>?_,fun b o e hx=>?_,fun b xs e=>tups b xs (I.base.tups b xs e),fun b o xs e=>frzs b o xs (I.base.frzs b o xs e),fun b ps e=>?_⟩,?_,fun x c e=>?_,?_,fun x c e=>?_,fun p hp=>?_,a1,I.len⟩
 .exact keep b o (a0 b o e) Z (Y b o e hx) (I.base.keep b o e n Z hx) (I.base.free b o e n hx)
 .obtain ⟨sl,U⟩:=I.base.slot b o e n Z hx
  obtain ⟨a2,e2⟩:=slot b _ (a0 b o e) Z (Y b o e hx) U (I.base.free b o e n hx)
  exact ⟨a2,e2⟩
 .obtain ⟨o',U⟩:=I.base.there b o e hx
  exact free b o' (Y b o e hx) U (I.base.free b o e n hx)
 .obtain ⟨o',U⟩:=I.base.there b o e hx
  exact there b o' (Y b o e hx) U
 .obtain ⟨m1,U⟩:=I.base.tbls b ps e
  obtain ⟨m2,e2⟩:=tbls b _ U
  exact ⟨m1++m2,by rw [e2,Array.append_assoc]⟩
 .obtain ⟨m,hn,hl⟩:=I.loc
  refine ⟨m,ns m hn,fun i x v U e2 e3=>?_⟩
  obtain ⟨u,r,l⟩:=hl i x v U e2 e3
  refine ⟨u,r,?_⟩
  rcases l with l | ⟨k,c,e,z⟩
  .exact .inl l
  .exact .inr ⟨k,c,e,L x c e _ z⟩
 .obtain ⟨v,z⟩:=I.cell x c e
  exact ⟨v,L x c e v z⟩
 .obtain ⟨m,⟨o,_,_,ho,_⟩,_⟩:=I.loc
  exact free _ o (fun z=>(O _ z).2.1 rfl) ho I.free
 .obtain ⟨v,o,ho,hd⟩:=I.cell x c e
  exact free c o (fun z=>(O c z).2.2.1 x c e rfl) ho (I.freeC x c e)
 .obtain ⟨e,n,ne,nf,d⟩:=I.pin p hp
  have J:p.1∉ch:=fun z=>(O p.1 z).2.2.2 p hp rfl
  exact ⟨keep p.1 p.2 ne nf J e n,free p.1 p.2 J e n,ne,nf,d⟩
theorem Inv.un {t':Nat} (I:Inv X pins σ H s) (u:Un X.fs [] H H' s.heap h') (Y:HOk X.prog X.w H' h'):Inv X pins σ H' { s with heap:=h',toks:=t' }:=by
 obtain ⟨m,⟨o,es,ep,Z,r⟩,_⟩:=id I.loc
 obtain ⟨sl,hL⟩:=u.any Z I.free (by simp)
 exact I.step (g':=s.gens) (d':=s.drawn) (ch:=[]) (fun _ z=>nomatch z) (fun b o _ L _ e n=>u.keep b o e n L (by simp)) (fun b o _ L _ e n=>u.slot b o e n L (by simp)) (fun b o _ e n=>u.free b o e n (by simp)) (fun b o _ e=>u.there b o e (by simp)) u.tups u.frzs u.tbls (fun m' hm=>by
  obtain ⟨o',O,U,J,r'⟩:=hm
  rw [Z] at J;cases J
  exact ⟨_,O,U,hL,r'⟩) Y I.bare
theorem Inv.call {g':Array GenState} {t':Nat} {d':Drawn} {ch:List Addr} (I:Inv X pins σ H s) (u:Un (frs X.stack) ch H H' s.heap h') (Z:HOk X.prog X.w H' h') (hg:AllBare g')
  (L:∀ b∈ch,(b∈X.ex∨X.s₀.heap.objs.size <= b) /\ b≠X.env.locals /\ (∀ x c,X.env.cells.lookup x=some c->c≠b) /\ ∀ p∈X.pn++pins,p.1≠b) :
  Inv X pins σ H' { s with heap:=h',gens:=g',drawn:=d',toks:=t' }:=by
 obtain ⟨m,⟨o,es,ep,ho,r⟩,_⟩:=id I.loc
 obtain ⟨sl,O⟩:=u.any ho I.free fun z=>(L _ z).2.1 rfl
 exact I.step (ch:=ch) L (fun b o O hb hc e n=>u.keep b o e n (fun z=>(yAG.mp (I.stkSub b z)).elim O hb) hc) (fun b o _ _ hc e n=>u.any e n hc) (fun b o hc e n=>u.free b o e n hc) (fun b o hc e=>u.there b o e hc) u.tups u.frzs u.tbls (fun m' hm=>by
  obtain ⟨o',U,Y,J,r'⟩:=hm
  rw [ho] at J;cases J
  exact ⟨_,U,Y,O,r'⟩) Z hg
theorem Inv.turned {t':Nat} {it:Addr} (I:Inv X pins σ H s) (k:∀ b o,b≠it->s.heap.get? b=some o->h'.get? b=some o) (hn:H it=none) (L:it≠X.env.locals)
  (h1:it∈X.ex∨X.s₀.heap.objs.size <= it) (h2:∀ x c,X.env.cells.lookup x=some c->c≠it) (h3:∀ p∈X.pn++pins,p.1≠it):Inv X pins σ H { s with heap:=h',toks:=t' }:=by
 have J:∀ b u,H b=some u->b≠it:=fun b u e z=>by rw [z,hn] at e;cases e
 refine I.step (g':=s.gens) (d':=s.drawn) (ch:=[it]) (fun b O=>?_) (fun b o _ _ hc e _=>k b o (fun z=>hc (by simp [z])) e) (fun b o _ _ hc e _=>⟨o.slots,k b o (fun z=>hc (by simp [z])) e⟩) (fun _ _ _ _ n=>n)
  (fun b o hc e=>⟨o,k b o (fun z=>hc (by simp [z])) e⟩) (fun _ _ e=>e) (fun _ _ _ e=>e) (fun b ps e=>⟨#[],by rw [e];simp⟩) (fun m hm=>?_) (fun b u e=>?_) I.bare
 .have e:b=it:=by simpa using O
  subst e
  exact ⟨h1,L,h2,h3⟩
 .obtain ⟨o,es,ep,U,r⟩:=hm
  exact ⟨o,es,ep,k _ o (Ne.symm L) U,r⟩
 .refine (I.hok b u e).stay (fun c v hc q=>k c v ?_ q) (fun _ q=>q) fun _ _ q=>q
  rcases hc with z | z
  .rw [z];exact J b u e
  .exact J c _ z
theorem Inv.tok (I:Inv X pins σ H s) (t:Nat):Inv X pins σ H { s with toks:=t }:=I.un (h':=s.heap) (t':=t) Un.refl I.hok
theorem Inv.kept {t':Nat} (I:Inv X pins σ H s) (k:∀ b u,s.heap.get? b=some u->h'.get? b=some u):Inv X pins σ H { s with heap:=h',toks:=t' }:=I.un (Un.kept k) (I.hok.kept k)
theorem Inv.laid {a:Addr} {o:HO} {t':Nat} (I:Inv X pins σ H s) (k:∀ b u,s.heap.get? b=some u->h'.get? b=some u) (z:s.heap.objs.size <= a) (new:ObjOk X.prog X.w (upd H a o) h' a o) :
  Inv X pins σ (upd H a o) { s with heap:=h',toks:=t' }:=I.un (Un.laid k z (I.hok.fresh z)) (I.hok.laid k z new)
theorem Inv.write {x e:Addr} {o:HO} {t':Nat} (I:Inv X pins σ H s) (L:Mut (H x)) (J:e=x∨H e=some (.own x)) (k:∀ b u,b≠e->s.heap.get? b=some u->h'.get? b=some u) (z:∃ u,h'.get? e=some u)
  (new:ObjOk X.prog X.w (upd H x o) h' x o):Inv X pins σ (upd H x o) { s with heap:=h',toks:=t' }:=I.un (Un.write L J k z) (I.hok.write L J k z new)
theorem Inv.pins_of {pins':List (Addr×Obj)} (I:Inv X pins σ H s) (h:∀ p∈pins',s.heap.get? p.1=some p.2 /\ H p.1=none /\ p.1≠X.env.locals /\ p.1∉X.fs /\ ∀ v,p.2.data≠.cell v):Inv X pins' σ H s :=
 ⟨I.ok,I.os,I.bare,I.base,I.loc,I.cell,I.free,I.freeC,fun p J=>(yBB.mp J).elim (fun z=>I.pin p (yBX _ z)) (h p),I.hok,I.len⟩
theorem ZDg {N:List Str} (J:N.Nodup) {i j:Nat} {x:Str} (a:N[i]?=some x) (b:N[j]?=some x):i=j:=by
 obtain ⟨h1,z⟩:=yAM.mp a
 obtain ⟨h2,e2⟩:=yAM.mp b
 exact (List.getElem_inj J).mp (z.trans e2.symm)
theorem store_ok2 {M:Model} {A:Around} {E:Value->Shared->Prop} {i:Nat} {x:Str} {v:V} {u:Value} {Q:Unit->Shared->Prop} (I:Inv X pins σ H s) (hN:X.N.Nodup) (hi:X.N[i]?=some x) (hx:Loc X.env.scope x) (r:RelV v u)
  (h:∀ s',Inv X pins (σ.set i (some v)) H s'->(∃ a,Heap.SameBut a s.heap s'.heap /\ (a=X.env.locals∨X.env.cells.lookup x=some a))->Q () s') (hf:X.fn x=true∨X.env.scope.names.lookup x=some .local:=by first | exact .inl rfl | exact .inr rfl | assumption):wpAny M A (storeName X.env x u) Q E s:=by
 obtain ⟨m,hn,hl⟩:=id I.loc
 have a3:(X.env.scope.kind == .class || (X.env.scope.kind == .module && X.env.locals != X.env.globals))=false:=by rw [I.ok.kind];rfl
 have Y:i < σ.length:=by rw [I.len];exact (yAM.mp hi).1
 have cne:=I.cne
 have L:∀ {a:Addr} {h':Heap},(∃ o,s.heap.get? a=some o /\ H a=none)->Heap.SameBut a s.heap h'->HOk X.prog X.w H h':=fun {a h'} ha J b ob e=>by
  obtain ⟨_,_,U⟩:=ha
  refine (I.hok b ob e).stay (fun c w' hc q=>(J.2 c ?_).trans q) (fun _ q=>q) fun _ _ q=>q
  rintro rfl
  rcases hc with rfl | hc
  .rw [U] at e;cases e
  .rw [U] at hc;cases hc
 rcases hx with Z | Z
 .refine wpAny_storeName_local Z hn (fun h' a6 J=>?_) a3
  obtain ⟨oL,_,_,a5,_⟩:=id hn
  refine h _ ⟨I.ok,I.os,I.bare,⟨fun b o e n hb hx=>?_,fun b o e n hb hx=>?_,I.base.free,fun b o e hx=>?_,I.base.tups,I.base.frzs,I.base.tbls⟩,⟨_,a6,fun j y v' O e2 e3=>?_⟩,fun y c e=>?_,I.free,I.freeC,fun p hp=>?_,L ⟨oL,a5,I.free⟩ J,by simpa using I.len⟩ ⟨_,J,.inl rfl⟩
  .exact (J.2 b (yAE (yAQ (Heap.lt_size e) I.ok.above))).trans (I.base.keep b o e n hb hx)
  .obtain ⟨sl,O⟩:=I.base.slot b o e n hb hx
   exact ⟨sl,(J.2 b (yAE (yAQ (Heap.lt_size e) I.ok.above))).trans O⟩
  .obtain ⟨o',O⟩:=I.base.there b o e hx
   exact ⟨o',(J.2 b (yAE (yAQ (Heap.lt_size e) I.ok.above))).trans O⟩
  .by_cases hj:j=i
   .subst hj
    rw [hi] at O;cases O
    rw [List.getElem?_set_self Y] at e2
    cases e2
    exact ⟨u,r,.inl ⟨Z,by simp⟩⟩
   .rw [List.getElem?_set_ne (Ne.symm hj)] at e2
    obtain ⟨u',r',q⟩:=hl j y v' O e2 e3
    refine ⟨u',r',?_⟩
    rcases q with ⟨k,e⟩ | ⟨k,c,e,z⟩
    .refine .inl ⟨k,?_⟩
     have:y≠x:=fun e=>hj (ZDg hN O (e ▸ hi))
     simp [this,e]
    .exact .inr ⟨k,c,e,z.sameBut J (cne y c e)⟩
  .obtain ⟨w',z⟩:=I.cell y c e
   exact ⟨w',z.sameBut J (cne y c e)⟩
  .obtain ⟨e,n,ne,nf,d⟩:=I.pin p hp
   exact ⟨(J.2 p.1 ne).trans e,n,ne,nf,d⟩
 .have a0:X.fn x=true:=by
   rcases hf with z | z
   .exact z
   .rw [z] at Z;cases Z
  obtain ⟨c,hc⟩:=I.ok.has x (.inl Z)
  obtain ⟨w',z⟩:=I.cell x c hc
  refine wpAny_storeName_cell I.ok.kind Z hc z (fun h' a4 J=>?_)
  obtain ⟨oc,a2,a1⟩:=id z
  refine h { s with heap:=h' } ⟨I.ok,I.os,I.bare,⟨fun b o e n hb hx=>?_,fun b o e n hb hx=>?_,I.base.free,fun b o e hx=>?_,I.base.tups,I.base.frzs,I.base.tbls⟩,⟨m,hn.sameBut J (Ne.symm (cne x c hc)),fun j y v' O e2 e3=>?_⟩,fun y c' e=>?_,I.free,I.freeC,fun p hp=>?_,L ⟨oc,a2,I.freeC x c hc⟩ J,by simpa using I.len⟩ ⟨c,J,.inr hc⟩
  .exact (J.2 b (yAE (yAQ (Heap.lt_size e) (I.ok.cab x c a0 hc)))).trans (I.base.keep b o e n hb hx)
  .obtain ⟨sl,O⟩:=I.base.slot b o e n hb hx
   exact ⟨sl,(J.2 b (yAE (yAQ (Heap.lt_size e) (I.ok.cab x c a0 hc)))).trans O⟩
  .obtain ⟨o',O⟩:=I.base.there b o e hx
   exact ⟨o',(J.2 b (yAE (yAQ (Heap.lt_size e) (I.ok.cab x c a0 hc)))).trans O⟩
  .by_cases hj:j=i
   .subst hj
    rw [hi] at O;cases O
    rw [List.getElem?_set_self Y] at e2
    cases e2
    exact ⟨u,r,.inr ⟨.inl Z,c,hc,a4⟩⟩
   .rw [List.getElem?_set_ne (Ne.symm hj)] at e2
    obtain ⟨u',r',q⟩:=hl j y v' O e2 e3
    refine ⟨u',r',?_⟩
    rcases q with q | ⟨k,c',e,z'⟩
    .exact .inl q
    .refine .inr ⟨k,c',e,z'.sameBut J ?_⟩
     rintro rfl
     exact hj (ZDg hN O (I.ok.inj _ _ _ e hc ▸ hi))
  .by_cases hcc:c'=c
   .subst hcc;exact ⟨_,a4⟩
   .obtain ⟨w2,z2⟩:=I.cell y c' e
    exact ⟨w2,z2.sameBut J hcc⟩
  .obtain ⟨e,n,ne,nf,d⟩:=I.pin p hp
   refine ⟨(J.2 p.1 ?_).trans e,n,ne,nf,d⟩
   intro q
   rw [q,a2] at e
   have q':oc=p.2:=Option.some.inj e
   exact d w' (by rw [<- q'];exact a1)
theorem ZCq {M:Model} {A:Around} {E:Value->Shared->Prop} {i:Nat} {x:Str} {v:V} {u:Value} {Q:Unit->Shared->Prop} (I:Inv X pins σ H s) (L:X.N.Nodup) (hi:X.N[i]?=some x) (hx:Loc X.env.scope x) (r:RelV v u)
  (h:∀ s',Inv X pins (σ.set i (some v)) H s'->Q () s') (J:X.fn x=true∨X.env.scope.names.lookup x=some .local:=by first | exact .inl rfl | exact .inr rfl | assumption):wpAny M A (storeName X.env x u) Q E s :=
 store_ok2 I L hi hx r (fun s' z _=>h s' z) J
theorem Inv.call' {s':Shared} {ch:List Addr} (I:Inv X pins σ H s) (L:s'.os=s.os) (u:Un (frs X.stack) ch H H' s.heap s'.heap) (J:HOk X.prog X.w H' s'.heap) (O:AllBare s'.gens)
  (z:∀ b∈ch,(b∈X.ex∨X.s₀.heap.objs.size <= b) /\ b≠X.env.locals /\ (∀ x c,X.env.cells.lookup x=some c->c≠b) /\ ∀ p∈X.pn++pins,p.1≠b):Inv X pins σ H' s':=by
 obtain ⟨h',g',d',t',o'⟩:=s'
 have e:o'=s.os:=L
 subst e
 exact I.call (g':=g') (t':=t') (d':=d') u J O z
end
noncomputable abbrev XK:=Value->Option Addr->Hp->Prop
noncomputable abbrev St:=List (Option V)
noncomputable abbrev VK:=V->Hp->Prop
noncomputable abbrev TE:=St->Hp->VK->Prop
noncomputable abbrev TT:=St->Hp->(Bool->Hp->Prop)->Prop
noncomputable abbrev TA:=St->Hp->(List V->Hp->Prop)->Prop
structure Ends where
 nx:St->Hp->Prop
 rt:VK
 bk:St->Hp->Prop:=fun _ _=>False
 ct:St->Hp->Prop:=fun _ _=>False
noncomputable abbrev TS:=Ends->St->Hp->Prop
noncomputable def EP (X:Cx) (pins:List (Addr×Obj)) (σ:St) (Q:VK) (u:Value) (s':Shared):Prop:=∃ v H',Inv X pins σ H' s' /\ RelV v u /\ Q v H'
noncomputable def TP (X:Cx) (pins:List (Addr×Obj)) (σ:St) (Q:Bool->Hp->Prop) (b:Bool) (s':Shared):Prop:=∃ H',Inv X pins σ H' s' /\ Q b H'
noncomputable def AP (X:Cx) (pins:List (Addr×Obj)) (σ:St) (Q:List V->Hp->Prop) (us:List Value) (s':Shared):Prop:=∃ vs H',Inv X pins σ H' s' /\ Vals vs us /\ Q vs H'
noncomputable def SP (X:Cx) (pins:List (Addr×Obj)) (D:Ends) (f:Flow) (s':Shared):Prop :=
 match f with
 | .next=>∃ σ' H',Inv X pins σ' H' s' /\ D.nx σ' H'
 | .brk=>∃ σ' H',Inv X pins σ' H' s' /\ D.bk σ' H'
 | .cont=>∃ σ' H',Inv X pins σ' H' s' /\ D.ct σ' H'
 | .ret u=>∃ v σ' H',Inv X pins σ' H' s' /\ RelV v u /\ D.rt v H'
noncomputable def PE (X:Cx) (e:Expr) (t:TE):Prop :=
 ∀ (pins:List (Addr×Obj)) (s:Shared) (σ:St) (H:Hp) (Q:VK),Inv X pins σ H s->t σ H Q->wpAny (model X.prog X.w) X.A (eval e X.env) (EP X pins σ Q) X.xe s
noncomputable def PT (X:Cx) (e:Expr) (t:TT):Prop :=
 ∀ (pins:List (Addr×Obj)) (s:Shared) (σ:St) (H:Hp) (Q:Bool->Hp->Prop),Inv X pins σ H s->t σ H Q->wpAny (model X.prog X.w) X.A (isTrue e X.env (eval e X.env)) (TP X pins σ Q) X.xe s
noncomputable def PW (X:Cx) (e:Expr) (t:TT):Prop :=
 ∀ (whole:Sem Value) (pins:List (Addr×Obj)) (s:Shared) (σ:St) (H:Hp) (Q:Bool->Hp->Prop),Inv X pins σ H s->t σ H Q->wpAny (model X.prog X.w) X.A (isTrue e X.env whole) (TP X pins σ Q) X.xe s
theorem PW.pt {X:Cx} {e:Expr} {t:TT} (h:PW X e t):PT X e t:=h _
noncomputable def PA (X:Cx) (es:List Expr) (t:TA):Prop :=
 ∀ (pos:Pos) (pins:List (Addr×Obj)) (s:Shared) (σ:St) (H:Hp) (Q:List V->Hp->Prop),Inv X pins σ H s->t σ H Q->wpAny (model X.prog X.w) X.A (spliced (backTo pos (starEach es X.env))) (AP X pins σ Q) X.xe s
noncomputable def PS (X:Cx) (st:Stmt) (t:TS):Prop :=
 ∀ (pins:List (Addr×Obj)) (s:Shared) (σ:St) (H:Hp) (D:Ends),Inv X pins σ H s->t D σ H->wpAny (model X.prog X.w) X.A (exec st X.env) (SP X pins D) X.xe s
noncomputable def PSs (X:Cx) (st:List Stmt) (t:TS):Prop :=
 ∀ (pins:List (Addr×Obj)) (s:Shared) (σ:St) (H:Hp) (D:Ends),Inv X pins σ H s->t D σ H->wpAny (model X.prog X.w) X.A (execs st X.env) (SP X pins D) X.xe s
theorem thn {α:Type} {t:Sem α} {Q Q':α->Shared->Prop} {M:Model} {A:Around} {E:Value->Shared->Prop} {s:Shared} (h:wpAny M A t Q E s) (z:∀ a s,Q a s->Q' a s):wpAny M A t Q' E s:=wpAny_mono h z fun _ _ x=>x
section
variable {X:Cx}
noncomputable def tVar (i:Nat):TE:=fun σ H Q=>∃ v,σ[i]?=some (some v) /\ Q v H
noncomputable def tC (v:V):TE:=fun _ H Q=>Q v H
theorem pe_var {i:Nat} {x:Str} {pos:Pos} (Y:X.N[i]?=some x) (Z:Vis X.env.scope x) (O:(x == ("__debug__":Str))=false:=by decide) (U:(x == ("__classdict__":Str))=false:=by decide):PE X (.Name x pos) (tVar i):=by
 intro pins s σ H Q I h
 obtain ⟨v,e,h⟩:=h
 obtain ⟨m,hn,hl⟩:=I.loc
 obtain ⟨u,r,l⟩:=hl i x v Y e Z
 have J:EP X pins σ Q u s:=⟨v,H,I,r,h⟩
 rcases l with ⟨L,hm⟩ | ⟨L,c,hc,z⟩
 .exact wpAny_Name (wpAny_loadName_local I.ok.kind L hn hm J) O
 .rcases L with L | L
  .exact wpAny_Name (wpAny_loadName_cell I.ok.kind L hc z J) O
  .exact wpAny_Name (wpAny_loadName_free I.ok.kind L hc z J U) O
theorem ZAJ {i j pos}:PE X (.Constant (.int i) j pos) (tC (.int i)):=fun _ _ _ H _ I h=>wpAny_Constant_int ⟨.int i,H,I.tok _,⟨_,rfl⟩,h⟩
theorem ZBP {b j pos}:PE X (.Constant (.bool b) j pos) (tC (.bl b)):=fun _ _ _ H _ I h=>Constant_bool ⟨.bl b,H,I,rfl,h⟩
theorem pe_non {j pos}:PE X (.Constant .none j pos) (tC .non):=fun _ _ _ H _ I h=>Constant_none ⟨.non,H,I,rfl,h⟩
theorem ZC2 {x j pos}:PE X (.Constant (.str x) j pos) (tC (.str x)):=fun _ _ _ H _ I h=>Calls.Constant_str ⟨.str x,H,I.tok _,⟨_,rfl⟩,h⟩
noncomputable def Gl (X:Cx) (x:Str):Prop:=X.env.kindOf x=some .globalImplicit
theorem ZCP {E:Value->Shared->Prop} {pins:List (Addr×Obj)} {s:Shared} {σ:St} {H:Hp} {x:Str} {u:Value} {pos:Pos} {Q:Value->Shared->Prop} (I:Inv X pins σ H s) (J:Gl X x) (hm:X.mg x=some u) (h:Q u s)
  (z:(x == ("__debug__":Str))=false:=by decide):wpAny (model X.prog X.w) X.A (eval (.Name x pos) X.env) Q E s :=
 Calls.Name_function_global I.ok.kind J (Calls.loadGlobal_global (by rw [I.ok.glob];exact I.mod.glob.keeps I.bk) hm h) z
theorem ZCJ {E:Value->Shared->Prop} {pins:List (Addr×Obj)} {s:Shared} {σ:St} {H:Hp} {x:Str} {u:Value} {pos:Pos} {Q:Value->Shared->Prop} (I:Inv X pins σ H s) (L:Gl X x) (hm:X.mg x=none) (J:bootBuiltins x=some u) (h:Q u s)
  (hn:x≠"__name__":=by decide) (z:(x == ("__debug__":Str))=false:=by decide):wpAny (model X.prog X.w) X.A (eval (.Name x pos) X.env) Q E s:=by
 obtain ⟨O,h1,h2⟩:=I.mod.blt
 exact Calls.Name_function_global I.ok.kind L (Calls.loadGlobal_builtin (by rw [I.ok.glob];exact I.mod.glob.keeps I.bk) hm (by rw [I.ok.blt];exact h1.keeps I.bk) ((h2 x hn).trans J) h) z
theorem pe_glob {x:Str} {v:V} {u:Value} {pos:Pos} (J:Gl X x) (hm:X.mg x=some u) (r:RelV v u) (z:(x == ("__debug__":Str))=false:=by decide):PE X (.Name x pos) (tC v) :=
 fun _ _ _ H _ I h=>ZCP I J hm ⟨v,H,I,r,h⟩ z
theorem pe_bltn {x:Str} {v:V} {u:Value} {pos:Pos} (L:Gl X x) (hm:X.mg x=none) (J:bootBuiltins x=some u) (r:RelV v u) (hn:x≠"__name__":=by decide) (z:(x == ("__debug__":Str))=false:=by decide):PE X (.Name x pos) (tC v) :=
 fun _ _ _ H _ I h=>ZCJ I L hm J ⟨v,H,I,r,h⟩ hn z
variable {a b:Expr} {ta tb:TE} {pos:Pos}
noncomputable def PC (X:Cx) (op:CmpOp) (a b:Expr) (t:TE):Prop :=
 ∀ (pins:List (Addr×Obj)) (s:Shared) (σ:St) (H:Hp) (Q:VK),Inv X pins σ H s->t σ H Q ->
  wpAny (model X.prog X.w) X.A (eval a X.env) (fun v s₁=>wpAny (model X.prog X.w) X.A (eval b X.env) (fun u s₂=>wpAny (model X.prog X.w) X.A (compareOp op v u) (EP X pins σ Q) X.xe s₂) X.xe s₁) X.xe s
noncomputable def tB (t:TE):TT:=fun σ H Q=>t σ H fun x H1=>∃ c,x=.bl c /\ Q c H1
theorem pe_cmp {op:CmpOp} {t:TE} (h:PC X op a b t) (h1:behindInMarks op b=false:=by first | exact nobehind _ (by decide) (by decide) | rfl):PE X (.Compare a [op] [b] pos) t:=fun pins s σ H Q I hw=>wpAny_Compare1 (h pins s σ H Q I hw) h1
theorem pt_cmp {op:CmpOp} {t:TE} (h:PC X op a b t) (h1:behindInMarks op b=false:=by first | exact nobehind _ (by decide) (by decide) | rfl):PT X (.Compare a [op] [b] pos) (tB t):=by
 intro pins s σ H Q I hw
 refine wpAny_isTrue_Compare1 (thn (h pins s σ H _ I hw) fun v s1 h1=>thn h1 fun u s2 h2=>thn h2 fun c U z=>?_) h1
 obtain ⟨x,H1,O,J,L⟩:=z
 obtain ⟨d,rfl,q⟩:=L
 cases J
 exact wpAny_truthy_bool ⟨H1,O,q⟩
theorem ZAr {e:Expr} {t:TE} (h:PE X e t) (L:∀ z,isTrue e X.env z=(do let v <- z;standAt e.pos;holding [v] (truthy v)):=by intro _;rfl):PT X e (tB t):=by
 intro pins s σ H Q I hw
 refine isTrue_plain (thn (h pins s σ H _ I hw) fun v s1 J=>?_) (L _)
 obtain ⟨x,H1,Y,O,U⟩:=J
 obtain ⟨d,rfl,q⟩:=U
 cases O
 exact wpAny_truthy_bool ⟨H1,Y,q⟩
variable {tA tB':TT} {rest:List Expr}
noncomputable def tAnd (t u:TT):TT:=fun σ H Q=>t σ H fun c H1=>if c=true then u σ H1 Q else Q false H1
noncomputable def tOr (t u:TT):TT:=fun σ H Q=>t σ H fun c H1=>if c=true then Q true H1 else u σ H1 Q
noncomputable def tNot (t:TT):TT:=fun σ H Q=>t σ H fun c H1=>Q (!c) H1
theorem pw_and1 (ha:PT X a tA):PW X (.BoolOp .And [a] pos) tA:=by
 intro z pins s σ H Q I h
 refine isTrue_and (thn (ha pins s σ H Q I h) fun c s1 e=>?_)
 cases c with
 | true=>exact isTrue_and_nil e
 | false=>exact e
theorem ZA8 (ha:PT X a tA):PW X (.BoolOp .Or [a] pos) tA:=by
 intro z pins s σ H Q I h
 refine isTrue_or (thn (ha pins s σ H Q I h) fun c s1 e=>?_)
 cases c with
 | false=>exact isTrue_or_nil e
 | true=>exact e
theorem pw_and (ha:PT X a tA) (L:PW X (.BoolOp .And (b::rest) pos) tB'):PW X (.BoolOp .And (a::b::rest) pos) (tAnd tA tB'):=by
 intro O pins s σ H Q I h
 refine isTrue_and (thn (ha pins s σ H _ I h) fun c s1 ⟨H1,J,z⟩=>?_)
 cases c with
 | true=>exact L O pins s1 σ H1 Q J z
 | false=>exact ⟨H1,J,z⟩
theorem ZBY (ha:PT X a tA) (L:PW X (.BoolOp .Or (b::rest) pos) tB'):PW X (.BoolOp .Or (a::b::rest) pos) (tOr tA tB'):=by
 intro O pins s σ H Q I h
 refine isTrue_or (thn (ha pins s σ H _ I h) fun c s1 ⟨H1,J,z⟩=>?_)
 cases c with
 | true=>exact ⟨H1,J,z⟩
 | false=>exact L O pins s1 σ H1 Q J z
theorem ZBI (ha:PT X a tA):PT X (.UnaryOp .Not a pos) (tNot tA):=by
 intro pins s σ H Q I h
 exact isTrue_not (ha pins s σ H (fun c H1=>Q (!c) H1) I h)
noncomputable def ZFE (ta tb:TE):TE:=fun σ H Q=>ta σ H fun x H1=>∃ c,x=.bl c /\ if c=true then tb σ H1 Q else Q (.bl false) H1
noncomputable def tOrV (ta tb:TE):TE:=fun σ H Q=>ta σ H fun x H1=>∃ c,x=.bl c /\ if c=true then Q (.bl true) H1 else tb σ H1 Q
noncomputable def ZFA (ta:TE):TE:=fun σ H Q=>ta σ H fun x H1=>∃ c,x=.bl c /\ Q (.bl (!c)) H1
theorem pe_one {op} {t:TE} (h:PE X a t):PE X (.BoolOp op [a] pos) t:=fun pins s σ H Q I hw=>BoolOp_one (h pins s σ H Q I hw)
theorem pe_and (ha:PE X a ta) (O:PE X (.BoolOp .And (b::rest) pos) tb):PE X (.BoolOp .And (a::b::rest) pos) (ZFE ta tb):=by
 intro pins s σ H Q I h
 refine BoolOp_and (thn (ha pins s σ H _ I h) fun v s1 L=>?_)
 obtain ⟨x,H1,J,U,z⟩:=L
 obtain ⟨c,rfl,z⟩:=z
 cases U
 refine wpAny_truthy_bool ?_
 cases c with
 | true=>exact O pins s1 σ H1 Q J z
 | false=>exact ⟨.bl false,H1,J,rfl,z⟩
theorem ZEr (ha:PE X a ta):PE X (.UnaryOp .Not a pos) (ZFA ta):=by
 intro pins s σ H Q I h
 refine UnaryOp_ (thn (ha pins s σ H _ I h) fun v s1 J=>?_)
 obtain ⟨x,H1,O,L,z⟩:=J
 obtain ⟨c,rfl,z⟩:=z
 cases L
 exact not_of (wpAny_truthy_bool ⟨.bl (!c),H1,O,rfl,z⟩)
noncomputable def tIf (t:TT) (ta tb:TE):TE:=fun σ H Q=>t σ H fun c H1=>if c=true then ta σ H1 Q else tb σ H1 Q
theorem pe_ifExp {c:Expr} (hc:PT X c tA) (ha:PE X a ta) (L:PE X b tb):PE X (.IfExp c a b pos) (tIf tA ta tb):=by
 intro pins s σ H Q I h
 refine wpAny_IfExp (thn (hc pins s σ H _ I h) fun d s1 ⟨H1,J,z⟩=>?_)
 cases d with
 | true=>exact ha pins s1 σ H1 Q J z
 | false=>exact L pins s1 σ H1 Q J z
end
noncomputable def SqL (K:W.Frag) (H:Hp) (a:Addr) (xs:List V):Prop :=
 Rd H a (.lst xs) ∨
  ∃ (o:Obj) (its:Array Value) (n:Nat),K.lookup a=some o /\ o.cls=.type "list" /\ o.dict=none /\ o.data=.seq its n /\ its.size <= sizeLine /\ Vals xs its.toList
noncomputable def SqT (K:W.Frag) (H:Hp) (a:Addr) (xs:List V):Prop :=
 Rd H a (.tup xs) ∨
  ∃ (o:Obj) (its:Array Value) (n:Nat),K.lookup a=some o /\ o.cls=.type "tuple" /\ o.data=.seq its n /\ its.size <= sizeLine /\ Vals xs its.toList
noncomputable def absV:Value->Option V
 | .none=>some .non
 | .bool b=>some (.bl b)
 | .int i _=>some (.int i)
 | .str x _=>some (.str x)
 | .bytes b _=>some (.byt b)
 | .float b _=>some (.flt b)
 | .ref a=>some (.ref a)
 | .type n=>some (.ty n)
 | _=>none
theorem RelV.abs {x:V} {u:Value} (r:RelV x u):absV u=some x:=by
 cases x with
 | non=>cases r;rfl
 | bl _=>cases r;rfl
 | int _=>obtain ⟨t,rfl⟩:=r;rfl
 | str _=>obtain ⟨t,rfl⟩:=r;rfl
 | byt _=>obtain ⟨t,rfl⟩:=r;rfl
 | flt _=>obtain ⟨t,rfl⟩:=r;rfl
 | ref _=>cases r;rfl
 | ty _=>cases r;rfl
theorem RelV.inj {x y:V} {u:Value} (r:RelV x u) (q:RelV y u):x=y:=Option.some.inj (r.abs.symm.trans q.abs)
theorem Vals.inj:∀ {xs ys:List V} {us:List Value},Vals xs us->Vals ys us->xs=ys
 | _,_,_,.nil,.nil=>rfl
 | _,_,_,.cons r t,.cons r' t'=>by rw [r.inj r',Vals.inj t t']
section
variable {X:Cx} {pins:List (Addr×Obj)} {σ:St} {H:Hp} {s:Shared} {a:Addr} {xs ys:List V}
theorem SqL.of {K:W.Frag} (h:H a=some (.lst xs)):SqL K H a xs:=.inl (.inl h)
theorem SqT.of {K:W.Frag} (h:H a=some (.tup xs)):SqT K H a xs:=.inl (.inl h)
theorem Inv.list (I:Inv X pins σ H s) (h:SqL X.K H a xs):∃ its:List Value,Vals xs its /\ PlainL s.heap a its.toArray /\ xs.length <= sizeLine:=by
 rcases h with h | ⟨o,its,n,J,hc,L,O,U,r⟩
 .obtain ⟨z,its,n,r,e⟩:=h.ok I.hok
  exact ⟨its,r,⟨_,n,e,rfl,rfl,rfl⟩,z⟩
 .refine ⟨its.toList,r,⟨o,n,I.kIn a o J,hc,L,by simpa using O⟩,?_⟩
  have e:=r.length
  simp only [yAI] at e
  omega
theorem Inv.tuple (I:Inv X pins σ H s) (h:SqT X.K H a xs):∃ its:List Value,Vals xs its /\ IsTup s.heap a its.toArray /\ xs.length <= sizeLine:=by
 rcases h with h | ⟨o,its,n,J,hc,L,O,r⟩
 .obtain ⟨z,its,r,p⟩:=h.ok I.hok
  exact ⟨its,r,p,z⟩
 .refine ⟨its.toList,r,⟨o,I.kIn a o J,hc,n,by simpa using L⟩,?_⟩
  have e:=r.length
  simp only [yAI] at e
  omega
theorem Inv.list_inj (I:Inv X pins σ H s) (h:SqL X.K H a xs) (h':SqL X.K H a ys):xs=ys:=by
 obtain ⟨its,r,⟨o,n,e,_,_,d⟩,_⟩:=I.list h
 obtain ⟨its',J,⟨o',L,z,_,_,d'⟩,_⟩:=I.list h'
 rw [e] at z;cases z
 rw [d] at d'
 injection d' with d1 _
 have:its=its':=by simpa using congrArg Array.toList d1
 subst this
 exact r.inj J
end
noncomputable abbrev Cx.wish (X:Cx) (E:Value->Shared->Prop):Cx:={ X with xe:=E }
noncomputable abbrev Cx.nox (X:Cx):Cx:=X.wish fun _ _=>False
theorem Cx.Ok.wish {X:Cx} (ok:X.Ok) (E:Value->Shared->Prop):(X.wish E).Ok :=
 ⟨ok.mod,ok.kind,ok.glob,ok.blt,ok.above,ok.inj,ok.has,ok.cab,ok.hd,ok.frames,ok.stk,ok.exf,ok.bs,ok.bsz,ok.noex,ok.exfs,ok.funs,ok.frf⟩
theorem Cx.Ok.unwish {X:Cx} {E:Value->Shared->Prop} (ok:(X.wish E).Ok):X.Ok :=
 ⟨ok.mod,ok.kind,ok.glob,ok.blt,ok.above,ok.inj,ok.has,ok.cab,ok.hd,ok.frames,ok.stk,ok.exf,ok.bs,ok.bsz,ok.noex,ok.exfs,ok.funs,ok.frf⟩
section
variable {X:Cx} {pins:List (Addr×Obj)} {σ:St} {H:Hp} {s:Shared} {E:Value->Shared->Prop}
theorem Inv.wish (I:Inv X pins σ H s) (E:Value->Shared->Prop):Inv (X.wish E) pins σ H s:=⟨I.ok.wish E,I.os,I.bare,I.base,I.loc,I.cell,I.free,I.freeC,I.pin,I.hok,I.len⟩
theorem Inv.unwish (I:Inv (X.wish E) pins σ H s):Inv X pins σ H s:=⟨I.ok.unwish,I.os,I.bare,I.base,I.loc,I.cell,I.free,I.freeC,I.pin,I.hok,I.len⟩
theorem SP.unwish {D:Ends} {f:Flow} {s':Shared} (h:SP (X.wish E) pins D f s'):SP X pins D f s':=by
 cases f with
 | next=>obtain ⟨z,H',I,q⟩:=h;exact ⟨z,H',I.unwish,q⟩
 | brk=>obtain ⟨z,H',I,q⟩:=h;exact ⟨z,H',I.unwish,q⟩
 | cont=>obtain ⟨z,H',I,q⟩:=h;exact ⟨z,H',I.unwish,q⟩
 | ret u=>obtain ⟨v,z,H',I,r,q⟩:=h;exact ⟨v,z,H',I.unwish,r,q⟩
theorem PSs.nox {st:List Stmt} {t:TS} (h:PSs X.nox st t):PSs X st t:=fun pins s σ H D I hw=>
 wpAny_mono (h pins s σ H D (I.wish _) hw) (fun _ _ q=>q.unwish) fun _ _ z=>False.elim z
end
section
variable {X:Cx} {st:Stmt} {rest:List Stmt} {t u:TS} {e:Expr} {te:TE} {pos:Pos}
noncomputable def ZFB:TS:=fun D σ H=>D.nx σ H
noncomputable def tSeq (t u:TS):TS:=fun D σ H=>t { D with nx:=u D } σ H
theorem ZAU:PSs X [] ZFB:=fun _ _ σ H _ I h=>wpAny_execs_nil ⟨σ,H,I,h⟩
theorem ZAC (h1:PS X st t) (h2:PSs X rest u):PSs X (st::rest) (tSeq t u):=by
 intro pins s σ H D I h
 refine wpAny_execs_cons (thn (h1 pins s σ H { D with nx:=u D } I h) fun f s1 q=>?_)
 cases f with
 | next=>
  obtain ⟨z,H',J,q⟩:=q
  exact h2 pins s1 z H' D J q
 | ret v=>exact q
 | brk=>exact q
 | cont=>exact q
theorem ZAH (h1:PS X st t):PSs X [st] t:=by
 intro pins s σ H D I h
 refine wpAny_execs_cons (thn (h1 pins s σ H D I h) fun f s1 q=>?_)
 cases f with
 | next=>exact wpAny_execs_nil q
 | ret v=>exact q
 | brk=>exact q
 | cont=>exact q
noncomputable def tBreak:TS:=fun D σ H=>D.bk σ H
theorem Inv.quiet {pins:List (Addr×Obj)} {σ:St} {H:Hp} {s:Shared} (I:Inv X pins σ H s):interactive X.env=false:=by simp [interactive,I.ok.kind]
noncomputable def ZFD (te:TE):TS:=fun D σ H=>te σ H fun _ H1=>D.nx σ H1
theorem ZBL (z:PE X e te) (L:swapsWith e none pos.line X.env=pure false:=by rfl):PS X (.Expr e pos) (ZFD te):=by
 intro pins s σ H D I h
 exact wpAny_Expr_any (thn (z pins s σ H _ I h) fun v s1 ⟨x,H1,O,U,J⟩=>⟨σ,H1,O,J⟩) I.quiet L
noncomputable def tRet (te:TE):TS:=fun D σ H=>te σ H D.rt
theorem ZAS (z:PE X e te):PS X (.Return (some e) pos) (tRet te):=by
 intro pins s σ H D I h
 exact wpAny_Return_some (thn (z pins s σ H _ I h) fun v s1 ⟨x,H1,O,L,J⟩=>⟨x,σ,H1,O,L,J⟩)
noncomputable def tRetN:TS:=fun D _ H=>D.rt .non H
noncomputable def tIfS (c:TT) (t u:TS):TS:=fun D σ H=>c σ H fun b H1=>if b=true then t D σ H1 else u D σ H1
theorem ZAn {c:Expr} {a b:List Stmt} {tc:TT} (hc:PT X c tc) (ha:PSs X a t) (L:PSs X b u):PS X (.If c a b pos) (tIfS tc t u):=by
 intro pins s σ H D I h
 refine wpAny_If (thn (hc pins s σ H _ I h) fun d s1 ⟨H1,J,z⟩=>?_)
 cases d with
 | true=>exact ha pins s1 σ H1 D J z
 | false=>exact L pins s1 σ H1 D J z
noncomputable def ZEf:TS:=fun _ _ _=>False
theorem ps_never:PS X st ZEf:=fun _ _ _ _ _ _ h=>h.elim
end
noncomputable abbrev TG:=V->St->Hp->(St->Hp->Prop)->Prop
noncomputable abbrev TGs:=List V->St->Hp->(St->Hp->Prop)->Prop
noncomputable def PG (X:Cx) (target:Expr) (t:TG):Prop :=
 ∀ (pins:List (Addr×Obj)) (s:Shared) (σ:St) (H:Hp) (v:V) (u:Value) (Q:St->Hp->Prop),Inv X pins σ H s->RelV v u->t v σ H Q ->
  wpAny (model X.prog X.w) X.A (assign target X.env u) (fun _ s'=>∃ σ' H',Inv X pins σ' H' s' /\ Q σ' H') X.xe s
noncomputable def PGs (X:Cx) (ts:List Expr) (t:TGs):Prop :=
 ∀ (pins:List (Addr×Obj)) (s:Shared) (σ:St) (H:Hp) (vs:List V) (us:List Value) (Q:St->Hp->Prop),Inv X pins σ H s->Vals vs us->t vs σ H Q ->
  wpAny (model X.prog X.w) X.A (assignInOrder ((assignEach ts X.env).map (·.2)) us) (fun _ s'=>∃ σ' H',Inv X pins σ' H' s' /\ Q σ' H') X.xe s
noncomputable abbrev TSet:=V->V->V->Hp->(Hp->Prop)->Prop
noncomputable def PSet (X:Cx) (t:TSet):Prop :=
 ∀ (pins:List (Addr×Obj)) (s:Shared) (σ:St) (H:Hp) (o i v:V) (ov iv u:Value) (Q:Hp->Prop),Inv X pins σ H s->RelV o ov->RelV i iv->RelV v u->t o i v H Q ->
  wpAny (model X.prog X.w) X.A (setItem ov iv u) (fun _ s'=>∃ H',Inv X pins σ H' s' /\ Q H') X.xe s
noncomputable abbrev TIp:=V->V->Hp->VK->Prop
section
variable {X:Cx} {pos:Pos}
noncomputable def ZEH (i:Nat):TG:=fun v σ H Q=>Q (σ.set i (some v)) H
theorem ZAR {i:Nat} {x:Str} (L:X.N.Nodup) (hi:X.N[i]?=some x) (hx:Loc X.env.scope x) (J:X.fn x=true∨X.env.scope.names.lookup x=some .local:=by first | exact .inl rfl | exact .inr rfl | assumption):PG X (.Name x pos) (ZEH i):=by
 intro pins s σ H v u Q I r h
 exact wpAny_assign_Name (ZCq I L hi hx r (fun s' z=>⟨_,H,z,h⟩) J)
noncomputable def gNil:TGs:=fun vs σ H Q=>vs=[] /\ Q σ H
noncomputable def ZFN (t:TG) (u:TGs):TGs:=fun vs σ H Q=>∃ v r,vs=v::r /\ t v σ H fun σ' H'=>u r σ' H' Q
theorem ZBO:PGs X [] gNil:=by
 intro pins s σ H vs us Q I r h
 obtain ⟨e,h⟩:=h
 subst e
 cases r
 exact assignInOrder_nil ⟨σ,H,I,h⟩
theorem ZAV {e:Expr} {es:List Expr} {t:TG} {u:TGs} (h1:PG X e t) (h2:PGs X es u)
  (L:(assignEach (e::es) X.env).map (·.2)=assign e X.env::(assignEach es X.env).map (·.2):=by rfl):PGs X (e::es) (ZFN t u):=by
 intro pins s σ H vs us Q I r h
 obtain ⟨v,Z,O,h⟩:=h
 subst O
 cases r with
 | cons r rr=>
  rw [L]
  refine assignInOrder_cons (thn (h1 pins s σ H _ _ _ I r h) fun _ s1 J=>?_)
  obtain ⟨z,H1,U,Y⟩:=J
  exact h2 pins s1 z H1 _ _ Q U rr Y
noncomputable def gTup (K:W.Frag) (n:Nat) (t:TGs):TG:=fun v σ H Q=>∃ a xs,v=.ref a /\ SqT K H a xs /\ xs.length=n /\ t xs σ H Q
theorem ZCH {es:List Expr} {k:Nat} {t:TGs} {n:Nat} (hc:X.calm=true) (h:PGs X es t)
  (hn:(assignEach es X.env).length=n:=by rfl) (z:(assignEach es X.env).findIdx? (·.1)=none:=by rfl):PG X (.Tuple es k pos) (gTup X.K n t):=by
 intro pins s σ H v u Q I r hw
 obtain ⟨a,xs,U,O,hl,hw⟩:=hw
 subst U
 cases r
 obtain ⟨its,J,L,Z⟩:=I.tuple O
 refine assign_Tuple_tuple (I.ok.hd hc) L (by simp [hn,<- hl,J.length]) z fun h' hx=>?_
 have Y:Inv X pins σ H { s with heap:=h' }:=I.kept (t':=s.toks) fun b o e=>hx b o (yAE (Heap.lt_size e)) e
 exact h pins _ σ H xs _ Q Y (by simpa using J) hw
noncomputable def gSub (to ti:TE) (t:TSet):TG:=fun v σ H Q=>to σ H fun o H1=>ti σ H1 fun i H2=>t o i v H2 fun H3=>Q σ H3
theorem pg_sub {o i:Expr} {to ti:TE} {t:TSet} (ho:PE X o to) (hi:PE X i ti) (O:PSet X t)
  (ha:∀ v,assign (.Subscript o i pos) X.env v=(do
   let ov <- holding [v] (eval o X.env)
   let z <- holding [v,ov] (eval i X.env)
   standAt pos
   holding [v,ov,z] (setItem ov z v)
   release [v,ov,z] []):=by intro _;rfl):PG X (.Subscript o i pos) (gSub to ti t):=by
 intro pins s σ H v u Q I r h
 rw [ha]
 refine wpAny_bind (wpAny_holding (thn (ho pins s σ H _ I h) fun ov s1 J=>?_))
 obtain ⟨x,H1,I1,Z,q1⟩:=J
 refine wpAny_bind (wpAny_holding (thn (hi pins s1 σ H1 _ I1 q1) fun z s2 J=>?_))
 obtain ⟨y,H2,Y,U,L⟩:=J
 refine wpAny_bind (wpAny_standAt (wpAny_bind (wpAny_holding (thn (O pins s2 σ H2 x y v ov z u _ Y Z U r L) fun _ s3 ⟨H3,I3,q3⟩=>?_))))
 exact wpAny_release ⟨σ,H3,I3,q3⟩
noncomputable def tAsg (te:TE) (g:TG):TS:=fun D σ H=>te σ H fun x H1=>g x σ H1 D.nx
theorem ZEQ {tg e:Expr} {te:TE} {g:TG} (J:PE X e te) (Z:PG X tg g) (L:swapsWithSole [tg] e pos.line X.env=pure false:=by rfl) (hw:swappedStores [tg] e X.env=pure none:=by rfl)
  (h1:(assignEach [tg] X.env).map (·.2)=[assign tg X.env]:=by rfl):PS X (.Assign [tg] e pos) (tAsg te g):=by
 intro pins s σ H D I h
 refine wpAny_Assign_stores (thn (J pins s σ H _ I h) fun v s1 z=>?_) L hw
 obtain ⟨x,H1,U,O,Y⟩:=z
 rw [h1]
 exact thn (Z pins s1 σ H1 x v _ U O Y) fun _ s2 q=>q
theorem ZAQ {i:Nat} {x:Str} {e:Expr} {te:TE} {pos':Pos} (Y:X.N.Nodup) (hi:X.N[i]?=some x) (hx:Loc X.env.scope x) (J:PE X e te) (L:swapsWith e (some (.Name x pos')) pos.line X.env=pure false:=by rfl) (O:X.fn x=true∨X.env.scope.names.lookup x=some .local:=by first | exact .inl rfl | exact .inr rfl | assumption) :
  PS X (.Assign [.Name x pos'] e pos) (tAsg te (ZEH i)):=by
 intro pins s σ H D I h
 refine wpAny_Assign_Name (thn (J pins s σ H _ I h) fun v s1 z=>?_) L
 obtain ⟨y,H1,I1,Z,q1⟩:=z
 exact ZCq I1 Y hi hx Z (fun s2 U=>⟨_,H1,U,q1⟩) O
noncomputable def tPar (i j:Nat) (ta:TA):TS:=fun D σ H=>ta σ H fun vs H1=>∃ v w,vs=[v,w] /\ D.nx ((σ.set i (some v)).set j (some w)) H1
noncomputable def tAug (i:Nat) (te:TE) (ti:TIp):TS:=fun D σ H=>∃ x,σ[i]?=some (some x) /\ te σ H fun y H1=>ti x y H1 fun z H2=>D.nx (σ.set i (some z)) H2
noncomputable def ipI (f:Int->Int->Int):TIp:=fun x y H Q=>∃ i j,x=.int i /\ y=.int j /\ Q (.int (f i j)) H
end
section
variable {X:Cx} {pos:Pos}
noncomputable def tWhile (c:TT) (tb:TS):TS:=fun D σ H=>∃ W:Nat->St->Hp->Prop,(∃ m,W m σ H) /\ ∀ m σ H,W m σ H ->
 c σ H fun b H1=>if b=true then ∃ N:St->Hp->Prop,(∀ σ' H',N σ' H'->∃ m',m' < m /\ W m' σ' H') /\ tb { D with nx:=N,ct:=N,bk:=D.nx } σ H1 else D.nx σ H1
theorem ps_while {c:Expr} {body:List Stmt} {tc:TT} {tb:TS} (hp:PassesOwn (model X.prog X.w) X.A X.env X.xe) (hc:PT X c tc) (hb:PSs X body tb):PS X (.While c body [] pos) (tWhile tc tb):=by
 intro pins s σ H D I h
 obtain ⟨W,⟨m0,w0⟩,L⟩:=h
 refine wpAny_While (codeAny_whileLoop (fun n s'=>∃ O H',Inv X pins O H' s' /\ W n O H') ?_ m0 ⟨σ,H,I,w0⟩)
 rintro n s1 ⟨J,H1,I1,w1⟩
 refine wpAny_passesOwn hp (thn (hc pins s1 J H1 _ I1 (L n J H1 w1)) fun b s2 ⟨H2,I2,U⟩=>?_)
 cases b with
 | true=>
  obtain ⟨N,hN,U⟩:=U
  rw [if_pos rfl]
  refine wpAny_passesOwn hp (thn (hb pins s2 J H2 _ I2 U) fun f s3 Y=>?_)
  cases f with
  | next=>
   obtain ⟨z,H3,I3,n3⟩:=Y
   obtain ⟨Z,hm,w3⟩:=hN z H3 n3
   exact ⟨Z,hm,z,H3,I3,w3⟩
  | cont=>
   obtain ⟨z,H3,I3,n3⟩:=Y
   obtain ⟨Z,hm,w3⟩:=hN z H3 n3
   exact ⟨Z,hm,z,H3,I3,w3⟩
  | brk=>exact Y
  | ret v=>exact Y
 | false=>
  rw [if_neg yBC]
  exact wpAny_execs_nil ⟨J,H2,I2,U⟩
end
structure It where
 go:Nat->Hp->Prop
 yld:Nat->Hp->V->Hp->Prop
 stop:Nat->Hp->Prop
noncomputable def FpOk (X:Cx) (pins:List (Addr×Obj)) (H:Hp) (b:Addr):Prop :=
 H b=none /\ b≠X.env.locals /\ b∉X.fs /\ (b∈X.ex∨X.s₀.heap.objs.size <= b) /\ (∀ x c,X.env.cells.lookup x=some c->c≠b) /\ ∀ p∈X.pn++pins,p.1≠b
theorem Inv.fpOk {X:Cx} {pins:List (Addr×Obj)} {σ:St} {H H':Hp} {s:Shared} {b:Addr} (I:Inv X pins σ H s) (J:s.heap.objs.size <= b) (hn:H' b=none):FpOk X pins H' b:=by
 refine ⟨hn,yBN (yAQ I.lt J),I.nofs J,.inr (yAF I.sz J),fun x c e z=>?_,fun p L z=>?_⟩
 .obtain ⟨v,q⟩:=I.cell x c e
  exact absurd (yAQ q.lt (by rw [z];exact J)) (yBG _)
 .exact absurd (yAQ (Heap.lt_size (I.pin p L).1) (by rw [z];exact J)) (yBG _)
structure Turn (P:Program) (w:World) (K:W.Frag) (tg:Expr) (J:It) (fp:List Addr) (it:Addr) (tn:Nat->Heap->Prop):Prop where
 mem:it∈fp
 obj:∀ i h,tn i h->∀ b∈fp,∃ o,h.get? b=some o /\ ∀ v,o.data≠.cell v
 keep:∀ i h h',tn i h->(∀ b∈fp,∀ o,h.get? b=some o->h'.get? b=some o)->tn i h'
 item:∀ (X:Cx),X.prog=P->X.w=w->X.K=K->X.calm=true->∀ (i:Nat) (pins:List (Addr×Obj)) (s:Shared) (σ:St) (H:Hp) (E:Value->Shared->Prop),Inv X pins σ H s->(∀ b∈fp,FpOk X pins H b)->tn i s.heap->J.go i H ->
  wpAny (model P w) X.A (pyNext (.ref it)) (fun r s1=>∃ u,r=some u /\
   wpAny (model P w) X.A (letOwnedTupleGo tg (.ref it) u) (fun _ s2=>∃ x H',Inv X pins σ H' s2 /\ RelV x u /\ J.yld i H x H' /\ tn (i+1) s2.heap /\ ∀ b∈fp,H' b=none) E s1) E s
 done:∀ (X:Cx),X.prog=P->X.w=w->X.K=K->X.calm=true->∀ (i:Nat) (pins:List (Addr×Obj)) (s:Shared) (σ:St) (H:Hp) (E:Value->Shared->Prop),Inv X pins σ H s->(∀ b∈fp,FpOk X pins H b)->tn i s.heap->J.stop i H ->
  wpAny (model P w) X.A (pyNext (.ref it)) (fun r s1=>r=none /\ Inv X pins σ H s1) E s
 self:∀ (A:Around) (i:Nat) (s:Shared) (Q:Value->Shared->Prop) (E:Value->Shared->Prop),tn i s.heap->Q (.ref it) s->wpAny (model P w) A (pyIter (.ref it)) Q E s
noncomputable abbrev TI:=St->Hp->(It->Hp->Prop)->Prop
noncomputable def PIE (X:Cx) (pins:List (Addr×Obj)) (σ:St) (tg:Expr) (R:It->Hp->Prop) (itv:Value) (s2:Shared):Prop :=
 ∃ (it:Addr) (fp:List Addr) (tn:Nat->Heap->Prop) (J:It) (H':Hp),itv=.ref it /\ Inv X pins σ H' s2 /\ Turn X.prog X.w X.K tg J fp it tn /\ tn 0 s2.heap /\ (∀ b∈fp,FpOk X pins H' b) /\ R J H'
noncomputable def PI (X:Cx) (tg iter:Expr) (wi:TI):Prop :=
 ∀ (pins:List (Addr×Obj)) (s:Shared) (σ:St) (H:Hp) (R:It->Hp->Prop),Inv X pins σ H s->wi σ H R ->
  wpAny (model X.prog X.w) X.A (eval iter X.env) (fun v s1=>wpAny (model X.prog X.w) X.A (pyIter v) (PIE X pins σ tg R) X.xe s1) X.xe s
theorem go_of {M:Model} {A:Around} {E:Value->Shared->Prop} {s:Shared} {tg:Expr} {it:Addr} {u:Value} {o:Obj} {n:String} {vs:Array Value} {Q:Unit->Shared->Prop} (J:s.heap.get? it=some o) (hc:o.cls=.type n) (L:o.data=.fields vs)
  (hn:["enumerate","zip","dict_itemiterator","dict_reverseitemiterator","odict_iterator","itertools.zip_longest","itertools.pairwise"].contains n=false) (z:Q () s):wpAny M A (letOwnedTupleGo tg (.ref it) u) Q E s:=by
 unfold letOwnedTupleGo
 cases tg <;> first
  | exact wpAny_pure z
  | (cases u <;> first
    | exact wpAny_pure z
    | (refine wpAny_bind (wpAny_load J ?_)
       rw [hc,L]
       show wpAny M A (if (["enumerate","zip","dict_itemiterator","dict_reverseitemiterator","odict_iterator","itertools.zip_longest","itertools.pairwise"].contains n && vs[0]? == some (rawInt _))=true then _ else _) Q E s
       rw [if_neg (by intro h;rw [hn,Bool.false_and] at h;cases h)]
       exact wpAny_pure z))
noncomputable def Itl (K:W.Frag) (a:Addr):It :=
 ⟨fun i H=>∃ xs x,SqL K H a xs /\ xs[i]?=some x,fun i H x H'=>H'=H /\ ∀ xs,SqL K H a xs->xs[i]?=some x,fun i H=>∃ xs,SqL K H a xs /\ xs.length <= i⟩
noncomputable def Itr (lo:Int) (n:Nat):It:=⟨fun i _=>i < n,fun i H x H'=>H'=H /\ x=.int (lo+i),fun i _=>n <= i⟩
theorem turn_list {P:Program} {w:World} {K:W.Frag} {tg:Expr} (a it:Addr):Turn P w K tg (Itl K a) [it] it (fun i h=>h.IsListIter it a i) where
 mem:=by simp
 obj:=fun i h st b J=>by
  have e:b=it:=by simpa using J
  subst e
  obtain ⟨o,e,c,d⟩:=st
  exact ⟨o,e,fun v z=>by rw [d] at z;cases z⟩
 keep:=fun i h h' st k=>st.at fun o e=>k it (by simp) o e
 item:=by
  intro X hP hw U hc i pins s σ H E I O st hg
  subst hP hw U
  obtain ⟨xs,x,L,hx⟩:=hg
  obtain ⟨its,rv,p,hz⟩:=I.list L
  obtain ⟨u,hu,ru⟩:=rv.get hx
  obtain ⟨f0,f1,f2,Z,Y,f5⟩:=O it (by simp)
  refine wpAny_pyNext_list_item st p.isList (x:=u) (by simpa using hu) fun h' st' sb=>?_
  have I1:Inv X pins σ H { s with heap:=h' }:=I.turned (t':=s.toks) (fun b o J e=>(sb.2 b J).trans e) f0 f1 Z Y f5
  obtain ⟨o,e,c,d⟩:=id st'
  exact ⟨u,rfl,go_of (s:={ s with heap:=h' }) e c d (by decide) ⟨x,H,I1,ru,⟨rfl,fun ys hy=>by rw [I.list_inj hy L];exact hx⟩,st',fun b J=>(O b J).1⟩⟩
 done:=by
  intro X hP hw U hc i pins s σ H E I O st hg
  subst hP hw U
  obtain ⟨xs,L,hx⟩:=hg
  obtain ⟨its,rv,p,hz⟩:=I.list L
  obtain ⟨f0,f1,f2,Z,Y,f5⟩:=O it (by simp)
  have hl:=rv.length
  exact wpAny_pyNext_list_end (I.ok.hd hc) st p.isList (by simp;omega) fun h' eb=>⟨rfl,I.turned (t':=s.toks) (fun b o J e=>eb b o J e) f0 f1 Z Y f5⟩
 self:=fun _ _ _ _ _ st h=>wpAny_pyIter_listiter st h
theorem turn_range {P:Program} {w:World} {K:W.Frag} {tg:Expr} (it:Addr) (lo:Int) (n:Nat):Turn P w K tg (Itr lo n) [it] it (fun i h=>IsRangeIter h it (lo+(i:Nat) * 1) ((n:Int)-(i:Nat)) 1) where
 mem:=by simp
 obj:=fun i h st b J=>by
  have e:b=it:=by simpa using J
  subst e
  exact ⟨_,st,fun v z=>by
   have z':Data.fields _=Data.cell v:=z
   cases z'⟩
 keep:=fun i h h' st k=>k it (by simp) _ st
 item:=by
  intro X hP hw O hc i pins s σ H E I L st hg
  subst hP hw O
  obtain ⟨f0,f1,f2,Y,U,Z⟩:=L it (by simp)
  have W:=Walks.range (prog:=X.prog) (w:=X.w) (I.ok.hd hc) it lo 1 n
  refine W.item i s _ _ hg st fun v h' tk hv st' kk=>?_
  obtain ⟨t,rfl⟩:=hv
  have I1:Inv X pins σ H { s with heap:=h',toks:=tk }:=I.turned (fun b o J e=>kk b o (by simpa using J) e) f0 f1 Y U Z
  refine ⟨_,rfl,go_of (s:={ s with heap:=h',toks:=tk }) (n:="range_iterator") st' rfl rfl (by decide) ⟨.int (lo+i),H,I1,⟨t,?_⟩,⟨rfl,rfl⟩,st',fun b J=>(L b J).1⟩⟩
  rw [Int.mul_one]
 done:=by
  intro X hP hw O hc i pins s σ H E I L st hg
  subst hP hw O
  obtain ⟨f0,f1,f2,Y,U,Z⟩:=L it (by simp)
  exact wpAny_pyNext_range_end (I.ok.hd hc) st (by have:n <= i:=hg;omega) fun h' eb=>⟨rfl,I.turned (t':=s.toks) (fun b o J e=>eb b o J e) f0 f1 Y U Z⟩
 self:=fun _ _ _ _ _ st h=>wpAny_pyIter_rangeiter st h
section
variable {X:Cx} {tg:Expr}
noncomputable def ZFL (K:W.Frag) (tl:TE):TI:=fun σ H R=>tl σ H fun x H1=>∃ a,x=.ref a /\ (∃ xs,SqL K H1 a xs) /\ R (Itl K a) H1
theorem ZBN {l:Expr} {tl:TE} (hl:PE X l tl):PI X tg l (ZFL X.K tl):=by
 intro pins s σ H R I h
 refine thn (hl pins s σ H _ I h) fun v s1 J=>?_
 obtain ⟨x,H1,z,U,Y⟩:=J
 obtain ⟨a,e,⟨xs,L⟩,q⟩:=Y
 subst e
 cases U
 obtain ⟨its,Z,p,hz⟩:=z.list L
 refine wpAny_pyIter_list p.isList ?_
 refine ⟨s1.heap.objs.size,[s1.heap.objs.size],_,_,H1,rfl,z.kept (t':=s1.toks) fun b o e=>Heap.get?_push_of_some _ e,turn_list a _,⟨_,Heap.get?_push_size _ rfl,rfl,rfl⟩,fun b O=>?_,q⟩
 have e:b=s1.heap.objs.size:=by simpa using O
 subst e
 exact z.fpOk (yAA _) (z.hok.fresh (yAA _))
theorem range_it {pins:List (Addr×Obj)} {σ:St} {H:Hp} {s:Shared} {R:It->Hp->Prop} {E:Value->Shared->Prop} {lo hi:Int} {t u v:Tok} {tk:Nat} (I:Inv X pins σ H s) (h1:-(2 ^ 62) <= lo) (h2:lo < 2 ^ 62) (h3:-(2 ^ 62) <= hi) (O:hi < 2 ^ 62)
  (q:R (Itr lo (hi-lo).toNat) H):wpAny (model X.prog X.w) X.A (pyIter (.ref s.heap.objs.size)) (PIE X pins σ tg R) E { s with heap:=s.heap.push { cls:=.type "range",data:=.fields #[.int lo t,.int hi u,.int 1 v] },toks:=tk }:=by
 refine wpAny_pyIter_range (IsRange.new ..) (small_one h1 h2 h3 O) ?_
 have z:Inv X pins σ H { s with heap:=s.heap.push { cls:=.type "range",data:=.fields #[.int lo t,.int hi u,.int 1 v] },toks:=tk }:=I.kept fun b o e=>Heap.get?_push_of_some _ e
 refine ⟨(s.heap.push { cls:=.type "range",data:=.fields #[.int lo t,.int hi u,.int 1 v] }).objs.size,[(s.heap.push { cls:=.type "range",data:=.fields #[.int lo t,.int hi u,.int 1 v] }).objs.size],_,_,H,rfl,
  z.kept (t':=tk) fun b o e=>Heap.get?_push_of_some _ e,turn_range _ lo (hi-lo).toNat,?_,fun b J=>?_,q⟩
 .have L:lo+((0:Nat):Int) * 1=lo:=by simp
  have e2:(((hi-lo).toNat:Nat):Int)-((0:Nat):Int)=Builtin.Range.rangeSize lo hi 1:=by rw [rangeSize_one];split <;> omega
  show IsRangeIter _ _ (lo+((0:Nat):Int) * 1) ((((hi-lo).toNat:Nat):Int)-((0:Nat):Int)) 1
  rw [L,e2]
  exact Heap.get?_push_size _ rfl
 .have e:b=(s.heap.push { cls:=.type "range",data:=.fields #[.int lo t,.int hi u,.int 1 v] }).objs.size:=by simpa using J
  subst e
  exact z.fpOk (yAA _) (z.hok.fresh (yAA _))
noncomputable def ZFK (ta:TA):TI:=fun σ H R=>ta σ H fun vs H1=>∃ j:Int,vs=[.int j] /\ -(2 ^ 62) <= j /\ j < 2 ^ 62 /\ R (Itr 0 j.toNat) H1
noncomputable def iRng2 (ta:TA):TI:=fun σ H R=>ta σ H fun vs H1=>∃ i j:Int,vs=[.int i,.int j] /\ (-(2 ^ 62) <= i /\ i < 2 ^ 62 /\ -(2 ^ 62) <= j /\ j < 2 ^ 62) /\ R (Itr i (j-i).toNat) H1
theorem ZBZ {a:Expr} {ta:TA} {p pos:Pos} (Z:Gl X "range") (hm:X.mg "range"=none) (ha:PA X [a] ta) (O:starEach [a] X.env=[(false,eval a X.env)]:=by rfl):PI X tg (.Call (.Name "range" p) [a] [] pos) (ZFK ta):=by
 intro pins s σ H R I h
 refine Call_ (ZCJ I Z hm boot_range (PyProof.Rows.callWith_type1 (thn (ha pos pins s σ H _ I h) fun us s1 J=>?_) O rfl))
 obtain ⟨vs,H1,Y,U,z⟩:=J
 obtain ⟨j,e,z,L,q⟩:=z
 subst e
 cases U with
 | cons r rr=>
  cases rr
  obtain ⟨t,rfl⟩:=r
  exact call_range_1 (range_it Y (by omega) (by omega) z L (by simpa using q))
noncomputable def tFor (wi:TI) (g:TG) (tb:TS):TS:=fun D σ H=>wi σ H fun J H1=>∃ W:Nat->Nat->St->Hp->Prop,(∃ m,W 0 m σ H1) /\ ∀ i m σ H,W i m σ H ->
 (J.stop i H /\ D.nx σ H)∨(J.go i H /\ ∃ N:St->Hp->Prop,(∀ σ' H',N σ' H'->∃ m',m' < m /\ W (i+1) m' σ' H') /\ ∀ x H',J.yld i H x H'->g x σ H' fun σ2 H2=>tb { D with nx:=N,ct:=N,bk:=D.nx } σ2 H2)
noncomputable def ZDt (fp:List Addr) (h:Heap):List (Addr×Obj):=fp.filterMap fun b=>(h.get? b).map fun o=>(b,o)
theorem ZCE {fp:List Addr} {h:Heap} {b:Addr} {o:Obj} (z:b∈fp) (e:h.get? b=some o):(b,o)∈ZDt fp h:=List.mem_filterMap.mpr ⟨b,z,by rw [e];rfl⟩
theorem of_pinsAt {fp:List Addr} {h:Heap} {p:Addr×Obj} (z:p∈ZDt fp h):p.1∈fp /\ h.get? p.1=some p.2:=by
 obtain ⟨b,J,e⟩:=List.mem_filterMap.mp z
 cases q:h.get? b with
 | none=>rw [q] at e;cases e
 | some o=>
  rw [q] at e
  have L:(b,o)=p:=Option.some.inj e
  subst L
  exact ⟨J,q⟩
theorem Inv.pinned {pins:List (Addr×Obj)} {σ:St} {H:Hp} {s:Shared} {fp:List Addr} (I:Inv X pins σ H s) (O:∀ b∈fp,FpOk X pins H b) (Z:∀ b∈fp,∃ o,s.heap.get? b=some o /\ ∀ v,o.data≠.cell v):Inv X (pins++ZDt fp s.heap) σ H s :=
 I.pins_of fun p U=>(yBB.mp U).elim (fun z=>I.pin p (yAW _ z)) fun z=>by
  obtain ⟨J,e⟩:=of_pinsAt z
  obtain ⟨f0,f1,Y,_⟩:=O p.1 J
  obtain ⟨o,L,d⟩:=Z p.1 J
  rw [e] at L;cases L
  exact ⟨e,f0,f1,Y,d⟩
theorem Inv.unpinned {pins pl:List (Addr×Obj)} {σ:St} {H:Hp} {s:Shared} (I:Inv X (pins++pl) σ H s):Inv X pins σ H s:=I.pins_of fun p z=>I.pin p (yAW _ (yBX _ z))
theorem ZBR {iter:Expr} {body:List Stmt} {wi:TI} {g:TG} {tb:TS} {pos:Pos} (hp:PassesOwn (model X.prog X.w) X.A X.env X.xe) (hc:X.calm=true) (hi:PI X tg iter wi) (hg:PG X tg g) (O:PSs X body tb)
  (hs:∀ x,foldedSetIterable iter X.env x=pure x:=by intro _;rfl):PS X (.For tg iter body [] pos) (tFor wi g tb):=by
 intro pins s σ H D I h
 refine wpAny_For (thn (hi pins s σ H _ I h) fun v s1 h1=>thn h1 fun a8 s2 h2=>?_) hs
 obtain ⟨it,fp,tn,J,H2,e,I2,T,st2,f2,W,⟨m0,w0⟩,a2⟩:=h2
 subst e
 have a0:∀ {H':Hp},(∀ b∈fp,H' b=none)->∀ b∈fp,FpOk X pins H' b:=fun hn b O=>⟨hn b O,(f2 b O).2⟩
 refine codeAny_forLoop_any (fun n s'=>∃ i Y H',Inv X pins Y H' s' /\ tn i s'.heap /\ (∀ b∈fp,H' b=none) /\ W i n Y H') ?_ m0 ⟨0,σ,H2,I2,st2,fun b O=>(f2 b O).1,w0⟩
 rintro n s3 ⟨i,L,H3,I3,st3,a3,w3⟩
 rcases a2 i n L H3 w3 with ⟨a4,qn⟩ | ⟨go,N,hN,step⟩
 .refine wpAny_passesOwn hp (thn (T.done X rfl rfl rfl hc i pins s3 L H3 X.xe I3 (a0 a3) st3 a4) fun r s4 ⟨hr,I4⟩=>?_)
  subst hr
  exact wpAny_execs_nil ⟨L,H3,I4,qn⟩
 .refine wpAny_passesOwn hp (thn (T.item X rfl rfl rfl hc i pins s3 L H3 X.xe I3 (a0 a3) st3 go) fun r s4 ⟨u,hr,h4⟩=>?_)
  subst hr
  refine wpAny_passesOwn hp (thn h4 fun _ s5 zz=>?_)
  obtain ⟨x,H5,I5,r5,y5,a1,a7⟩:=zz
  have a6:=I5.pinned (a0 a7) (T.obj _ _ a1)
  refine wpAny_passesOwn hp (thn (hg _ s5 L H5 x u _ a6 r5 (step x H5 y5)) fun _ s6 zz=>?_)
  obtain ⟨a5,H6,I6,q6⟩:=zz
  refine wpAny_passesOwn hp (thn (O _ s6 a5 H6 _ I6 q6) fun f s7 q7=>?_)
  have Z:∀ {z:St} {U:Hp},Inv X (pins++ZDt fp s5.heap) z U s7->N z U->∃ m,m < n /\ ∃ i Y H',Inv X pins Y H' s7 /\ tn i s7.heap /\ (∀ b∈fp,H' b=none) /\ W i m Y H':=fun {z U} I7 n7=>by
   obtain ⟨m',hm,w7⟩:=hN z U n7
   refine ⟨m',hm,i+1,z,U,I7.unpinned,T.keep _ _ _ a1 fun b O o e=>(I7.pin (b,o) (yAW _ (yAW _ (ZCE O e)))).1,fun b O=>?_,w7⟩
   obtain ⟨o,e,d⟩:=T.obj _ _ a1 b O
   exact (I7.pin (b,o) (yAW _ (yAW _ (ZCE O e)))).2.1
  cases f with
  | next=>obtain ⟨z,U,I7,n7⟩:=q7;exact Z I7 n7
  | cont=>obtain ⟨z,U,I7,n7⟩:=q7;exact Z I7 n7
  | brk=>obtain ⟨z,U,I7,q7⟩:=q7;exact ⟨z,U,I7.unpinned,q7⟩
  | ret v=>obtain ⟨x7,z,U,I7,r7,q7⟩:=q7;exact ⟨x7,z,U,I7.unpinned,r7,q7⟩
end
theorem for_list {K:W.Frag} {a:Addr} {xs:List V} {g:TG} {tb:TS} {D:Ends} {σ:St} {H:Hp} (z:Nat->St->Hp->Prop) (U:z 0 σ H) (hl:∀ i σ H,i <= xs.length->z i σ H->SqL K H a xs)
  (Y:∀ i x σ H,xs[i]?=some x->z i σ H->g x σ H fun L H2=>tb { D with nx:=z (i+1),ct:=z (i+1),bk:=D.nx } L H2) (Z:∀ σ H,z xs.length σ H->D.nx σ H) :
  ∃ W:Nat->Nat->St->Hp->Prop,(∃ m,W 0 m σ H) /\ ∀ i m σ H,W i m σ H ->
   ((Itl K a).stop i H /\ D.nx σ H)∨((Itl K a).go i H /\ ∃ N:St->Hp->Prop,(∀ J H',N J H'->∃ O,O < m /\ W (i+1) O J H') /\ ∀ x H',(Itl K a).yld i H x H'->g x σ H' fun L H2=>tb { D with nx:=N,ct:=N,bk:=D.nx } L H2):=by
 refine ⟨fun i m σ H=>m=xs.length-i /\ i <= xs.length /\ z i σ H,⟨xs.length,by simp,yAD _,U⟩,?_⟩
 rintro i m σ H ⟨rfl,hi,p⟩
 have q:=hl i σ H hi p
 by_cases hlt:i < xs.length
 .refine .inr ⟨⟨xs,xs[i],q,by simp [hlt]⟩,z (i+1),fun J H' p'=>⟨xs.length-(i+1),by omega,rfl,hlt,p'⟩,fun x H' y=>?_⟩
  obtain ⟨e,y⟩:=y
  subst e
  exact Y i x σ _ (y xs q) p
 .have e:i=xs.length:=by omega
  subst e
  exact .inl ⟨⟨xs,q,yAA _⟩,Z σ H p⟩
theorem for_range {lo:Int} {n:Nat} {g:TG} {tb:TS} {D:Ends} {σ:St} {H:Hp} (z:Nat->St->Hp->Prop) (U:z 0 σ H)
  (Y:∀ i σ H,i < n->z i σ H->g (.int (lo+i)) σ H fun L H2=>tb { D with nx:=z (i+1),ct:=z (i+1),bk:=D.nx } L H2) (Z:∀ σ H,z n σ H->D.nx σ H) :
  ∃ W:Nat->Nat->St->Hp->Prop,(∃ m,W 0 m σ H) /\ ∀ i m σ H,W i m σ H ->
   ((Itr lo n).stop i H /\ D.nx σ H)∨((Itr lo n).go i H /\ ∃ N:St->Hp->Prop,(∀ J H',N J H'->∃ O,O < m /\ W (i+1) O J H') /\ ∀ x H',(Itr lo n).yld i H x H'->g x σ H' fun L H2=>tb { D with nx:=N,ct:=N,bk:=D.nx } L H2):=by
 refine ⟨fun i m σ H=>m=n-i /\ i <= n /\ z i σ H,⟨n,by simp,yAD _,U⟩,?_⟩
 rintro i m σ H ⟨rfl,hi,p⟩
 by_cases hlt:i < n
 .refine .inr ⟨hlt,z (i+1),fun J H' p'=>⟨n-(i+1),by omega,rfl,hlt,p'⟩,fun x H' y=>?_⟩
  obtain ⟨e,y⟩:=y
  subst e y
  exact Y i σ _ hlt p
 .have e:i=n:=by omega
  subst e
  exact .inl ⟨yAA _,Z σ H p⟩
noncomputable abbrev R2:=V->V->Hp->VK->Prop
noncomputable def OpR (X:Cx) (f:Value->Value->Sem Value) (r:R2):Prop :=
 ∀ (pins:List (Addr×Obj)) (s:Shared) (σ:St) (H:Hp) (x y:V) (v u:Value) (Q:VK),Inv X pins σ H s->RelV x v->RelV y u->r x y H Q ->
  wpAny (model X.prog X.w) X.A (f v u) (EP X pins σ Q) X.xe s
noncomputable def UnR (X:Cx) (f:Value->Sem Value) (r:V->Hp->VK->Prop):Prop :=
 ∀ (pins:List (Addr×Obj)) (s:Shared) (σ:St) (H:Hp) (x:V) (v:Value) (Q:VK),Inv X pins σ H s->RelV x v->r x H Q ->
  wpAny (model X.prog X.w) X.A (f v) (EP X pins σ Q) X.xe s
noncomputable def ZBd (X:Cx) (f:Value) (r:List V->Hp->VK->Prop):Prop :=
 ∀ (pins:List (Addr×Obj)) (s:Shared) (σ:St) (H:Hp) (xs:List V) (us:List Value) (Q:VK),Inv X pins σ H s->Vals xs us->r xs H Q ->
  wpAny (model X.prog X.w) X.A (call f us) (EP X pins σ Q) X.xe s
noncomputable def tOp (r:R2) (ta tb:TE):TE:=fun σ H Q=>ta σ H fun x H1=>tb σ H1 fun y H2=>r x y H2 Q
noncomputable def tUn (r:V->Hp->VK->Prop) (ta:TE):TE:=fun σ H Q=>ta σ H fun x H1=>r x H1 Q
noncomputable def rI (C:Int->Int->Prop) (g:Int->Int->V):R2:=fun x y H Q=>∃ i j,x=.int i /\ y=.int j /\ C i j /\ Q (g i j) H
noncomputable def rI0 (g:Int->Int->V):R2:=fun x y H Q=>∃ i j,x=.int i /\ y=.int j /\ Q (g i j) H
noncomputable def rU (g:Int->V):V->Hp->VK->Prop:=fun x H Q=>∃ i,x=.int i /\ Q (g i) H
section
variable {X:Cx} {a b c:Expr} {ta tb tc:TE} {pos:Pos}
theorem binT (ha:PE X a ta) (U:PE X b tb) {pins:List (Addr×Obj)} {s:Shared} {σ:St} {H:Hp} {R:V->V->Hp->Prop} (I:Inv X pins σ H s)
  (h:ta σ H fun x H1=>tb σ H1 fun y H2=>R x y H2) {Q:Value->Shared->Prop} {f:Value->Value->Sem Value}
  (Y:∀ v u s2 x y H2,Inv X pins σ H2 s2->RelV x v->RelV y u->R x y H2->wpAny (model X.prog X.w) X.A (f v u) Q X.xe s2) :
  wpAny (model X.prog X.w) X.A (eval a X.env) (fun v s₁=>wpAny (model X.prog X.w) X.A (eval b X.env) (fun u z=>wpAny (model X.prog X.w) X.A (f v u) Q X.xe z) X.xe s₁) X.xe s:=by
 refine thn (ha pins s σ H _ I h) fun v s1 J=>?_
 obtain ⟨x,H1,I1,r1,q1⟩:=J
 refine thn (U pins s1 σ H1 _ I1 q1) fun u s2 J=>?_
 obtain ⟨y,H2,Z,O,L⟩:=J
 exact Y v u s2 x y H2 Z r1 O L
theorem ZAX {op:Operator} {r:R2} (U:OpR X (binaryOp op) r) (ha:PE X a ta) (J:PE X b tb):PE X (.BinOp a op b pos) (tOp r ta tb):=by
 intro pins s σ H Q I h
 exact wpAny_BinOp (binT ha J I h fun v u s2 x y H2 L O z q=>U pins s2 σ H2 x y v u Q L O z q)
theorem ZFH {op:UnaryOp} {r:V->Hp->VK->Prop} (z:UnR X (unaryOp op) r) (ha:PE X a ta):PE X (.UnaryOp op a pos) (tUn r ta):=by
 intro pins s σ H Q I h
 exact UnaryOp_ (thn (ha pins s σ H _ I h) fun v s1 ⟨x,H1,O,L,J⟩=>z pins s1 σ H1 x v Q O L J)
theorem opI {f:Value->Value->Sem Value} {C:Int->Int->Prop} {g:Int->Int->Int}
  (z:∀ (i j:Int) (t u:Tok) (s:Shared) (Q:Value->Shared->Prop) (E:Value->Shared->Prop),C i j->Q (.int (g i j) s.toks) { s with toks:=s.toks+1 }->wpAny (model X.prog X.w) X.A (f (.int i t) (.int j u)) Q E s) :
  OpR X f (rI C fun i j=>.int (g i j)):=by
 intro pins s σ H x y v u Q I L J h
 obtain ⟨i,j,rfl,rfl,hc,q⟩:=h
 obtain ⟨t,rfl⟩:=L
 obtain ⟨t',rfl⟩:=J
 exact z i j t t' s _ _ hc ⟨.int (g i j),H,I.tok _,⟨_,rfl⟩,q⟩
theorem opI0 {f:Value->Value->Sem Value} {g:Int->Int->Int}
  (z:∀ (i j:Int) (t u:Tok) (s:Shared) (Q:Value->Shared->Prop) (E:Value->Shared->Prop),Q (.int (g i j) s.toks) { s with toks:=s.toks+1 }->wpAny (model X.prog X.w) X.A (f (.int i t) (.int j u)) Q E s) :
  OpR X f (rI0 fun i j=>.int (g i j)):=by
 intro pins s σ H x y v u Q I L J h
 obtain ⟨i,j,rfl,rfl,q⟩:=h
 obtain ⟨t,rfl⟩:=L
 obtain ⟨t',rfl⟩:=J
 exact z i j t t' s _ _ ⟨.int (g i j),H,I.tok _,⟨_,rfl⟩,q⟩
theorem opB0 {f:Value->Value->Sem Value} {g:Int->Int->Bool}
  (z:∀ (i j:Int) (t u:Tok) (s:Shared) (Q:Value->Shared->Prop) (E:Value->Shared->Prop),Q (.bool (g i j)) s->wpAny (model X.prog X.w) X.A (f (.int i t) (.int j u)) Q E s) :
  OpR X f (rI0 fun i j=>.bl (g i j)):=by
 intro pins s σ H x y v u Q I L J h
 obtain ⟨i,j,rfl,rfl,q⟩:=h
 obtain ⟨t,rfl⟩:=L
 obtain ⟨t',rfl⟩:=J
 exact z i j t t' s _ _ ⟨.bl (g i j),H,I,rfl,q⟩
noncomputable def CDiv (i j:Int):Prop:=0 < j /\ j < 1073741824
noncomputable def CPow (i j:Int):Prop:=0 <= j /\ j <= 1000000 /\ i.natAbs < 2 ^ 64
noncomputable def CMul (i j:Int):Prop:=(-(2 ^ 64) < i /\ i < 2 ^ 64)∨(-(2 ^ 64) < j /\ j < 2 ^ 64)
theorem CMul.ok {i j:Int} (h:CMul i j):IntMulOk i j:=by
 rcases h with ⟨h1,h2⟩ | ⟨h1,h2⟩
 .exact .of_left (intBits_le_64 h1 h2)
 .exact .of_right (intBits_le_64 h1 h2)
theorem ZBA:OpR X (binaryOp .Add) (rI0 fun i j=>.int (i+j)):=opI0 fun _ _ _ _ _ _ _ q=>add_int q
theorem ZBw:OpR X (binaryOp .Sub) (rI0 fun i j=>.int (i-j)):=opI0 fun _ _ _ _ _ _ _ q=>sub_int q
theorem ZDv:OpR X (binaryOp .Mult) (rI CMul fun i j=>.int (i * j)):=opI fun _ _ _ _ _ _ _ hc q=>mul_int q hc.ok
theorem ZBQ:OpR X (binaryOp .FloorDiv) (rI CDiv fun i j=>.int (i / j)):=opI fun i j _ _ _ _ _ hc q=>by
 have h1:(0:Int) < j:=hc.1
 have h2:j < 1073741824:=hc.2
 exact floordiv_int (by omega) (by rw [Int.fdiv_eq_ediv_of_nonneg i (by omega)];exact q) (.inl (PyProof.noPylong_small (by omega)))
theorem ZA9:OpR X (binaryOp .Mod) (rI (fun _ j=>0 < j) fun i j=>.int (i % j)):=opI fun i j _ _ _ _ _ hc q=>by
 have h1:(0:Int) < j:=hc
 exact mod_int' (by omega) (by rw [Int.fmod_eq_emod_of_nonneg i (by omega)];exact q)
theorem op_pow:OpR X (binaryOp .Pow) (rI CPow fun i j=>.int (i ^ j.toNat)):=opI fun _ _ _ _ _ _ _ hc q=>pow_int_small hc.1 hc.2.1 hc.2.2 q
theorem unI {f:Value->Sem Value} {g:Int->Int}
  (z:∀ (i:Int) (t:Tok) (s:Shared) (Q:Value->Shared->Prop) (E:Value->Shared->Prop),Q (.int (g i) s.toks) { s with toks:=s.toks+1 }->wpAny (model X.prog X.w) X.A (f (.int i t)) Q E s) :
  UnR X f (rU fun i=>.int (g i)):=by
 intro pins s σ H x v Q I J h
 obtain ⟨i,rfl,q⟩:=h
 obtain ⟨t,rfl⟩:=J
 exact z i t s _ _ ⟨.int (g i),H,I.tok _,⟨_,rfl⟩,q⟩
theorem ZEd:UnR X (unaryOp .USub) (rU fun i=>.int (-i)):=unI fun _ _ _ _ _ q=>neg_int q
end
noncomputable def scal:V->V->Bool
 | .non,.non=>true | .non,.int _=>true | .int _,.non=>true | .non,.bl _=>true | .bl _,.non=>true | .non,.str _=>true | .str _,.non=>true
 | .int _,.int _=>true | .bl _,.bl _=>true | .str _,.str _=>true | .byt _,.byt _=>true
 | .int _,.str _=>true | .str _,.int _=>true | .bl _,.str _=>true | .str _,.bl _=>true
 | _,_=>false
noncomputable def rEq:R2:=fun x y H Q=>scal x y=true /\ Q (.bl (decide (x=y))) H
noncomputable def rNe:R2:=fun x y H Q=>scal x y=true /\ Q (.bl (!decide (x=y))) H
theorem dec_int {i j:Int}:decide (V.int i=V.int j)=(i == j):=by
 rw [Bool.eq_iff_iff]
 simp
theorem dec_bl {i j:Bool}:decide (V.bl i=V.bl j)=(i == j):=by
 rw [Bool.eq_iff_iff]
 simp
theorem dec_str {i j:Str}:decide (V.str i=V.str j)=(i == j):=by
 rw [Bool.eq_iff_iff]
 simp
theorem dec_byt {i j:Array UInt8}:decide (V.byt i=V.byt j)=(i.toList == j.toList):=by
 rw [Bool.eq_iff_iff]
 cases i
 cases j
 simp
section
variable {X:Cx} {a b c:Expr} {ta tb tc:TE} {pos:Pos}
theorem ZAb {pins:List (Addr×Obj)} {σ:St} {H:Hp} {s:Shared} {Q:VK} {k z:Bool} (I:Inv X pins σ H s) (q:Q (.bl k) H) (e:k=z):EP X pins σ Q (.bool z) s:=by
 subst e
 exact ⟨.bl k,H,I,rfl,q⟩
theorem ZC4:OpR X (compareOp .Eq) rEq:=by
 intro pins s σ H x y v u Q I L z h
 obtain ⟨J,q⟩:=h
 cases x with
 | non=>
  cases L
  cases y with
  | non=>cases z;exact PySem.EqNone.eq_none_none (ZAb I q (by simp))
  | bl j=>cases z;exact PySem.EqNone.eq_none_bool (ZAb I q (by simp))
  | int j=>obtain ⟨t',rfl⟩:=z;exact PySem.EqNone.eq_none_int (ZAb I q (by simp))
  | str j=>obtain ⟨t',rfl⟩:=z;exact PySem.EqNone.eq_none_str (ZAb I q (by simp))
  | _=>exact absurd (show false=true from J) yBC
 | bl i=>
  cases L
  cases y with
  | non=>cases z;exact PySem.EqNone.eq_bool_none (ZAb I q (by simp))
  | bl j=>cases z;exact eq_bool (ZAb I q dec_bl)
  | str j=>obtain ⟨t',rfl⟩:=z;exact PySem.EqMixed.eq_bool_str (ZAb I q (by simp))
  | _=>exact absurd (show false=true from J) yBC
 | int i=>
  obtain ⟨t,rfl⟩:=L
  cases y with
  | non=>cases z;exact PySem.EqNone.eq_int_none (ZAb I q (by simp))
  | int j=>obtain ⟨t',rfl⟩:=z;exact eq_int (ZAb I q dec_int)
  | str j=>obtain ⟨t',rfl⟩:=z;exact PySem.EqMixed.eq_int_str (ZAb I q (by simp))
  | _=>exact absurd (show false=true from J) yBC
 | str i=>
  obtain ⟨t,rfl⟩:=L
  cases y with
  | non=>cases z;exact PySem.EqNone.eq_str_none (ZAb I q (by simp))
  | bl j=>cases z;exact PySem.EqMixed.eq_str_bool (ZAb I q (by simp))
  | int j=>obtain ⟨t',rfl⟩:=z;exact PySem.EqMixed.eq_str_int (ZAb I q (by simp))
  | str j=>obtain ⟨t',rfl⟩:=z;exact eq_str (ZAb I q dec_str)
  | _=>exact absurd (show false=true from J) yBC
 | byt i=>
  obtain ⟨t,rfl⟩:=L
  cases y with
  | byt j=>obtain ⟨t',rfl⟩:=z;exact PySem.W.eq_bytes (ZAb I q dec_byt)
  | _=>exact absurd (show false=true from J) yBC
 | _=>cases y <;> exact absurd (show false=true from J) yBC
theorem ZDu:OpR X (compareOp .NotEq) rNe:=by
 intro pins s σ H x y v u Q I L z h
 obtain ⟨J,q⟩:=h
 cases x with
 | non=>
  cases L
  cases y with
  | non=>cases z;exact PySem.EqNone.ne_none_none (ZAb I q (by simp))
  | bl j=>cases z;exact PySem.EqNone.ne_none_bool (ZAb I q (by simp))
  | int j=>obtain ⟨t',rfl⟩:=z;exact PySem.EqNone.ne_none_int (ZAb I q (by simp))
  | str j=>obtain ⟨t',rfl⟩:=z;exact PySem.EqNone.ne_none_str (ZAb I q (by simp))
  | _=>exact absurd (show false=true from J) yBC
 | bl i=>
  cases L
  cases y with
  | non=>cases z;exact PySem.EqNone.ne_bool_none (ZAb I q (by simp))
  | bl j=>cases z;exact ne_bool (ZAb I q (congrArg not dec_bl))
  | str j=>obtain ⟨t',rfl⟩:=z;exact PySem.EqMixed.ne_bool_str (ZAb I q (by simp))
  | _=>exact absurd (show false=true from J) yBC
 | int i=>
  obtain ⟨t,rfl⟩:=L
  cases y with
  | non=>cases z;exact PySem.EqNone.ne_int_none (ZAb I q (by simp))
  | int j=>obtain ⟨t',rfl⟩:=z;exact ne_int (ZAb I q (congrArg not dec_int))
  | str j=>obtain ⟨t',rfl⟩:=z;exact PySem.EqMixed.ne_int_str (ZAb I q (by simp))
  | _=>exact absurd (show false=true from J) yBC
 | str i=>
  obtain ⟨t,rfl⟩:=L
  cases y with
  | non=>cases z;exact PySem.EqNone.ne_str_none (ZAb I q (by simp))
  | bl j=>cases z;exact PySem.EqMixed.ne_str_bool (ZAb I q (by simp))
  | int j=>obtain ⟨t',rfl⟩:=z;exact PySem.EqMixed.ne_str_int (ZAb I q (by simp))
  | str j=>obtain ⟨t',rfl⟩:=z;exact ne_str (ZAb I q (congrArg not dec_str))
  | _=>exact absurd (show false=true from J) yBC
 | byt i=>
  obtain ⟨t,rfl⟩:=L
  cases y with
  | byt j=>obtain ⟨t',rfl⟩:=z;exact PySem.W.ne_bytes (ZAb I q (congrArg not dec_byt))
  | _=>exact absurd (show false=true from J) yBC
 | _=>cases y <;> exact absurd (show false=true from J) yBC
theorem ZDw:OpR X (compareOp .Lt) (rI0 fun i j=>.bl (decide (i < j))):=opB0 fun _ _ _ _ _ _ _ q=>lt_int q
theorem op_le:OpR X (compareOp .LtE) (rI0 fun i j=>.bl (decide (i <= j))):=opB0 fun _ _ _ _ _ _ _ q=>le_int q
theorem ZEa:OpR X (compareOp .Gt) (rI0 fun i j=>.bl (decide (j < i))):=opB0 fun _ _ _ _ _ _ _ q=>gt_int q
theorem ZEb:OpR X (compareOp .GtE) (rI0 fun i j=>.bl (decide (j <= i))):=opB0 fun _ _ _ _ _ _ _ q=>ge_int q
theorem op_notN:OpR X (compareOp .IsNot) (fun x y H Q=>y=.non /\ Q (.bl (!decide (x=.non))) H):=by
 intro pins s σ H x y v u Q I z J h
 obtain ⟨rfl,q⟩:=h
 cases J
 refine isnot_none_gen (ZAb I q ?_)
 cases x <;> first
  | (cases z;rfl)
  | (obtain ⟨t,rfl⟩:=z;rfl)
theorem ZAT (b:Expr) {op:CmpOp} (h:op≠.In:=by decide) (h2:op≠.NotIn:=by decide):behindInMarks op b=false:=by
 have z:(op == CmpOp.In)=false:=by cases op <;> first | rfl | exact absurd rfl h
 have e2:(op == CmpOp.NotIn)=false:=by cases op <;> first | rfl | exact absurd rfl h2
 cases b <;> simp [behindInMarks,z,e2]
theorem ZC3 {op:CmpOp} {r:R2} (U:OpR X (compareOp op) r) (ha:PE X a ta) (J:PE X b tb) (hm:behindInMarks op b=false):PE X (.Compare a [op] [b] pos) (tOp r ta tb):=by
 intro pins s σ H Q I h
 exact wpAny_Compare1 (binT ha J I h fun v u s2 x y H2 L O z q=>U pins s2 σ H2 x y v u Q L O z q) hm
noncomputable def ZE7 (t:TE):TT:=fun σ H Q=>t σ H fun x H'=>∃ k,x=.bl k /\ Q k H'
theorem ZAP {op:CmpOp} {r:R2} (ho:OpR X (compareOp op) r) (ha:PE X a ta) (U:PE X b tb) (hm:behindInMarks op b=false):PT X (.Compare a [op] [b] pos) (ZE7 (tOp r ta tb)):=by
 intro pins s σ H Q I h
 refine wpAny_isTrue_Compare1 (thn (ha pins s σ H _ I h) fun v s1 ⟨x,H1,I1,Z,q1⟩=>thn (U pins s1 σ H1 _ I1 q1) fun u s2 ⟨y,H2,Y,O,J⟩=>
  thn (ho pins s2 σ H2 x y v u _ Y Z O J) fun c s3 ⟨z,H3,I3,L,k,e,q3⟩=>?_) hm
 subst e
 cases L
 exact wpAny_truthy_bool ⟨H3,I3,q3⟩
noncomputable def tChain (r r':R2) (ta tb tc:TE):TE:=fun σ H Q=>ta σ H fun x H1=>tb σ H1 fun y H2=>r x y H2 fun z H3=>∃ k,z=.bl k /\
 (if k=true then tc σ H3 fun w' H4=>r' y w' H4 Q else Q (.bl false) H3)
theorem ZES:(sizeLine:Nat) < 2 ^ 63:=by rw [sizeLine_eq];decide
theorem ZCU {x:V} {us:List Value} (r:Vals [x] us):∃ u,us=[u] /\ RelV x u:=by
 cases r with
 | cons r1 r2=>cases r2;exact ⟨_,rfl,r1⟩
theorem ZDV {x y:V} {us:List Value} (r:Vals [x,y] us):∃ u w',us=[u,w'] /\ RelV x u /\ RelV y w':=by
 cases r with
 | cons r1 r2=>
  cases r2 with
  | cons r3 r4=>cases r4;exact ⟨_,_,rfl,r1,r3⟩
theorem ZB5 (hc:X.calm=true):ZBd X (.builtin "max") (fun xs H Q=>∃ i j,xs=[.int i,.int j] /\ Q (.int (if j > i then j else i)) H):=by
 intro pins s σ H xs us Q I r h
 obtain ⟨i,j,rfl,q⟩:=h
 obtain ⟨u,w',rfl,⟨t,rfl⟩,⟨t',rfl⟩⟩:=ZDV r
 refine max_two_ints (I.ok.hd hc) fun h' tk k=>⟨_,H,I.kept k,?_,q⟩
 by_cases hj:j > i
 .rw [if_pos hj,if_pos hj];exact ⟨_,rfl⟩
 .rw [if_neg hj,if_neg hj];exact ⟨_,rfl⟩
theorem call_min2 (hc:X.calm=true):ZBd X (.builtin "min") (fun xs H Q=>∃ i j,xs=[.int i,.int j] /\ Q (.int (if j < i then j else i)) H):=by
 intro pins s σ H xs us Q I r h
 obtain ⟨i,j,rfl,q⟩:=h
 obtain ⟨u,w',rfl,⟨t,rfl⟩,⟨t',rfl⟩⟩:=ZDV r
 refine min_two_ints (I.ok.hd hc) fun h' tk k=>⟨_,H,I.kept k,?_,q⟩
 by_cases hj:j < i
 .rw [if_pos hj,if_pos hj];exact ⟨_,rfl⟩
 .rw [if_neg hj,if_neg hj];exact ⟨_,rfl⟩
end
structure ObjM (h:Heap) (x dx C:Addr) (mA:Str->Option Value):Prop where
 obj:h.get? x=some (PySem.W.instObj C dx)
 ns:h.Ns1 dx mA
 ne:dx≠x
theorem ZC7 {h:Heap} {dx:Addr} {mA:Str->Option Value} (n:h.Ns1 dx mA):∃ L,h.get? dx=some L /\ ∀ name,PySem.W.lookIn name L=some (mA name):=by
 obtain ⟨o,es,ep,ho,Z,Y,_,hm⟩:=n
 refine ⟨o,ho,fun name=>?_⟩
 have e:=hm name
 unfold nsFind findBy at e
 rw [<- Array.find?_toList] at e
 unfold PySem.W.lookIn
 rw [Z]
 dsimp only
 split
 .rename_i y q
  rw [q] at e
  exact congrArg some e
 .rename_i q
  rw [q] at e
  have a:es.toList.any (·.refKey)=false:=by
   rw [List.any_eq_false]
   intro y U
   obtain ⟨z,t,J⟩:=Y y (Array.mem_toList_iff.mp U)
   simp [DictEntry.refKey,J]
  have O:¬ es.toList.any (·.refKey)=true:=by rw [a];exact yBC
  rw [if_neg O]
  exact congrArg some e
theorem ObjM.look {h:Heap} {x dx C:Addr} {mA:Str->Option Value} (I:ObjM h x dx C mA):∃ z,PySem.W.InstAt h x (PySem.W.instObj C dx) C (some z) /\ ∀ name,PySem.W.lookIn name z=some (mA name) :=
 let ⟨z,ho,hl⟩:=ZC7 I.ns
 ⟨z,⟨I.obj,rfl,rfl,ho⟩,hl⟩
section
variable {prog:Program} {w:World} {A:Around} {E:Value->Shared->Prop} {s:Shared} {K:W.Frag} {x dx C f:Addr} {mA:Str->Option Value} {name:Str} {v:Value}
theorem get_map {z:Bool} {Q:Value->Shared->Prop} (X:K.In s.heap) (I:ObjM s.heap x dx C mA) (U:PySem.W.plainGet K C name=true) (hh:PySem.W.hasDictIn K C=true)
  (ha:W.findIn K (.ref C) name=some none) (O:mA name=some v) (L:PySem.W.handedIn v=true) (h:Q v { s with toks:=s.toks+1 }) :
  wpAny (model prog w) A (getAttr (.ref x) name z) Q E s:=by
 obtain ⟨Y,J,hl⟩:=I.look
 exact PySem.W.get_value X J (PySem.W.plainGet_of U).1 (PySem.W.findObj_own hh ha rfl (by rw [hl,O])) L h
theorem get_meth {pl:Sem Bool} {Q:Value×List Value->Shared->Prop} (X:K.In s.heap) (I:ObjM s.heap x dx C mA) (z:PySem.W.plainGet K C name=true)
  (Y:W.findIn K (.ref C) name=some (some (.ref f))) (L:PySem.W.isFn K (.ref f)=true) (U:mA name=none) (h:Q (.ref f,[.ref x]) s) :
  wpAny (model prog w) A (getMethod (.ref x) name pl) Q E s:=by
 obtain ⟨O,J,hl⟩:=I.look
 exact PySem.W.method_fn X J (PySem.W.plainGet_of z).1 (PySem.W.plainGet_of z).2 Y (beq_iff_eq.mp L) (by show (PySem.W.lookIn name O).map (·.isSome)=some false;rw [hl,U];rfl) h
theorem set_map {ns:List Str} {Q:Unit->Shared->Prop} (X:K.In s.heap) (I:ObjM s.heap x dx C mA)
  (hs:W.findIn K (.ref C) "__setattr__"=some (some (.builtin "object.__setattr__"))) (hp:PySem.W.plainOver K C=true) (ht:PySem.W.takerIn K C name=some none) (hh:PySem.W.hasDictIn K C=true)
  (hw:PySem.Within mA ns) (hsz:ns.length <= sizeLine)
  (h:∀ h',ObjM h' x dx C (fun y=>if y=name then some v else mA y)->Heap.SameBut dx s.heap h'->Q () { s with heap:=h',toks:=s.toks+2 }) :
  wpAny (model prog w) A (setAttr (.ref x) name v) Q E s:=by
 obtain ⟨od,J,hl⟩:=I.look
 refine PySem.W.set_plain X J hs (PySem.W.osa_open (s:={ s with toks:=s.toks+1 }) (r:=none) X J hp ht fun b=>?_)
 obtain ⟨cd,hc,Y⟩:=PySem.W.any_some hh
 have hx:s.heap.get? x=some ⟨.ref C,some dx,.plain,#[]⟩:=I.obj
 refine wpAny_bind (wpAny_pure (wpAny_bind (wpAny_bind (wpAny_loadPart hx (wpAny_bind (PySem.W.Looks.here (s:={ s with toks:=s.toks+1 }) (PySem.W.looks_clsIn X hc) ?_))))))
 rw [Y]
 refine wpAny_pure (a:=some dx) (wpAny_bind (wpAny_pure (wpAny_bind ?_)))
 refine wpAny_nsSet1 (s:={ s with toks:=s.toks+1 }) I.ns fun h' L z=>?_
 obtain ⟨oD,a0,a1,O,Z,U⟩:=L.count (PySem.Within.cons name v hw)
 refine wpAny_bind (wpAny_lookBehind O (by rw [Z];exact pastItsLine_dict (yAF U (by rw [yAK];omega))) ?_)
 exact wpAny_pure (h _ ⟨(z.2 _ (Ne.symm I.ne)).trans I.obj,L,I.ne⟩ z)
theorem make_map {R:Result->Shared->Prop} {vs:List Value} {z:List (Str×Value)} (X:K.In s.heap) (hm:PySem.W.makesIn K C=true)
  (hi:W.findIn K (.ref C) "__init__"=some (some (.ref f))) (J:PySem.W.typeIn K (.ref f)=some (.type "function"))
  (h:codeAny (model prog w) (A.under (.builtin "type.__call__" ⟨.ref C::vs,z⟩)) (.call (.ref f) ⟨.ref (s.heap.objs.size+1)::vs,z⟩) (PySem.W.InitBack (s.heap.objs.size+1) R)
   { s with heap:=(s.heap.push PySem.W.emptyDict).push (PySem.W.instObj C s.heap.objs.size) }) :
  codeAny (model prog w) A (.call (.ref C) ⟨vs,z⟩) R s:=by
 obtain ⟨hh,g,d,t,os⟩:=s
 exact PySem.W.make_core (PySem.W.makes_of X hm) (PySem.W.looks_findIn X hi) (fun self=>PySem.W.bind_fn X self J) (.inl rfl) h
end
noncomputable def putF (f:Str) (v:V):List (Str×V)->List (Str×V)
 | []=>[(f,v)]
 | (g,x)::r=>if g=f then (g,v)::r else (g,x)::putF f v r
theorem ZAd (f g:Str) (v:V):∀ fs:List (Str×V),(putF f v fs).lookup g=if g=f then some v else fs.lookup g
 | []=>by
  show List.lookup g [(f,v)]=_
  by_cases h:g=f
  .have z:(g == f)=true:=beq_iff_eq.mpr h
   simp only [List.lookup,z,if_pos h]
  .have z:(g == f)=false:=beq_eq_false_iff_ne.mpr h
   simp only [List.lookup,z,if_neg h]
 | (k,x)::r=>by
  have J:=ZAd f g v r
  rw [show putF f v ((k,x)::r)=(if k=f then (k,v)::r else (k,x)::putF f v r) from rfl]
  by_cases hk:k=f
  .rw [if_pos hk]
   by_cases h:g=k
   .have z:(g == k)=true:=beq_iff_eq.mpr h
    simp only [List.lookup,z,if_pos (h.trans hk)]
   .have z:(g == k)=false:=beq_eq_false_iff_ne.mpr h
    simp only [List.lookup,z,if_neg (fun e:g=f=>h (e.trans hk.symm))]
  .rw [if_neg hk]
   by_cases h:g=k
   .have z:(g == k)=true:=beq_iff_eq.mpr h
    simp only [List.lookup,z,if_neg (fun e:g=f=>hk (h.symm.trans e))]
   .have z:(g == k)=false:=beq_eq_false_iff_ne.mpr h
    simp only [List.lookup,z]
    exact J
theorem ZDA (f:Str) (v:V):∀ fs:List (Str×V),f∈(putF f v fs).map (·.1) /\ ∀ g,g∈fs.map (·.1)->g∈(putF f v fs).map (·.1)
 | []=>⟨by simp [putF],fun g h=>by simp at h⟩
 | (k,x)::r=>by
  obtain ⟨i1,i2⟩:=ZDA f v r
  rw [show putF f v ((k,x)::r)=(if k=f then (k,v)::r else (k,x)::putF f v r) from rfl]
  by_cases hk:k=f
  .rw [if_pos hk]
   subst hk
   exact ⟨by simp,fun g h=>by simpa using h⟩
  .rw [if_neg hk]
   refine ⟨?_,fun g h=>?_⟩
   .rw [yAU]
    exact yAL _ i1
   .rw [yAU] at h ⊢
    rcases yAG.mp h with e | e
    .exact yAG.mpr (.inl e)
    .exact yAL _ (i2 g e)
theorem ZCO (f:Str) (v:V):∀ fs:List (Str×V),(putF f v fs).length <= fs.length+1
 | []=>by simp [putF]
 | (k,x)::r=>by
  have z:=ZCO f v r
  rw [show putF f v ((k,x)::r)=(if k=f then (k,v)::r else (k,x)::putF f v r) from rfl]
  by_cases hk:k=f
  .rw [if_pos hk,yAK,yAK];omega
  .rw [if_neg hk,yAK,yAK];omega
theorem RelO.some_of {v:V} {o:Option Value} (r:RelO (some v) o):∃ u,o=some u /\ RelV v u:=by
 cases o with
 | none=>exact (show False from r).elim
 | some u=>exact ⟨u,rfl,r⟩
theorem RelO.none_of {o:Option Value} (r:RelO none o):o=none:=by
 cases o with
 | none=>rfl
 | some u=>exact (show False from r).elim
theorem handed_of {v:V} {u:Value} (r:RelV v u):PySem.W.handedIn u=true:=by
 cases v with
 | non=>cases (show u=Value.none from r);rfl
 | bl b=>cases (show u=Value.bool b from r);rfl
 | int i=>obtain ⟨t,e⟩:=(show ∃ t,u=Value.int i t from r);cases e;rfl
 | str x=>obtain ⟨t,e⟩:=(show ∃ t,u=Value.str x t from r);cases e;rfl
 | byt b=>obtain ⟨t,e⟩:=(show ∃ t,u=Value.bytes b t from r);cases e;rfl
 | flt b=>obtain ⟨t,e⟩:=(show ∃ t,u=Value.float b t from r);cases e;rfl
 | ref a=>cases (show u=Value.ref a from r);rfl
 | ty n=>cases (show u=Value.type n from r);rfl
section
variable {P:Program} {w:World} {H H':Hp} {h h':Heap} {a C dx:Addr} {fs fs':List (Str×V)}
theorem ZDi (J:HOk P w H h) (e:H a=some (.ins C dx fs)):∃ mA,ObjM h a dx C mA /\ (∀ f,RelO (fs.lookup f) (mA f)) /\ PySem.Within mA (fs.map (·.1)) /\ fs.length <= 1000 /\ H dx=some (.own a):=by
 obtain ⟨d,z,ne,ob,mA,n,r,q⟩:=(show ObjOk P w H h a (.ins C dx fs) from J a _ e)
 exact ⟨mA,⟨ob,n,ne⟩,r,q,z,d⟩
end
structure Cls (K:W.Frag) (C:Addr):Prop where
 pg:PySem.W.plainGet K C Str.empty=true
 hd:PySem.W.hasDictIn K C=true
 po:PySem.W.plainOver K C=true
 sa:W.findIn K (.ref C) "__setattr__"=some (some (.builtin "object.__setattr__"))
theorem Cls.get {K:W.Frag} {C:Addr} (c:Cls K C) (f:Str):PySem.W.plainGet K C f=true:=c.pg
noncomputable def NoAttr (K:W.Frag) (C:Addr) (f:Str):Prop:=W.findIn K (.ref C) f=some none
theorem NoAttr.taker {K:W.Frag} {C:Addr} {f:Str} (n:NoAttr K C f):PySem.W.takerIn K C f=some none:=by
 unfold PySem.W.takerIn
 rw [show W.findIn K (.ref C) f=some none from n]
 rfl
structure Meth (K:W.Frag) (C:Addr) (m:Str) (f:Addr):Prop where
 at_:W.findIn K (.ref C) m=some (some (.ref f))
 fn:PySem.W.isFn K (.ref f)=true
 kp:W.keepIn K (.ref f)=true
section
variable {X:Cx} {pins:List (Addr×Obj)} {σ:St} {H:Hp} {s:Shared} {a C dx:Addr} {fs:List (Str×V)} {f:Str} {v:V} {A:Around} {E:Value->Shared->Prop}
theorem getattr_ok {b:Bool} {Q:Value->Shared->Prop} (I:Inv X pins σ H s) (e:H a=some (.ins C dx fs)) (c:Cls X.K C) (n:NoAttr X.K C f) (l:fs.lookup f=some v)
  (h:∀ u s',Inv X pins σ H s'->RelV v u->Q u s'):wpAny (model X.prog X.w) A (getAttr (.ref a) f b) Q E s:=by
 obtain ⟨mA,O,r,_,_,_⟩:=ZDi I.hok e
 obtain ⟨u,z,ru⟩:=RelO.some_of (v:=v) (o:=mA f) (by rw [<- l];exact r f)
 exact get_map I.kIn O (c.get f) c.hd n z (handed_of ru) (h u _ (I.tok _) ru)
theorem getmeth_ok {m:Str} {g:Addr} {pl:Sem Bool} {Q:Value×List Value->Shared->Prop} (I:Inv X pins σ H s) (e:H a=some (.ins C dx fs)) (c:Cls X.K C) (k:Meth X.K C m g) (l:fs.lookup m=none)
  (h:Q (.ref g,[.ref a]) s):wpAny (model X.prog X.w) A (getMethod (.ref a) m pl) Q E s:=by
 obtain ⟨mA,O,r,_,_,_⟩:=ZDi I.hok e
 have hn:mA m=none:=RelO.none_of (by rw [<- l];exact r m)
 exact get_meth I.kIn O (c.get m) k.at_ k.fn hn h
theorem setattr_ok {y:V} {u:Value} {Q:Unit->Shared->Prop} (I:Inv X pins σ H s) (e:H a=some (.ins C dx fs)) (c:Cls X.K C) (n:NoAttr X.K C f) (hl:fs.length < 1000) (U:RelV y u)
  (h:∀ s',Inv X pins σ (upd H a (.ins C dx (putF f y fs))) s'->Q () s'):wpAny (model X.prog X.w) A (setAttr (.ref a) f u) Q E s:=by
 obtain ⟨mA,O,r,wi,_,L⟩:=ZDi I.hok e
 have hz:(fs.map (·.1)).length <= sizeLine:=by rw [yAB,sizeLine_eq];omega
 refine set_map I.kIn O c.sa c.po n.taker c.hd wi hz fun h' J Z=>h _ ?_
 have hd:∃ o,h'.get? dx=some o:=let ⟨o,_,_,e',_⟩:=J.ns;⟨o,e'⟩
 refine I.write (x:=a) (e:=dx) (by rw [e];exact True.intro) (.inr L) (fun b q Y z=>(Z.2 b Y).trans z) hd ?_
 refine ⟨by rw [ZAG O.ne];exact L,?_,O.ne,J.obj,_,J.ns,fun g=>?_,fun g hg=>?_⟩
 .have:=ZCO f y fs;omega
 .show RelO ((putF f y fs).lookup g) (if g=f then some u else mA g)
  rw [ZAd]
  by_cases q:g=f
  .rw [if_pos q,if_pos q];exact U
  .rw [if_neg q,if_neg q];exact r g
 .by_cases q:g=f
  .rw [q];exact (ZDA f y fs).1
  .refine (ZDA f y fs).2 g (wi g fun z=>hg ?_)
   show (if g=f then some u else mA g)=none
   rw [if_neg q];exact z
theorem Inv.made (I:Inv X pins σ H s):Inv X pins σ (upd (upd H s.heap.objs.size (.own (s.heap.objs.size+1))) (s.heap.objs.size+1) (.ins C s.heap.objs.size []))
  { s with heap:=(s.heap.push PySem.W.emptyDict).push (PySem.W.instObj C s.heap.objs.size) }:=by
 have z:(s.heap.push PySem.W.emptyDict).get? s.heap.objs.size=some PySem.W.emptyDict:=Heap.get?_push_size s.heap rfl
 have e2:((s.heap.push PySem.W.emptyDict).push (PySem.W.instObj C s.heap.objs.size)).get? (s.heap.objs.size+1)=some (PySem.W.instObj C s.heap.objs.size):=by
  have:=Heap.get?_push_size (s.heap.push PySem.W.emptyDict) (o:=PySem.W.instObj C s.heap.objs.size) rfl
  rwa [Heap.size_push] at this
 have e3:(s.heap.push PySem.W.emptyDict).Ns s.heap.objs.size (fun _=>none):=⟨PySem.W.emptyDict,#[],_,z,rfl,(fun e L=>absurd L (by simp)),fun _=>rfl⟩
 have O:=I.laid (a:=s.heap.objs.size) (o:=.own (s.heap.objs.size+1)) (h':=s.heap.push PySem.W.emptyDict) (t':=s.toks) (fun b u q=>Heap.get?_push_of_some _ q) (yAA _) ⟨_,z⟩
 refine O.laid (a:=s.heap.objs.size+1) (o:=.ins C s.heap.objs.size []) (t':=s.toks) (fun b u q=>Heap.get?_push_of_some _ q) (Nat.le_of_eq (Heap.size_push _ _)) ?_
 have ne:s.heap.objs.size≠s.heap.objs.size+1:=yAE (yBQ _)
 refine ⟨by rw [ZAG ne,ZAD],yAD _,ne,e2,fun _=>none,(Heap.Ns1.of_empty e3).at fun o q=>Heap.get?_push_of_some _ q,fun _=>True.intro,fun y J=>absurd rfl J⟩
theorem attr_of {prog:Program} {w:World} {env:Env} {e:Expr} {f:Str} {pos:Pos} {s:Shared} {Q:Value->Shared->Prop} (z:attributeBase e f env (eval e env)=eval e env)
  (h:wpAny (model prog w) A (eval e env) (fun o s₁=>wpAny (model prog w) A (getAttr o f true) Q E s₁) E s):wpAny (model prog w) A (eval (.Attribute e f pos) env) Q E s :=
 Attribute_any_ h (by rw [arm_eval_Attribute,z])
end
noncomputable def tFld (K:W.Frag) (ta:TE) (f:Str):TE:=fun σ H Q=>ta σ H fun x H1=>∃ a C dx fs v,x=.ref a /\ H1 a=some (.ins C dx fs) /\ Cls K C /\ NoAttr K C f /\ fs.lookup f=some v /\ Q v H1
noncomputable def sFld (K:W.Frag) (ta tv:TE) (f:Str):TS:=fun D σ H=>tv σ H fun y H1=>ta σ H1 fun x H2=>∃ a C dx fs,x=.ref a /\ H2 a=some (.ins C dx fs) /\ Cls K C /\ NoAttr K C f /\ fs.length < 1000 /\
 D.nx σ (upd H2 a (.ins C dx (putF f y fs)))
noncomputable def InOp (X:Cx) (op:Operator) (rd:V->V->Hp->VK->Prop):Prop :=
 ∀ (pins:List (Addr×Obj)) (s:Shared) (σ:St) (H:Hp) (x y:V) (u v:Value) (Q:VK),Inv X pins σ H s->RelV x u->RelV y v->rd x y H Q->wpAny (model X.prog X.w) X.A (inplaceOp op u v) (EP X pins σ Q) X.xe s
noncomputable def sFldAug (K:W.Frag) (ta tv:TE) (rd:V->V->Hp->VK->Prop) (f:Str):TS:=fun D σ H=>ta σ H fun x H1=>∃ a C dx fs v,x=.ref a /\ H1 a=some (.ins C dx fs) /\ Cls K C /\ NoAttr K C f /\ fs.lookup f=some v /\
 tv σ H1 fun y H2=>rd v y H2 fun z H3=>∃ dx' fs',H3 a=some (.ins C dx' fs') /\ fs'.length < 1000 /\ D.nx σ (upd H3 a (.ins C dx' (putF f z fs')))
section
variable {X:Cx} {o e value:Expr} {f:Str} {pos pos' tpos:Pos} {ta tv:TE}
theorem ZCI (J:PE X e ta) (L:attributeBase e f X.env (eval e X.env)=eval e X.env):PE X (.Attribute e f pos) (tFld X.K ta f):=by
 intro pins s σ H Q I h
 refine attr_of L (thn (J pins s σ H _ I h) fun u s1 z=>?_)
 obtain ⟨x,H1,Y,U,a,C,dx,fs,v,ex,ea,c,n,l,q⟩:=z
 subst ex
 obtain rfl:u=Value.ref a:=U
 exact getattr_ok Y ea c n l fun u' s2 O ru=>⟨v,H1,O,ru,q⟩
theorem ZDQ (ha:PE X o ta) (hv:PE X value tv) (O:swapsWith value (some (.Attribute o f pos')) pos.line X.env=pure false):PS X (.Assign [.Attribute o f pos'] value pos) (sFld X.K ta tv f):=by
 intro pins s σ H D I h
 refine plainObj_wpAny_Assign_Attribute (thn (hv pins s σ H _ I h) fun u s1 ⟨y,H1,Z,J,q⟩=>thn (ha pins s1 σ H1 _ Z q) fun ov s2 z=>?_) O
 obtain ⟨x,H2,U,Y,a,C,dx,fs,ex,ea,c,n,l,L⟩:=z
 subst ex
 obtain rfl:ov=Value.ref a:=Y
 exact setattr_ok U ea c n l J fun s3 I3=>⟨σ,_,I3,L⟩
theorem ps_fldaug {op:Operator} {rd:V->V->Hp->VK->Prop} (ha:PE X o ta) (hv:PE X value tv) (L:InOp X op rd):PS X (.AugAssign (.Attribute o f tpos) op value pos) (sFldAug X.K ta tv rd f):=by
 intro pins s σ H D I h
 refine wpAny_AugAssign_AttributeAny (thn (ha pins s σ H _ I h) fun ov s1 J=>?_)
 obtain ⟨x,H1,I1,rx,a,C,dx,fs,v,ex,ea,c,n,l,q⟩:=J
 subst ex
 obtain rfl:ov=Value.ref a:=rx
 refine getattr_ok I1 ea c n l fun u s2 I2 ru=>thn (hv pins s2 σ H1 _ I2 q) fun w3 Y ⟨y,H2,I3,U,q3⟩=>thn (L pins Y σ H2 v y u w3 _ I3 ru U q3) fun w4 s4 J=>?_
 obtain ⟨z,H3,I4,rz,a0,fs',O,l',Z⟩:=J
 exact setattr_ok I4 O c n l' rz fun s5 I5=>⟨σ,_,I5,Z⟩
noncomputable def rAdd:V->V->Hp->VK->Prop:=fun x y H Q=>∃ i j,x=.int i /\ y=.int j /\ Q (.int (i+j)) H
theorem in_add:InOp X .Add rAdd:=by
 rintro pins s σ H x y u v Q I J z ⟨i,j,rfl,rfl,q⟩
 obtain ⟨t,rfl⟩:=(show ∃ t,u=Value.int i t from J)
 obtain ⟨t',rfl⟩:=(show ∃ t',v=Value.int j t' from z)
 exact PyProof.Rows.iadd_int ⟨.int (i+j),H,I.tok _,⟨_,rfl⟩,q⟩
end
section
variable {X:Cx} {pins:List (Addr×Obj)} {σ:St} {H:Hp} {s:Shared} {A:Around} {E:Value->Shared->Prop} {Q:Value->Shared->Prop} {c:Value} {b:Bool}
inductive TyOf (K:W.Frag) (H:Hp):V->Value->Prop where
 | non:TyOf K H .non (.type "NoneType")
 | bl (x:Bool):TyOf K H (.bl x) (.type "bool")
 | int (i:Int):TyOf K H (.int i) (.type "int")
 | str (x:Str):TyOf K H (.str x) (.type "str")
 | flt (x:UInt64):TyOf K H (.flt x) (.type "float")
 | lst {a:Addr} {xs:List V} (e:H a=some (.lst xs)):TyOf K H (.ref a) (.type "list")
 | frz {a:Addr} {o:Obj} {xs:List V} (e:H a=some (.frz o (.lst xs))):TyOf K H (.ref a) (.type "list")
 | tup {a:Addr} {xs:List V} (e:H a=some (.tup xs)):TyOf K H (.ref a) (.type "tuple")
 | dK {a:Addr} {kvs:List (Key×V)} (e:H a=some (.dK kvs)):TyOf K H (.ref a) (.type "dict")
 | dT {a:Addr} {kvs:List (List Key×V)} (e:H a=some (.dT kvs)):TyOf K H (.ref a) (.type "dict")
 | ins {a C dx:Addr} {fs:List (Str×V)} (e:H a=some (.ins C dx fs)) (cl:Cls K C) (ha:W.findIn K (.ref C) "__class__"=some (some (.builtin "object.__class__")))
   (hn:PySem.W.specialIn K (.builtin "object.__class__") "__get__"=some (some (.builtin "getset_descriptor.__get__"))) (htk:PySem.W.takesIn K (.builtin "object.__class__")=some true)
   (hm:PySem.W.mroIn K C (.type "object")=some true):TyOf K H (.ref a) (.ref C)
theorem isinst_ok {x:V} {u t:Value} (I:Inv X pins σ H s) (L:RelV x u) (ty:TyOf X.K H x t) (e:PySem.W.kitOne X.K t c=some b) (h:∀ tk,Q (.bool b) { s with toks:=tk }) :
  wpAny (model X.prog X.w) A (call (.builtin "isinstance") [u,c]) Q E s:=by
 cases ty with
 | non=>cases (show u=Value.none from L);exact PySem.W.kia_one PySem.W.kitx_none I.kIn True.intro e (fun z=>nomatch z) h
 | bl y=>cases (show u=Value.bool y from L);exact PySem.W.kia_one PySem.W.kitx_bool I.kIn True.intro e (fun z=>nomatch z) h
 | int i=>obtain ⟨t,q⟩:=(show ∃ t,u=Value.int i t from L);cases q;exact PySem.W.kia_one PySem.W.kitx_int I.kIn True.intro e (fun z=>nomatch z) h
 | str y=>obtain ⟨t,q⟩:=(show ∃ t,u=Value.str y t from L);cases q;exact PySem.W.kia_one PySem.W.kitx_str I.kIn True.intro e (fun z=>nomatch z) h
 | flt y=>obtain ⟨t,q⟩:=(show ∃ t,u=Value.float y t from L);cases q;exact PySem.W.kia_one PySem.W.kitx_float I.kIn True.intro e (fun z=>nomatch z) h
 | @lst a xs ea=>
  cases (show u=Value.ref a from L)
  obtain ⟨_,_,n,_,h1⟩:=(show ObjOk X.prog X.w H s.heap a (.lst xs) from I.hok a _ ea)
  exact PySem.W.kia_one PySem.W.kitx_list I.kIn ⟨_,h1,rfl⟩ e (fun z=>nomatch z) h
 | @frz a ob xs ea=>
  cases (show u=Value.ref a from L)
  obtain ⟨_,_,_,n,_,h1⟩:=(show ObjOk X.prog X.w H s.heap a (.frz ob (.lst xs)) from I.hok a _ ea)
  exact PySem.W.kia_one PySem.W.kitx_list I.kIn ⟨_,h1,rfl⟩ e (fun z=>nomatch z) h
 | @tup a xs ea=>
  cases (show u=Value.ref a from L)
  obtain ⟨_,_,_,p⟩:=(show ObjOk X.prog X.w H s.heap a (.tup xs) from I.hok a _ ea)
  obtain ⟨o,h1,h2,_⟩:=p
  exact PySem.W.kia_one PySem.W.kitx_tuple I.kIn ⟨o,h1,h2⟩ e (fun z=>nomatch z) h
 | @dK a kvs ea=>
  cases (show u=Value.ref a from L)
  obtain ⟨_,_,vs,_,p⟩:=(show ObjOk X.prog X.w H s.heap a (.dK kvs) from I.hok a _ ea)
  obtain ⟨o,es,ep,h1,h2,_⟩:=p
  exact PySem.W.kia_one PySem.W.kitx_dict I.kIn ⟨o,h1,h2.1⟩ e (fun z=>nomatch z) h
 | @dT a kvs ea=>
  cases (show u=Value.ref a from L)
  obtain ⟨_,_,xs,_,o,es,ep,h1,h2,_⟩:=(show ObjOk X.prog X.w H s.heap a (.dT kvs) from I.hok a _ ea)
  exact PySem.W.kia_one PySem.W.kitx_dict I.kIn ⟨o,h1,h2.1⟩ e (fun z=>nomatch z) h
 | @ins a C dx fs ea cl ha hn htk hm=>
  cases (show u=Value.ref a from L)
  obtain ⟨mA,O,_⟩:=ZDi I.hok ea
  obtain ⟨U,J,_⟩:=O.look
  exact PySem.W.kia_one (PySem.W.kitx_own (cl.get _) cl.hd ha hn htk hm) I.kIn J e (fun z=>nomatch z) h
end
structure Room (k:Nat) (A:Around):Prop where
 hd:A.handled=none
 dp:A.depth+3 * k+5 < recursionLimit
 un:A.units+16 * k+200 < cLine
 gd:A.guards=some []
theorem Room.mono {j k:Nat} {A:Around} (r:Room k A) (h:j <= k):Room j A:=⟨r.hd,by have:=r.dp;omega,by have:=r.un;omega,r.gd⟩
theorem Room.deeper {k:Nat} {A:Around} (r:Room (k+1) A) (env:Env):Room k (A.deeper env) :=
 ⟨r.hd,by have:=r.dp;show A.depth+1+3 * k+5 < _;omega,by have:=r.un;show A.units+3+16 * k+200 < _;omega,r.gd⟩
theorem make_depth {A:Around} {C:Addr} {us:List Value} {z:List (Str×Value)}:(A.under (.builtin "type.__call__" ⟨.ref C::us,z⟩)).depth=A.depth+1:=by
 first | rfl | simp [Around.under,Code.weight,Code.isCreation,Code.isGuard,Code.isCaller,Code.frames,Code.isFrame,guardIds]
theorem make_units {A:Around} {C:Addr} {us:List Value} {z:List (Str×Value)}:(A.under (.builtin "type.__call__" ⟨.ref C::us,z⟩)).units=A.units+1:=by
 first | rfl | simp [Around.under,Code.cUnits,Code.frames,Code.isFrame]
theorem Room.make {k:Nat} {A:Around} (r:Room (k+1) A) (C:Addr) (us:List Value) (z:List (Str×Value)):Room k (A.under (.builtin "type.__call__" ⟨.ref C::us,z⟩)) :=
 ⟨r.hd,by have:=r.dp;rw [make_depth];omega,by have:=r.un;rw [make_units];omega,by have:=r.gd;first | exact this | simp [Around.under,Code.guards,Code.isGuard,guardIds,this]⟩
theorem Room.depth {k:Nat} {A:Around} (r:Room k A):A.depth < recursionLimit:=by have:=r.dp;omega
theorem Room.units {k:Nat} {A:Around} (r:Room k A):A.units+64 < cLine:=by have:=r.un;omega
noncomputable def tNil:TA:=fun _ H Q=>Q [] H
noncomputable def ZBx (ta:TE) (tr:TA):TA:=fun σ H Q=>ta σ H fun x H1=>tr σ H1 fun xs H2=>Q (x::xs) H2
section
variable {X:Cx} {e:Expr} {es:List Expr} {te:TE} {t:TA} {pos:Pos}
theorem ZAE:PA X [] tNil:=fun _ _ _ _ H Q I h=>Calls.spliced_nil ⟨[],H,I,.nil,h⟩
theorem ZAA (ha:PE X e te) (J:PA X es t) (O:starEach (e::es) X.env=(false,eval e X.env)::starEach es X.env:=by rfl):PA X (e::es) (ZBx te t):=by
 intro pos pins s σ H Q I h
 rw [O]
 show wpAny _ _ (spliced ((false,eval e X.env)::backTo pos (starEach es X.env))) _ _ s
 refine Calls.spliced_cons (thn (ha pins s σ H _ I h) fun u s1 z=>?_)
 obtain ⟨x,H1,I1,Z,q1⟩:=z
 exact thn (J pos pins s1 σ H1 _ I1 q1) fun us s2 ⟨xs,H2,Y,U,L⟩=>⟨x::xs,H2,Y,.cons Z U,L⟩
noncomputable def tTup (t:TA):TE:=fun σ H Q=>t σ H fun xs H1=>xs.length <= sizeLine /\ ∀ p,H1 p=none->Q (.ref p) (upd H1 p (.tup xs))
noncomputable def tLst (t:TA):TE:=fun σ H Q=>t σ H fun xs H1=>xs.length <= sizeLine /\ ∀ p,H1 p=none->Q (.ref p) (upd H1 p (.lst xs))
theorem ZA1 {x1} (h:PA X es t):PE X (.Tuple es x1 pos) (tTup t):=by
 intro pins s σ H Q I L
 refine wpAny_Tuple_spliced (thn (h pos pins s σ H _ I L) fun us s1 ⟨xs,H1,J,r,z,q⟩=>⟨by rw [<- r.length];exact z,?_⟩)
 have O:H1 s1.heap.objs.size=none:=J.hok.fresh (yAA _)
 refine ⟨.ref s1.heap.objs.size,upd H1 s1.heap.objs.size (.tup xs),J.laid (t':=s1.toks) (fun b u e=>Heap.get?_push_of_some _ e) (yAA _) ?_,rfl,q _ O⟩
 exact ⟨z,us,r,⟨_,Heap.get?_push_size _ rfl,rfl,_,rfl⟩⟩
theorem ZBv (h:PA X es t):PE X (.List es pos) (tLst t):=by
 intro pins s σ H Q I L
 refine wpAny_List_spliced (thn (h pos pins s σ H _ I L) fun us s1 ⟨xs,H1,J,r,z,q⟩=>⟨by rw [<- r.length];exact z,?_⟩)
 have O:H1 s1.heap.objs.size=none:=J.hok.fresh (yAA _)
 refine ⟨.ref s1.heap.objs.size,upd H1 s1.heap.objs.size (.lst xs),J.laid (t':=s1.toks) (fun b u e=>Heap.get?_push_of_some _ e) (yAA _) ?_,rfl,q _ O⟩
 exact ⟨z,us,0,r,Heap.get?_push_size _ rfl⟩
end
noncomputable abbrev Sp:=List V->Hp->VK->XK->Prop
noncomputable abbrev CXT:=List Env->Hp->Shared->XK->Value->Shared->Prop
structure Env0 (P:Program) (w:World) (K:W.Frag) (mg:Str->Option Value) (base:Heap) (A:Around) (outer:List Env) (s:Shared) (H:Hp):Prop where
 frames:A.frames=some outer
 mod:Mod K mg base
 bs:∀ b o,base.get? b=some o->s.heap.get? b=some o /\ H b=none
 bsz:base.objs.size <= s.heap.objs.size
 funs:s.heap.FunFrames base outer
 frf:∀ b∈frs outer,H b=none
 hok:HOk P w H s.heap
 bare:AllBare s.gens
noncomputable def CE (outer:List Env) (P:Program) (w:World) (H:Hp) (s:Shared) (Q:VK) (u:Value) (s':Shared):Prop :=
 ∃ v H',s'.os=s.os /\ AllBare s'.gens /\ Un (frs outer) [] H H' s.heap s'.heap /\ HOk P w H' s'.heap /\ RelV v u /\ Q v H'
noncomputable def CR (CX:CXT) (outer:List Env) (P:Program) (w:World) (H:Hp) (s:Shared) (Q:VK) (E:XK) (r:Result) (s':Shared):Prop :=
 match r with
 | .ok (.ret u)=>CE outer P w H s Q u s'
 | .ok _=>False
 | .error e=>CX outer H s E e s'
structure FnOk (P:Program) (w:World) (K:W.Frag) (mg:Str->Option Value) (base:Heap) (CX:CXT) (k:Nat) (f:Addr) (fd:FuncData) (ps:List Str) (sp:Sp):Prop where
 len:∀ vs H Q E,sp vs H Q E->vs.length=ps.length
 run:∀ (A:Around) (outer:List Env) (s:Shared) (H:Hp) (args:Args) (us:List Value) (vs:List V) (Q:VK) (E:XK),Room k A->Env0 P w K mg base A outer s H->BindsTo s fd args (ps.zip us)->Vals vs us->sp vs H Q E ->
  codeAny (model P w) A (.call (.ref f) args) (CR CX outer P w H s Q E) s
theorem Env0.make {P:Program} {w:World} {K:W.Frag} {mg:Str->Option Value} {base:Heap} {A:Around} {outer:List Env} {s:Shared} {H:Hp} (e:Env0 P w K mg base A outer s H) (C:Addr) (us:List Value) (z:List (Str×Value)) :
  Env0 P w K mg base (A.under (.builtin "type.__call__" ⟨.ref C::us,z⟩)) outer s H:=⟨by first | exact e.frames | (simpa [Around.under,Code.envs,Code.isFrame,pushEnvs] using e.frames),e.mod,e.bs,e.bsz,e.funs,e.frf,e.hok,e.bare⟩
section
variable {X:Cx} {pins:List (Addr×Obj)} {σ:St} {H:Hp} {s s':Shared}
theorem Inv.env0 (I:Inv X pins σ H s):Env0 X.prog X.w X.K X.mg X.base X.A X.stack s H :=
 ⟨I.ok.frames,I.ok.mod,I.bs,yAF I.ok.bsz I.sz,I.stack,I.stkFree,I.hok,I.bare⟩
theorem Inv.after {Q:VK} {u:Value} (I:Inv X pins σ H s) (h:CE X.stack X.prog X.w H s Q u s'):EP X pins σ Q u s':=by
 obtain ⟨v,H',os,J,un,L,r,q⟩:=h
 obtain ⟨hh,g,d,t,os'⟩:=s'
 obtain rfl:os'=s.os:=os
 exact ⟨v,H',I.call (h':=hh) (g':=g) (d':=d) (t':=t) (ch:=[]) un L J (fun b z=>absurd z (by simp)),r,q⟩
end
noncomputable def ZE4 (sp:Sp) (dvs:List V) (E:XK) (t:TA):TE:=fun σ H Q=>t σ H fun vs H1=>sp (vs++dvs) H1 Q E
noncomputable def ZEX (C:Addr) (m:Str) (sp:Sp) (dvs:List V) (E:XK) (ta:TE) (t:TA):TE:=fun σ H Q=>ta σ H fun x H1=>∃ a dx fs,x=.ref a /\ H1 a=some (.ins C dx fs) /\ fs.lookup m=none /\
 t σ H1 fun vs H2=>sp (x::(vs++dvs)) H2 Q E
noncomputable def ZEg (C:Addr) (sp:Sp) (dvs:List V) (E:XK) (t:TA):TE:=fun σ H Q=>t σ H fun vs H1=>∀ x dx,H1 x=none->H1 dx=none->dx≠x ->
 sp (.ref x::(vs++dvs)) (upd (upd H1 dx (.own x)) x (.ins C dx [])) (fun v H2=>v=.non /\ Q (.ref x) H2) E
noncomputable def Binds (K:W.Frag) (fd:FuncData) (ps:List Str) (ds:List Value):Prop :=
 ∀ (s:Shared) (us:List Value),K.In s.heap->(us++ds).length=ps.length->BindsTo s fd ⟨us,[]⟩ (ps.zip (us++ds))
theorem Binds.all {K:W.Frag} {fd:FuncData} {ps:List Str} (h:∀ us:List Value,us.length=ps.length->bindArgs fd ⟨us,[]⟩=pure (ps.zip us)):Binds K fd ps []:=fun s us _ hl=>by
 rw [yBD] at hl ⊢
 exact .of_eq (h us hl)
noncomputable def ZBh (CX:CXT) (X:Cx) (E:XK):Prop:=∀ (pins:List (Addr×Obj)) (σ:St) (H:Hp) (s:Shared) (e:Value) (s':Shared),Inv X pins σ H s->CX X.stack H s E e s'->X.xe e s'
section
variable {X:Cx} {CX:CXT} {k:Nat} {f C:Addr} {fd:FuncData} {ps:List Str} {sp:Sp} {dvs:List V} {ds:List Value} {E:XK} {x m:Str} {p pos apos:Pos} {e o:Expr} {es:List Expr} {ta:TE} {t:TA}
theorem ZEq {pins:List (Addr×Obj)} {σ:St} {H:Hp} {s:Shared} {Q:VK} {us:List Value} {vs:List V} (F:FnOk X.prog X.w X.K X.mg X.base CX k f fd ps sp) (L:Room k X.A) (O:Binds X.K fd ps ds) (U:Vals dvs ds) (hx:ZBh CX X E)
  (I:Inv X pins σ H s) (r:Vals vs us) (h:sp (vs++dvs) H Q E):wpAny (model X.prog X.w) X.A (call (.ref f) us) (EP X pins σ Q) X.xe s:=by
 have J:Vals (vs++dvs) (us++ds):=r.append U
 have hl:(us++ds).length=ps.length:=by rw [<- J.length];exact F.len _ _ _ _ h
 refine wpAny_call (codeAny_mono (F.run X.A X.stack s H ⟨us,[]⟩ (us++ds) (vs++dvs) Q E L I.env0 (O s us I.kIn hl) J h) fun r s' z=>?_)
 cases r with
 | error e=>exact hx pins σ H s e s' I z
 | ok fl=>
  cases fl with
  | ret u=>exact I.after z
  | next=>exact False.elim z
  | brk=>exact False.elim z
  | cont=>exact False.elim z
theorem pe_call (F:FnOk X.prog X.w X.K X.mg X.base CX k f fd ps sp) (O:Room k X.A) (hg:Gl X x) (hm:X.mg x=some (.ref f)) (Z:W.keepIn X.K (.ref f)=true) (Y:Binds X.K fd ps ds) (hd:Vals dvs ds) (hx:ZBh CX X E)
  (ha:PA X (e::es) t) (J:(x == ("__debug__":Str))=false:=by decide) (U:starEach (e::es) X.env=(false,eval e X.env)::starEach es X.env:=by rfl) (z:(backTo pos (starEach es X.env)).any (·.1)=false:=by rfl) :
  PE X (.Call (.Name x p) (e::es) [] pos) (ZE4 sp dvs E t):=by
 intro pins s σ H Q I h
 refine wpAny_Call_Name_kw (ZCP I hg hm ?_ J)
 refine PySem.W.callWith_K (h₀:=X.base) I.ok.mod.kin Z (thn (ha pos pins s σ H _ I h) fun us s1 ⟨vs,H1,L,r,q⟩=>⟨L.kIn,?_⟩) U z
 exact ZEq F O Y hd hx L r q
theorem pe_meth {pl:Sem Bool} (he:PE X o ta) (c:Cls X.K C) (hm:Meth X.K C m f) (F:FnOk X.prog X.w X.K X.mg X.base CX k f fd ps sp) (Z:Room k X.A) (hb:Binds X.K fd ps ds) (hd:Vals dvs ds) (hx:ZBh CX X E) (ha:PA X (e::es) t)
  (z:starEach (e::es) X.env=(false,eval e X.env)::starEach es X.env:=by rfl) (J:(backTo pos (starEach es X.env)).any (·.1)=false:=by rfl)
  (U:eval (.Call (.Attribute o m apos) (e::es) [] pos) X.env=(do
   let ov <- eval o X.env
   standAt apos.atName
   let (f,first) <- holding [ov] (getMethod ov m pl)
   callWith pos f first (backTo pos (starEach (e::es) X.env)) (backToKw pos (keywordEach [] X.env))):=by rfl) :
  PE X (.Call (.Attribute o m apos) (e::es) [] pos) (ZEX C m sp dvs E ta t):=by
 intro pins s σ H Q I h
 refine PySem.W.methodCall_KW (pl:=pl) (thn (he pins s σ H _ I h) fun u s1 Y=>?_) U
 obtain ⟨x,H1,O,rx,a,dx,fs,ex,ea,l,q⟩:=Y
 subst ex
 obtain rfl:u=Value.ref a:=rx
 refine getmeth_ok O ea c hm l ?_
 refine PySem.W.callWith_K (first:=[.ref a]) (h₀:=X.base) I.ok.mod.kin hm.kp (thn (ha pos pins s1 σ H1 _ O q) fun us s2 ⟨vs,H2,L,r,q2⟩=>⟨L.kIn,?_⟩) z J
 exact ZEq (us:=.ref a::us) (vs:=.ref a::vs) F Z hb hd hx L (.cons rfl r) q2
theorem pe_meth0 {pl:Sem Bool} (U:PE X o ta) (c:Cls X.K C) (hm:Meth X.K C m f) (F:FnOk X.prog X.w X.K X.mg X.base CX k f fd ps sp) (O:Room k X.A) (Y:Binds X.K fd ps ds) (Z:Vals dvs ds) (hx:ZBh CX X E)
  (J:eval (.Call (.Attribute o m apos) [] [] pos) X.env=(do
   let ov <- eval o X.env
   standAt apos.atName
   let (f,first) <- holding [ov] (getMethod ov m pl)
   callWith pos f first (backTo pos (starEach [] X.env)) (backToKw pos (keywordEach [] X.env))):=by rfl) :
  PE X (.Call (.Attribute o m apos) [] [] pos) (ZEX C m sp dvs E ta tNil):=by
 intro pins s σ H Q I h
 refine PySem.W.methodCall_KW (pl:=pl) (thn (U pins s σ H _ I h) fun u s1 L=>?_) J
 obtain ⟨x,H1,z,rx,a,dx,fs,ex,ea,l,q⟩:=L
 subst ex
 obtain rfl:u=Value.ref a:=rx
 refine getmeth_ok z ea c hm l ?_
 exact PySem.W.callWith_K0 (first:=[.ref a]) z.kIn hm.kp (ZEq (us:=[.ref a]) (vs:=[.ref a]) F O Y Z hx z (.cons rfl .nil) q)
structure Mk (K:W.Frag) (C f:Addr):Prop where
 makes:PySem.W.makesIn K C=true
 init:W.findIn K (.ref C) "__init__"=some (some (.ref f))
 fn:PySem.W.isFn K (.ref f)=true
 kp:W.keepIn K (.ref C)=true
theorem run_make {pins:List (Addr×Obj)} {σ:St} {H:Hp} {s:Shared} {Q:VK} {us:List Value} {vs:List V} (M:Mk X.K C f) (F:FnOk X.prog X.w X.K X.mg X.base CX k f fd ps sp) (U:Room (k+1) X.A) (Y:Binds X.K fd ps ds) (Z:Vals dvs ds)
  (hx:ZBh CX X E) (I:Inv X pins σ H s) (r:Vals vs us)
  (h:∀ x dx,H x=none->H dx=none->dx≠x->sp (.ref x::(vs++dvs)) (upd (upd H dx (.own x)) x (.ins C dx [])) (fun v H2=>v=.non /\ Q (.ref x) H2) E) :
  wpAny (model X.prog X.w) X.A (call (.ref C) us) (EP X pins σ Q) X.xe s:=by
 have L:=h (s.heap.objs.size+1) s.heap.objs.size (I.hok.fresh (yAY _)) (I.hok.fresh (yAA _)) (yAE (yBQ _))
 have J:=Inv.made (C:=C) I
 have O:Vals (V.ref (s.heap.objs.size+1)::(vs++dvs)) (Value.ref (s.heap.objs.size+1)::(us++ds)):=.cons rfl (r.append Z)
 have hl:(Value.ref (s.heap.objs.size+1)::us++ds).length=ps.length:=by
  have e:=O.length
  rw [F.len _ _ _ _ L] at e
  exact e.symm
 refine wpAny_call (make_map (f:=f) I.kIn M.makes M.init (beq_iff_eq.mp M.fn) (codeAny_mono (F.run _ X.stack _ _ ⟨Value.ref (s.heap.objs.size+1)::us,[]⟩ (Value.ref (s.heap.objs.size+1)::(us++ds)) _ _ E (U.make C us [])
  (J.env0.make C us []) (Y _ (Value.ref (s.heap.objs.size+1)::us) J.kIn hl) O L) fun r s' z=>?_))
 cases r with
 | error e=>exact hx pins σ _ _ e s' J z
 | ok fl=>
  cases fl with
  | ret u=>
   obtain ⟨v,H',I3,rv,ev,q3⟩:=J.after z
   subst ev
   exact ⟨rv,⟨V.ref (s.heap.objs.size+1),H',I3,rfl,q3⟩⟩
  | next=>exact False.elim z
  | brk=>exact False.elim z
  | cont=>exact False.elim z
theorem pe_make (M:Mk X.K C f) (F:FnOk X.prog X.w X.K X.mg X.base CX k f fd ps sp) (O:Room (k+1) X.A) (hg:Gl X x) (hm:X.mg x=some (.ref C)) (Y:Binds X.K fd ps ds) (Z:Vals dvs ds) (hx:ZBh CX X E)
  (ha:PA X (e::es) t) (J:(x == ("__debug__":Str))=false:=by decide) (U:starEach (e::es) X.env=(false,eval e X.env)::starEach es X.env:=by rfl) (z:(backTo pos (starEach es X.env)).any (·.1)=false:=by rfl) :
  PE X (.Call (.Name x p) (e::es) [] pos) (ZEg C sp dvs E t):=by
 intro pins s σ H Q I h
 refine wpAny_Call_Name_kw (ZCP I hg hm ?_ J)
 refine PySem.W.callWith_K (h₀:=X.base) I.ok.mod.kin M.kp (thn (ha pos pins s σ H _ I h) fun us s1 ⟨vs,H1,L,r,q⟩=>⟨L.kIn,?_⟩) U z
 exact run_make M F O Y Z hx L r q
end
noncomputable def PK (X:Cx) (kws:List Keyword) (t:TA):Prop :=
 ∀ (pos:Pos) (pins:List (Addr×Obj)) (s:Shared) (σ:St) (H:Hp) (Q:List V->Hp->Prop),Inv X pins σ H s->t σ H Q->wpAny (model X.prog X.w) X.A (evalAll ((backToKw pos (keywordEach kws X.env)).map (·.2))) (AP X pins σ Q) X.xe s
section
variable {X:Cx} {CX:CXT} {k:Nat} {f C:Addr} {fd:FuncData} {ps ks:List Str} {sp:Sp} {E:XK} {x m:Str} {p pos apos kpos:Pos} {e o:Expr} {es:List Expr} {kws:List Keyword} {te ta:TE} {t tk:TA} {nm:Option Str}
theorem pk_nil:PK X [] tNil:=fun _ _ _ _ H Q I h=>wpAny_evalAll_nil ⟨[],H,I,.nil,h⟩
theorem pk_cons (ha:PE X e te) (z:PK X kws t):PK X (⟨nm,e,kpos⟩::kws) (ZBx te t):=by
 intro pos pins s σ H Q I h
 show wpAny _ _ (evalAll ((do let v <- eval e X.env;standAt pos;pure v)::(backToKw pos (keywordEach kws X.env)).map (·.2))) _ _ s
 refine wpAny_evalAll_cons (wpAny_bind (thn (ha pins s σ H _ I h) fun u s1 ⟨x,H1,Z,U,Y⟩=>wpAny_bind (wpAny_standAt (wpAny_pure ?_))))
 exact thn (z pos pins s1 σ H1 _ Z Y) fun us s2 ⟨xs,H2,O,L,J⟩=>⟨x::xs,H2,O,.cons U L,J⟩
variable {g:List Value->List Value->List Value} {gV:List V->List V->List V}
end
structure FnScope (N P:List Str) (sc:Scope):Prop where
 kind:sc.kind=.function
 co:sc.isCoroutine=false
 gen:sc.isGenerator=false
 nd:N.Nodup
 pre:N.take P.length=P
 par:∀ x∈P,sc.names.lookup x=some .local∨sc.names.lookup x=some .cell
 nofree:∀ y∈sc.names,y.2≠.free
theorem bindL_out {z:Str->Option NameKind} {x:Str}:∀ {binds:List (Str×Value)} {m:Str->Option Value},(∀ v,(x,v)∉binds)->bindL z binds m x=m x
 | [],_,_=>rfl
 | (n,v)::r,m,h=>by
  unfold bindL
  rw [bindL_out fun w hw=>h w (yAL _ hw)]
  split
  .have:x≠n:=by rintro rfl;exact h v yAJ
   simp [this]
  .rfl
theorem bindC_out {z:Str->Option NameKind} {x:Str}:∀ {binds:List (Str×Value)} {m:Str->Option Value},(∀ v,(x,v)∉binds)->bindC z binds m x=m x
 | [],_,_=>rfl
 | (n,v)::r,m,h=>by
  unfold bindC
  rw [bindC_out fun w hw=>h w (yAL _ hw)]
  split
  .rfl
  .have:x≠n:=by rintro rfl;exact h v yAJ
   simp [this]
theorem bindL_get {z:Str->Option NameKind} {x:Str} {v:Value}:∀ {P:List Str} {vs:List Value} {i:Nat} {m:Str->Option Value},P.Nodup->P[i]?=some x->vs[i]?=some v->z x=some .local ->
  bindL z (P.zip vs) m x=some v
 | [],_,_,_,_,h,_,_=>by simp at h
 | _::_,[],_,_,_,_,h,_=>by simp at h
 | p::P,w::vs,0,m,nd,h1,h2,hk=>by
  simp at h1 h2;subst h1;subst h2
  show bindL z ((p,w)::P.zip vs) m p=_
  unfold bindL
  rw [bindL_out fun v J=>(List.nodup_cons.mp nd).1 (List.of_mem_zip J).1,if_pos hk]
  simp
 | p::P,w::vs,i+1,m,nd,h1,h2,hk=>by
  show bindL z ((p,w)::P.zip vs) m x=_
  unfold bindL
  exact bindL_get (i:=i) (List.nodup_cons.mp nd).2 (by simpa using h1) (by simpa using h2) hk
theorem bindC_get {z:Str->Option NameKind} {x:Str} {v:Value}:∀ {P:List Str} {vs:List Value} {i:Nat} {m:Str->Option Value},P.Nodup->P[i]?=some x->vs[i]?=some v->z x≠some .local ->
  bindC z (P.zip vs) m x=some v
 | [],_,_,_,_,h,_,_=>by simp at h
 | _::_,[],_,_,_,_,h,_=>by simp at h
 | p::P,w::vs,0,m,nd,h1,h2,hk=>by
  simp at h1 h2;subst h1;subst h2
  show bindC z ((p,w)::P.zip vs) m p=_
  unfold bindC
  rw [bindC_out fun v J=>(List.nodup_cons.mp nd).1 (List.of_mem_zip J).1,if_neg hk]
  simp
 | p::P,w::vs,i+1,m,nd,h1,h2,hk=>by
  show bindC z ((p,w)::P.zip vs) m x=_
  unfold bindC
  exact bindC_get (i:=i) (List.nodup_cons.mp nd).2 (by simpa using h1) (by simpa using h2) hk
noncomputable def start (N:List Str) (vs:List V):St:=vs.map some++List.replicate (N.length-vs.length) none
noncomputable def cxOf (CX:CXT) (P:Program) (w:World) (K:W.Frag) (mg:Str->Option Value) (base:Heap) (N:List Str) (qual:Str) (scope:Scope) (f:Addr) (cd:Value) (A:Around) (outer:List Env) (s:Shared) (H:Hp) (E:XK):Cx where
 prog:=P
 w:=w
 K:=K
 mg:=mg
 base:=base
 A:=A.deeper (envOfC qual scope s.heap.objs.size f cd)
 N:=N
 s₀:=s
 H₀:=H
 env:=envOfC qual scope s.heap.objs.size f cd
 outer:=outer
 stack:=envOfC qual scope s.heap.objs.size f cd::outer
 ex:=[]
 calm:=true
 fn:=fun _=>true
 pn:=[]
 xe:=fun e s'=>wpAny (model P w) (A.deeper (envOfC qual scope s.heap.objs.size f cd)) (leaving (envOfC qual scope s.heap.objs.size f cd) e) (fun _ s''=>CX outer H s E e s'') (fun e' s''=>CX outer H s E e' s'') s'
theorem ZCw {sc:Scope} {n:Nat} {x:Str} (h:sc.names.lookup x=some .cell):∃ c,(cellsFrom n sc.names []).lookup x=some c:=by
 have q:=PySem.W.cellsFrom_some sc.names n [] (.inl h)
 exact Option.isSome_iff_exists.mp q
theorem inv_start {CX:CXT} {P:Program} {w:World} {K:W.Frag} {mg:Str->Option Value} {base:Heap} {N ps:List Str} {qual:Str} {scope:Scope} {f:Addr} {cd:Value} {A:Around} {outer:List Env} {s s1:Shared} {H:Hp} {E:XK} {us:List Value} {vs:List V}
  (S:FnScope N ps scope) (hd:A.handled=none) (J:Env0 P w K mg base A outer s H) (hl:vs.length=ps.length) (r:Vals vs us)
  (x:InCallC s s.heap.objs.size (bindL (envOfC qual scope s.heap.objs.size f cd).kindOf (ps.zip us) fun _=>none) (cellsFrom (s.heap.objs.size+1) scope.names []) (bindC (envOfC qual scope s.heap.objs.size f cd).kindOf (ps.zip us) fun _=>none) s1) :
  Inv (cxOf CX P w K mg base N qual scope f cd A outer s H E) [] (start N vs) H s1:=by
 have a0:ps.length <= N.length:=by have:=congrArg List.length S.pre;rw [yAS] at this;omega
 obtain ⟨h1,tk,rfl,Z⟩:=x.done
 have O:∀ b:Addr,b∉(cxOf CX P w K mg base N qual scope f cd A outer s H E).ex:=fun b z=>absurd (show b∈([]:List Addr) from z) (by simp)
 refine ⟨⟨J.mod,S.kind,rfl,rfl,yAA _,fun y z c h1 h2=>?_,fun y L=>?_,fun y c _ h=>?_,fun _=>hd,Around.frames_deeper J.frames,.inr ⟨rfl,rfl⟩,fun b z=>absurd z (O b),J.bs,J.bsz,fun b _ _=>O b,fun b z=>absurd z (O b),J.funs,J.frf⟩,
  rfl,J.bare,Un.kept Z,⟨_,x.toInCall.ns,fun i y v h1 h2 h3=>?_⟩,fun y c h=>⟨_,x.cell y c h⟩,J.hok.fresh (yAA _),fun y c h=>?_,fun p U=>absurd (show p∈([]:List (Addr×Obj)) from U) (by simp),J.hok.kept Z,?_⟩
 .exact name_of_addr x.apart (PySem.mem_of_lookup h1) (PySem.mem_of_lookup h2)
 .have L:scope.names.lookup y=some .cell∨scope.names.lookup y=some .free:=L
  rcases L with L | L
  .exact ZCw L
  .exact absurd rfl (S.nofree _ (PySem.mem_of_lookup L))
 .exact yBP (x.above y c (PySem.mem_of_lookup h))
 .have hi:i < vs.length:=by
   unfold start at h2
   by_cases hi:i < vs.length
   .exact hi
   .rw [yAX (by simpa using hi)] at h2
    rw [List.getElem?_replicate] at h2
    split at h2 <;> cases h2
  have ha:vs[i]?=some v:=by
   unfold start at h2
   rw [yAZ (by simpa using hi),yAT] at h2
   cases e:vs[i]? with
   | none=>rw [e] at h2;cases h2
   | some a=>rw [e] at h2;cases h2;rfl
  obtain ⟨u,hu,rv⟩:=r.get ha
  have U:ps[i]?=some y:=by
   rw [<- S.pre,yBY (by omega)];exact h1
  have Y:ps.Nodup:=by rw [<- S.pre];exact S.nd.sublist (List.take_sublist _ _)
  refine ⟨u,rv,?_⟩
  rcases S.par y (yAO U) with k | k
  .exact .inl ⟨k,bindL_get Y U hu k⟩
  .obtain ⟨c,e⟩:=ZCw (n:=s.heap.objs.size+1) k
   refine .inr ⟨.inl k,c,e,?_⟩
   have q:=x.cell y c e
   rw [bindC_get Y U hu (by show scope.names.lookup y≠_;rw [k];decide)] at q
   exact q
 .exact J.hok.fresh (yBP (x.above y c (PySem.mem_of_lookup h)))
 .unfold start
  show _=N.length
  rw [yAC,yAB,yCC]
  omega
theorem ZFO {CX:CXT} {P:Program} {w:World} {K:W.Frag} {mg:Str->Option Value} {base:Heap} {k:Nat} {f:Addr} {name qual:Str} {L:Arguments} {body:List Stmt} {scope:Scope} {dV kV a2 pm z ct oc:Value} {an od:Option Addr}
  {a4:Array (Option Value)} {N ps:List Str} {sp:Sp} (lk:K.lookup f=some ⟨oc,od,.func (W.fnOf name qual L body scope dV kV a2 pm an z ct),a4⟩) (a5:W.codeIn K z qual=true) (S:FnScope N ps scope)
  (len:∀ vs H Q E,sp vs H Q E->vs.length=ps.length)
  (U:∀ (A:Around) (outer:List Env) (s:Shared) (H:Hp) (vs:List V) (Q:VK) (E:XK),Room k (A.deeper (envOfC qual scope s.heap.objs.size f z))->sp vs H Q E ->
   ∃ t,PSs (cxOf CX P w K mg base N qual scope f z A outer s H E) body t /\ t { nx:=fun _ H'=>Q .non H',rt:=Q } (start N vs) H) :
  FnOk P w K mg base CX (k+1) f (W.fnOf name qual L body scope dV kV a2 pm an z ct) ps sp:=by
 refine ⟨len,fun A outer s H args us vs Q E hr e0 hb r a1=>?_⟩
 have hl:=len _ _ _ _ a1
 have KX:K.In s.heap:=e0.mod.kin.keeps fun b o e=>(e0.bs b o e).1
 have a3:s.heap.NoLimit:=e0.mod.nolimit.keeps fun b o e=>(e0.bs b o e).1
 have Y:∀ y∈ps.zip us,scope.names.lookup y.1=some .local∨(scope.names.lookup y.1=some .cell /\ ((cellsFrom (s.heap.objs.size+1) scope.names []).lookup y.1).isSome=true):=fun ⟨n,v⟩ hy=>by
  rcases S.par n (List.of_mem_zip hy).1 with q | q
  .exact .inl q
  .exact .inr ⟨q,PySem.W.cellsFrom_some _ _ _ (.inl q)⟩
 refine codeAny_call_function hr.depth (KX _ _ lk) rfl S.co S.gen rfl (PySem.W.codeRec_of KX a5) (hb _ _ _ _ ?_)
 refine wpAny_newFunctionEnv_cells S.kind Y fun env he s1 x=>?_
 subst he
 refine ⟨a3.keeps x.toInCall.keep,codeAny_func ?_⟩
 obtain ⟨t,ht,hq⟩:=U A outer s H vs Q E (hr.deeper _) a1
 have I:Inv (cxOf CX P w K mg base N qual scope f z A outer s H E) [] (start N vs) H s1:=inv_start S hr.hd e0 hl r x
 refine wpAny_mono (ht [] s1 (start N vs) H _ I hq) (fun fl s' Z=>?_) fun e s' Z=>Z
 have a0:∀ {O:St} {H':Hp} {v:V} {u:Value},Inv (cxOf CX P w K mg base N qual scope f z A outer s H E) [] O H' s'->RelV v u->Q v H'->CE outer P w H s Q u s' :=
  fun {O H' v u} J rv q=>⟨v,H',J.os,J.bare,J.base,J.hok,rv,q⟩
 cases fl with
 | ret u=>
  obtain ⟨v,O,H',J,rv,q⟩:=Z
  exact a0 J rv q
 | next=>
  obtain ⟨O,H',J,q⟩:=Z
  exact a0 (v:=V.non) (u:=Value.none) J rfl q
 | brk=>
  obtain ⟨_,_,_,q⟩:=Z
  exact False.elim q
 | cont=>
  obtain ⟨_,_,_,q⟩:=Z
  exact False.elim q
section
variable {X:Cx} {x:Str} {p pos:Pos} {e:Expr} {es:List Expr} {t:TA} {id T:String} {r:List V->Hp->VK->Prop}
noncomputable def tCB (r:List V->Hp->VK->Prop) (t:TA):TE:=fun σ H Q=>t σ H fun vs H1=>r vs H1 Q
theorem ZAI (hc:ZBd X (.builtin id) r) (hg:Gl X x) (hm:X.mg x=none) (Z:bootBuiltins x=some (.builtin id)) (ha:PA X (e::es) t) (hn:x≠"__name__":=by decide) (J:(x == ("__debug__":Str))=false:=by decide)
  (L:starEach (e::es) X.env=(false,eval e X.env)::starEach es X.env:=by rfl) (z:(backTo pos (starEach es X.env)).any (·.1)=false:=by rfl):PE X (.Call (.Name x p) (e::es) [] pos) (tCB r t):=by
 intro pins s σ H Q I h
 refine wpAny_Call_Name_kw (ZCJ I hg hm Z ?_ hn J)
 exact PyProof.Rows.callWith_builtin1 (thn (ha pos pins s σ H _ I h) fun us s1 ⟨vs,H1,U,O,Y⟩=>hc pins s1 σ H1 vs us Q U O Y) L z
theorem ZBJ (hc:ZBd X (.type T) r) (hg:Gl X x) (hm:X.mg x=none) (Z:bootBuiltins x=some (.type T)) (ha:PA X (e::es) t) (hn:x≠"__name__":=by decide) (J:(x == ("__debug__":Str))=false:=by decide)
  (L:starEach (e::es) X.env=(false,eval e X.env)::starEach es X.env:=by rfl) (z:(backTo pos (starEach es X.env)).any (·.1)=false:=by rfl):PE X (.Call (.Name x p) (e::es) [] pos) (tCB r t):=by
 intro pins s σ H Q I h
 refine wpAny_Call_Name_kw (ZCJ I hg hm Z ?_ hn J)
 exact PyProof.Rows.callWith_type1 (thn (ha pos pins s σ H _ I h) fun us s1 ⟨vs,H1,U,O,Y⟩=>hc pins s1 σ H1 vs us Q U O Y) L z
end
end L2
namespace HT
open PySem PyProof.Rows
noncomputable def lexLt:List Int->List Int->Bool
 | [],[]=>false
 | [],_::_=>true
 | _::_,[]=>false
 | x::xs,y::ys=>if x=y then lexLt xs ys else decide (x < y)
theorem lexLt_cons (x y:Int) (xs ys:List Int):lexLt (x::xs) (y::ys)=if x=y then lexLt xs ys else decide (x < y):=rfl
theorem lexLt_nil_nil:lexLt [] []=false:=rfl
theorem lexLt_nil_cons (y:Int) (ys:List Int):lexLt [] (y::ys)=true:=rfl
theorem lexLt_cons_nil (x:Int) (xs:List Int):lexLt (x::xs) []=false:=rfl
theorem eqAt_int (A:Around) (s:Shared) (a:Int) (t:Tok) (c:Int) (u:Tok):∃ e,SeqAt.EqAt A s (.int a t) (.int c u) e /\ (e=true↔a=c) :=
 ⟨(a == c),SeqAt.EqAt.int_int a t c u,by simp⟩
section
open PySem.SeqAt
open PySem.AutoSeq1 (wpAny_loadPart')
open PySem.MeetsSeq PySem.MeetsSeq2 PySem.MeetsSeq3
end
section
variable {prog:Program} {w:World} {A:Around} {E:Value->Shared->Prop} {s:Shared}
noncomputable def sIx (n d:Nat):Option Int->Nat
 | none=>d
 | some v=>if v < 0 then (v+(n:Int)).toNat else min v.toNat n
theorem sIx_none (n d:Nat):sIx n d none=d:=rfl
theorem sIx_nat (n d k:Nat):sIx n d (some (k:Int))=min k n:=by
 show (if (k:Int) < 0 then ((k:Int)+(n:Int)).toNat else min (k:Int).toNat n)=min k n
 rw [if_neg (by omega),Int.toNat_natCast]
theorem sIx_le (n d:Nat) (z:d <= n) (o:Option Int):sIx n d o <= n:=by
 cases o with
 | none=>exact z
 | some v=>
  show (if v < 0 then (v+(n:Int)).toNat else min v.toNat n) <= n
  by_cases hv:v < 0
  .rw [if_pos hv];omega
  .rw [if_neg hv];exact Nat.min_le_right _ _
theorem clip_eq (v:Int) (n d:Nat):(if v < 0 then max (v+(n:Int)) 0 else min v (n:Int))=((sIx n d (some v):Nat):Int):=by
 show (if v < 0 then max (v+(n:Int)) 0 else min v (n:Int))=(((if v < 0 then (v+(n:Int)).toNat else min v.toNat n):Nat):Int)
 by_cases hv:v < 0
 .simp only [if_pos hv];omega
 .simp only [if_neg hv];omega
theorem adjust_gen (lo hi:Option Int) (n:Nat):Builtin.Slice.sliceAdjust lo hi 1 (n:Int)=(((sIx n 0 lo:Nat):Int),((sIx n n hi:Nat):Int)):=by
 have h1:¬ ((1:Int) < 0):=by omega
 unfold Builtin.Slice.sliceAdjust
 simp only [h1,if_false]
 refine Prod.ext ?_ ?_
 .cases lo with
  | none=>rfl
  | some v=>exact clip_eq v n 0
 .cases hi with
  | none=>rfl
  | some v=>exact clip_eq v n n
theorem places_gen (i j:Nat):Builtin.Slice.slicePlaces (i:Int) (j:Int) 1=j-i:=by
 unfold Builtin.Slice.slicePlaces
 have h1:(1:Int) > 0:=by omega
 simp only [h1,if_true,Int.ediv_one]
 split <;> omega
theorem slicePart_ {v:Value} {o:Option Int} {Q:Option Int->Shared->Prop} (p:IsPart v o) (h:Q o s):wpAny (model prog w) A (Builtin.Slice.slicePartIndex v) Q E s:=by
 cases p with
 | none=>exact slicePart_none h
 | int i t=>exact slicePart_int h
theorem sliceApplied_gen {U:Addr} {O L:Value} {lo hi:Option Int} {n:Nat} {Q:Int×Int×Nat->Shared->Prop} (hs:s.heap.IsSliceOf U O L .none) (pl:IsPart O lo) (Y:IsPart L hi)
  (h:Q (((sIx n 0 lo:Nat):Int),1,sIx n n hi-sIx n 0 lo) s):wpAny (model prog w) A (Builtin.Slice.sliceApplied (.ref U) (pure (n:Int))) Q E s:=by
 obtain ⟨os,J,Z,z⟩:=id hs
 unfold Builtin.Slice.sliceApplied Builtin.Slice.sliceFields
 refine wpAny_bind (wpAny_bind (wpAny_field J z (x:=O) rfl (wpAny_bind (wpAny_field J z (x:=L) rfl (wpAny_bind (wpAny_field J z (x:=.none) rfl (wpAny_pure ?_)))))))
 refine wpAny_bind (slicePart_none ?_)
 show wpAny _ _ (if ((1:Int) == 0)=true then _ else _) _ _ s
 rw [if_neg (by decide)]
 refine wpAny_bind (slicePart_ pl (wpAny_bind (slicePart_ Y (wpAny_bind (wpAny_pure ?_)))))
 show wpAny _ _ (match Builtin.Slice.sliceAdjust lo hi 1 (n:Int) with | (lo,hi)=>pure (lo,(1:Int),Builtin.Slice.slicePlaces lo hi 1)) _ _ s
 rw [adjust_gen lo hi n]
 show wpAny _ _ (pure (((sIx n 0 lo:Nat):Int),(1:Int),Builtin.Slice.slicePlaces ((sIx n 0 lo:Nat):Int) ((sIx n n hi:Nat):Int) 1)) _ _ s
 rw [places_gen]
 exact wpAny_pure h
theorem pick_gen (xs:Array Value) (i k:Nat):((List.range k).filterMap fun (m:Nat)=>xs[((i:Int)+(m:Int) * 1).toNat]?).toArray=((xs.toList.drop i).take k).toArray:=by
 have e:(fun (m:Nat)=>xs[((i:Int)+(m:Int) * 1).toNat]?)=fun m=>xs[i+m]?:=by
  funext m
  have:((i:Int)+(m:Int) * 1).toNat=i+m:=by omega
  rw [this]
 rw [e]
 have:=pick_run xs i k
 rw [List.filterMap_map] at this
 have e2:((fun x=>xs[x]?) ∘ fun x=>i+x)=fun m=>xs[i+m]?:=rfl
 rw [e2] at this
 rw [this]
theorem getItem_tuple_cut {t Y:Addr} {items:Array Value} {vl vu:Value} {lo hi:Option Int} {Q:Value->Shared->Prop} (J:IsTup s.heap t items) (hs:s.heap.IsSliceOf Y vl vu .none) (pl:IsPart vl lo) (pu:IsPart vu hi)
  (hw:¬ (sIx items.size 0 lo=0 /\ sIx items.size items.size hi=items.size))
  (h:Q (.ref s.heap.objs.size) { s with heap:=s.heap.push { cls:=.type "tuple",data:=.seq ((items.toList.drop (sIx items.size 0 lo)).take (sIx items.size items.size hi-sIx items.size 0 lo)).toArray } })
  (hsz:items.size <= sizeLine):wpAny (model prog w) A (getItem (.ref t) (.ref Y)) Q E s:=by
 have z:sizeOk (.seq ((items.toList.drop (sIx items.size 0 lo)).take (sIx items.size items.size hi-sIx items.size 0 lo)).toArray):=by
  show ((items.toList.drop (sIx items.size 0 lo)).take (sIx items.size items.size hi-sIx items.size 0 lo)).toArray.size <= sizeLine
  rw [yAN,yAS,yAR,yAI]
  omega
 have hj:sIx items.size items.size hi <= items.size:=sIx_le _ _ (yAA _) hi
 obtain ⟨os,O,U,a0⟩:=id hs
 have Z:s.TypeIs (.ref Y) "slice":=⟨os,O,U⟩
 unfold getItem
 try with_reducible refine wpAny_holding ?_
 first | refine wpAny_bind (wpAny_pure ?_) | skip
 refine wpAny_bind (wpAny_sequenceKey J.typeIs (by decide) ?_)
 refine wpAny_bind (wpAny_callSpecial?_slot (name:=Str.ofString "__getitem__") J.typeIs PyProof.Rows.slot_tuple_getitem
  (wpAny_call_entry PyProof.Rows.slot_tuple_getitem J.typeIs entry_tuple_getitem ?_ (args_tuple_getitem _ _)))
 show wpAny _ _ (Builtin.Tuple.tupleItemsOf (.ref t) >>= _) _ _ s
 refine wpAny_bind (tupleItemsOf_ J ?_)
 refine wpAny_bind (wpAny_typeOf Z ?_)
 rw [if_pos (by decide)]
 refine wpAny_bind (sliceApplied_gen hs pl pu ?_)
 have L:¬ ((((sIx items.size 0 lo:Nat):Int) == 0 && (1:Int) == 1 && (sIx items.size items.size hi-sIx items.size 0 lo) == items.size)=true):=by
  intro q
  rw [Bool.and_eq_true,Bool.and_eq_true] at q
  have q1:((sIx items.size 0 lo:Nat):Int)=0:=eq_of_beq q.1.1
  have q2:sIx items.size items.size hi-sIx items.size 0 lo=items.size:=eq_of_beq q.2
  exact hw ⟨by omega,by omega⟩
 show wpAny _ _ (if (((sIx items.size 0 lo:Nat):Int) == 0 && (1:Int) == 1 && (sIx items.size items.size hi-sIx items.size 0 lo) == items.size)=true then _ else _) _ _ s
 rw [if_neg L,pick_gen]
 first
  | exact wpAny_bind (m:=Builtin.Tuple.tupleExact _) (wpAny_newObj_type (wpAny_pure ⟨_,rfl,wpAny_pure h⟩) z)
  | exact wpAny_bind (m:=Builtin.Tuple.tupleExact _) (wpAny_newObj_type (wpAny_bind (wpAny_pure (wpAny_pure ⟨_,rfl,wpAny_pure h⟩))) z)
  | exact wpAny_bind (wpAny_bind (m:=Builtin.Tuple.tupleExact _) (wpAny_newObj_type (wpAny_pure (wpAny_pure ⟨_,rfl,wpAny_pure h⟩)) z))
  | exact wpAny_bind (wpAny_bind (m:=Builtin.Tuple.tupleExact _) (wpAny_newObj_type (wpAny_pure ⟨_,rfl,wpAny_pure h⟩) z))
end
end HT
namespace L2
open PySem PySem.Spec PyProof.Rows
noncomputable abbrev TO:=St->Hp->(Option Int->Hp->Prop)->Prop
noncomputable def PO (X:Cx) (e:Option Expr) (t:TO):Prop :=
 ∀ (pins:List (Addr×Obj)) (s:Shared) (σ:St) (H:Hp) (Q:Option Int->Hp->Prop),Inv X pins σ H s->t σ H Q ->
  wpAny (model X.prog X.w) X.A (evalPart e X.env) (fun u s'=>∃ o H',Inv X pins σ H' s' /\ IsPart u o /\ Q o H') X.xe s
noncomputable def ZD2:TO:=fun _ H Q=>Q none H
noncomputable def ZE9 (t:TE):TO:=fun σ H Q=>t σ H fun x H1=>∃ i,x=.int i /\ Q (some i) H1
theorem ZBE {ns:List Int}:∀ {us:List Value},Vals (ns.map V.int) us->IntsAre us ns:=by
 induction ns with
 | nil=>intro us r;rw [List.map_nil] at r;cases r;exact .nil
 | cons n ns ih=>
  intro us r
  rw [yAU] at r
  cases r with
  | cons r1 r2=>
   obtain ⟨t,e⟩:=r1
   subst e
   exact .cons n t (ih r2)
section
variable {X:Cx} {e:Expr} {te:TE} {lo hi:Option Expr} {tl th:TO} {pos p2:Pos}
theorem ZB0:PO X none ZD2:=by
 intro pins s σ H Q I h
 rw [evalPart_none]
 exact wpAny_pure ⟨none,H,I,.none,h⟩
theorem ZBM (h:PE X e te):PO X (some e) (ZE9 te):=by
 intro pins s σ H Q I hw
 rw [evalPart_some]
 refine thn (h pins s σ H _ I hw) fun u s1 z=>?_
 obtain ⟨x,H1,O,J,L⟩:=z
 obtain ⟨i,rfl,q⟩:=L
 obtain ⟨t,rfl⟩:=J
 exact ⟨some i,H1,O,.int i t,q⟩
noncomputable def SlR (X:Cx) (r:V->Option Int->Option Int->Hp->VK->Prop):Prop :=
 ∀ (pins:List (Addr×Obj)) (s:Shared) (σ:St) (H:Hp) (x:V) (v vl vu:Value) (lo hi:Option Int) (sl:Addr) (Q:VK),Inv X pins σ H s->RelV x v->s.heap.IsSliceOf sl vl vu .none->IsPart vl lo->IsPart vu hi->r x lo hi H Q ->
  ∃ T id,typeLookup (.type T) "__getitem__"=pure (some (.builtin id)) /\ s.TypeIs v T /\ wpAny (model X.prog X.w) X.A (getItem v (.ref sl)) (EP X pins σ Q) X.xe s
noncomputable def tSl (r:V->Option Int->Option Int->Hp->VK->Prop) (te:TE) (tl th:TO):TE:=fun σ H Q=>te σ H fun x H1=>tl σ H1 fun l H2=>th σ H2 fun u H3=>r x l u H3 Q
theorem ZBG {r:V->Option Int->Option Int->Hp->VK->Prop} (Y:SlR X r) (Z:PE X e te) (hl:PO X lo tl) (hu:PO X hi th):PE X (.Subscript e (.Slice lo hi none p2) pos) (tSl r te tl th):=by
 intro pins s σ H Q I h
 refine Subscript_ (thn (Z pins s σ H _ I h) fun v s1 O=>?_)
 obtain ⟨x,H1,I1,r1,q1⟩:=O
 refine wpAny_Slice (thn (hl pins s1 σ H1 _ I1 q1) fun J s2 ⟨l,H2,I2,pl,q2⟩=>thn (hu pins s2 σ H2 _ I2 q2) fun L z O=>?_)
 obtain ⟨u,H3,I3,pu,q3⟩:=O
 rw [evalPart_none]
 refine wpAny_pure ?_
 have I4:Inv X pins σ H3 { z with heap:=z.heap.push { cls:=.type "slice",data:=.fields #[J,L,.none] } }:=I3.kept (t':=z.toks) fun b ob q=>Heap.get?_push_of_some _ q
 obtain ⟨T,id,hT,U,hg⟩:=Y pins { z with heap:=z.heap.push { cls:=.type "slice",data:=.fields #[J,L,.none] } } σ H3 x v J L l u z.heap.objs.size Q I4 r1 (Heap.IsSliceOf.new ..) pl pu q3
 show wpAny (model X.prog X.w) X.A (subscriptTail e (.Slice lo hi none p2) v (.ref z.heap.objs.size)) (EP X pins σ Q) X.xe { z with heap:=z.heap.push { cls:=.type "slice",data:=.fields #[J,L,.none] } }
 exact tail_any (ops:=[.ref z.heap.objs.size,v]) U hT hg (by with_unfolding_all rfl)
noncomputable def cutV (xs:List V) (lo hi:Option Int):List V:=(xs.drop (HT.sIx xs.length 0 lo)).take (HT.sIx xs.length xs.length hi-HT.sIx xs.length 0 lo)
theorem cutV_length (xs:List V) (lo hi:Option Int):(cutV xs lo hi).length <= xs.length:=by
 unfold cutV
 rw [yAS,yAR]
 omega
noncomputable def rSlT (K:W.Frag):V->Option Int->Option Int->Hp->VK->Prop:=fun x lo hi H Q=>∃ a xs,x=.ref a /\ SqT K H a xs /\
 ¬ (HT.sIx xs.length 0 lo=0 /\ HT.sIx xs.length xs.length hi=xs.length) /\ ∀ p,H p=none->Q (.ref p) (upd H p (.tup (cutV xs lo hi)))
theorem sl_tup:SlR X (rSlT X.K):=by
 intro pins s σ H x v Z vu lo hi sl Q I U O pl Y h
 obtain ⟨a,xs,rfl,hx,hw,q⟩:=h
 cases U
 obtain ⟨its,r,J,L⟩:=I.tuple hx
 have z:its.toArray.size=xs.length:=by rw [yAN];exact r.length.symm
 refine ⟨"tuple",_,PyProof.Rows.slot_tuple_getitem.lookup,J.typeIs,?_⟩
 refine HT.getItem_tuple_cut J O pl Y (by rw [z];exact hw) ?_ (by rw [z];exact L)
 rw [z]
 refine ⟨.ref s.heap.objs.size,_,I.laid (t':=s.toks) (o:=.tup (cutV xs lo hi)) (fun b ob q=>Heap.get?_push_of_some _ q) (yAA _) ?_,rfl,q _ (I.hok.fresh (yAA _))⟩
 exact ⟨yAF (cutV_length xs lo hi) L,_,(r.drop (HT.sIx xs.length 0 lo)).take (HT.sIx xs.length xs.length hi-HT.sIx xs.length 0 lo),IsTup.new _ _⟩
end
noncomputable def ixN (n:Nat) (i:Int):Option Nat:=if 0 <= i then (if i < n then some i.toNat else none) else if -(n:Int) <= i then some (i+n).toNat else none
noncomputable def atI {α:Type} (xs:List α) (i:Int):Option α:=(ixN xs.length i).bind fun j=>xs[j]?
theorem ixN_seq {n:Nat} {i:Int} {j:Nat} (h:ixN n i=some j):seqIndex? i n=some j /\ j < n /\ -(n:Int) <= i /\ i < n:=by
 unfold ixN at h
 by_cases h0:0 <= i
 .rw [if_pos h0] at h
  by_cases h1:i < n
  .rw [if_pos h1] at h
   have e:i.toNat=j:=Option.some.inj h
   exact ⟨by rw [seqIndex_of h0 h1,e],by omega,by omega,h1⟩
  .rw [if_neg h1] at h;cases h
 .rw [if_neg h0] at h
  by_cases h1:-(n:Int) <= i
  .rw [if_pos h1] at h
   have e:(i+n).toNat=j:=Option.some.inj h
   exact ⟨by rw [seqIndex_neg (by omega) h1,e],by omega,h1,by omega⟩
  .rw [if_neg h1] at h;cases h
theorem atI_get {α:Type} {xs:List α} {i:Int} {v:α} (h:atI xs i=some v):∃ j,seqIndex? i xs.length=some j /\ xs[j]?=some v /\ j < xs.length /\ -(xs.length:Int) <= i /\ i < xs.length:=by
 unfold atI at h
 cases e:ixN xs.length i with
 | none=>rw [e] at h;cases h
 | some j=>
  rw [e] at h
  obtain ⟨h1,h2,h3,z⟩:=ixN_seq e
  exact ⟨j,h1,h,h2,h3,z⟩
theorem atI_nat {α:Type} {xs:List α} {j:Nat} {v:α} (h:xs[j]?=some v):atI xs (j:Int)=some v:=by
 have z:j < xs.length:=(yAM.mp h).1
 have e:ixN xs.length (j:Int)=some j:=by
  unfold ixN
  rw [if_pos (by omega),if_pos (by omega)];simp
 unfold atI;rw [e];exact h
noncomputable def PlainIx (b:Expr):Prop:=∀ o i,subscripted b false o i=operate [o,i] (getItem o i)
noncomputable def IxR (X:Cx) (r:R2):Prop :=
 ∀ (value slice:Expr) (pins:List (Addr×Obj)) (s:Shared) (σ:St) (H:Hp) (x y:V) (v u:Value) (Q:VK),Inv X pins σ H s->RelV x v->RelV y u->r x y H Q ->
  subscripted slice false v u=operate [v,u] (getItem v u)->wpAny (model X.prog X.w) X.A (subscriptTail value slice v u) (EP X pins σ Q) X.xe s
noncomputable def MtR (X:Cx) (id:String) (r:V->List V->Hp->VK->Prop):Prop :=
 ∀ (pins:List (Addr×Obj)) (s:Shared) (σ:St) (H:Hp) (x:V) (xs:List V) (v:Value) (us:List Value) (Q:VK),Inv X pins σ H s->RelV x v->Vals xs us->r x xs H Q ->
  wpAny (model X.prog X.w) X.A (call (.builtin id) (v::us)) (EP X pins σ Q) X.xe s
section
variable {X:Cx} {a b:Expr} {ta tb:TE} {pos:Pos}
theorem ZA6 {r:R2} (z:IxR X r) (ha:PE X a ta) (O:PE X b tb) (L:PlainIx b):PE X (.Subscript a b pos) (tOp r ta tb):=by
 intro pins s σ H Q I h
 exact Subscript_ (binT ha O I h fun v u s2 x y H2 U Y J q=>z a b pins s2 σ H2 x y v u Q U Y J q (L _ _))
noncomputable def rIxL (K:W.Frag):R2:=fun x y H Q=>∃ p xs i v,x=.ref p /\ y=.int i /\ SqL K H p xs /\ atI xs i=some v /\ Q v H
noncomputable def rIxT (K:W.Frag):R2:=fun x y H Q=>∃ p xs i v,x=.ref p /\ y=.int i /\ SqT K H p xs /\ atI xs i=some v /\ Q v H
theorem ZAo:IxR X (rIxL X.K):=by
 intro value L pins s σ H x y v u Q I rx ry h Y
 obtain ⟨p,xs,i,z,rfl,rfl,hq,he,q⟩:=h
 cases rx
 obtain ⟨t,rfl⟩:=ry
 obtain ⟨its,r,pl,hz⟩:=I.list hq
 obtain ⟨j,h1,h2,h3,h4,h5⟩:=atI_get he
 obtain ⟨w,Z,O⟩:=r.get h2
 have hl:=r.length
 have hn:=ZES
 have J:EP X pins σ Q w s:=⟨z,H,I,O,q⟩
 by_cases h0:0 <= i
 .have U:i.toNat=j:=by
   rw [seqIndex_of h0 h5] at h1
   exact Option.some.inj h1
  exact item_listR pl.isList h0 (by omega) (by rw [U];simpa using Z) J Y
 .have U:(i+(its.toArray.size:Int)).toNat=j:=by
   rw [seqIndex_neg (by omega) h4] at h1
   rw [yAN,<- hl]
   exact Option.some.inj h1
  exact subscriptTail_builtinR (x:=w) pl.isList.typeIs slot_list_getitem.lookup
   (wpAny_getItem_list_neg (Q:=fun r s'=>r=w /\ EP X pins σ Q r s') pl.isList (by omega) (by rw [yAN] <;> omega) (by omega) (by rw [U];simpa using Z) ⟨rfl,J⟩) Y
theorem ZDS:IxR X (rIxT X.K):=by
 intro value J pins s σ H x y v u Q I rx U h hs
 obtain ⟨p,xs,i,z,rfl,rfl,Z,Y,q⟩:=h
 cases rx
 obtain ⟨t,rfl⟩:=U
 obtain ⟨its,r,pl,hz⟩:=I.tuple Z
 obtain ⟨j,h1,h2,h3,h4,h5⟩:=atI_get Y
 obtain ⟨w,ew,O⟩:=r.get h2
 have hl:=r.length
 have hn:=ZES
 have L:EP X pins σ Q w s:=⟨z,H,I,O,q⟩
 exact subscriptTail_builtinR (x:=w) pl.typeIs slot_tuple_getitem.lookup
  (getItem_tuple (j:=j) (Q:=fun r s'=>r=w /\ EP X pins σ Q r s') pl (by omega) (by omega) (by rw [yAN,<- hl];exact h1) (by simpa using ew) ⟨rfl,L⟩) hs
theorem mapSeq_set (its:List Value) (n j:Nat) (u:Value):Obj.mapSeq (·.setIfInBounds j u) { cls:=.type "list",data:=.seq its.toArray n }={ cls:=.type "list",data:=.seq (its.set j u).toArray n }:=by
 simp [Obj.mapSeq]
theorem Inv.lst {pins:List (Addr×Obj)} {σ:St} {H:Hp} {s:Shared} {p:Addr} {xs:List V} (I:Inv X pins σ H s) (h:H p=some (.lst xs)) :
  ∃ (its:List Value) (n:Nat),Vals xs its /\ s.heap.get? p=some { cls:=.type "list",data:=.seq its.toArray n } /\ xs.length <= sizeLine:=by
 obtain ⟨z,its,n,r,e⟩:=I.hok p _ h
 exact ⟨its,n,r,e,z⟩
theorem Inv.lstUpd {pins:List (Addr×Obj)} {σ:St} {H:Hp} {s:Shared} {p:Addr} {xs ys:List V} {its its':List Value} {n z:Nat} {f:Obj->Obj} (I:Inv X pins σ H s) (h:H p=some (.lst xs))
  (O:s.heap.get? p=some { cls:=.type "list",data:=.seq its.toArray n }) (J:f { cls:=.type "list",data:=.seq its.toArray n }={ cls:=.type "list",data:=.seq its'.toArray z }) (r:Vals ys its') (U:ys.length <= sizeLine) (t:Nat) :
  Inv X pins σ (upd H p (.lst ys)) { s with heap:=s.heap.update p f,toks:=t }:=by
 have e:(s.heap.update p f).get? p=some { cls:=.type "list",data:=.seq its'.toArray z }:=by
  rw [Heap.get?_update_self f O (by rw [J] <;> rfl),J]
 refine I.write (x:=p) (e:=p) (by rw [h];trivial) (.inl rfl) (fun b u L q=>(Heap.get?_update_other _ _ (Ne.symm L)).trans q) ⟨_,e⟩ ?_
 exact ⟨U,its',z,r,e⟩
noncomputable def rSetL:V->V->V->Hp->(Hp->Prop)->Prop:=fun o i v H Q=>∃ p xs k j,o=.ref p /\ i=.int k /\ H p=some (.lst xs) /\ ixN xs.length k=some j /\ Q (upd H p (.lst (xs.set j v)))
theorem set_list:PSet X rSetL:=by
 intro pins s σ H o i v ov iv u Q I ro Z Y h
 obtain ⟨p,xs,k,j,rfl,rfl,L,hj,q⟩:=h
 cases ro
 obtain ⟨t,rfl⟩:=Z
 obtain ⟨its,n,r,J,hz⟩:=I.lst L
 obtain ⟨h1,h2,h3,O⟩:=ixN_seq hj
 have hl:=r.length
 have hn:=ZES
 have U:Inv X pins σ (upd H p (.lst (xs.set j v))) { s with heap:=s.heap.update p (Obj.mapSeq (·.setIfInBounds j u)) } :=
  I.lstUpd L J (mapSeq_set its n j u) (r.set Y j) (by rw [List.length_set];exact hz) s.toks
 by_cases h0:0 <= k
 .have z:k.toNat=j:=by
   rw [seqIndex_of h0 O] at h1
   exact Option.some.inj h1
  exact PySem.W.ki_setAt J h0 (by omega) (by rw [yAN,<- hl];exact O) (by rw [z];exact ⟨_,U,q⟩)
 .have z:(k+(its.toArray.size:Int)).toNat=j:=by
   rw [seqIndex_neg (by omega) h3] at h1
   rw [yAN,<- hl]
   exact Option.some.inj h1
  exact PySem.W.ki_setBack J (by omega) (by rw [yAN,<- hl];exact h3) (by omega) (by rw [z];exact ⟨_,U,q⟩)
theorem slice_bounds (lo hi:Option Int) (n:Nat):(sliceBounds lo hi none n).1=((HT.sIx n 0 lo:Nat):Int) /\ (sliceBounds lo hi none n).2.1=((HT.sIx n n hi:Nat):Int) /\ (sliceBounds lo hi none n).2.2=1:=by
 refine ⟨?_,?_,rfl⟩
 .cases lo with
  | none=>simp [sliceBounds,HT.sIx]
  | some i=>
   simp only [sliceBounds,HT.sIx,Option.getD_none,show (1:Int) > 0 by decide,if_true]
   by_cases h:i < 0
   .simp only [h,if_true] <;> omega
   .simp only [h,if_false] <;> omega
 .cases hi with
  | none=>simp [sliceBounds,HT.sIx]
  | some i=>
   simp only [sliceBounds,HT.sIx,Option.getD_none,show (1:Int) > 0 by decide,if_true]
   by_cases h:i < 0
   .simp only [h,if_true] <;> omega
   .simp only [h,if_false] <;> omega
theorem slicePick_cut (its:List Value) (lo hi:Option Int):slicePick its.toArray lo hi none=((its.drop (HT.sIx its.length 0 lo)).take (HT.sIx its.length its.length hi-HT.sIx its.length 0 lo)).toArray:=by
 obtain ⟨h1,h2,h3⟩:=slice_bounds lo hi its.toArray.size
 unfold slicePick
 rw [h1,h2,h3]
 simp only [sliceRange_one,pick_run,yAN] <;> rfl
noncomputable def rSlL (K:W.Frag):V->Option Int->Option Int->Hp->VK->Prop:=fun x lo hi H Q=>∃ a xs,x=.ref a /\ SqL K H a xs /\ ∀ p,H p=none->Q (.ref p) (upd H p (.lst (cutV xs lo hi)))
theorem ZBz:SlR X (rSlL X.K):=by
 intro pins s σ H x v Z vu lo hi sl Q I O L pl U h
 obtain ⟨a,xs,rfl,hx,q⟩:=h
 cases O
 obtain ⟨its,r,J,Y⟩:=I.list hx
 have z:=r.length
 refine ⟨"list",_,slot_list_getitem.lookup,J.isList.typeIs,?_⟩
 refine wpAny_getItem_list_slice J.isList L pl U .none (by simp) ?_ (by rw [yAN] <;> omega)
 rw [slicePick_cut,<- z]
 refine ⟨.ref s.heap.objs.size,_,I.laid (t':=s.toks) (o:=.lst (cutV xs lo hi)) (fun b ob q=>Heap.get?_push_of_some _ q) (yAA _) ?_,rfl,q _ (I.hok.fresh (yAA _))⟩
 exact ⟨yAF (cutV_length xs lo hi) Y,_,0,(r.drop (HT.sIx xs.length 0 lo)).take (HT.sIx xs.length xs.length hi-HT.sIx xs.length 0 lo),Heap.get?_push_size _ rfl⟩
theorem ZAK:ZBd X (.builtin "len") (fun xs H Q=>∃ p ys,xs=[.ref p] /\ (SqL X.K H p ys∨SqT X.K H p ys) /\ Q (.int ys.length) H):=by
 intro pins s σ H xs us Q I r h
 obtain ⟨p,ys,rfl,J,q⟩:=h
 obtain ⟨u,rfl,O⟩:=ZCU r
 cases O
 have hn:=ZES
 rcases J with J | J
 .obtain ⟨its,L,pl,U⟩:=I.list J
  have z:=L.length
  exact Calls.call_len_list pl.isList (by simp only [yAN] <;> omega) ⟨.int ys.length,H,I.tok _,⟨s.toks+1,by rw [yAN,z]⟩,q⟩
 .obtain ⟨its,L,pl,U⟩:=I.tuple J
  have z:=L.length
  exact len_tuple pl (by simp only [yAN] <;> omega) ⟨.int ys.length,H,I.tok _,⟨s.toks+1,by rw [yAN,z]⟩,q⟩
theorem ZBK:ZBd X (.type "list") (fun xs H Q=>∃ p ys,xs=[.ref p] /\ (SqL X.K H p ys∨SqT X.K H p ys) /\ ∀ l,H l=none->Q (.ref l) (upd H l (.lst ys))):=by
 intro pins s σ H xs us Q I r h
 obtain ⟨p,ys,rfl,L,q⟩:=h
 obtain ⟨u,rfl,rx⟩:=ZCU r
 cases rx
 have J:∀ (its:List Value),Vals ys its->ys.length <= sizeLine->∀ (h':Heap) (c':Nat),(∀ b o',s.heap.get? b=some o'->h'.get? b=some o') ->
   h'.get? s.heap.objs.size=some { cls:=.type "list",dict:=none,data:=.seq its.toArray c',slots:=#[] }->EP X pins σ Q (.ref s.heap.objs.size) { s with heap:=h' }:=fun its z Y h' c' U e=>
  ⟨.ref s.heap.objs.size,_,I.laid (t':=s.toks) U (yAA _) (show ObjOk X.prog X.w _ h' _ (.lst ys) from ⟨Y,its,c',z,e⟩),rfl,q _ (I.hok.fresh (yAA _))⟩
 rcases L with L | L
 .obtain ⟨its,z,pl,Y⟩:=I.list L
  have O:=z.length
  obtain ⟨o,ho,hc,n,Z⟩:=pl.isList
  exact call_list_seq p (.inl rfl) ho hc Z (fun h' c' U e=>J its z Y h' c' U e) (by simp only [yAN] <;> omega)
 .obtain ⟨its,z,pl,Y⟩:=I.tuple L
  have O:=z.length
  obtain ⟨o,ho,hc,n,Z⟩:=pl
  exact call_list_seq p (.inr rfl) ho hc Z (fun h' c' U e=>J its z Y h' c' U e) (by simp only [yAN] <;> omega)
noncomputable def tyV (K:W.Frag) (T:String) (x:V) (H:Hp):Prop:=match x with
 | .str _=>T="str"
 | .int _=>T="int"
 | .ref p=>(T="list" /\ ∃ xs,SqL K H p xs)∨(T="tuple" /\ ∃ o,K.lookup p=some o /\ o.cls=.type "tuple" /\ o.dict=none) ∨
   (T="dict" /\ ((∃ kvs,H p=some (.dK kvs))∨∃ kvs,H p=some (.dT kvs)))∨(T="set" /\ ∃ S n,H p=some (.set S n))
 | _=>False
theorem ZEe {pins:List (Addr×Obj)} {σ:St} {H:Hp} {s:Shared} {T:String} {x:V} {v:Value} (I:Inv X pins σ H s) (r:RelV x v) (ty:tyV X.K T x H) :
  s.TypeIs v T /\ ∀ a,v=.ref a->∃ ob,s.heap.get? a=some ob /\ ob.dict=none:=by
 cases x with
 | str z=>
  obtain ⟨t,rfl⟩:=r
  cases (show T="str" from ty)
  exact ⟨typeIs_str s z t,fun _ e=>nomatch e⟩
 | int i=>
  obtain ⟨t,rfl⟩:=r
  cases (show T="int" from ty)
  exact ⟨typeIs_int s i t,fun _ e=>nomatch e⟩
 | ref p=>
  cases r
  rcases ty with ⟨rfl,xs,O⟩ | ⟨rfl,o,J,hc,L⟩ | ⟨rfl,J⟩ | ⟨rfl,S,n,J⟩
  .obtain ⟨its,_,pl,_⟩:=I.list O
   refine ⟨pl.isList.typeIs,fun a e=>?_⟩
   cases e
   obtain ⟨o,n,e,c,L,_⟩:=pl
   exact ⟨o,e,L⟩
  .refine ⟨⟨o,I.kIn p o J,hc⟩,fun a e=>?_⟩
   cases e
   exact ⟨o,I.kIn _ o J,L⟩
  .have z:∃ o,s.heap.get? p=some o /\ o.ExactDict:=by
    rcases J with ⟨kvs,J⟩ | ⟨kvs,J⟩
    .obtain ⟨_,_,_,_,o,_,_,e,ex,_⟩:=I.hok p _ J
     exact ⟨o,e,ex⟩
    .obtain ⟨_,_,_,_,o,_,_,e,ex,_⟩:=I.hok p _ J
     exact ⟨o,e,ex⟩
   obtain ⟨o,e,ex⟩:=z
   refine ⟨⟨o,e,ex.1⟩,fun a e2=>?_⟩
   cases e2
   exact ⟨o,e,ex.2.1⟩
  .obtain ⟨o,_,_,_,e,ex,_⟩:=I.hok p _ J
   refine ⟨⟨o,e,ex.1⟩,fun a e2=>?_⟩
   cases e2
   exact ⟨o,e,ex.2.1⟩
 | _=>exact False.elim ty
noncomputable def tBM0 (K:W.Frag) (T:String) (r:V->List V->Hp->VK->Prop) (to:TE):TE:=fun σ H Q=>to σ H fun x H1=>tyV K T x H1 /\ r x [] H1 Q
noncomputable def tBM (K:W.Frag) (T:String) (r:V->List V->Hp->VK->Prop) (to:TE) (t:TA):TE:=fun σ H Q=>to σ H fun x H1=>tyV K T x H1 /\ t σ H1 fun xs H2=>r x xs H2 Q
variable {o e:Expr} {es:List Expr} {to:TE} {t:TA} {name:Str} {apos cpos:Pos} {T id:String} {r:V->List V->Hp->VK->Prop}
theorem ZEt (Z:PlainAttrs T) (slot:Slot T name id) (L:typeOf (.builtin id)=pure (.type "method_descriptor")) (hm:MtR X id r) (ho:PE X o to)
  (z:attributeBase o name X.env (eval o X.env)=eval o X.env:=by rfl) (J:(apos.endLine == cpos.line)=true:=by rfl):PE X (.Call (.Attribute o name apos) [] [] cpos) (tBM0 X.K T r to):=by
 intro pins s σ H Q I h
 refine wpAny_Call_method0_late z J (thn (ho pins s σ H _ I h) fun v s1 Y=>?_)
 obtain ⟨x,H1,U,O,ty,q1⟩:=Y
 obtain ⟨h1,h2⟩:=ZEe U O ty
 exact ⟨T,id,Z,slot,L,h1,h2,Calls.callWith_builtin rfl (PySem.evalArgs_none (hm pins s1 σ H1 x [] v [] Q U O .nil q1))⟩
theorem ZDI (pa:PlainAttrs T) (slot:Slot T name id) (U:typeOf (.builtin id)=pure (.type "method_descriptor")) (hm:MtR X id r) (ho:PE X o to) (ha:PA X (e::es) t)
  (J:attributeBase o name X.env (eval o X.env)=eval o X.env:=by rfl)
  (O:((backTo cpos (starEach (e::es) X.env)).all (fun x=>!x.1) && (backToKw cpos (keywordEach [] X.env)).all (fun x=>x.1.isSome)
   && decide ((e::es).length+([]:List Keyword).length+(if ([]:List Keyword).isEmpty then 0 else 1) < 30))=true:=by rfl)
  (L:(apos.endLine == cpos.line)=true:=by rfl) (hs:starEach (e::es) X.env=(false,eval e X.env)::starEach es X.env:=by rfl) (z:(backTo cpos (starEach es X.env)).any (·.1)=false:=by rfl) :
  PE X (.Call (.Attribute o name apos) (e::es) [] cpos) (tBM X.K T r to t):=by
 intro pins s σ H Q I h
 refine wpAny_Call_method_late J O L rfl (thn (ho pins s σ H _ I h) fun v s1 zz=>?_)
 obtain ⟨x,H1,I1,Z,ty,q1⟩:=zz
 obtain ⟨h1,h2⟩:=ZEe I1 Z ty
 refine ⟨T,id,pa,slot,U,h1,h2,?_⟩
 have Y:=ha cpos pins s1 σ H1 _ I1 q1
 rw [hs] at Y ⊢
 refine Calls.callWith_builtin (by show (false || (backTo cpos (starEach es X.env)).any (·.1))=false;rw [z] <;> rfl) (Calls.evalArgs_plain ?_)
 exact thn Y fun us s2 ⟨vs,H2,I2,r2,q2⟩=>hm pins s2 σ H2 x vs v us Q I2 Z r2 q2
end
noncomputable def MtM (X:Cx) (id:String) (r:V->List V->Hp->VK->Prop):Prop :=
 ∀ (pins:List (Addr×Obj)) (s:Shared) (σ:St) (H:Hp) (x:V) (xs:List V) (v:Value) (us:List Value) (Q:VK),Inv X pins σ H s->RelV x v->Vals xs us->r x xs H Q ->
  wpAny (model X.prog X.w) X.A (call (.builtin id) (v::us)) (EP X pins σ Q) X.xe s
theorem Vals.one {x:V} {us:List Value} (r:Vals [x] us):∃ u,us=[u] /\ RelV x u:=ZCU r
theorem Vals.two {x y:V} {us:List Value} (r:Vals [x,y] us):∃ u v,us=[u,v] /\ RelV x u /\ RelV y v:=ZDV r
theorem Vals.zero:∀ {us:List Value},Vals [] us->us=[]
 | _,.nil=>rfl
theorem Vals.eraseIdx:∀ {xs:List V} {us:List Value} (i:Nat),Vals xs us->Vals (xs.eraseIdx i) (us.eraseIdx i)
 | _,_,_,.nil=>.nil
 | _,_,0,.cons _ t=>t
 | _,_,i+1,.cons r t=>.cons r (Vals.eraseIdx i t)
theorem Vals.reverse {xs:List V} {us:List Value} (h:Vals xs us):Vals xs.reverse us.reverse:=by
 induction h with
 | nil=>exact .nil
 | cons r t ih=>rw [List.reverse_cons,List.reverse_cons];exact Vals.append ih (.cons r .nil)
theorem len_erase {α:Type}:∀ (l:List α) (i:Nat),(l.eraseIdx i).length <= l.length
 | [],_=>yAA _
 | _::_,0=>yAY _
 | _::r,i+1=>Nat.succ_le_succ (len_erase r i)
section
variable {X:Cx} {pins:List (Addr×Obj)} {σ:St} {H:Hp} {s:Shared} {l b:Addr} {xs ys zs:List V}
theorem Inv.lset {its its':List Value} {n:Nat} {f:Array Value->Array Value} {t':Nat} (I:Inv X pins σ H s) (J:H l=some (.lst xs))
  (e:s.heap.get? l=some { cls:=.type "list",data:=.seq its.toArray n }) (L:f its.toArray=its'.toArray) (O:Vals ys its') (Y:ys.length <= sizeLine) :
  Inv X pins σ (upd H l (.lst ys)) { s with heap:=s.heap.update l (Obj.mapSeq f),toks:=t' }:=by
 have q:=PySem.IsL.update e f
 rw [L] at q
 refine I.write (x:=l) (e:=l) (by rw [J];exact trivial) (.inl rfl) (fun b' u z U=>(Heap.get?_update_other s.heap (Obj.mapSeq f) (Ne.symm z)).trans U) ⟨_,q⟩ ?_
 exact ⟨Y,its',_,O,q⟩
theorem Inv.lnew {its:List Value} {t':Nat} (I:Inv X pins σ H s) (z:Vals ys its) (J:ys.length <= sizeLine) :
  Inv X pins σ (upd H s.heap.objs.size (.lst ys)) { s with heap:=s.heap.push { cls:=.type "list",data:=.seq its.toArray },toks:=t' } :=
 I.laid (fun _ _ q=>Heap.get?_push_of_some _ q) (yAA _) ⟨J,its,0,z,Heap.get?_push_size _ rfl⟩
theorem Inv.fresh (I:Inv X pins σ H s):H s.heap.objs.size=none:=I.hok.fresh (yAA _)
theorem Inv.lstM (I:Inv X pins σ H s) (J:H l=some (.lst xs)):xs.length <= sizeLine /\ ∃ (its:List Value) (n:Nat),Vals xs its /\ xs.length=its.length /\ s.heap.get? l=some { cls:=.type "list",data:=.seq its.toArray n }:=by
 obtain ⟨z,its,n,r,e⟩:=I.hok l _ J
 exact ⟨z,its,n,r,r.length,e⟩
end
section
variable {X:Cx}
noncomputable def rAppend:V->List V->Hp->VK->Prop:=fun x vs H Q=>∃ l xs y,x=.ref l /\ vs=[y] /\ H l=some (.lst xs) /\ xs.length < sizeLine /\ Q .non (upd H l (.lst (xs++[y])))
theorem ZB2:MtM X "list.append" rAppend:=by
 intro pins s σ H x vs v us Q I L O h
 obtain ⟨l,xs,y,rfl,rfl,J,U,q⟩:=h
 cases L
 obtain ⟨u,rfl,ru⟩:=O.one
 obtain ⟨z,its,n,r,hl,e⟩:=I.lstM J
 refine call_meets F.slot_list_append ⟨_,e,rfl⟩ F.entry_list_append (F.args_list_append_2 _ _) (PySem.list_append l its.toArray n u (by rw [yAN];omega)) ⟨e,?_⟩
 refine ⟨.non,_,I.lset (its':=its++[u]) J e (by simp) (r.append (.cons ru .nil)) ?_,rfl,q⟩
 rw [yAC,yBZ]
 omega
noncomputable def rPopAt:V->List V->Hp->VK->Prop:=fun x vs H Q=>∃ l xs i k y,x=.ref l /\ vs=[.int i] /\ H l=some (.lst xs) /\ -(2 ^ 63) <= i /\ i < 2 ^ 63 /\ seqIndex? i xs.length=some k /\ xs[k]?=some y /\ Q y (upd H l (.lst (xs.eraseIdx k)))
theorem mt_popAt:MtM X "list.pop" rPopAt:=by
 intro pins s σ H x vs v us Q I Y Z h
 obtain ⟨l,xs,i,k,y,rfl,rfl,L,h1,h2,U,O,q⟩:=h
 cases Y
 obtain ⟨u,rfl,ru⟩:=Z.one
 obtain ⟨t,rfl⟩:=ru
 obtain ⟨z,its,n,r,hl,e⟩:=I.lstM L
 obtain ⟨w,hw,J⟩:=r.get O
 refine call_meets F.slot_list_pop ⟨_,e,rfl⟩ F.entry_list_pop (F.args_list_pop_2 _ _)
  (MeetsSeq.list_pop_at l its.toArray n i t k w (fitsIndex_both h1 h2) (by rw [yAN,<- hl];exact U) (by rw [<- yBE];exact hw) (by rw [yAN];omega)) ⟨e,?_⟩
 refine ⟨y,_,I.lset (its':=its.eraseIdx k) L e ?_ (r.eraseIdx k) ?_,J,q⟩
 .show its.toArray.eraseIdxIfInBounds k=(its.eraseIdx k).toArray
  rw [List.eraseIdxIfInBounds_toArray]
 .have:=len_erase xs k
  omega
noncomputable def rReverse:V->List V->Hp->VK->Prop:=fun x vs H Q=>∃ l xs,x=.ref l /\ vs=[] /\ H l=some (.lst xs) /\ Q .non (upd H l (.lst xs.reverse))
theorem mt_reverse:MtM X "list.reverse" rReverse:=by
 intro pins s σ H x vs v us Q I O U h
 obtain ⟨l,xs,rfl,rfl,L,q⟩:=h
 cases O
 have J:=U.zero
 subst J
 obtain ⟨z,its,n,r,hl,e⟩:=I.lstM L
 refine call_meets F.slot_list_reverse ⟨_,e,rfl⟩ F.entry_list_reverse (F.args_list_reverse_1 _) (AutoSeq1.list_reverse_list_0 l its.toArray n (by rw [yAN];omega)) ⟨e,?_⟩
 refine ⟨.non,_,I.lset (its':=its.reverse) L e (by simp) r.reverse ?_,rfl,q⟩
 rw [yCH]
 omega
noncomputable def rClear:V->List V->Hp->VK->Prop:=fun x vs H Q=>∃ l xs,x=.ref l /\ vs=[] /\ H l=some (.lst xs) /\ Q .non (upd H l (.lst []))
theorem mt_clear:MtM X "list.clear" rClear:=by
 intro pins s σ H x vs v us Q I O U h
 obtain ⟨l,xs,rfl,rfl,L,q⟩:=h
 cases O
 have J:=U.zero
 subst J
 obtain ⟨z,its,n,r,hl,e⟩:=I.lstM L
 refine call_meets F.slot_list_clear ⟨_,e,rfl⟩ F.entry_list_clear (F.args_list_clear_1 _) (AutoSeq1.list_clear_list_0 l its.toArray n (by rw [yAN];omega)) ⟨e,?_⟩
 exact ⟨.non,_,I.lset (its':=[]) (ys:=[]) L e rfl .nil (yAD _),rfl,q⟩
noncomputable def rCat:R2:=fun x y H Q=>∃ l b xs zs,x=.ref l /\ y=.ref b /\ H l=some (.lst xs) /\ H b=some (.lst zs) /\ xs.length+zs.length <= sizeLine /\ ∀ p,H p=none->Q (.ref p) (upd H p (.lst (xs++zs)))
theorem op_cat:OpR X (binaryOp .Add) rCat:=by
 intro pins s σ H x y v u Q I Z L h
 obtain ⟨l,b,xs,zs,rfl,rfl,O,Y,hz,q⟩:=h
 cases Z
 cases L
 obtain ⟨z,its,n,r,hl,e⟩:=I.lstM O
 obtain ⟨z2,J,n2,U,a0,e2⟩:=I.lstM Y
 refine PySem.P.add_list e e2 ?_ (by rw [yAN,yAN];omega)
 have ea:its.toArray++J.toArray=(its++J).toArray:=by simp
 rw [ea]
 exact ⟨.ref _,_,I.lnew (t':=s.toks) (r.append U) (by rw [yAC];omega),rfl,q _ I.fresh⟩
end
section
variable {prog:Program} {w:World} {A:Around} {E:Value->Shared->Prop} {s:Shared}
set_option maxRecDepth 100000 in
end
section
variable {X:Cx}
end
end L2
namespace Att
open PySem PySem.W PySem.Calls PyProof.Rows
theorem ints_of_wellAll {P:Params} {h:Heap}:∀ (ns:List Int) (vs:List Value),WellAll P h vs (ns.map WData.int)->IntsAre vs ns:=by
 intro ns
 induction ns with
 | nil=>
  intro vs w
  rw [List.map_nil] at w
  cases w
  exact .nil
 | cons n ns ih=>
  intro vs w
  rw [yAU] at w
  cases w with
  | cons a b=>
   cases a
   exact .cons _ _ (ih _ b)
theorem script_of {l:OpenLaw} {n:Nat} (hn:l.most=some n) {P:Params} {h:Heap} {args:List WData} {J:List Value}
  (z:l.row.toRowW.claim.pre args=true) (Z:WellAll P h J args) :
  ∃ a vs ns,J=[Value.ref a] /\ args=[WData.list (ns.map WData.int)] /\ h.get? a=some { cls:=.type "list",data:=.seq vs.toArray } /\ IntsAre vs ns /\ ns.length <= n:=by
 have Y:WShape.hasAll [] args [.list .int]=true:=(pre_splitW z).1
 have hc:l.pre.holds [] { args:=args }=true:=(pre_splitW z).2
 obtain ⟨d,r,rfl,h1,h2⟩:=hasAllW_cons Y
 obtain rfl:=hasAllW_nil h2
 obtain ⟨xs,rfl,h3⟩:=hasW_list h1
 obtain ⟨ns,rfl⟩:=items_int h3
 have L:ns.length <= n:=by
  unfold OpenLaw.pre at hc
  have U:(WTm.not (.lt (.lit (.int (n:Int))) (.len (.arg 0)))).holds [] { args:=[.list (ns.map .int)] }=true:=by
   have U:=(holds_andW hc).1
   rw [hn] at U
   exact U
  have O:=condW_of U (w_not (w_lt w_lit (w_len_list (w_arg rfl))))
  rw [yAB] at O
  refine Nat.le_of_not_lt fun q=>?_
  have q':(n:Int) < ((ns.length:Nat):Int):=by omega
  first
   | (rw [decide_eq_true q'] at O;exact absurd O (by decide))
   | (simp at O;omega)
 cases Z with
 | cons w1 w2=>
  cases w2
  cases w1 with
  | list ho hall=>exact ⟨_,_,ns,rfl,rfl,ho,ints_of_wellAll ns _ hall,L⟩
theorem post_true (l:OpenLaw) (args:List WData):l.row.toRowW.claim.post args (.bool true) args=true :=
 postW_of (r:=l.row.toRowW) (X:=(true == true))
  (show WShape.has [] (.bool true) .bool=true by first | rfl | decide | simp [WShape.has,WShape.arms,WShape.armsAll])
  (show (WTm.eq .res (.lit (.bool true))).value [] { args:=args,res:=some (.bool true),after:=args }=some (.bool (true == true)) from w_eq_bool (w_res rfl) w_lit) rfl
theorem attach_call {l:OpenLaw} {n:Nat} {q:Program} {loose:List Str} {XP:(Str->Option Value)->Heap->Prop} {YP:World->Heap->Prop} {d:DefRec}
  (hn:l.most=some n) (a2:d.params.defaults=[])
  (call:∀ (w:World) (s₀ s₁:Shared) (mg mb:Str->Option Value) (Z:Addr) (o:Obj) (pm cd z:Value) (a:Addr) (vs:List Value) (ns:List Int),
   Ground q loose [] XP w s₀ mg mb s₁.heap->YP w s₁.heap ->
   s₁.heap.get? Z=some o->o.data=.func (docDef d.name d.params d.body d.scope pm cd z)->s₁.heap.CodeRec cd d.name->mg d.name=some (.ref Z) ->
   s₁.heap.get? a=some { cls:=.type "list",data:=.seq vs.toArray }->IntsAre vs ns->ns.length <= n->s₁.gens=#[] ->
   codeAny (model l.prog w) callerA (.call (.ref Z) ⟨[.ref a],[]⟩) (fun r s'=>r=.ok (.ret (.bool true)) /\ OldK s₁.heap s'.heap /\ s'.os=s₁.os /\ AllBare s'.gens) s₁) :
  WalkO q loose XP YP l.row.toRowW d [] (fun f vs=>PySem.call f vs):=by
 intro w s₀ s₁ mg mb G Y Z o pm cd z dV kV ho hd a1 hD a0 hg args a5 as L a4 a7 a3 a6
 obtain rfl:dV=.none:=Dflts.none hD a2
 obtain rfl:kV=.none:=Dflts.noKw hD
 obtain ⟨a,vs,ns,rfl,rfl,O,J,U⟩:=script_of hn L a3
 refine enter_call (codeAny_mono (call w s₀ s₁ mg mb Z o pm cd z a vs ns G Y ho (fd_plain hd) a1 a0 O J U hg) fun r s' hq=>?_)
 obtain ⟨rfl,h2,h3,h4⟩:=hq
 exact ⟨.inl ⟨.bool true,.bool true,[],rfl,fun _=>rfl,.bool true,post_true l _,fun _=>⟨List.Pairwise.nil,fun _ hm=>(nomatch hm)⟩⟩,h2,h3,h4⟩
section
variable {prog:Program} {w:World} {A:Around} {E:Value->Shared->Prop} {s:Shared} {K:Frag}
end
end Att
namespace L2
open PySem PySem.Spec PyProof.Rows
theorem ZCT:∀ {vs:List Value} {ns:List Int},IntsAre vs ns->Vals (ns.map V.int) vs
 | _,_,.nil=>.nil
 | _,_,.cons n t h=>.cons ⟨t,rfl⟩ (ZCT h)
end L2
namespace L2
open PySem PySem.Spec PyProof.Rows
noncomputable def ZCQ (s:Stmt) (j:Nat):Stmt:=match s with
 | .ClassDef _ _ _ body _ _ _ _ _ _ _=>body.getD j (.Pass ⟨0,0,0,0⟩)
 | _=>.Pass ⟨0,0,0,0⟩
noncomputable def ZAO (s:Stmt):Arguments:=match s with
 | .FunctionDef _ a _ _ _ _ _ _ _ _=>a
 | _=>{ posonlyargs:=[],args:=[],vararg:=none,kwonlyargs:=[],kw_defaults:=[],kwarg:=none,defaults:=[] }
noncomputable def ZAM (s:Stmt):List Stmt:=match s with
 | .FunctionDef _ _ b _ _ _ _ _ _ _=>b
 | _=>[]
noncomputable def ZAB (s:Stmt):Scope:=match s with
 | .FunctionDef _ _ _ _ _ _ sc _ _ _=>sc
 | _=>{ kind:=.function,names:=[],isGenerator:=false,isCoroutine:=false }
noncomputable abbrev CX0:CXT:=fun _ _ _ _ _ _=>False
noncomputable abbrev E0:XK:=fun _ _ _=>False
theorem ZAc {X:Cx}:ZBh CX0 X E0:=fun _ _ _ _ _ _ _ h=>h.elim
structure Fun (K:W.Frag) (x qual:Str) (st:Stmt) (f:Addr) (fd:FuncData):Prop where
 ex:∃ (oc:Value) (od:Option Addr) (kV doc pm:Value) (an:Option Addr) (cdv ct:Value) (osl:Array (Option Value)),
  fd=W.fnOf x qual (ZAO st) (ZAM st) (ZAB st) .none kV doc pm an cdv ct /\ K.lookup f=some ⟨oc,od,.func fd,osl⟩ /\ W.codeIn K cdv qual=true
 kp:W.keepIn K (.ref f)=true
section
variable {P:Program} {w:World} {K:W.Frag} {mg:Str->Option Value} {base:Heap}
theorem Fun.ok {x qual:Str} {st:Stmt} {f:Addr} {fd:FuncData} {N ps:List Str} {k:Nat} {sp:Sp} (F:Fun K x qual st f fd) (S:FnScope N ps (ZAB st)) (len:∀ vs H Q E,sp vs H Q E->vs.length=ps.length)
  (J:∀ (z:Value) (A:Around) (outer:List Env) (s:Shared) (H:Hp) (vs:List V) (Q:VK) (E:XK),Room k (A.deeper (envOfC qual (ZAB st) s.heap.objs.size f z))->sp vs H Q E ->
   ∃ t,PSs (cxOf CX0 P w K mg base N qual (ZAB st) f z A outer s H E).nox (ZAM st) t /\ t { nx:=fun _ H'=>Q .non H',rt:=Q } (start N vs) H):FnOk P w K mg base CX0 (k+1) f fd ps sp:=by
 obtain ⟨oc,od,kV,Z,pm,an,z,ct,Y,rfl,lk,O⟩:=F.ex
 refine ZFO lk O S len fun A outer s H vs Q E U L=>?_
 obtain ⟨t,h,q⟩:=J z A outer s H vs Q E U L
 exact ⟨t,h.nox,q⟩
theorem Fun.binds {x qual:Str} {st:Stmt} {f:Addr} {fd:FuncData} {ps:List Str} (F:Fun K x qual st f fd)
  (h:∀ (kV J L:Value) (O:Option Addr) (z ct:Value) (us:List Value),us.length=ps.length->bindArgs (W.fnOf x qual (ZAO st) (ZAM st) (ZAB st) .none kV J L O z ct) ⟨us,[]⟩=pure (ps.zip us)):Binds K fd ps []:=by
 obtain ⟨oc,Z,kV,J,L,O,z,ct,U,rfl,lk,Y⟩:=F.ex
 exact .all (h kV J L O z ct)
theorem ZAe {x qual:Str} {st:Stmt} {f:Addr} {oc:Value} {Y U:Option Addr} {L:Array (Option Value)} {kV J O z ct:Value} (l:K.lookup f=some ⟨oc,Y,.func (W.fnOf x qual (ZAO st) (ZAM st) (ZAB st) .none kV J O U z ct),L⟩)
  (c:W.codeIn K z qual=true) (k:W.keepIn K (.ref f)=true):Fun K x qual st f (W.fnOf x qual (ZAO st) (ZAM st) (ZAB st) .none kV J O U z ct):=⟨⟨oc,Y,kV,J,O,U,z,ct,L,rfl,l,c⟩,k⟩
end
theorem ZE5 {A:Around} {k:Nat} (z:Room k A):A.units+1 < cLine:=Nat.lt_of_le_of_lt (Nat.add_le_add_left (by decide:1 <= 64) _) z.units
theorem ZBH {n:Nat} (h:n <= 1000):n < sizeLine:=Nat.lt_of_le_of_lt h (by decide)
section
variable {X:Cx}
theorem pv (i:Nat) {x:Str} {pos:Pos} (O:X.N[i]?=some x:=by rfl) (L:Vis X.env.scope x:=by first | exact Or.inl rfl | exact Or.inr (Or.inl rfl) | exact Or.inr (Or.inr rfl)) (J:(x == ("__debug__":Str))=false:=by decide)
  (z:(x == ("__classdict__":Str))=false:=by decide):PE X (.Name x pos) (tVar i):=pe_var O L J z
end
noncomputable def Same (H H':Hp):Prop:=∀ b o,H b=some o->H' b=some o
theorem Same.refl (H:Hp):Same H H:=fun _ _ h=>h
theorem Same.trans {H H1 H2:Hp} (a:Same H H1) (b:Same H1 H2):Same H H2:=fun c o h=>b c o (a c o h)
theorem Same.free {H H':Hp} (e:Same H H') {l:Addr} (h:H' l=Option.none):H l=Option.none:=by
 cases q:H l with
 | none=>rfl
 | some o=>
  rw [e l o q] at h
  cases h
theorem Same.seq {K:W.Frag} {H H':Hp} {a:Addr} {xs:List V} (e:Same H H') (h:SqL K H a xs):SqL K H' a xs:=by
 rcases h with (h | ⟨o,h⟩) | h
 .exact .inl (.inl (e _ _ h))
 .exact .inl (.inr ⟨o,e _ _ h⟩)
 .exact .inr h
end L2
set_option maxHeartbeats 4000000
namespace L2
open PySem PySem.Spec PyProof.Rows
theorem natlt {a b:Addr} (h:a < b):@LT.lt Nat _ a b:=h
theorem ZDJ {a b:Addr} {n:Nat} (h:a < n) (k:n <= b):a≠b:=yAE (yAQ h k)
theorem ZAw:∀ (names:List (Str×NameKind)) (n:Nat) (acc:List (Str×Addr)),cellsFrom n names acc=cellsFrom n names []++acc
 | [],_,_=>rfl
 | (x,k)::r,n,acc=>by
  unfold cellsFrom
  split
  .rw [ZAw r (n+1) ((x,n)::acc),ZAw r (n+1) [(x,n)],yAV];rfl
  .exact ZAw r n acc
theorem ZBs:∀ (names:List (Str×NameKind)) (n:Nat) (acc:List (Str×Addr)) (y:Str) (c:Addr),(y,c)∈cellsFrom n names acc->(y,c)∈acc∨((y,NameKind.cell)∈names /\ n <= c)
 | [],_,_,_,_,h=>.inl h
 | (x,k)::r,n,acc,y,c,h=>by
  unfold cellsFrom at h
  split at h
  .rename_i hk
   have z:k=.cell:=by simpa using hk
   rcases ZBs r (n+1) _ y c h with h | ⟨h,l⟩
   .rcases yAG.mp h with e | h
    .cases e;subst z;exact .inr ⟨yAJ,yAA _⟩
    .exact .inl h
   .exact .inr ⟨yAL _ h,Nat.le_of_succ_le l⟩
  .rcases ZBs r n _ y c h with h | ⟨h,l⟩
   .exact .inl h
   .exact .inr ⟨yAL _ h,l⟩
noncomputable def closFrom (cells:List (Str×Addr)):List (Str×NameKind)->List (Str×Addr)->List (Str×Addr)
 | [],acc=>acc
 | (x,k)::r,acc=>if k == .free then closFrom cells r ((x,(cells.lookup x).getD 0)::acc) else closFrom cells r acc
theorem ZBf {cells:List (Str×Addr)}:∀ (names:List (Str×NameKind)) (acc:List (Str×Addr)) (y:Str) (c:Addr),(y,c)∈closFrom cells names acc->(y,c)∈acc∨((y,NameKind.free)∈names /\ c=(cells.lookup y).getD 0)
 | [],_,_,_,h=>.inl h
 | (x,k)::r,acc,y,c,h=>by
  unfold closFrom at h
  split at h
  .rename_i hk
   have z:k=.free:=by simpa using hk
   rcases ZBf r _ y c h with h | ⟨h,l⟩
   .rcases yAG.mp h with e | h
    .cases e;subst z;exact .inr ⟨yAJ,rfl⟩
    .exact .inl h
   .exact .inr ⟨yAL _ h,l⟩
  .rcases ZBf r _ y c h with h | ⟨h,l⟩
   .exact .inl h
   .exact .inr ⟨yAL _ h,l⟩
theorem ZB4 {cells:List (Str×Addr)}:∀ (names:List (Str×NameKind)) (acc:List (Str×Addr)) (p:Str×Addr),p∈acc->p∈closFrom cells names acc
 | [],_,_,h=>h
 | (x,k)::r,acc,p,h=>by
  unfold closFrom
  split
  .exact ZB4 r _ p (yAL _ h)
  .exact ZB4 r _ p h
theorem ZBg {cells:List (Str×Addr)}:∀ (names:List (Str×NameKind)) (acc:List (Str×Addr)) (y:Str),(y,NameKind.free)∈names->(y,(cells.lookup y).getD 0)∈closFrom cells names acc
 | [],_,_,h=>nomatch h
 | (x,k)::r,acc,y,h=>by
  unfold closFrom
  rcases yAG.mp h with e | h
  .cases e
   rw [if_pos (by rfl)]
   exact ZB4 r _ _ yAJ
  .split
   .exact ZBg r _ y h
   .exact ZBg r _ y h
theorem ZBS {α:Type}:∀ {l:List (Str×α)} {y:Str} {c:α},(y,c)∈l->∃ c',l.lookup y=some c'
 | (k,v)::r,y,c,h=>by
  rw [yBV]
  cases hb:y == k with
  | true=>exact ⟨v,rfl⟩
  | false=>
   rcases yAG.mp h with e | h
   .cases e;rw [beq_self_eq_true] at hb;cases hb
   .exact ZBS h
theorem ZBr {env:Env} (f:Str×NameKind->List (Str×Addr)->Sem (ForInStep (List (Str×Addr))))
  (J:∀ name kind cs,f (name,kind) cs=if kind == .free then (do let a <- cellOf env name;pure (.yield ((name,a)::cs))) else pure (.yield cs)) :
  ∀ (names:List (Str×NameKind)) (acc:List (Str×Addr)),(∀ x,(x,NameKind.free)∈names->∃ c,env.cells.lookup x=some c)->forIn names acc f=(pure (closFrom env.cells names acc):Sem (List (Str×Addr)))
 | [],acc,_=>by rw [yCI];rfl
 | (x,k)::r,acc,h=>by
  have L:∀ x,(x,NameKind.free)∈r->∃ c,env.cells.lookup x=some c:=fun y O=>h y (yAL _ O)
  rw [List.forIn_cons,J]
  unfold closFrom
  split
  .rename_i hk
   have z:k=.free:=by simpa using hk
   subst z
   obtain ⟨c,hc⟩:=h x yAJ
   have e:cellOf env x=(pure c:Sem Addr):=by unfold cellOf;rw [hc]
   rw [e,hc]
   exact ZBr f J r ((x,c)::acc) L
  .exact ZBr f J r acc L
theorem closureFor_eq {scope:Scope} {env:Env} (h:∀ x,(x,NameKind.free)∈scope.names->∃ c,env.cells.lookup x=some c):closureFor scope env=pure (closFrom env.cells scope.names []):=by
 simp only [closureFor]
 rw [ZBr _ (fun name kind cs=>by cases hk:kind == NameKind.free <;> simp [hk]) scope.names [] h]
 rfl
section
variable {M:Model} {A:Around} {E:Value->Shared->Prop} {s:Shared}
theorem newEnv_comp {scope:Scope} {globals:Addr} {cl:List (Str×Addr)} {qual:Str} {env:Env} {Q:Env->Shared->Prop}
  (z:Q { scope:=scope,locals:=s.heap.objs.size,globals:=globals,cells:=cellsFrom (s.heap.objs.size+1) scope.names cl,qual:=qual,func:=none,code:=env.code,frame:=env.frame,builtins:=env.builtins }
   { s with heap:=pushCells (s.heap.push { cls:=.type "dict",data:=.dict #[] }) scope.names }) :
  wpAny M A (newFunctionEnv scope globals cl [] qual none .none (some env)) Q E s:=by
 simp only [newFunctionEnv,Option.isSome_some,if_true]
 refine wpAny_bind (wpAny_alloc ?_)
 refine wpAny_bind (wpAny_layCells _ (fun name kind cells=>by cases hkc:kind == NameKind.cell <;> simp [hkc]) _ _ _ _ ?_)
 rw [show ({ s with heap:=s.heap.push { cls:=.type "dict",data:=.dict #[] } }:Shared).heap.objs.size=s.heap.objs.size+1 from Heap.size_push ..]
 rw [yCI]
 exact wpAny_bind (wpAny_pure (wpAny_pure z))
end
theorem relabel_lookup {scope:Scope} {env:Env} (x:Str):(relabel scope env).names.lookup x=(scope.names.lookup x).map fun k=>if (k == .free && env.scope.kind == .function && env.kindOf x == some .cell)=true then NameKind.cell else k:=by
 unfold relabel
 dsimp only
 generalize scope.names=names
 induction names with
 | nil=>rfl
 | cons p r ih=>
  obtain ⟨n,k⟩:=p
  rw [yAU,yBV (as:=r)]
  cases hx:x == n with
  | true=>
   have e:x=n:=beq_iff_eq.mp hx
   subst e
   by_cases hc:(k == NameKind.free && env.scope.kind == .function && env.kindOf x == some .cell)=true
   .simp only [hc,if_true,yBV,hx,yCA]
   .simp only [hc,yCB,if_false,yBV,hx,yCA]
  | false=>
   by_cases hc:(k == NameKind.free && env.scope.kind == .function && env.kindOf n == some .cell)=true
   .simp only [hc,if_true,yBV,hx];exact ih
   .simp only [hc,yCB,if_false,yBV,hx];exact ih
noncomputable def ZCv (N:List Str) (osc:Scope) (k:Nat) (js:List Nat) (N':List Str) (sc:Scope):Bool :=
 decide (sc.kind=.function) && decide (N'.length=k+js.length) && decide N'.Nodup &&
 sc.names.all (fun p=>decide (sc.names.lookup p.1=some p.2) && (decide (p.2≠.free) || decide (osc.names.lookup p.1=some .cell) || decide (osc.names.lookup p.1=some .free))) &&
 (List.range js.length).all (fun i=>decide (js[i]?.bind (fun j=>N[j]?)=N'[k+i]?) && decide ((N'[k+i]?).bind (fun y=>sc.names.lookup y)=some .free))
structure CmpOk (N:List Str) (osc:Scope) (k:Nat) (js:List Nat) (N':List Str) (sc:Scope):Prop where
 kind:sc.kind=.function
 len:N'.length=k+js.length
 nd:N'.Nodup
 look:∀ p∈sc.names,sc.names.lookup p.1=some p.2
 fr:∀ y,(y,NameKind.free)∈sc.names->osc.names.lookup y=some .cell∨osc.names.lookup y=some .free
 js:∀ i j,js[i]?=some j->∃ y,N'[k+i]?=some y /\ N[j]?=some y /\ sc.names.lookup y=some .free
theorem cmpOk {N:List Str} {J:Scope} {k:Nat} {js:List Nat} {N':List Str} {sc:Scope} (h:ZCv N J k js N' sc=true):CmpOk N J k js N' sc:=by
 unfold ZCv at h
 simp only [Bool.and_eq_true,decide_eq_true_eq,List.all_eq_true,Bool.or_eq_true,yBM] at h
 obtain ⟨⟨⟨⟨h1,h2⟩,h3⟩,L⟩,U⟩:=h
 refine ⟨h1,h2,h3,fun p Z=>(L p Z).1,fun y Y=>?_,fun i j O=>?_⟩
 .rcases (L _ Y).2 with (z | z) | z
  .exact absurd rfl z
  .exact .inl z
  .exact .inr z
 .have hi:i < js.length:=(yAM.mp O).1
  obtain ⟨a,b⟩:=U i hi
  rw [O] at a
  cases e:N'[k+i]? with
  | none=>rw [e] at b;cases b
  | some y=>
   rw [e] at a b
   exact ⟨y,rfl,a,b⟩
noncomputable def ZDm (scope:Scope) (cl:List (Str×Addr)) (C:Addr) (env:Env):Env :=
 { scope:=relabel scope env,locals:=C,globals:=env.globals,cells:=cellsFrom (C+1) scope.names cl,qual:=env.qual,func:=none,code:=env.code,frame:=env.frame,builtins:=env.builtins }
noncomputable def ZBl (X:Cx) (N':List Str) (scope:Scope) (C:Addr) (fp:List Addr) (s2:Shared) (H2:Hp):Cx where
 prog:=X.prog
 w:=X.w
 K:=X.K
 mg:=X.mg
 base:=X.base
 A:=X.A
 N:=N'
 s₀:=s2
 H₀:=H2
 env:=ZDm scope (closFrom X.env.cells scope.names []) C X.env
 outer:=X.stack
 stack:=X.stack
 ex:=fp
 fn:=fun x=>decide (scope.names.lookup x=some .cell)
 calm:=X.calm
 pn:=[]
 xe:=fun _ _=>False
noncomputable def up (k:Nat) (js:List Nat) (σ:St):St:=List.replicate k none++js.map fun j=>(σ[j]?).getD none
section
variable {X:Cx} {pins:List (Addr×Obj)} {σ:St} {H:Hp} {s2:Shared} {k:Nat} {js:List Nat} {N':List Str} {scope:Scope} {fp:List Addr}
theorem comp_inv (hc:CmpOk X.N X.env.scope k js N' scope) (I:Inv X pins σ H s2) (a0:∀ b∈fp,FpOk X pins H b) (a3:∀ b∈fp,b < s2.heap.objs.size) {h3:Heap} (hz:h3.objs.size=s2.heap.objs.size+1) (a8:∀ b o,s2.heap.get? b=some o->h3.get? b=some o) :
  Inv (ZBl X N' scope (s2.heap.objs.size+1) fp s2 H) [] (up k js σ) H { s2 with heap:=pushCells (h3.push { cls:=.type "dict",data:=.dict #[] }) scope.names }:=by
 have O:∀ y,(y,NameKind.free)∈scope.names->∃ c,X.env.cells.lookup y=some c:=fun y hy=>I.ok.has y (hc.fr y hy)
 have a1:=cellsFrom_ok scope.names (h3.push { cls:=.type "dict",data:=.dict #[] }) (s2.heap.objs.size+2) [] ⟨fun _ _ hm=>(nomatch hm),List.Pairwise.nil⟩ (by rw [Heap.size_push,hz];exact yAA _)
 rw [Heap.size_push,hz] at a1
 have J:∀ y c,(ZDm scope (closFrom X.env.cells scope.names []) (s2.heap.objs.size+1) X.env).cells.lookup y=some c ->
   ((y,c)∈cellsFrom (s2.heap.objs.size+2) scope.names [] /\ (y,NameKind.cell)∈scope.names /\ s2.heap.objs.size+2 <= c)∨((y,NameKind.free)∈scope.names /\ X.env.cells.lookup y=some c):=fun y c e=>by
  have m:=PySem.mem_of_lookup e
  change (y,c)∈cellsFrom (s2.heap.objs.size+1+1) scope.names _ at m
  rw [ZAw] at m
  rcases yBB.mp m with m | m
  .rcases ZBs _ _ _ _ _ m with z | ⟨z,l⟩
   .cases z
   .exact .inl ⟨m,z,l⟩
  .rcases ZBf _ _ _ _ m with z | ⟨z,l⟩
   .cases z
   .obtain ⟨c',e'⟩:=O y z
    rw [e'] at l
    exact .inr ⟨z,by rw [e'];exact congrArg some l.symm⟩
 have a2:∀ y c,X.env.cells.lookup y=some c->c < s2.heap.objs.size:=fun y c e=>by
  obtain ⟨v,q⟩:=I.cell y c e
  exact q.lt
 have U:∀ y,(y,NameKind.free)∈scope.names->∀ c,X.env.cells.lookup y=some c->(ZDm scope (closFrom X.env.cells scope.names []) (s2.heap.objs.size+1) X.env).cells.lookup y=some c:=fun y hy c e=>by
  have m:(y,c)∈cellsFrom (s2.heap.objs.size+1+1) scope.names (closFrom X.env.cells scope.names []):=by
   rw [ZAw]
   have q:=ZBg (cells:=X.env.cells) scope.names [] y hy
   rw [e] at q
   exact yAW _ q
  obtain ⟨c',q⟩:=ZBS m
  rcases J y c' q with ⟨_,z,_⟩ | ⟨_,z⟩
  .have z1:=hc.look _ z
   have z2:=hc.look _ hy
   rw [z1] at z2
   cases z2
  .rw [e] at z
   cases z
   exact q
 have L:∀ b o,s2.heap.get? b=some o->(pushCells (h3.push { cls:=.type "dict",data:=.dict #[] }) scope.names).get? b=some o:=fun b o e=>pushCells_keeps _ _ b o (Heap.get?_push_of_some _ (a8 b o e))
 refine ⟨⟨I.ok.mod,hc.kind,I.ok.glob,I.ok.blt,yAY _,fun y z c h1 h2=>?_,fun y hy=>?_,fun y c h1 h2=>?_,I.ok.hd,I.ok.frames,.inl rfl,fun b hb=>⟨?_,fun y c e=>?_⟩,I.bs,yAF I.ok.bsz I.sz,fun b o e hb=>?_,fun b hb hs=>?_,I.stack,I.stkFree⟩,
  rfl,I.bare,Un.kept L,⟨fun _=>none,?_,fun i y v e1 e2 e3=>?_⟩,fun y c e=>?_,I.hok.fresh (yAY _),fun y c e=>?_,fun p hp=>absurd (show p∈([]:List (Addr×Obj)) from hp) (by simp),I.hok.kept L,?_⟩
 .
  rcases J y c h1 with ⟨a,_,l⟩ | ⟨_,a⟩ <;> rcases J z c h2 with ⟨b,_,l'⟩ | ⟨_,b⟩
  .exact name_of_addr a1.apart a b
  .have:=natlt (a2 z c b);omega
  .have:=natlt (a2 y c a);omega
  .exact I.ok.inj y z c a b
 .
  have Y:(relabel scope X.env).names.lookup y=some .cell∨(relabel scope X.env).names.lookup y=some .free:=hy
  rw [relabel_lookup] at Y
  have q:scope.names.lookup y=some .cell∨scope.names.lookup y=some .free:=by
   cases e:scope.names.lookup y with
   | none=>rw [e] at Y;rcases Y with z | z <;> cases z
   | some kk=>
    rw [e] at Y
    cases kk <;> first | exact .inl rfl | exact .inr rfl | (rcases Y with z | z <;> simp at z)
  rcases q with q | q
  .obtain ⟨c,e⟩:=ZCw (n:=s2.heap.objs.size+1+1) q
   have m:(y,c)∈cellsFrom (s2.heap.objs.size+1+1) scope.names (closFrom X.env.cells scope.names []):=by
    rw [ZAw]
    exact yBX _ (PySem.mem_of_lookup e)
   exact ZBS m
  .have m:=PySem.mem_of_lookup q
   obtain ⟨c,e⟩:=O y m
   exact ⟨c,U y m c e⟩
 .
  have a6:scope.names.lookup y=some .cell:=of_decide_eq_true h1
  rcases J y c h2 with ⟨_,_,l⟩ | ⟨z,_⟩
  .show s2.heap.objs.size <= c
   omega
  .have:=hc.look _ z
   rw [a6] at this
   cases this
 .
  exact ZDJ (a3 b hb) (yAY _)
 .rcases J y c e with ⟨_,_,l⟩ | ⟨_,z⟩
  .exact (ZDJ (a3 b hb) (yAF (yBW _ 2) l)).symm
  .exact (a0 b hb).2.2.2.2.1 y c z
 .
  rcases (a0 b hb).2.2.2.1 with z | z
  .exact I.ok.noex b o e z
  .exact absurd (yAQ (Heap.lt_size e) (yAF I.ok.bsz z)) (yBG _)
 .
  rcases yAG.mp (I.stkSub b hs) with z | z
  .exact (a0 b hb).2.1 z
  .exact (a0 b hb).2.2.1 z
 .
  have q:=(Heap.Ns.new h3 (.type "dict")).keeps (pushCells_keeps scope.names _)
  rw [hz] at q
  exact q
 .
  unfold up at e2
  have a4:k <= i:=by
   by_cases hi:i < k
   .rw [yAZ (by simpa using hi),List.getElem?_replicate] at e2
    rw [if_pos hi] at e2
    cases e2
   .omega
  rw [yAX (by simpa using a4),yCC,yAT] at e2
  cases ej:js[i-k]? with
  | none=>rw [ej] at e2;cases e2
  | some j=>
   rw [ej] at e2
   have Z:(σ[j]?).getD none=some v:=Option.some.inj e2
   have e4:σ[j]?=some (some v):=by
    cases q:σ[j]? with
    | none=>rw [q] at Z;cases Z
    | some z=>rw [q] at Z;exact congrArg some Z
   obtain ⟨y',n1,n2,n3⟩:=hc.js _ _ ej
   rw [Nat.add_sub_cancel' a4] at n1
   have n0:N'[i]?=some y:=e1
   rw [n1] at n0
   cases n0
   have hm:=PySem.mem_of_lookup n3
   have a5:Vis X.env.scope y:=.inr (hc.fr y hm)
   obtain ⟨m,hn,hl⟩:=I.loc
   obtain ⟨u,r,l⟩:=hl j y v n2 e4 a5
   refine ⟨u,r,?_⟩
   rcases l with ⟨kk,_⟩ | ⟨kk,c,ec,ic⟩
   .have a7:X.env.scope.names.lookup y=some .local:=kk
    rcases hc.fr y hm with z | z <;> (rw [a7] at z;cases z)
   .refine .inr ⟨?_,c,U y hm c ec,ic.keeps L⟩
    show (relabel scope X.env).names.lookup y=some .cell∨(relabel scope X.env).names.lookup y=some .free
    rw [relabel_lookup,n3]
    simp only [yCA]
    split
    .exact .inl rfl
    .exact .inr rfl
 .
  rcases J y c e with ⟨a,_,_⟩ | ⟨_,a⟩
  .exact ⟨none,(a1.empty y c a).1⟩
  .obtain ⟨v,q⟩:=I.cell y c a
   exact ⟨v,q.keeps L⟩
 .rcases J y c e with ⟨_,_,l⟩ | ⟨_,a⟩
  .exact I.hok.fresh (by omega)
  .exact I.freeC y c a
 .unfold up
  show _=N'.length
  rw [yAC,yCC,yAB,hc.len]
theorem comp_end {a2:St} {H':Hp} {s':Shared} {C D:Addr} {its:List Value} {n:Nat} {ys:List V} (I:Inv X pins σ H s2) (a4:∀ b∈fp,FpOk X pins H b) (hC:s2.heap.objs.size <= C) (hD:s2.heap.objs.size <= D) (a1:D≠C)
  (U:Inv (ZBl X N' scope C fp s2 H) [(D,{ cls:=.type "list",data:=.seq its.toArray n })] a2 H' s') (hv:Vals ys its) (hz:ys.length <= sizeLine) :
  H' D=none /\ ∀ h',Heap.SameBut C s'.heap h'->Inv X pins σ (upd H' D (.lst ys)) { s' with heap:=h' }:=by
 obtain ⟨eD,nD,_,_,_⟩:=U.pin (D,{ cls:=.type "list",data:=.seq its.toArray n }) (yAW _ yAJ)
 dsimp only at eD nD
 have nC:H' C=none:=U.free
 refine ⟨nD,fun h' Z=>?_⟩
 have L:∀ b o,s2.heap.get? b=some o->b≠C:=fun b o e=>ZDJ (Heap.lt_size e) hC
 have a3:∀ b o,s2.heap.get? b=some o->b≠D:=fun b o e=>ZDJ (Heap.lt_size e) hD
 have tr:∀ b u,H' b=some u->b≠D:=fun b u e z=>by rw [z,nD] at e;cases e
 have a0:∀ b u,H' b=some u->b≠C:=fun b u e z=>by rw [z,nC] at e;cases e
 have B:=U.base
 refine I.call' (s':={ s' with heap:=h' }) (ch:=fp) U.os ⟨fun b o e Y J hx=>?_,fun b o e Y J hx=>?_,fun b o e Y hx=>?_,fun b o e hx=>?_,fun b xs e=>?_,fun b o u e=>?_,fun b ps e=>?_⟩ (fun b u e=>?_) U.bare fun b J=>?_
 .exact (Z.2 b (L b o e)).trans (B.keep b o e Y J hx)
 .obtain ⟨sl,q⟩:=B.slot b o e Y J hx
  exact ⟨sl,(Z.2 b (L b o e)).trans q⟩
 .rw [ZAG (a3 b o e)]
  exact B.free b o e Y hx
 .obtain ⟨o',q⟩:=B.there b o e hx
  exact ⟨o',(Z.2 b (L b o e)).trans q⟩
 .have q:=B.tups b xs e
  rw [ZAG (tr b _ q)]
  exact q
 .have q:=B.frzs b o u e
  rw [ZAG (tr b _ q)]
  exact q
 .obtain ⟨more,q⟩:=B.tbls b ps e
  exact ⟨more,by rw [ZAG (tr b _ q)];exact q⟩
 .by_cases J:b=D
  .subst J
   rw [ZAD] at e
   cases e
   exact ⟨hz,its,n,hv,(Z.2 b a1).trans eD⟩
  .rw [ZAG J] at e
   refine (U.hok b u e).stay (fun c v O q=>(Z.2 c ?_).trans q) (fun c q=>by rw [ZAG (tr c _ q)];exact q) fun c xs q=>by rw [ZAG (tr c _ q)];exact q
   rcases O with rfl | O
   .exact a0 c _ e
   .exact a0 c _ O
 .obtain ⟨_,f1,_,f3,f4,f5⟩:=a4 b J
  exact ⟨f3,f1,f4,f5⟩
end
section
variable {prog:Program} {w:World} {A:Around} {R:Result->Shared->Prop} {s:Shared}
theorem codeAny_compLoop_any {elt z iter:Expr} {ifs:List Expr} {scope:Scope} {pos:Pos} {it a0:Value} {env:Env} (I:Nat->Shared->Prop)
  (a4:∀ n s,I n s->wpAny (model prog w) A (pyNext it) (fun r s₁=>match r with
   | none=>R (.ok .next) s₁
   | some v=>wpAny (model prog w) A (letOwnedTupleGo z it v) (fun _ J=>wpAny (model prog w) A (assign z env v) (fun _ U=>
     wpAny (model prog w) A (forIn ifs true fun c r=>if r=true then do let ok <- isTrue c env (eval c env);pure (ForInStep.yield ok) else pure (ForInStep.yield r)) (fun ok L=>
      if ok=true then wpAny (model prog w) A (eval elt env) (fun x Y=>
       wpAny (model prog w) A (call (.builtin "list.append") [a0,x]) (fun _ Z=>∃ m,m < n /\ I m Z) (notedBy (model prog w) A env fun e s'=>R (.error e) s') Y) (notedBy (model prog w) A env fun e s'=>R (.error e) s') L
      else ∃ m,m < n /\ I m L) (notedBy (model prog w) A env fun e s'=>R (.error e) s') U) (notedBy (model prog w) A env fun e s'=>R (.error e) s') J) (notedBy (model prog w) A env fun e s'=>R (.error e) s') s₁) (notedBy (model prog w) A env fun e s'=>R (.error e) s') s)
  (n:Nat) (h:I n s) :
  codeAny (model prog w) A (.compLoop (.ListComp elt [⟨z,iter,ifs,0⟩] scope pos) 0 it a0 env) R s:=by
 refine codeAny_loop rfl I (fun n s hI=>?_) n h
 show wpAny _ A ((compTurn (.ListComp elt [⟨z,iter,ifs,0⟩] scope pos) 0 it a0 env).onRaise (fun x=>do noteFrame x env;theTreesLotGoes x)) _ _ s
 refine wpAny_noted ?_
 rw [compTurn_list]
 refine wpAny_bind (wpAny_standAt (wpAny_bind (wpAny_mono (a4 n s hI) (fun r s₁ h₁=>?_) fun _ _ h'=>h')))
 cases r with
 | none=>exact wpAny_pure h₁
 | some v=>
  refine wpAny_bind (wpAny_mono h₁ (fun _ J a1=>?_) fun _ _ h'=>h')
  refine wpAny_bind (wpAny_mono a1 (fun _ U a5=>wpAny_bind (wpAny_mono a5 (fun ok L O=>?_) fun _ _ h'=>h')) fun _ _ h'=>h')
  cases ok with
  | false=>exact wpAny_pure ⟨rfl,O⟩
  | true=>exact wpAny_bind (wpAny_bind (wpAny_mono O (fun x Y a2=>wpAny_bind (wpAny_mono a2 (fun _ Z a3=>wpAny_pure (wpAny_pure ⟨rfl,a3⟩)) fun _ _ h'=>h')) fun _ _ h'=>h'))
end
noncomputable def PIfs (X:Cx) (ifs:List Expr) (t:TT):Prop :=
 ∀ (pins:List (Addr×Obj)) (s:Shared) (σ:St) (H:Hp) (Q:Bool->Hp->Prop),Inv X pins σ H s->t σ H Q ->
  wpAny (model X.prog X.w) X.A (forIn ifs true fun c r=>if r=true then do let ok <- isTrue c X.env (eval c X.env);pure (ForInStep.yield ok) else pure (ForInStep.yield r)) (TP X pins σ Q) X.xe s
noncomputable def tYes:TT:=fun _ H Q=>Q true H
theorem ZBo {X:Cx}:PIfs X [] tYes:=fun _ _ _ H _ I h=>wpAny_tests_nil ⟨H,I,h⟩
theorem pifs_one {X:Cx} {c:Expr} {t:TT} (hc:PT X c t):PIfs X [c] t:=fun pins s σ H Q I h=>wpAny_tests_one (hc pins s σ H Q I h)
noncomputable def ZDq (k:Nat) (js:List Nat) (wi:TI) (g:TG) (tt:TT) (te:TE):TE:=fun σ H Q=>wi σ H fun J H1=>∃ W:Nat->Nat->List V->St->Hp->Prop,(∃ m,W 0 m [] (up k js σ) H1) /\ ∀ i m ys σ H,W i m ys σ H ->
 (J.stop i H /\ ys.length <= sizeLine /\ ∀ p,H p=none->Q (.ref p) (upd H p (.lst ys))) ∨
 (J.go i H /\ ys.length < sizeLine /\ ∀ x H',J.yld i H x H'->g x σ H' fun σ2 H2=>tt σ2 H2 fun b H3=>if b=true then te σ2 H3 fun y H4=>∃ m',m' < m /\ W (i+1) m' (ys++[y]) σ2 H4 else ∃ m',m' < m /\ W (i+1) m' ys σ2 H3)
section
variable {X:Cx} {k:Nat} {js:List Nat} {N':List Str} {scope:Scope} {tg iter elt:Expr} {ifs:List Expr} {wi:TI} {g:TG} {tt:TT} {te:TE} {pos:Pos}
theorem comp_core {use:Option (Value->Sem Unit)} {Q':Value->Shared->Prop} (ai:X.calm=true) (hc:CmpOk X.N X.env.scope k js N' scope) (hi:PI X tg iter wi)
  (hg:∀ C fp s2 H2,PG (ZBl X N' scope C fp s2 H2) tg g) (ht:∀ C fp s2 H2,PIfs (ZBl X N' scope C fp s2 H2) ifs tt) (he:∀ C fp s2 H2,PE (ZBl X N' scope C fp s2 H2) elt te)
  {pins:List (Addr×Obj)} {s:Shared} {σ:St} {H:Hp} {Q:VK} (I:Inv X pins σ H s) (h:ZDq k js wi g tt te σ H Q)
  (b9:∀ (C D:Addr) (s':Shared) (m:Str->Option Value) (H':Hp) (ys:List V),s'.heap.Ns C m->C≠X.env.locals->C∉X.fs->D≠C->H' C=none->X.s₀.heap.objs.size <= C->(∀ x c,X.env.cells.lookup x=some c->c≠C)->(∀ p∈X.pn++pins,p.1≠C)->(∀ h',Heap.SameBut C s'.heap h'->Inv X pins σ (upd H' D (.lst ys)) { s' with heap:=h' })->Q (.ref D) (upd H' D (.lst ys)) ->
   compPost (model X.prog X.w) X.A X.xe use Q' (.ref D) C (.ok .next) s')
  (hs:∀ x,foldedSetIterable iter X.env x=pure x) (p':Pos) :
  wpAny (model X.prog X.w) X.A (comprehension (.ListComp elt [⟨tg,iter,ifs,0⟩] scope pos) scope X.env p' (newList []) false (eval iter X.env) use) Q' X.xe s:=by
 have ag:closureFor scope X.env=pure (closFrom X.env.cells scope.names []):=closureFor_eq fun y hy=>I.ok.has y (hc.fr y hy)
 refine wpAny_comprehension_free (g:=⟨tg,iter,ifs,0⟩) (gs:=[]) rfl hs ag hc.kind (fun x hx hl=>by rw [hc.look x hx,hl]) ?_
 refine thn (hi pins s σ H _ I h) fun v s1 h1=>thn h1 fun bf s2 h2=>?_
 obtain ⟨it,fp,tn,J,H2,e,Z,T,st2,f2,W,⟨m0,w0⟩,ak⟩:=h2
 subst e
 have af:∀ b∈fp,b < s2.heap.objs.size:=fun b U=>by
  obtain ⟨o,e,_⟩:=T.obj _ _ st2 b U
  exact Heap.lt_size e
 refine wpAny_newObj_type (newEnv_comp ?_)
 have al:(s2.heap.push { cls:=.type "list",dict:=none,data:=.seq ([]:List Value).toArray }).objs.size=s2.heap.objs.size+1:=Heap.size_push ..
 have I3:=comp_inv (h3:=s2.heap.push { cls:=.type "list",dict:=none,data:=.seq ([]:List Value).toArray }) hc Z f2 af al (fun b o e=>Heap.get?_push_of_some _ e)
 dsimp only
 rw [al]
 generalize hS4:({ s2 with heap:=pushCells ((s2.heap.push { cls:=.type "list",dict:=none,data:=.seq ([]:List Value).toArray }).push { cls:=.type "dict",data:=.dict #[] }) scope.names }:Shared)=s4 at I3 ⊢
 have a0:∀ b o,s2.heap.get? b=some o->s4.heap.get? b=some o:=fun b o e=>by
  rw [<- hS4]
  exact pushCells_keeps _ _ b o (Heap.get?_push_of_some _ (Heap.get?_push_of_some _ e))
 have av:s4.heap.get? s2.heap.objs.size=some { cls:=.type "list",data:=.seq ([]:List Value).toArray 0 }:=by
  rw [<- hS4]
  exact pushCells_keeps _ _ _ _ (Heap.get?_push_of_some _ (Heap.get?_push_size _ rfl))
 generalize hX':ZBl X N' scope (s2.heap.objs.size+1) fp s2 H2=X' at I3
 have a5:X'.env.locals=s2.heap.objs.size+1:=by rw [<- hX'];rfl
 have a9:X'.fs=frs X.stack:=by rw [<- hX'];rfl
 have ae:∀ a,s2.heap.objs.size <= a->a∉frs X.stack:=fun a ha U=>by
  rcases yAG.mp (Z.stkSub a U) with z | z
  .exact absurd z.symm (ZDJ Z.lt ha)
  .exact Z.nofs ha z
 have ac:∀ x c,X'.env.cells.lookup x=some c->c≠s2.heap.objs.size:=fun x c e z=>by
  obtain ⟨v,o,ho,hd⟩:=I3.cell x c e
  rw [z,av] at ho
  cases ho
  cases hd
 have aa:∀ {L:St} {H':Hp} {s':Shared} {its:List Value} {n:Nat},Inv X' [] L H' s'->s'.heap.get? s2.heap.objs.size=some { cls:=.type "list",data:=.seq its.toArray n }->H' s2.heap.objs.size=none ->
   Inv X' [(s2.heap.objs.size,{ cls:=.type "list",data:=.seq its.toArray n })] L H' s':=fun {L H' s' its n} J e nn=>J.pins_of fun p hp=>by
  have e':p=(s2.heap.objs.size,{ cls:=.type "list",data:=.seq its.toArray n }):=by simpa using hp
  subst e'
  refine ⟨e,nn,?_,?_,fun v z=>nomatch z⟩
  .rw [a5];exact yAE (yBQ _)
  .rw [a9];exact ae _ (yAA _)
 have I4:=aa I3 av (Z.hok.fresh (yAA _))
 have a4:∀ {H':Hp} {o:Obj},(∀ b∈fp,H' b=none)->∀ b∈fp,FpOk X' [(s2.heap.objs.size,o)] H' b:=fun {H' o} hn b U=>by
  have aj:=af b U
  refine ⟨hn b U,?_,?_,.inl (by rw [<- hX'];exact U),fun x c e z=>?_,fun p hp z=>?_⟩
  .rw [a5];exact ZDJ aj (yAY _)
  .rw [a9]
   intro z
   rcases yAG.mp (Z.stkSub b z) with q | q
   .exact (f2 b U).2.1 q
   .exact (f2 b U).2.2.1 q
  .have q:=I3.ok.exf b (by rw [<- hX'];exact U)
   exact q.2 x c e z
  .rw [show X'.pn=[] by rw [<- hX'];rfl] at hp
   have e':p=(s2.heap.objs.size,o):=by simpa using hp
   subst e'
   exact absurd aj (by rw [<- z];exact yBG _)
 have am:∀ {L:St} {H':Hp} {s':Shared} {its:List Value} {n:Nat} {ys:List V},Inv X' [(s2.heap.objs.size,{ cls:=.type "list",data:=.seq its.toArray n })] L H' s'->Vals ys its->ys.length <= sizeLine->(∀ p,H' p=none->Q (.ref p) (upd H' p (.lst ys))) ->
   compPost (model X.prog X.w) X.A X.xe use Q' (.ref s2.heap.objs.size) (s2.heap.objs.size+1) (.ok .next) s':=fun {L H' s' its n ys} J hv hz hq=>by
  obtain ⟨m,hn,_⟩:=id J.loc
  rw [a5] at hn
  have nC:H' (s2.heap.objs.size+1)=none:=by rw [<- a5];exact J.free
  have J':Inv (ZBl X N' scope (s2.heap.objs.size+1) fp s2 H2) [(s2.heap.objs.size,{ cls:=.type "list",data:=.seq its.toArray n })] L H' s':=by rw [hX'];exact J
  obtain ⟨nD,E⟩:=comp_end Z f2 (yAY _) (yAA _) (yAE (yBQ _)) J' hv hz
  refine b9 _ _ s' m H' ys hn ?_ (Z.nofs (yAY _)) (yAE (yBQ _)) nC (yAF Z.sz (yAY _)) (fun x c e z=>?_) (fun p hp z=>?_) E (hq _ nD)
  .exact (ZDJ Z.lt (yAY _)).symm
  .obtain ⟨v,q⟩:=Z.cell x c e
   exact absurd z (ZDJ q.lt (yAY _))
  .exact absurd z (ZDJ (Heap.lt_size (Z.pin p hp).1) (yAY _))
 have O:X'.prog=X.prog:=by rw [<- hX'];rfl
 have hw:X'.w=X.w:=by rw [<- hX'];rfl
 have hK:X'.K=X.K:=by rw [<- hX'];rfl
 have Y:X'.calm=true:=by rw [<- hX'];exact ai
 have hA:X'.A=X.A:=by rw [<- hX'];rfl
 have ao:ZDm scope (closFrom X.env.cells scope.names []) (s2.heap.objs.size+1) X.env=X'.env:=by rw [<- hX'];rfl
 have az:=hg (s2.heap.objs.size+1) fp s2 H2
 have ax:=ht (s2.heap.objs.size+1) fp s2 H2
 have aw:=he (s2.heap.objs.size+1) fp s2 H2
 rw [hX'] at az ax aw
 have ad:∀ e s',X'.xe e s'->False:=fun e s' z=>by rw [<- hX'] at z;exact z
 have bc:X'.pn=[]:=by rw [<- hX'];rfl
 have b2:X'.s₀.heap.objs.size=s2.heap.objs.size:=by rw [<- hX'];rfl
 have a8:codeAny (model X.prog X.w) X.A (.compLoop (.ListComp elt [⟨tg,iter,ifs,0⟩] scope pos) 0 (.ref it) (.ref s2.heap.objs.size) X'.env) (compPost (model X.prog X.w) X.A X.xe use Q' (.ref s2.heap.objs.size) (s2.heap.objs.size+1)) s4:=by
  refine codeAny_compLoop_any (fun n s'=>∃ i L H' its nn ys,Inv X' [(s2.heap.objs.size,{ cls:=.type "list",data:=.seq its.toArray nn })] L H' s' /\ tn i s'.heap /\ (∀ b∈fp,H' b=none) /\ Vals ys its /\ W i n ys L H') ?_ m0
   ⟨0,_,H2,[],0,[],I4,T.keep _ _ _ st2 (fun b _ o e=>a0 b o e),fun b U=>(f2 b U).1,.nil,w0⟩
  rintro n s5 ⟨i,a7,H5,its,nn,ys,I5,b1,ay,hv,w5⟩
  rcases ak i n ys a7 H5 w5 with ⟨b0,hz,hq⟩ | ⟨go,hz,step⟩
  .have d:=T.done X' O hw hK Y i _ s5 a7 H5 (fun _ _=>False) I5 (a4 ay) b1 b0
   rw [hA] at d
   refine wpAny_mono d (fun r s6 ⟨hr,I6⟩=>?_) fun _ _ z=>z.elim
   subst hr
   exact am I6 hv hz hq
  .have d:=T.item X' O hw hK Y i _ s5 a7 H5 (fun _ _=>False) I5 (a4 ay) b1 go
   rw [hA] at d
   refine wpAny_mono d (fun r s6 ⟨u,hr,h6⟩=>?_) fun _ _ z=>z.elim
   subst hr
   refine wpAny_mono h6 (fun _ s7 zz=>?_) fun _ _ z=>z.elim
   obtain ⟨x,H7,I7,r7,y7,ah,b7⟩:=zz
   have b4:=I7.pinned (a4 b7) (T.obj _ _ ah)
   have a1:=az _ s7 a7 H7 x u _ b4 r7 (step x H7 y7)
   rw [O,hw,hA] at a1
   refine wpAny_mono a1 (fun _ s8 zz=>?_) fun _ _ z=>(ad _ _ z).elim
   obtain ⟨a6,H8,I8,q8⟩:=zz
   have a2:=ax _ s8 a6 H8 _ I8 q8
   rw [O,hw,hA] at a2
   refine wpAny_mono a2 (fun ok s9 ⟨H9,I9,q9⟩=>?_) fun _ _ z=>(ad _ _ z).elim
   have back:∀ {L:St} {H':Hp} {s':Shared},Inv X' ([(s2.heap.objs.size,({ cls:=.type "list",data:=.seq its.toArray nn }:Obj))]++ZDt fp s7.heap) L H' s'->tn (i+1) s'.heap /\ (∀ b∈fp,H' b=none):=fun {L H' s'} J=>by
    refine ⟨T.keep _ _ _ ah fun b U o e=>(J.pin (b,o) (yAW _ (yAW _ (ZCE U e)))).1,fun b U=>?_⟩
    obtain ⟨o,e,d⟩:=T.obj _ _ ah b U
    exact (J.pin (b,o) (yAW _ (yAW _ (ZCE U e)))).2.1
   cases ok with
   | false=>
    rw [if_neg yBC] at q9 ⊢
    obtain ⟨m',hm,w9⟩:=q9
    obtain ⟨t9,f9⟩:=back I9
    exact ⟨m',hm,i+1,a6,H9,its,nn,ys,I9.unpinned,t9,f9,hv,w9⟩
   | true=>
    rw [if_pos rfl] at q9 ⊢
    have a3:=aw _ s9 a6 H9 _ I9 q9
    rw [O,hw,hA] at a3
    refine wpAny_mono a3 (fun uy s10 zz=>?_) fun _ _ z=>(ad _ _ z).elim
    obtain ⟨y,aq,an,bb,m',hm,b6⟩:=zz
    obtain ⟨b8,bd⟩:=back an
    have au:=an.unpinned
    obtain ⟨eD,nD,_,_,_⟩:=au.pin (s2.heap.objs.size,{ cls:=.type "list",data:=.seq its.toArray nn }) (yAW _ yAJ)
    dsimp only at eD nD
    have hsz:its.length < sizeLine:=by rw [<- hv.length];exact hz
    refine wpAny_list_append_plain ⟨nn,eD⟩ (fun h' b3 ar=>?_) (by rw [yAN];omega)
    obtain ⟨n',e'⟩:=b3
    have ba:h'.get? s2.heap.objs.size=some { cls:=.type "list",data:=.seq (its++[uy]).toArray n' }:=by rw [e'];simp
    have b5:Inv X' [] a6 aq s10:=au.pins_of fun p hp=>absurd hp (by simp)
    have be:=b5.turned (h':=h') (t':=s10.toks) (it:=s2.heap.objs.size) (fun b o U e=>(ar.2 b U).trans e) nD (by rw [a5];exact yAE (yBQ _)) (.inr (by rw [b2];exact yAA _)) ac (fun p hp=>absurd hp (by rw [bc];simp))
    refine ⟨m',hm,i+1,a6,aq,its++[uy],n',ys++[y],aa be ba nD,T.keep _ _ _ b8 fun b U o e=>?_,bd,hv.append (.cons bb .nil),b6⟩
    exact (ar.2 b (ZDJ (af b U) (yAA _))).trans e
 have ap:codeAny (model X.prog X.w) X.A (.compStart (.ListComp elt [⟨tg,iter,ifs,0⟩] scope pos) 0 (.ref it) (.ref s2.heap.objs.size) X'.env) (compPost (model X.prog X.w) X.A X.xe use Q' (.ref s2.heap.objs.size) (s2.heap.objs.size+1)) s4 :=
  codeAny_compStart_list a8 (T.self X.A 0 s4 _ _ (T.keep _ _ _ st2 (fun b _ o e=>a0 b o e)) a8)
 rw [<- ao] at ap
 exact ap
theorem ZB1 (z:X.calm=true) (hc:ZCv X.N X.env.scope k js N' scope=true) (hi:PI X tg iter wi)
  (Y:∀ C fp s2 H2,PG (ZBl X N' scope C fp s2 H2) tg g) (L:∀ C fp s2 H2,PIfs (ZBl X N' scope C fp s2 H2) ifs tt) (O:∀ C fp s2 H2,PE (ZBl X N' scope C fp s2 H2) elt te)
  (U:∀ x,foldedSetIterable iter X.env x=pure x:=by intro _;rfl):PE X (.ListComp elt [⟨tg,iter,ifs,0⟩] scope pos) (ZDq k js wi g tt te):=by
 intro pins s σ H Q I h
 rw [eval_ListComp]
 refine comp_core (use:=none) z (cmpOk hc) hi Y L O I h (fun C D s' m H' ys hn _ _ _ _ _ _ _ E q=>?_) U _
 exact ⟨m,hn,fun h' J=>⟨.ref D,_,E h' J,rfl,q⟩⟩
theorem ps_setComp {i:Nat} {x:Str} {Z O:Pos} (hN:X.N.Nodup) (a1:X.N[i]?=some x) (hx:Loc X.env.scope x) (U:X.calm=true) (hc:ZCv X.N X.env.scope k js N' scope=true) (hi:PI X tg iter wi)
  (hg:∀ C fp s2 H2,PG (ZBl X N' scope C fp s2 H2) tg g) (ht:∀ C fp s2 H2,PIfs (ZBl X N' scope C fp s2 H2) ifs tt) (he:∀ C fp s2 H2,PE (ZBl X N' scope C fp s2 H2) elt te)
  (hs:∀ x,foldedSetIterable iter X.env x=pure x:=by intro _;rfl) (a0:swapsWith (.ListComp elt [⟨tg,iter,ifs,0⟩] scope pos) (some (.Name x Z)) O.line X.env=pure true:=by rfl)
  (hf:X.fn x=true∨X.env.scope.names.lookup x=some .local:=by first | exact .inl rfl | exact .inr rfl | assumption) :
  PS X (.Assign [.Name x Z] (.ListComp elt [⟨tg,iter,ifs,0⟩] scope pos) O) (tAsg (ZDq k js wi g tt te) (ZEH i)):=by
 intro pins s σ H D I h
 rw [exec_Assign_Name_used _ _ _ _ a0]
 refine wpAny_bind (wpAny_standAt (wpAny_bind ?_))
 show wpAny _ X.A (do let _ <- comprehension (.ListComp elt [⟨tg,iter,ifs,0⟩] scope pos) scope X.env _ (newList []) false (eval iter X.env) (some (assign (.Name x Z) X.env))) _ _ s
 refine wpAny_bind (wpAny_mono (comp_core (use:=some (assign (.Name x Z) X.env)) (Q':=fun _ s'=>SP X pins D .next s') U (cmpOk hc) hi hg ht he I h (fun C Dd s' m H' ys hn c1 c2 c3 c4 c5 c6 c7 E q=>?_) hs _) (fun _ s' hq=>wpAny_pure (wpAny_pure hq)) fun _ _ e=>e)
 have J:=E s'.heap (.refl ..)
 obtain ⟨Y,es,ep,eC,dC,rC⟩:=id hn
 have J':Inv X (pins++[(C,Y)]) σ (upd H' Dd (.lst ys)) s':=J.pins_of fun p hp=>by
  rcases yBB.mp hp with z | z
  .exact J.pin p (yAW _ z)
  .have e':p=(C,Y):=by simpa using z
   subst e'
   refine ⟨eC,?_,c1,c2,fun v z=>?_⟩
   .show upd H' Dd _ C=none
    rw [ZAG (Ne.symm c3)]
    exact c4
   .have z':Y.data=.cell v:=z
    rw [dC] at z'
    cases z'
 show wpAny _ X.A (assign (.Name x Z) X.env (.ref Dd)) _ _ _
 refine wpAny_assign_Name (ZCq (Q:=fun _ L=>∃ m,L.heap.Ns C m /\ ∀ h',Heap.SameBut C L.heap h'->SP X pins D .next { L with heap:=h' }) J' hN a1 hx (v:=.ref Dd) (u:=.ref Dd) rfl (fun L K'=>?_) hf)
 obtain ⟨e2,n2,_,_,_⟩:=K'.pin (C,Y) (yAW _ (yAW _ yAJ))
 dsimp only at e2 n2
 refine ⟨m,⟨Y,es,ep,e2,dC,rC⟩,fun h' a2=>⟨_,_,K'.unpinned.turned (it:=C) (t':=L.toks) (fun b o hb e=>(a2.2 b hb).trans e) n2 c1 (.inr c5) c6 c7,q⟩⟩
end
mutual
noncomputable def Dp (K:W.Frag) (H:Hp):PyData->V->Prop
 | .none,v=>v=.non
 | .bool b,v=>v=.bl b
 | .int i,v=>v=.int i
 | .str x,v=>v=.str x
 | .list ds,v=>∃ a xs,v=.ref a /\ SqL K H a xs /\ DpAll K H ds xs
 | .tuple ds,v=>∃ a xs,v=.ref a /\ SqT K H a xs /\ DpAll K H ds xs
 | .dict _,_=>False
noncomputable def DpAll (K:W.Frag) (H:Hp):List PyData->List V->Prop
 | [],vs=>vs=[]
 | d::ds,vs=>∃ v r,vs=v::r /\ Dp K H d v /\ DpAll K H ds r
end
theorem DpAll.nil {K:W.Frag} {H:Hp}:DpAll K H [] []:=by unfold DpAll;rfl
theorem DpAll.cons {K:W.Frag} {H:Hp} {d:PyData} {ds:List PyData} {v:V} {vs:List V} (a:Dp K H d v) (t:DpAll K H ds vs):DpAll K H (d::ds) (v::vs):=by unfold DpAll;exact ⟨v,vs,rfl,a,t⟩
theorem DpAll.two {K:W.Frag} {H:Hp} {d e:PyData} {v u:V} (a:Dp K H d v) (b:Dp K H e u):DpAll K H [d,e] [v,u]:=.cons a (.cons b .nil)
theorem DpAll.ints {K:W.Frag} {H:Hp}:∀ (ns:List Int),DpAll K H (ns.map PyData.int) (ns.map V.int)
 | []=>.nil
 | n::r=>.cons (by unfold Dp;rfl) (DpAll.ints r)
theorem ZA2 {K:W.Frag} {H:Hp} (i:Int):Dp K H (.int i) (.int i):=by unfold Dp;rfl
theorem dp_bl {K:W.Frag} {H:Hp} (i:Bool):Dp K H (.bool i) (.bl i):=by unfold Dp;rfl
theorem ZEy {K:W.Frag} {H:Hp} {a:Addr} {xs:List V} {ds:List PyData} (h:SqL K H a xs) (t:DpAll K H ds xs):Dp K H (.list ds) (.ref a):=by unfold Dp;exact ⟨a,xs,rfl,h,t⟩
theorem ZB3 {K:W.Frag} {H:Hp} {a:Addr} {xs:List V} {ds:List PyData} (h:SqT K H a xs) (t:DpAll K H ds xs):Dp K H (.tuple ds) (.ref a):=by unfold Dp;exact ⟨a,xs,rfl,h,t⟩
section
variable {X:Cx} {pins:List (Addr×Obj)} {σ:St} {H:Hp} {s:Shared}
mutual
theorem Inv.reads (I:Inv X pins σ H s):∀ {d:PyData} {v:V} {u:Value},Dp X.K H d v->RelV v u->∃ as,Reads s.heap u d as
 | .none,_,_,h,r=>by unfold Dp at h;subst h;cases (show _=Value.none from r);exact ⟨_,.none⟩
 | .bool b,_,_,h,r=>by unfold Dp at h;subst h;cases (show _=Value.bool b from r);exact ⟨_,.bool b⟩
 | .int i,_,_,h,r=>by unfold Dp at h;subst h;obtain ⟨t,q⟩:=(show ∃ t,_=Value.int i t from r);subst q;exact ⟨_,.int i t⟩
 | .str x,_,_,h,r=>by unfold Dp at h;subst h;obtain ⟨t,q⟩:=(show ∃ t,_=Value.str x t from r);subst q;exact ⟨_,.str x t⟩
 | .list ds,_,_,h,r=>by
  unfold Dp at h
  obtain ⟨a,xs,q,z,t⟩:=h
  subst q
  cases (show _=Value.ref a from r)
  obtain ⟨its,O,pl,_⟩:=I.list z
  obtain ⟨as,L⟩:=Inv.readsAll I t O
  obtain ⟨o,n,J,e2,_,e3⟩:=pl
  exact ⟨_,.list J e2 e3 (by simpa using L)⟩
 | .tuple ds,_,_,h,r=>by
  unfold Dp at h
  obtain ⟨a,xs,q,z,t⟩:=h
  subst q
  cases (show _=Value.ref a from r)
  obtain ⟨its,O,pl,_⟩:=I.tuple z
  obtain ⟨as,L⟩:=Inv.readsAll I t O
  obtain ⟨o,J,e2,n,e3⟩:=pl
  exact ⟨_,.tuple J e2 e3 (by simpa using L)⟩
 | .dict _,_,_,h,_=>by unfold Dp at h;exact h.elim
theorem Inv.readsAll (I:Inv X pins σ H s):∀ {ds:List PyData} {vs:List V} {us:List Value},DpAll X.K H ds vs->Vals vs us->∃ as,ReadsAll s.heap us ds as
 | [],_,_,h,r=>by unfold DpAll at h;subst h;cases r;exact ⟨_,.nil⟩
 | _::_,_,_,h,r=>by
  unfold DpAll at h
  obtain ⟨v,q,e,a,t⟩:=h
  subst e
  cases r with
  | cons r1 r2=>
   obtain ⟨as,h1⟩:=Inv.reads I a r1
   obtain ⟨bs,h2⟩:=Inv.readsAll I t r2
   exact ⟨_,.cons h1 h2⟩
end
noncomputable def rEqD (K:W.Frag):R2:=fun x y H Q=>∃ d e,Dp K H d x /\ Dp K H e y /\ d.canLay0=true /\ e.canLay0=true /\ d.depth <= 64 /\ Q (.bl (PyData.eqv d e)) H
noncomputable def rNeD (K:W.Frag):R2:=fun x y H Q=>∃ d e,Dp K H d x /\ Dp K H e y /\ d.canLay0=true /\ e.canLay0=true /\ d.depth <= 64 /\ Q (.bl (!PyData.eqv d e)) H
theorem op_eqD (U:X.A.units+64 < cLine):OpR X (compareOp .Eq) (rEqD X.K):=by
 intro pins s σ H x y v u Q I J z h
 obtain ⟨d,e,h1,h2,c1,c2,dp,q⟩:=h
 obtain ⟨as,O⟩:=I.reads h1 J
 obtain ⟨bs,L⟩:=I.reads h2 z
 exact SeqAt.compareEq_reads O L c1 c2 (by omega) ⟨.bl _,H,I,rfl,q⟩
theorem ZER (U:X.A.units+64 < cLine):OpR X (compareOp .NotEq) (rNeD X.K):=by
 intro pins s σ H x y v u Q I J z h
 obtain ⟨d,e,h1,h2,c1,c2,dp,q⟩:=h
 obtain ⟨as,O⟩:=I.reads h1 J
 obtain ⟨bs,L⟩:=I.reads h2 z
 exact SeqAt.compareNe_reads O L c1 c2 (by omega) ⟨.bl _,H,I,rfl,q⟩
end
section
variable {X:Cx} {x:Str} {pos:Pos}
theorem ZDe {C:Addr} (J:Gl X x) (h:X.mg x=some (.ref C)) (z:(x == ("__debug__":Str))=false:=by decide):PE X (.Name x pos) (tC (.ref C)):=pe_glob J h rfl z
theorem ZCm {n:String} (L:Gl X x) (hm:X.mg x=none) (J:bootBuiltins x=some (.type n)) (hn:x≠"__name__":=by decide) (z:(x == ("__debug__":Str))=false:=by decide):PE X (.Name x pos) (tC (.ty n)):=pe_bltn L hm J rfl hn z
end
structure Fn (P:Program) (w:World) (K:W.Frag) (mg:Str->Option Value) (base:Heap) (CX:CXT) (x:Str) (k:Nat) (ps:List Str) (sp:Sp):Prop where
 ex:∃ f fd,FnOk P w K mg base CX k f fd ps sp /\ Binds K fd ps [] /\ W.keepIn K (.ref f)=true /\ mg x=some (.ref f)
structure Mt (P:Program) (w:World) (K:W.Frag) (mg:Str->Option Value) (base:Heap) (CX:CXT) (C:Addr) (m:Str) (k:Nat) (ps:List Str) (sp:Sp):Prop where
 cl:Cls K C
 ex:∃ f fd,FnOk P w K mg base CX k f fd ps sp /\ Binds K fd ps [] /\ Meth K C m f
structure Kl (P:Program) (w:World) (K:W.Frag) (mg:Str->Option Value) (base:Heap) (CX:CXT) (x:Str) (C:Addr) (k:Nat) (ps:List Str) (sp:Sp):Prop where
 mgC:mg x=some (.ref C)
 ex:∃ f fd,FnOk P w K mg base CX k f fd ps sp /\ Binds K fd ps [] /\ Mk K C f
section
variable {X:Cx} {CX:CXT} {k:Nat} {ps:List Str} {sp:Sp} {E:XK} {x m:Str} {C:Addr} {p pos apos:Pos} {e o:Expr} {es:List Expr} {ta:TE} {t:TA}
theorem ZAp (F:Fn X.prog X.w X.K X.mg X.base CX x k ps sp) (L:Room k X.A) (Y:Gl X x) (hx:ZBh CX X E) (ha:PA X (e::es) t) (z:(x == ("__debug__":Str))=false:=by decide) (O:starEach (e::es) X.env=(false,eval e X.env)::starEach es X.env:=by rfl) (J:(backTo pos (starEach es X.env)).any (·.1)=false:=by rfl) :
  PE X (.Call (.Name x p) (e::es) [] pos) (ZE4 sp [] E t):=by
 obtain ⟨f,fd,h1,h2,h3,U⟩:=F.ex
 exact pe_call h1 L Y U h3 h2 .nil hx ha z O J
theorem ZFI {pl:Sem Bool} (F:Mt X.prog X.w X.K X.mg X.base CX C m k ps sp) (O:Room k X.A) (hx:ZBh CX X E) (U:PE X o ta) (ha:PA X (e::es) t)
  (J:starEach (e::es) X.env=(false,eval e X.env)::starEach es X.env:=by rfl) (z:(backTo pos (starEach es X.env)).any (·.1)=false:=by rfl)
  (L:eval (.Call (.Attribute o m apos) (e::es) [] pos) X.env=(do
   let ov <- eval o X.env
   standAt apos.atName
   let (f,first) <- holding [ov] (getMethod ov m pl)
   callWith pos f first (backTo pos (starEach (e::es) X.env)) (backToKw pos (keywordEach [] X.env))):=by rfl) :
  PE X (.Call (.Attribute o m apos) (e::es) [] pos) (ZEX C m sp [] E ta t):=by
 obtain ⟨f,fd,h1,h2,h3⟩:=F.ex
 exact pe_meth U F.cl h3 h1 O h2 .nil hx ha J z L
theorem ZEs {pl:Sem Bool} (F:Mt X.prog X.w X.K X.mg X.base CX C m k ps sp) (J:Room k X.A) (hx:ZBh CX X E) (L:PE X o ta)
  (z:eval (.Call (.Attribute o m apos) [] [] pos) X.env=(do
   let ov <- eval o X.env
   standAt apos.atName
   let (f,first) <- holding [ov] (getMethod ov m pl)
   callWith pos f first (backTo pos (starEach [] X.env)) (backToKw pos (keywordEach [] X.env))):=by rfl) :
  PE X (.Call (.Attribute o m apos) [] [] pos) (ZEX C m sp [] E ta tNil):=by
 obtain ⟨f,fd,h1,h2,h3⟩:=F.ex
 exact pe_meth0 L F.cl h3 h1 J h2 .nil hx z
theorem pe_mk (F:Kl X.prog X.w X.K X.mg X.base CX x C k ps sp) (L:Room (k+1) X.A) (U:Gl X x) (hx:ZBh CX X E) (ha:PA X (e::es) t) (z:(x == ("__debug__":Str))=false:=by decide) (O:starEach (e::es) X.env=(false,eval e X.env)::starEach es X.env:=by rfl) (J:(backTo pos (starEach es X.env)).any (·.1)=false:=by rfl) :
  PE X (.Call (.Name x p) (e::es) [] pos) (ZEg C sp [] E t):=by
 obtain ⟨f,fd,h1,h2,h3⟩:=F.ex
 exact pe_make h3 h1 L U F.mgC h2 .nil hx ha z O J
end
noncomputable def ZDL:V->Bool
 | .ty _=>true
 | .ref _=>true
 | _=>false
noncomputable def cval:V->Value
 | .ty n=>.type n
 | .ref a=>.ref a
 | _=>.none
section
variable {X:Cx}
theorem ZAy:ZBd X (.builtin "isinstance") (fun xs H Q=>∃ x c ty b,xs=[x,c] /\ ZDL c=true /\ TyOf X.K H x ty /\ PySem.W.kitOne X.K ty (cval c)=some b /\ Q (.bl b) H):=by
 intro pins s σ H xs us Q I r h
 obtain ⟨x,c,ty,b,rfl,hc,z,e,q⟩:=h
 obtain ⟨u,w',rfl,L,J⟩:=ZDV r
 have e2:w'=cval c:=by
  cases c <;> first | (cases hc;done) | exact J
 subst e2
 exact isinst_ok I L z e fun tk=>⟨.bl b,H,I.tok tk,rfl,q⟩
end
theorem ZAa {v:V} {σ:St} {H:Hp} {Q:VK}:tVar 0 (some v::σ) H Q=Q v H:=by
 apply propext;unfold tVar;simp
theorem ZAf {i:Nat} {a:Option V} {σ:St} {H:Hp} {Q:VK}:tVar (i+1) (a::σ) H Q=tVar i σ H Q:=by
 apply propext;unfold tVar;simp
theorem rI0_int {g:Int->Int->V} {i j:Int} {H:Hp} {Q:VK}:rI0 g (.int i) (.int j) H Q=Q (g i j) H:=by
 apply propext;unfold rI0;simp
theorem rI_int {C:Int->Int->Prop} {g:Int->Int->V} {i j:Int} {H:Hp} {Q:VK}:rI C g (.int i) (.int j) H Q=(C i j /\ Q (g i j) H):=by
 apply propext;unfold rI;simp
theorem rU_int {g:Int->V} {i:Int} {H:Hp} {Q:VK}:rU g (.int i) H Q=Q (g i) H:=by
 apply propext;unfold rU;simp
theorem rEq_int {i j:Int} {H:Hp} {Q:VK}:rEq (.int i) (.int j) H Q=Q (.bl (decide (i=j))) H:=by
 exact propext ⟨fun h=>by simpa using h.2,fun h=>⟨rfl,by simpa using h⟩⟩
theorem rNe_int {i j:Int} {H:Hp} {Q:VK}:rNe (.int i) (.int j) H Q=Q (.bl (!decide (i=j))) H:=by
 exact propext ⟨fun h=>by simpa using h.2,fun h=>⟨rfl,by simpa using h⟩⟩
theorem rEq_bl {i j:Bool} {H:Hp} {Q:VK}:rEq (.bl i) (.bl j) H Q=Q (.bl (decide (i=j))) H:=by
 exact propext ⟨fun h=>by simpa using h.2,fun h=>⟨rfl,by simpa using h⟩⟩
theorem rNe_bl {i j:Bool} {H:Hp} {Q:VK}:rNe (.bl i) (.bl j) H Q=Q (.bl (!decide (i=j))) H:=by
 exact propext ⟨fun h=>by simpa using h.2,fun h=>⟨rfl,by simpa using h⟩⟩
theorem rEq_str {i j:Str} {H:Hp} {Q:VK}:rEq (.str i) (.str j) H Q=Q (.bl (decide (i=j))) H:=by
 exact propext ⟨fun h=>by simpa using h.2,fun h=>⟨rfl,by simpa using h⟩⟩
theorem rNe_str {i j:Str} {H:Hp} {Q:VK}:rNe (.str i) (.str j) H Q=Q (.bl (!decide (i=j))) H:=by
 exact propext ⟨fun h=>by simpa using h.2,fun h=>⟨rfl,by simpa using h⟩⟩
theorem ex_bl {c:Bool} {Q:Bool->Prop}:(∃ k,V.bl c=V.bl k /\ Q k)=Q c:=by
 apply propext;simp
theorem ex_int {c:Int} {Q:Int->Prop}:(∃ k,V.int c=V.int k /\ Q k)=Q c:=by
 apply propext;simp
theorem ZAW {n:Nat} (h:n <= 1000):n <= sizeLine:=yBP (ZBH h)
theorem ZAL {H:Hp} {p:Addr} (h:H p=none) (o:HO):Same H (upd H p o):=fun b u q=>by rw [ZAG (ZAF q h)];exact q
noncomputable def getF (K:W.Frag) (f:Str) (x:V) (H:Hp) (Q:VK):Prop:=∃ a C dx fs v,x=.ref a /\ H a=some (.ins C dx fs) /\ Cls K C /\ NoAttr K C f /\ fs.lookup f=some v /\ Q v H
theorem tFld_eq {K:W.Frag} {ta:TE} {f:Str} {σ:St} {H:Hp} {Q:VK}:tFld K ta f σ H Q=ta σ H (fun x H1=>getF K f x H1 Q):=rfl
theorem getF_of {K:W.Frag} {f:Str} {a C dx:Addr} {fs:List (Str×V)} {v:V} {H:Hp} {Q:VK} (h:H a=some (.ins C dx fs)) (cl:Cls K C) (n:NoAttr K C f) (l:fs.lookup f=some v) (q:Q v H):getF K f (.ref a) H Q:=⟨a,C,dx,fs,v,rfl,h,cl,n,l,q⟩
noncomputable def setF (K:W.Frag) (f:Str) (x y:V) (H:Hp) (Q:Hp->Prop):Prop:=∃ a C dx fs,x=.ref a /\ H a=some (.ins C dx fs) /\ Cls K C /\ NoAttr K C f /\ fs.length < 1000 /\ Q (upd H a (.ins C dx (putF f y fs)))
theorem sFld_eq {K:W.Frag} {ta tv:TE} {f:Str} {D:Ends} {σ:St} {H:Hp}:sFld K ta tv f D σ H=tv σ H (fun y H1=>ta σ H1 fun x H2=>setF K f x y H2 (D.nx σ)):=rfl
theorem setF_of {K:W.Frag} {f:Str} {a C dx:Addr} {fs:List (Str×V)} {y:V} {H:Hp} {Q:Hp->Prop} (h:H a=some (.ins C dx fs)) (cl:Cls K C) (n:NoAttr K C f) (l:fs.length < 1000) (q:Q (upd H a (.ins C dx (putF f y fs)))):setF K f (.ref a) y H Q:=⟨a,C,dx,fs,rfl,h,cl,n,l,q⟩
theorem ZAh {K:W.Frag} {p:Addr} {xs:List V} {i:Int} {v:V} {H:Hp} {Q:VK} (h:SqL K H p xs) (e:atI xs i=some v) (q:Q v H):rIxL K (.ref p) (.int i) H Q:=⟨p,xs,i,v,rfl,rfl,h,e,q⟩
theorem ZCn {K:W.Frag} {p:Addr} {xs:List V} {i:Int} {v:V} {H:Hp} {Q:VK} (h:SqT K H p xs) (e:atI xs i=some v) (q:Q v H):rIxT K (.ref p) (.int i) H Q:=⟨p,xs,i,v,rfl,rfl,h,e,q⟩
theorem ZAl {α:Type} {xs:List α} {i:Int} {v:α} (z:0 <= i) (h:xs[i.toNat]?=some v):atI xs i=some v:=by
 have q:=atI_nat h
 rwa [Int.toNat_of_nonneg z] at q
theorem ZCe {xs:List Int} {i:Int} {v:Int} (z:0 <= i) (h:xs[i.toNat]?=some v):atI (xs.map V.int) i=some (.int v):=ZAl z (by rw [yAT,h];rfl)
noncomputable def Nxt (P:Nat->List V->St->Hp->Prop) (n i:Nat) (ys:List V) (σ:St) (H:Hp):Prop:=∃ m',m' < n-i /\ m'=n-(i+1) /\ i+1 <= n /\ P (i+1) ys σ H
theorem Nxt.of {P:Nat->List V->St->Hp->Prop} {n i:Nat} {ys:List V} {σ:St} {H:Hp} (h:i < n) (p:P (i+1) ys σ H):Nxt P n i ys σ H:=⟨n-(i+1),by omega,rfl,h,p⟩
theorem comp_list {K:W.Frag} {a:Addr} {xs:List V} {g:TG} {tt:TT} {te:TE} {Q:VK} {σ0:St} {H:Hp} (P:Nat->List V->St->Hp->Prop) (L:P 0 [] σ0 H) (hl:∀ i ys σ H,i <= xs.length->P i ys σ H->SqL K H a xs /\ ys.length <= i) (Z:xs.length <= sizeLine)
  (O:∀ i ys x σ H,i < xs.length->xs[i]?=some x->P i ys σ H->g x σ H fun z H2=>tt z H2 fun b H3=>if b=true then te z H3 fun y H4=>Nxt P xs.length i (ys++[y]) z H4 else Nxt P xs.length i ys z H3)
  (U:∀ ys σ H,P xs.length ys σ H->∀ p,H p=none->Q (.ref p) (upd H p (.lst ys))) :
  ∃ W:Nat->Nat->List V->St->Hp->Prop,(∃ m,W 0 m [] σ0 H) /\ ∀ i m ys σ H,W i m ys σ H ->
   ((Itl K a).stop i H /\ ys.length <= sizeLine /\ ∀ p,H p=none->Q (.ref p) (upd H p (.lst ys))) ∨
   ((Itl K a).go i H /\ ys.length < sizeLine /\ ∀ x H',(Itl K a).yld i H x H'->g x σ H' fun z H2=>tt z H2 fun b H3=>if b=true then te z H3 fun y H4=>∃ J,J < m /\ W (i+1) J (ys++[y]) z H4 else ∃ J,J < m /\ W (i+1) J ys z H3):=by
 refine ⟨fun i m ys σ H=>m=xs.length-i /\ i <= xs.length /\ P i ys σ H,⟨xs.length,by simp,yAD _,L⟩,?_⟩
 rintro i m ys σ H ⟨rfl,hi,p⟩
 obtain ⟨q,Y⟩:=hl i ys σ H hi p
 by_cases hlt:i < xs.length
 .refine .inr ⟨⟨xs,xs[i],q,by simp [hlt]⟩,by omega,fun x H' y=>?_⟩
  obtain ⟨e,y⟩:=y
  subst e
  exact O i ys x σ _ hlt (y xs q) p
 .have e:i=xs.length:=by omega
  subst e
  exact .inl ⟨⟨xs,q,yAA _⟩,by omega,U ys σ H p⟩
theorem comp_range {lo:Int} {n:Nat} {g:TG} {tt:TT} {te:TE} {Q:VK} {σ0:St} {H:Hp} (P:Nat->List V->St->Hp->Prop) (L:P 0 [] σ0 H) (hl:∀ i ys σ H,P i ys σ H->ys.length <= i) (Z:n <= sizeLine)
  (O:∀ i ys σ H,i < n->P i ys σ H->g (.int (lo+i)) σ H fun z H2=>tt z H2 fun b H3=>if b=true then te z H3 fun y H4=>Nxt P n i (ys++[y]) z H4 else Nxt P n i ys z H3)
  (U:∀ ys σ H,P n ys σ H->∀ p,H p=none->Q (.ref p) (upd H p (.lst ys))) :
  ∃ W:Nat->Nat->List V->St->Hp->Prop,(∃ m,W 0 m [] σ0 H) /\ ∀ i m ys σ H,W i m ys σ H ->
   ((Itr lo n).stop i H /\ ys.length <= sizeLine /\ ∀ p,H p=none->Q (.ref p) (upd H p (.lst ys))) ∨
   ((Itr lo n).go i H /\ ys.length < sizeLine /\ ∀ x H',(Itr lo n).yld i H x H'->g x σ H' fun z H2=>tt z H2 fun b H3=>if b=true then te z H3 fun y H4=>∃ J,J < m /\ W (i+1) J (ys++[y]) z H4 else ∃ J,J < m /\ W (i+1) J ys z H3):=by
 refine ⟨fun i m ys σ H=>m=n-i /\ i <= n /\ P i ys σ H,⟨n,by simp,yAD _,L⟩,?_⟩
 rintro i m ys σ H ⟨rfl,hi,p⟩
 have Y:=hl i ys σ H p
 by_cases hlt:i < n
 .refine .inr ⟨hlt,by omega,fun x H' y=>?_⟩
  obtain ⟨e,y⟩:=y
  subst e y
  exact O i ys σ _ hlt p
 .have e:i=n:=by omega
  subst e
  exact .inl ⟨yAA _,by omega,U ys σ H p⟩
theorem Same.upd {H H':Hp} {p:Addr} {o:HO} (e:Same H H') (h:H p=none):Same H (upd H' p o):=fun b u q=>by rw [ZAG (ZAF q h)];exact e b u q
theorem Same.new {H H':Hp} {p:Addr} {o:HO} (e:Same H H') (h:H' p=none):Same H (L2.upd H' p o):=e.upd (e.free h)
theorem kit_same {K:W.Frag} {t:Value} (h:(t == t)=true):PySem.W.kitOne K t t=some true:=by unfold PySem.W.kitOne;rw [if_pos h]
theorem ZDF (ns:List Int) (lo hi:Option Int):cutV (ns.map V.int) lo hi=(((ns.drop (HT.sIx ns.length 0 lo)).take (HT.sIx ns.length ns.length hi-HT.sIx ns.length 0 lo)).map V.int):=by
 unfold cutV
 rw [yAB,List.map_take,List.map_drop]
theorem ZCu {ns:List Int} {i:Nat} {x:V} (h:(ns.map V.int)[i]?=some x):∃ n,ns[i]?=some n /\ x=.int n:=by
 rw [yAT] at h
 cases e:ns[i]? with
 | none=>rw [e] at h;cases h
 | some n=>rw [e] at h;exact ⟨n,rfl,(Option.some.inj h).symm⟩
theorem ixN_of {n:Nat} {i:Int} (z:0 <= i) (h:i < n):ixN n i=some i.toNat:=by unfold ixN;rw [if_pos z,if_pos h]
theorem ZCl {K:W.Frag} {a:Addr} {xs:List V} {lo hi:Option Int} {H:Hp} {Q:VK} (h:SqL K H a xs) (q:∀ p,H p=none->Q (.ref p) (upd H p (.lst (cutV xs lo hi)))):rSlL K (.ref a) lo hi H Q:=⟨a,xs,rfl,h,q⟩
noncomputable def forL (K:W.Frag) (g:TG) (tb:TS) (D:Ends) (σ:St) (x:V) (H1:Hp):Prop:=∃ a,x=.ref a /\ (∃ xs,SqL K H1 a xs) /\ ∃ W:Nat->Nat->St->Hp->Prop,(∃ m,W 0 m σ H1) /\ ∀ i m σ H,W i m σ H ->
 ((Itl K a).stop i H /\ D.nx σ H)∨((Itl K a).go i H /\ ∃ N:St->Hp->Prop,(∀ σ' H',N σ' H'->∃ m',m' < m /\ W (i+1) m' σ' H') /\ ∀ x H',(Itl K a).yld i H x H'->g x σ H' fun σ2 H2=>tb { D with nx:=N,ct:=N,bk:=D.nx } σ2 H2)
theorem tForL_eq {K:W.Frag} {tl:TE} {g:TG} {tb:TS} {D:Ends} {σ:St} {H:Hp}:tFor (ZFL K tl) g tb D σ H=tl σ H (fun x H1=>forL K g tb D σ x H1):=rfl
theorem ZCR {K:W.Frag} {g:TG} {tb:TS} {D:Ends} {σ:St} {H:Hp} {a:Addr} {xs:List V} (h:SqL K H a xs) (z:Nat->St->Hp->Prop) (U:z 0 σ H) (hl:∀ i σ H,i <= xs.length->z i σ H->SqL K H a xs)
  (L:∀ i x σ H,xs[i]?=some x->z i σ H->g x σ H fun J H2=>tb { D with nx:=z (i+1),ct:=z (i+1),bk:=D.nx } J H2) (O:∀ σ H,z xs.length σ H->D.nx σ H):forL K g tb D σ (.ref a) H :=
 ⟨a,rfl,⟨xs,h⟩,for_list z U hl L O⟩
noncomputable def forR (lo:Int) (g:TG) (tb:TS) (D:Ends) (σ:St) (n:Nat) (H1:Hp):Prop:=∃ W:Nat->Nat->St->Hp->Prop,(∃ m,W 0 m σ H1) /\ ∀ i m σ H,W i m σ H ->
 ((Itr lo n).stop i H /\ D.nx σ H)∨((Itr lo n).go i H /\ ∃ N:St->Hp->Prop,(∀ σ' H',N σ' H'->∃ m',m' < m /\ W (i+1) m' σ' H') /\ ∀ x H',(Itr lo n).yld i H x H'->g x σ H' fun σ2 H2=>tb { D with nx:=N,ct:=N,bk:=D.nx } σ2 H2)
noncomputable def forR1 (g:TG) (tb:TS) (D:Ends) (σ:St) (x:V) (H1:Hp):Prop:=∃ j:Int,[x]=[.int j] /\ -(2 ^ 62) <= j /\ j < 2 ^ 62 /\ forR 0 g tb D σ j.toNat H1
noncomputable def forR2 (g:TG) (tb:TS) (D:Ends) (σ:St) (x y:V) (H1:Hp):Prop:=∃ i j:Int,[x,y]=[.int i,.int j] /\ (-(2 ^ 62) <= i /\ i < 2 ^ 62 /\ -(2 ^ 62) <= j /\ j < 2 ^ 62) /\ forR i g tb D σ (j-i).toNat H1
theorem tForR1_eq {t:TE} {g:TG} {tb:TS} {D:Ends} {σ:St} {H:Hp}:tFor (ZFK (ZBx t tNil)) g tb D σ H=t σ H (fun x H1=>forR1 g tb D σ x H1):=rfl
theorem tForR2_eq {t u:TE} {g:TG} {tb:TS} {D:Ends} {σ:St} {H:Hp}:tFor (iRng2 (ZBx t (ZBx u tNil))) g tb D σ H=t σ H (fun x H1=>u σ H1 fun y H2=>forR2 g tb D σ x y H2):=rfl
theorem ZDC {lo:Int} {n:Nat} {g:TG} {tb:TS} {D:Ends} {σ:St} {H:Hp} (z:Nat->St->Hp->Prop) (O:z 0 σ H)
  (U:∀ i σ H,i < n->z i σ H->g (.int (lo+i)) σ H fun J H2=>tb { D with nx:=z (i+1),ct:=z (i+1),bk:=D.nx } J H2) (L:∀ σ H,z n σ H->D.nx σ H):forR lo g tb D σ n H:=for_range z O U L
theorem ZCZ {j:Int} {g:TG} {tb:TS} {D:Ends} {σ:St} {H:Hp} (h:-1000 <= j /\ j <= 1000) (q:forR 0 g tb D σ j.toNat H):forR1 g tb D σ (.int j) H:=⟨j,rfl,by omega,by omega,q⟩
noncomputable def ZE1 (K:W.Frag) (g:TG) (tt:TT) (te:TE) (σ0:St) (Q:VK) (x:V) (H1:Hp):Prop:=∃ a,x=.ref a /\ (∃ xs,SqL K H1 a xs) /\ ∃ W:Nat->Nat->List V->St->Hp->Prop,(∃ m,W 0 m [] σ0 H1) /\ ∀ i m ys σ H,W i m ys σ H ->
 ((Itl K a).stop i H /\ ys.length <= sizeLine /\ ∀ p,H p=none->Q (.ref p) (upd H p (.lst ys))) ∨
 ((Itl K a).go i H /\ ys.length < sizeLine /\ ∀ x H',(Itl K a).yld i H x H'->g x σ H' fun σ2 H2=>tt σ2 H2 fun b H3=>if b=true then te σ2 H3 fun y H4=>∃ m',m' < m /\ W (i+1) m' (ys++[y]) σ2 H4 else ∃ m',m' < m /\ W (i+1) m' ys σ2 H3)
theorem tCompL_eq {k:Nat} {js:List Nat} {K:W.Frag} {tl:TE} {g:TG} {tt:TT} {te:TE} {σ:St} {H:Hp} {Q:VK}:ZDq k js (ZFL K tl) g tt te σ H Q=tl σ H (fun x H1=>ZE1 K g tt te (up k js σ) Q x H1):=rfl
theorem compL_of {K:W.Frag} {a:Addr} {xs:List V} {g:TG} {tt:TT} {te:TE} {Q:VK} {σ0:St} {H:Hp} (h:SqL K H a xs) (U:xs.length <= 1000) (P:Nat->List V->St->Hp->Prop) (J:P 0 [] σ0 H) (hl:∀ i ys σ H,i <= xs.length->P i ys σ H->SqL K H a xs /\ ys.length <= i)
  (L:∀ i ys x σ H,i < xs.length->xs[i]?=some x->P i ys σ H->g x σ H fun z H2=>tt z H2 fun b H3=>if b=true then te z H3 fun y H4=>Nxt P xs.length i (ys++[y]) z H4 else Nxt P xs.length i ys z H3)
  (O:∀ ys σ H,P xs.length ys σ H->∀ p,H p=none->Q (.ref p) (upd H p (.lst ys))):ZE1 K g tt te σ0 Q (.ref a) H:=⟨a,rfl,⟨xs,h⟩,comp_list P J hl (ZAW U) L O⟩
noncomputable def compR (lo:Int) (g:TG) (tt:TT) (te:TE) (σ0:St) (Q:VK) (n:Nat) (H1:Hp):Prop:=∃ W:Nat->Nat->List V->St->Hp->Prop,(∃ m,W 0 m [] σ0 H1) /\ ∀ i m ys σ H,W i m ys σ H ->
 ((Itr lo n).stop i H /\ ys.length <= sizeLine /\ ∀ p,H p=none->Q (.ref p) (upd H p (.lst ys))) ∨
 ((Itr lo n).go i H /\ ys.length < sizeLine /\ ∀ x H',(Itr lo n).yld i H x H'->g x σ H' fun σ2 H2=>tt σ2 H2 fun b H3=>if b=true then te σ2 H3 fun y H4=>∃ m',m' < m /\ W (i+1) m' (ys++[y]) σ2 H4 else ∃ m',m' < m /\ W (i+1) m' ys σ2 H3)
noncomputable def compR1 (g:TG) (tt:TT) (te:TE) (σ0:St) (Q:VK) (x:V) (H1:Hp):Prop:=∃ j:Int,[x]=[.int j] /\ -(2 ^ 62) <= j /\ j < 2 ^ 62 /\ compR 0 g tt te σ0 Q j.toNat H1
theorem tCompR1_eq {k:Nat} {js:List Nat} {t:TE} {g:TG} {tt:TT} {te:TE} {σ:St} {H:Hp} {Q:VK}:ZDq k js (ZFK (ZBx t tNil)) g tt te σ H Q=t σ H (fun x H1=>compR1 g tt te (up k js σ) Q x H1):=rfl
theorem compR1_of {j:Int} {g:TG} {tt:TT} {te:TE} {Q:VK} {σ0:St} {H:Hp} (h:-1000 <= j /\ j <= 1000) (P:Nat->List V->St->Hp->Prop) (J:P 0 [] σ0 H) (hl:∀ i ys σ H,P i ys σ H->ys.length <= i)
  (L:∀ i ys σ H,i < j.toNat->P i ys σ H->g (.int (0+i)) σ H fun z H2=>tt z H2 fun b H3=>if b=true then te z H3 fun y H4=>Nxt P j.toNat i (ys++[y]) z H4 else Nxt P j.toNat i ys z H3)
  (O:∀ ys σ H,P j.toNat ys σ H->∀ p,H p=none->Q (.ref p) (upd H p (.lst ys))):compR1 g tt te σ0 Q (.int j) H:=⟨j,rfl,by omega,by omega,comp_range P J hl (ZAW (by omega)) L O⟩
section
variable {X:Cx}
end
theorem gCons_eq {t:TG} {u:TGs} {v:V} {r:List V} {σ:St} {H:Hp} {Q:St->Hp->Prop}:ZFN t u (v::r) σ H Q=t v σ H (fun z H'=>u r z H' Q):=by
 apply propext;unfold ZFN;constructor
 .rintro ⟨J,L,e,q⟩;cases e;exact q
 .exact fun q=>⟨v,r,rfl,q⟩
theorem gNil_eq {σ:St} {H:Hp} {Q:St->Hp->Prop}:gNil [] σ H Q=Q σ H:=by
 apply propext;unfold gNil;simp
theorem ZBF {K:W.Frag} {n:Nat} {t:TGs} {a:Addr} {xs:List V} {σ:St} {H:Hp} {Q:St->Hp->Prop} (h:SqT K H a xs) (l:xs.length=n) (q:t xs σ H Q):gTup K n t (.ref a) σ H Q:=⟨a,xs,rfl,h,l,q⟩
section
variable {X:Cx} {tg l e o:Expr} {es:List Expr} {tl te to:TE} {t:TA} {pos apos cpos:Pos} {f:Str}
theorem ZCY (K:W.Frag) (h:X.K=K:=by rfl):IxR X (rIxL K):=h ▸ ZAo
theorem ZD8 (K:W.Frag) {k:Nat} {z:TGs} {n:Nat} (hc:X.calm=true) (L:PGs X es z)
  (hn:(assignEach es X.env).length=n:=by rfl) (J:(assignEach es X.env).findIdx? (·.1)=none:=by rfl) (h:X.K=K:=by rfl):PG X (.Tuple es k pos) (gTup K n z):=h ▸ ZCH hc L hn J
end
section
variable {X:Cx}
noncomputable def rBits:V->List V->Hp->VK->Prop:=fun x vs H Q=>∃ i,x=.int i /\ vs=[] /\ Q (.int (Builtin.Int.intBits i:Nat)) H
theorem mt_bitlen:MtR X "int.bit_length" rBits:=by
 intro pins s σ H x vs v us Q I z J h
 obtain ⟨i,rfl,rfl,q⟩:=h
 obtain ⟨t,rfl⟩:=z
 cases J.zero
 refine call_gives F.slot_int_bit_length (typeIs_int s i t) F.entry_int_bit_length (F.args_int_bit_length_1 _) (PySem.AutoIntG2.int_bit_length_int_0 i t) ?_
 exact ⟨.int (Builtin.Int.intBits i:Nat),_,I.tok _,⟨_,rfl⟩,q⟩
theorem bits_nat (n:Nat) (h:n≠0):Builtin.Int.intBits (n:Int)=n.log2+1:=by
 unfold Builtin.Int.intBits
 rw [if_neg (by simpa using h)]
 rfl
theorem ZDp {n:Int} {k:Nat} (z:0 <= n):Builtin.Int.intBits n <= k↔n < 2 ^ k:=by
 obtain ⟨m,rfl⟩:∃ m:Nat,n=m:=⟨n.toNat,by omega⟩
 rcases Nat.eq_zero_or_pos m with e | e
 .subst e
  have:(0:Int) < 2 ^ k:=Int.pow_pos (by decide)
  exact ⟨fun _=>this,fun _=>yAD _⟩
 .rw [bits_nat _ (by omega),Nat.succ_le_iff,Nat.log2_lt (by omega)]
  have:((2 ^ k:Nat):Int)=2 ^ k:=by simp
  omega
theorem tAug_eq {i:Nat} {te:TE} {ti:TIp} {D:Ends} {σ:St} {H:Hp}:tAug i te ti D σ H=tVar i σ H (fun x J=>te σ J fun y H1=>ti x y H1 fun z H2=>D.nx (σ.set i (some z)) H2):=rfl
theorem ipI_int {f:Int->Int->Int} {i j:Int} {H:Hp} {Q:VK}:ipI f (.int i) (.int j) H Q=Q (.int (f i j)) H:=by
 refine propext ⟨?_,fun q=>⟨i,j,rfl,rfl,q⟩⟩
 rintro ⟨a,b,z,e2,q⟩
 cases z;cases e2;exact q
theorem cx_K {CX:CXT} {P:Program} {w:World} {K:W.Frag} {mg:Str->Option Value} {base:Heap} {N:List Str} {qual:Str} {scope:Scope} {f:Addr} {cd:Value} {A:Around} {outer:List Env} {s:Shared} {H:Hp} {E:XK}:(cxOf CX P w K mg base N qual scope f cd A outer s H E).K=K:=rfl
noncomputable def wBody (W:Nat->St->Hp->Prop) (m:Nat) (tb:TS) (D:Ends) (σ:St) (H1:Hp):Prop:=∃ N:St->Hp->Prop,(∀ σ' H',N σ' H'->∃ m',m' < m /\ W m' σ' H') /\ tb { D with nx:=N,ct:=N,bk:=D.nx } σ H1
theorem wBody_of {W:Nat->St->Hp->Prop} {m:Nat} {tb:TS} {D:Ends} {σ:St} {H1:Hp} (h:tb { D with nx:=fun z H'=>∃ J,J < m /\ W J z H',ct:=fun z H'=>∃ J,J < m /\ W J z H',bk:=D.nx } σ H1):wBody W m tb D σ H1:=⟨_,fun _ _ q=>q,h⟩
theorem while_of {c:TT} {tb:TS} {D:Ends} {σ:St} {H:Hp} (W:Nat->St->Hp->Prop) (z:∃ m,W m σ H) (J:∀ m σ H,W m σ H->c σ H fun b H1=>if b=true then wBody W m tb D σ H1 else D.nx σ H1):tWhile c tb D σ H:=⟨W,z,J⟩
noncomputable def insV (xs:List V) (i:Int) (y:V):List V:=let k:=if i < 0 then (i+(xs.length:Int)).toNat else min i.toNat xs.length;xs.take k++y::xs.drop k
noncomputable def rInsert:V->List V->Hp->VK->Prop:=fun x vs H Q=>∃ l xs i y,x=.ref l /\ vs=[.int i,y] /\ H l=some (.lst xs) /\ xs.length < sizeLine /\ (-(2 ^ 62) <= i /\ i < 2 ^ 62) /\ Q .non (upd H l (.lst (insV xs i y)))
theorem ins_arr (its:List Value) (k:Nat) (u:Value) (z:k <= its.length):(its.toArray.extract 0 k).push u++its.toArray.extract k=(its.take k++u::its.drop k).toArray:=by
 apply Array.ext'
 simp
 exact yCD (by rw [yAR];exact yAA _)
theorem insV_length (xs:List V) (i:Int) (y:V):(insV xs i y).length=xs.length+1:=by
 unfold insV
 dsimp only
 rw [yAC,yAK,yAS,yAR]
 omega
theorem Vals.ins {xs:List V} {us:List Value} {y:V} {u:Value} (r:Vals xs us) (q:RelV y u) (k:Nat):Vals (xs.take k++y::xs.drop k) (us.take k++u::us.drop k):=(r.take k).append (.cons q (r.drop k))
theorem ZC6:MtM X "list.insert" rInsert:=by
 intro pins s σ H x vs v us Q I Y Z h
 obtain ⟨l,xs,i,y,rfl,rfl,O,hz,hi,q⟩:=h
 cases Y
 obtain ⟨u,u2,rfl,ru,J⟩:=Z.two
 obtain ⟨t,rfl⟩:=ru
 obtain ⟨z,its,n,r,hl,e⟩:=I.lstM O
 have L:¬(!Builtin.List.listFitsIndex i)=true:=by
  unfold Builtin.List.listFitsIndex
  have:(decide (-(2 ^ 63:Int) <= i) && decide (i < 2 ^ 63))=true:=by
   rw [Bool.and_eq_true];exact ⟨decide_eq_true (by omega),decide_eq_true (by omega)⟩
  simpa using this
 refine call_meets F.slot_list_insert ⟨_,e,rfl⟩ F.entry_list_insert (F.args_list_insert_3 _ _ _) (PySem.AutoListH.list_insert_list_int_val_1 l its.toArray n i t u2 L (by rw [yAN];omega)) ⟨e,?_⟩
 have U:(if i < 0 then (i+(its.length:Int)).toNat else min i.toNat its.length) <= its.length:=by split <;> omega
 refine ⟨.non,_,I.lset (its':=its.take (if i < 0 then (i+(its.length:Int)).toNat else min i.toNat its.length)++u2::its.drop (if i < 0 then (i+(its.length:Int)).toNat else min i.toNat its.length)) O e ?_ (ys:=insV xs i y) ?_ ?_,rfl,q⟩
 .show (its.toArray.extract 0 _).push u2++its.toArray.extract _=_
  rw [yAN]
  exact ins_arr its _ u2 U
 .unfold insV
  rw [hl]
  exact r.ins J _
 .rw [insV_length];omega
end
structure Enc {α:Type} [DecidableEq α] (e:α->PyData) (n:Nat):Prop where
 eq:∀ a b,PyData.eqv (e a) (e b)=decide (a=b)
 lay:∀ a,(e a).canLay0=true
 dep:∀ a,(e a).depth <= n
theorem Enc.int:Enc PyData.int 0:=⟨fun a b=>by unfold PyData.eqv;rw [Bool.eq_iff_iff];simp,fun a=>by unfold PyData.canLay0;rfl,fun a=>by unfold PyData.depth;exact yAA _⟩
section
variable {α β γ:Type} [DecidableEq α] [DecidableEq β] [DecidableEq γ] {e:α->PyData} {f:β->PyData} {g:γ->PyData} {n m k:Nat}
theorem Enc.all (h:Enc e n):∀ xs ys:List α,PyData.eqvAll (xs.map e) (ys.map e)=decide (xs=ys)
 | [],[]=>by simp [PyData.eqvAll]
 | x::xs,[]=>by simp [PyData.eqvAll]
 | [],y::ys=>by simp [PyData.eqvAll]
 | x::xs,y::ys=>by
  rw [yAU,yAU]
  unfold PyData.eqvAll
  rw [h.eq,h.all xs ys,<- Bool.decide_and]
  exact decide_eq_decide.mpr (by rw [List.cons.injEq])
theorem Enc.layAll (h:Enc e n):∀ xs:List α,PyData.canLayAll0 (xs.map e)=true
 | []=>by simp [PyData.canLayAll0]
 | x::xs=>by rw [yAU];unfold PyData.canLayAll0;rw [h.lay,h.layAll xs];rfl
theorem Enc.depAll (h:Enc e n):∀ xs:List α,PyData.depthAll (xs.map e) <= n
 | []=>by simp [PyData.depthAll]
 | x::xs=>by
  rw [yAU];unfold PyData.depthAll
  have a:=h.dep x
  have b:=h.depAll xs
  omega
theorem Enc.list (h:Enc e n):Enc (fun xs:List α=>PyData.list (xs.map e)) (n+1) :=
 ⟨fun a b=>by unfold PyData.eqv;exact h.all a b,fun a=>by unfold PyData.canLay0;exact h.layAll a,fun a=>by unfold PyData.depth;have:=h.depAll a;omega⟩
theorem Enc.two (h:Enc e n) (h2:Enc f m):Enc (fun p:α×β=>PyData.tuple [e p.1,f p.2]) (max n m+1) where
 eq:=fun a b=>by
  unfold PyData.eqv PyData.eqvAll PyData.eqvAll PyData.eqvAll
  rw [h.eq,h2.eq,Bool.and_true,<- Bool.decide_and]
  exact decide_eq_decide.mpr (by rw [Prod.ext_iff])
 lay:=fun a=>by unfold PyData.canLay0 PyData.canLayAll0 PyData.canLayAll0 PyData.canLayAll0;rw [h.lay,h2.lay];rfl
 dep:=fun a=>by
  unfold PyData.depth PyData.depthAll PyData.depthAll PyData.depthAll
  have:=h.dep a.1
  have:=h2.dep a.2
  omega
theorem eqD_of {K:W.Frag} {H:Hp} {x y:V} {a b:α} {Q:VK} (h:Enc e n) (hn:n <= 64) (dx:Dp K H (e a) x) (z:Dp K H (e b) y) (q:Q (.bl (decide (a=b))) H):rEqD K x y H Q :=
 ⟨_,_,dx,z,h.lay a,h.lay b,yAF (h.dep a) hn,by rw [h.eq];exact q⟩
theorem neD_of {K:W.Frag} {H:Hp} {x y:V} {a b:α} {Q:VK} (h:Enc e n) (hn:n <= 64) (dx:Dp K H (e a) x) (z:Dp K H (e b) y) (q:Q (.bl (!decide (a=b))) H):rNeD K x y H Q :=
 ⟨_,_,dx,z,h.lay a,h.lay b,yAF (h.dep a) hn,by rw [h.eq];exact q⟩
end
theorem ZDD {K:W.Frag} {H:Hp} {a:Addr} {xs:List Int} (h:SqL K H a (xs.map V.int)):Dp K H (.list (xs.map PyData.int)) (.ref a):=ZEy h (DpAll.ints xs)
section
variable {K:W.Frag} {H:Hp} {R:Bool->Prop}
theorem ZEE {x c:V} {ty:Value} {b:Bool} (hc:ZDL c=true) (t:TyOf K H x ty) (k:PySem.W.kitOne K ty (cval c)=some b) (q:R b):∃ z c' ty b,[x,c]=[z,c'] /\ ZDL c'=true /\ TyOf K H z ty /\ PySem.W.kitOne K ty (cval c')=some b /\ R b:=⟨x,c,ty,b,rfl,hc,t,k,q⟩
theorem inst_int {i:Int} (q:R true):∃ z c' ty b,[V.int i,V.ty "int"]=[z,c'] /\ ZDL c'=true /\ TyOf K H z ty /\ PySem.W.kitOne K ty (cval c')=some b /\ R b:=ZEE rfl (.int i) (kit_same rfl) q
theorem inst_int_bl {i:Int} (k:PySem.W.kitOne K (.type "int") (.type "bool")=some false) (q:R false):∃ z c' ty b,[V.int i,V.ty "bool"]=[z,c'] /\ ZDL c'=true /\ TyOf K H z ty /\ PySem.W.kitOne K ty (cval c')=some b /\ R b:=ZEE rfl (.int i) k q
theorem ZDh {a:Addr} {xs:List V} (h:H a=some (.lst xs)) (q:R true):∃ z c' ty b,[V.ref a,V.ty "list"]=[z,c'] /\ ZDL c'=true /\ TyOf K H z ty /\ PySem.W.kitOne K ty (cval c')=some b /\ R b:=ZEE rfl (.lst h) (kit_same rfl) q
end
structure FunD (K:W.Frag) (x qual:Str) (st:Stmt) (f:Addr) (fd:FuncData) (dv:List Value):Prop where
 ex:∃ (oc:Value) (od:Option Addr) (T:Addr) (kV doc pm:Value) (an:Option Addr) (cdv ct:Value) (osl:Array (Option Value)),
  fd=W.fnOf x qual (ZAO st) (ZAM st) (ZAB st) (.ref T) kV doc pm an cdv ct /\ K.lookup f=some ⟨oc,od,.func fd,osl⟩ /\ W.codeIn K cdv qual=true /\ ∃ o n,K.lookup T=some o /\ o.data=.seq dv.toArray n
 kp:W.keepIn K (.ref f)=true
section
variable {P:Program} {w:World} {K:W.Frag} {mg:Str->Option Value} {base:Heap}
theorem FunD.ok {x qual:Str} {st:Stmt} {f:Addr} {fd:FuncData} {dv:List Value} {N ps:List Str} {k:Nat} {sp:Sp} (F:FunD K x qual st f fd dv) (S:FnScope N ps (ZAB st)) (len:∀ vs H Q E,sp vs H Q E->vs.length=ps.length)
  (J:∀ (z:Value) (A:Around) (outer:List Env) (s:Shared) (H:Hp) (vs:List V) (Q:VK) (E:XK),Room k (A.deeper (envOfC qual (ZAB st) s.heap.objs.size f z))->sp vs H Q E ->
   ∃ t,PSs (cxOf CX0 P w K mg base N qual (ZAB st) f z A outer s H E).nox (ZAM st) t /\ t { nx:=fun _ H'=>Q .non H',rt:=Q } (start N vs) H):FnOk P w K mg base CX0 (k+1) f fd ps sp:=by
 obtain ⟨oc,od,T,kV,Z,pm,an,z,ct,Y,rfl,lk,O,_⟩:=F.ex
 refine ZFO lk O S len fun A outer s H vs Q E U L=>?_
 obtain ⟨t,h,q⟩:=J z A outer s H vs Q E U L
 exact ⟨t,h.nox,q⟩
theorem FunD.binds {x qual:Str} {st:Stmt} {f:Addr} {fd:FuncData} {dv ds:List Value} {ps:List Str} (F:FunD K x qual st f fd dv)
  (h:∀ (T:Addr) (kV J L:Value) (O:Option Addr) (z ct:Value) (us:List Value),(us++ds).length=ps.length->∃ k,bindArgs (W.fnOf x qual (ZAO st) (ZAM st) (ZAB st) (.ref T) kV J L O z ct) ⟨us,[]⟩=seqItems? (.ref T) >>= k /\ k (some dv.toArray)=pure (ps.zip (us++ds))):Binds K fd ps ds:=by
 obtain ⟨oc,od,T,kV,J,L,O,z,ct,U,rfl,lk,Y,o,n,Z,ho⟩:=F.ex
 intro s us KX hl
 obtain ⟨k,h1,h2⟩:=h T kV J L O z ct us hl
 exact PySem.W.binds_K KX rfl Z ho h1 h2
theorem funD_mk {x qual:Str} {st:Stmt} {f T:Addr} {oc:Value} {od an:Option Addr} {L:Array (Option Value)} {kV J O z ct:Value} {dv:List Value} {Z:Value} {U:Option Addr} {nT:Nat} {Y:Array (Option Value)} (l:K.lookup f=some ⟨oc,od,.func (W.fnOf x qual (ZAO st) (ZAM st) (ZAB st) (.ref T) kV J O an z ct),L⟩)
  (c:W.codeIn K z qual=true) (k:W.keepIn K (.ref f)=true) (t:K.lookup T=some ⟨Z,U,.seq dv.toArray nT,Y⟩):FunD K x qual st f (W.fnOf x qual (ZAO st) (ZAM st) (ZAB st) (.ref T) kV J O an z ct) dv:=⟨⟨oc,od,T,kV,J,O,an,z,ct,L,rfl,l,c,_,nT,t,rfl⟩,k⟩
end
structure KlD (P:Program) (w:World) (K:W.Frag) (mg:Str->Option Value) (base:Heap) (CX:CXT) (x:Str) (C:Addr) (k:Nat) (ps:List Str) (sp:Sp) (dvs:List V):Prop where
 mgC:mg x=some (.ref C)
 ex:∃ f fd ds,FnOk P w K mg base CX k f fd ps sp /\ Binds K fd ps ds /\ Vals dvs ds /\ Mk K C f
section
variable {X:Cx} {CX:CXT} {k:Nat} {ps:List Str} {sp:Sp} {dvs:List V} {E:XK} {x m:Str} {C:Addr} {p pos apos:Pos} {e o:Expr} {es:List Expr} {ta:TE} {t:TA}
theorem pe_mkD (F:KlD X.prog X.w X.K X.mg X.base CX x C k ps sp dvs) (L:Room (k+1) X.A) (Y:Gl X x) (hx:ZBh CX X E) (ha:PA X (e::es) t) (z:(x == ("__debug__":Str))=false:=by decide) (O:starEach (e::es) X.env=(false,eval e X.env)::starEach es X.env:=by rfl) (J:(backTo pos (starEach es X.env)).any (·.1)=false:=by rfl) :
  PE X (.Call (.Name x p) (e::es) [] pos) (ZEg C sp dvs E t):=by
 obtain ⟨f,fd,ds,h1,h2,U,h3⟩:=F.ex
 exact pe_make h3 h1 L Y F.mgC h2 U hx ha z O J
end
section
variable {X:Cx}
theorem all_range {bs:List Bool}:(List.range bs.length).all (fun i=>bs.getD i true)=bs.all id:=by
 induction bs with
 | nil=>rfl
 | cons b r ih=>
  rw [yAK,List.range_succ_eq_map,List.all_cons,List.all_map,List.all_cons]
  show (b && (List.range r.length).all fun i=>r.getD i true)=_
  rw [ih]
  rfl
theorem ZDo (hc:X.calm=true):ZBd X (.builtin "all") (fun xs H Q=>∃ (p:Addr) (bs:List Bool),xs=[.ref p] /\ SqL X.K H p (bs.map V.bl) /\ Q (.bl (bs.all id)) H):=by
 intro pins s σ H xs us Q I r h
 obtain ⟨p,bs,rfl,hq,q⟩:=h
 obtain ⟨u,rfl,rx⟩:=ZCU r
 cases rx
 obtain ⟨its,r',pl,hz⟩:=I.list hq
 have J:=r'.length
 rw [yAB] at J
 have hh:X.A.handled=none:=I.ok.hd hc
 have hl:=pl.isList
 have U:p < s.heap.objs.size:=by obtain ⟨_,e,_⟩:=hl;exact Heap.lt_size e
 refine call_all_walk (wpAny_pyIter_list hl ⟨s.heap.objs.size,_,_,_,_,_,fun i=>bs.getD i true,rfl,Walks.list (A:=X.A.in1) hh s.heap.objs.size p (yAE U) its.toArray,⟨⟨_,Heap.get?_push_size _ rfl,rfl,rfl⟩,hl.push _⟩,?_,fun h' tk hk=>?_⟩)
 .intro i v s' Q' E' hP hQ
  have L:its[i]?=some v:=by simpa using hP
  have hi:i < its.length:=(yAM.mp L).1
  obtain ⟨b,Y⟩:∃ b,bs[i]?=some b:=⟨_,yAH (by omega)⟩
  obtain ⟨u,Z,ru⟩:=r'.get (i:=i) (x:=.bl b) (by rw [yAT,Y];rfl)
  rw [L] at Z
  cases Z
  cases ru
  have O:Q' b s':=by
   have e:bs.getD i true=b:=by rw [yCJ,Y];rfl
   rw [<- e];exact hQ
  exact wpAny_truthy_bool O
 .refine ⟨.bl (bs.all id),H,I.kept (t':=tk) (fun b o e=>hk b o ?_ (Heap.get?_push_of_some _ e)),?_,q⟩
  .intro z
   have:b=s.heap.objs.size:=by simpa using z
   exact absurd (Heap.lt_size e) (by rw [this];exact yBG _)
  .have:its.toArray.size=bs.length:=by simp [J]
   rw [this,all_range]
   rfl
theorem preSum_eq (ns:List Int):∀ n,n <= ns.length->preSum (fun i=>ns.getD i 0) n=(ns.take n).sum
 | 0,_=>by simp [preSum]
 | n+1,h=>by
  show preSum (fun i=>ns.getD i 0) n+ns.getD n 0=_
  rw [preSum_eq ns n (by omega),List.take_succ]
  rw [yCJ,yAH (show n < ns.length by omega),List.sum_append]
  simp
theorem rng_ok {P:Program} {w:World} {H:Hp} {h:Heap} {a:Addr} {lo hi:Int} {t u v:Tok} (e:h.get? a=some { cls:=.type "range",data:=.fields #[.int lo t,.int hi u,.int 1 v] }):ObjOk P w H h a (.rng lo hi):=⟨t,u,v,e⟩
theorem call_rng1:ZBd X (.type "range") (fun xs H Q=>∃ n:Int,xs=[.int n] /\ ∀ p,H p=none->Q (.ref p) (upd H p (.rng 0 n))):=by
 intro pins s σ H xs us Q I r h
 obtain ⟨n,rfl,q⟩:=h
 obtain ⟨u,rfl,z⟩:=ZCU r
 obtain ⟨t,rfl⟩:=z
 exact call_range_1 ⟨.ref s.heap.objs.size,_,I.laid (fun b o e=>Heap.get?_push_of_some _ e) (yAA _) (rng_ok (Heap.get?_push_size _ rfl)),rfl,q _ (I.hok.fresh (yAA _))⟩
noncomputable def ZDH (lo hi:Int):List Int:=(List.range (hi-lo).toNat).map fun i:Nat=>lo+(i:Int)
theorem rints_length (lo hi:Int):(ZDH lo hi).length=(hi-lo).toNat:=by unfold ZDH;rw [yAB,yBS]
theorem rints_get {lo hi:Int} {i:Nat} (h:i < (hi-lo).toNat):(ZDH lo hi)[i]?=some (lo+i):=by unfold ZDH;rw [yAT,List.getElem?_range h];rfl
theorem call_list_rng (hc:X.calm=true):ZBd X (.type "list") (fun xs H Q=>∃ (p:Addr) (lo hi:Int),xs=[.ref p] /\ H p=some (.rng lo hi) /\ (-1000 <= lo /\ lo <= 1000 /\ -1000 <= hi /\ hi <= 1000) /\ ∀ l,H l=none->Q (.ref l) (upd H l (.lst ((ZDH lo hi).map V.int)))):=by
 intro pins s σ H xs us Q I r h
 obtain ⟨p,lo,hi,rfl,hp,hb,q⟩:=h
 obtain ⟨u,rfl,rx⟩:=ZCU r
 cases rx
 obtain ⟨t,u,v,e⟩:=I.hok p _ hp
 have hh:X.A.handled=none:=I.ok.hd hc
 refine call_list_range (n:=(hi-lo).toNat) hh e (small_one (by omega) (by omega) (by omega) (by omega)) (by rw [rangeSize_one];split <;> omega) (by omega) fun h' tk J c' Z hS L=>?_
 have hz:(ZDH lo hi).length <= 1000 * 2:=by rw [rints_length];omega
 refine ⟨.ref s.heap.objs.size,_,I.laid (t':=tk) Z (yAA _) (o:=.lst ((ZDH lo hi).map V.int)) ⟨?_,J.toList,c',?_,by simpa using hS⟩,rfl,q _ (I.hok.fresh (yAA _))⟩
 .rw [yAB]
  exact yAF hz (by decide)
 .have hsz:J.size=(hi-lo).toNat:=L.1
  have O:∀ (vs:List Value) (k:Nat) (zs:List Int),vs.length=zs.length->(∀ (j:Nat) v z,vs[j]?=some v->zs[j]?=some z->∃ t,v=Value.int z t)->Vals (zs.map V.int) vs:=by
   intro vs
   induction vs with
   | nil=>intro k zs h1 _;cases zs with
    | nil=>exact .nil
    | cons _ _=>cases h1
   | cons v r ih=>intro k zs h1 h2;cases zs with
    | nil=>cases h1
    | cons z zr=>exact .cons (h2 0 v z rfl rfl) (ih 0 zr (by simpa using h1) fun j Y z' a b=>h2 (j+1) Y z' (by simpa using a) (by simpa using b))
  refine O J.toList 0 (ZDH lo hi) (by rw [rints_length,yAI,hsz]) fun j v z a b=>?_
  have U:J[j]?=some v:=by simpa using a
  obtain ⟨t,rfl⟩:=L.2 j v U
  have hj:j < (hi-lo).toNat:=by have:=(yBF.mp U).1;omega
  rw [rints_get hj] at b
  cases b
  exact ⟨t,by rw [Int.mul_one]⟩
theorem ZBt:ZBd X (.builtin "sorted") (fun xs H Q=>∃ (p:Addr) (ns:List Int),xs=[.ref p] /\ SqL X.K H p (ns.map V.int) /\ ns.length < 64 /\ ∀ (l:Addr) (ms:List Int),H l=none->ms.Perm ns->ms.Pairwise (· <= ·)->Q (.ref l) (upd H l (.lst (ms.map V.int)))):=by
 intro pins s σ H xs us Q I r h
 obtain ⟨p,ns,rfl,hq,hn,q⟩:=h
 obtain ⟨u,rfl,rx⟩:=ZCU r
 cases rx
 obtain ⟨its,U,pl,hz⟩:=I.list hq
 have J:=U.length
 rw [yAB] at J
 refine sorted_ints pl.isList (ZBE U) (by omega) fun L z a1 O Z=>?_
 obtain ⟨e,Y⟩:=sortedAll_at s.heap its L
 have a0:z.length=ns.length:=O.length_eq
 refine ⟨.ref (s.heap.objs.size+1),_,I.laid (t':=s.toks) (fun b o e=>sortedAll_old e) (yAY _) (o:=.lst (z.map V.int)) ⟨?_,L.toList,e,ZCT a1,by simpa using Y⟩,rfl,q _ z (I.hok.fresh (yAY _)) O Z⟩
 rw [yAB]
 exact yAF (show z.length <= 1000 by omega) (by decide)
end
theorem Same.get {H H':Hp} {b:Addr} {o:HO} (s:Same H H') (h:H b=some o):H' b=some o:=s b o h
theorem newH {H:Hp} {p:Addr} (h:H p=none) (o:HO):∃ H',upd H p o=H' /\ Same H H' /\ H' p=some o:=⟨_,rfl,ZAL h o,ZAD⟩
section
variable {K:W.Frag} {a:Addr} {xs:List V} {te:TE} {Q:VK} {σ0 rest:St} {H:Hp}
theorem compL_gen (h:SqL K H a xs) (hz:xs.length <= 1000) (e0:σ0=none::rest) (R:V->V->Hp->Prop) (mono:∀ x y H1 H2,Same H1 H2->R x y H1->R x y H2)
  (Z:∀ (i:Nat) x H',xs[i]?=some x->Same H H'->∀ Q':VK,(∀ y H4,Same H' H4->R x y H4->Q' y H4)->te (some x::rest) H' Q')
  (hd:∀ ys H' p,ys.length=xs.length->(∀ (j:Nat) x y,xs[j]?=some x->ys[j]?=some y->R x y H')->Same H H'->H' p=none->Q (.ref p) (upd H' p (.lst ys))):ZE1 K (ZEH 0) tYes te σ0 Q (.ref a) H:=by
 subst e0
 refine compL_of h hz (fun i ys σ H'=>∃ v,σ=v::rest /\ Same H H' /\ ys.length=i /\ ∀ (j:Nat) x y,xs[j]?=some x->ys[j]?=some y->R x y H') ⟨_,rfl,.refl _,rfl,fun j x y _ q=>by cases q⟩ ?_ ?_ ?_
 .rintro i ys σ H' _ ⟨v,rfl,e,hl,_⟩
  exact ⟨e.seq h,Nat.le_of_eq hl⟩
 .rintro i ys x σ H' hi hx ⟨v,rfl,e,hl,O⟩
  show te (some x::rest) H' _
  refine Z i x H' hx e _ fun y H4 U Y=>?_
  refine Nxt.of hi ⟨_,rfl,e.trans U,by rw [yAC,hl];rfl,fun j x' y' L J=>?_⟩
  by_cases hj:j < ys.length
  .rw [yAZ hj] at J
   exact mono _ _ _ _ U (O j x' y' L J)
  .rw [yAX (by omega)] at J
   have:j-ys.length=0:=by
    rcases Nat.eq_zero_or_pos (j-ys.length) with z | z
    .exact z
    .rw [yBA (show [y].length <= j-ys.length from z)] at J
     cases J
   rw [this] at J
   cases J
   rw [show j=i by omega,hx] at L
   cases L
   exact Y
 .rintro ys σ H' ⟨v,rfl,e,hl,O⟩ p hp
  exact hd ys H' p hl O e hp
theorem compI_gen {ms:List Int} (h:SqL K H a (ms.map V.int)) (U:ms.length <= 1000) (e0:σ0=none::rest) (R:Int->Int->Prop)
  (hs:∀ c H',c∈ms->Same H H'->∀ Q':VK,(∀ r H4,Same H' H4->R c r->Q' (.int r) H4)->te (some (.int c)::rest) H' Q')
  (hd:∀ (J:List Int) (H':Hp) (p:Addr),J.length=ms.length->(∀ (j:Nat) c r,ms[j]?=some c->J[j]?=some r->R c r)->Same H H'->H' p=none->Q (.ref p) (upd H' p (.lst (J.map V.int)))):ZE1 K (ZEH 0) tYes te σ0 Q (.ref a) H:=by
 refine compL_gen h (by rw [yAB];exact U) e0 (fun x y _=>∃ c r,x=.int c /\ y=.int r /\ R c r) (fun _ _ _ _ _ q=>q) (fun i x H' hx e Q' k=>?_) fun ys H' p hl O e Y=>?_
 .obtain ⟨c,hc,rfl⟩:=ZCu hx
  exact hs c H' (yAO hc) e Q' fun r H4 q1 q2=>k _ _ q1 ⟨c,r,rfl,rfl,q2⟩
 .have L:∀ y∈ys,∃ r,y=.int r:=fun y L=>by
   obtain ⟨j,Z⟩:=yBK L
   have a0:j < ys.length:=(yAM.mp Z).1
   obtain ⟨c,r,_,e,_⟩:=O j _ y (yAH (by omega)) Z
   exact ⟨r,e⟩
  have:∃ J:List Int,ys=J.map V.int:=by
   clear hl O Y
   induction ys with
   | nil=>exact ⟨[],rfl⟩
   | cons y t ih=>
    obtain ⟨r,rfl⟩:=L y yAJ
    obtain ⟨J,rfl⟩:=ih fun z U=>L z (yAL _ U)
    exact ⟨r::J,rfl⟩
  obtain ⟨J,rfl⟩:=this
  rw [yAB,yAB] at hl
  refine hd J H' p hl (fun j c r hc hr=>?_) e Y
  obtain ⟨c',r',e1,e2,q⟩:=O j (.int c) (.int r) (by rw [yAT,hc];rfl) (by rw [yAT,hr];rfl)
  cases e1
  cases e2
  exact q
end
section
variable {X:Cx} {pins:List (Addr×Obj)} {σ:St} {H:Hp} {s:Shared}
theorem Inv.turn2 (I:Inv X pins σ H s) {ch:List Addr} {h':Heap} {p:Addr} {o:HO} {t':Nat} (L:∀ b∈ch,FpOk X pins H b) (k:∀ b ob,b∉ch->s.heap.get? b=some ob->h'.get? b=some ob)
  (O:s.heap.objs.size <= p) (new:ObjOk X.prog X.w (upd H p o) h' p o):Inv X pins σ (upd H p o) { s with heap:=h',toks:=t' }:=by
 have hn:H p=none:=I.hok.fresh O
 have U:∀ b u,H b=some u->b∉ch:=fun b u e z=>by rw [(L b z).1] at e;cases e
 refine I.call (g':=s.gens) (t':=t') (d':=s.drawn) (ch:=ch) ⟨fun b ob e n _ hx=>k b ob hx e,fun b ob e n _ hx=>⟨ob.slots,k b ob hx e⟩,fun b ob e n _=>?_,fun b ob e hx=>⟨ob,k b ob hx e⟩,fun b xs e=>?_,fun b ob u e=>?_,fun b qs e=>⟨#[],?_⟩⟩ (fun b u e=>?_) I.bare fun b J=>?_
 .rw [ZAG (yAE (yAQ (Heap.lt_size e) O))];exact n
 .rw [ZAG (ZAF e hn)];exact e
 .rw [ZAG (ZAF e hn)];exact e
 .rw [ZAG (ZAF e hn),e];simp
 .by_cases J:b=p
  .subst J;rw [ZAD] at e;cases e;exact new
  .rw [ZAG J] at e
   refine (I.hok b u e).stay (fun c v hc q=>k c v ?_ q) (fun c q=>by rw [ZAG (ZAF q hn)];exact q) fun c xs q=>by rw [ZAG (ZAF q hn)];exact q
   rcases hc with z | z
   .rw [z];exact U b u e
   .exact U c _ z
 .obtain ⟨a1,Z,a3,Y,a5,a6⟩:=L b J
  exact ⟨Y,Z,a5,a6⟩
end
noncomputable def Ite (K:W.Frag) (a:Addr):It :=
 ⟨fun i H=>∃ xs x,SqL K H a xs /\ xs[i]?=some x,fun i H v H'=>∃ p x,H p=none /\ (∀ xs,SqL K H a xs->xs[i]?=some x) /\ H'=upd H p (.tup [.int i,x]) /\ v=.ref p,fun i H=>∃ xs,SqL K H a xs /\ xs.length <= i⟩
theorem turn_enum {P:Program} {w:World} {K:W.Frag} {a5:List Expr} {x1} {tpos:Pos} (a e it:Addr) (a3:e≠it):Turn P w K (.Tuple a5 x1 tpos) (Ite K a) [e,it] e (fun i h=>(∃ J,IsEnum h e it ((i:Nat):Int) J) /\ h.IsListIter it a i) where
 mem:=by simp
 obj:=fun i h st b U=>by
  obtain ⟨⟨J,O⟩,o,e2,c,d⟩:=st
  have Z:b=e∨b=it:=by simpa using U
  rcases Z with rfl | rfl
  .exact ⟨_,O,fun v z=>by cases z⟩
  .exact ⟨o,e2,fun v z=>by rw [d] at z;cases z⟩
 keep:=fun i h h' st k=>⟨let ⟨J,O⟩:=st.1;⟨J,k e (by simp) _ O⟩,st.2.at fun o q=>k it (by simp) o q⟩
 item:=by
  intro X hP hw hK hc i pins s σ H E I hf st hg
  subst hP hw hK
  obtain ⟨xs,x,hq,hx⟩:=hg
  obtain ⟨its,rv,p,hz⟩:=I.list hq
  obtain ⟨u,hu,ru⟩:=rv.get hx
  obtain ⟨⟨J,O⟩,Y⟩:=st
  refine wpAny_pyNext_enum_item O Y p.isList (x:=u) (by simpa using hu) a3 fun h1 a9 a2 a7 af a6=>⟨_,rfl,?_⟩
  refine wpAny_letOwnedTupleGo_enum a9 fun h2 ae L=>?_
  replace L:Heap.SameBut e h1 h2:=L
  have a1:e < s.heap.objs.size:=Heap.lt_size O
  have a8:h2.get? s.heap.objs.size=some { cls:=.type "tuple",data:=.seq #[.int i s.toks,u] }:=(L.2 _ (yBN a1)).trans a7
  have a4:H s.heap.objs.size=none:=I.hok.fresh (yAA _)
  refine ⟨.ref s.heap.objs.size,upd H s.heap.objs.size (.tup [.int i,x]),I.turn2 (ch:=[e,it]) (t':=s.toks+1) hf (fun b ob U q=>?_) (yAA _) ?_,rfl,⟨_,x,a4,fun ys hy=>by rw [I.list_inj hy hq];exact hx,rfl,rfl⟩,⟨⟨u,?_⟩,?_⟩,fun b U=>?_⟩
  .have a0:b≠e:=fun z=>U (by simp [z])
   have ac:b≠it:=fun z=>U (by simp [z])
   exact (L.2 b a0).trans (a6 b ob a0 ac q)
  .exact ⟨ZAW (show 2 <= 1000 by decide),[.int i s.toks,u],.cons ⟨_,rfl⟩ (.cons ru .nil),_,a8,rfl,0,rfl⟩
  .have:((i+1:Nat):Int)=(i:Int)+1:=by push_cast;rfl
   rw [this];exact ae
  .exact a2.at fun o q=>(L.2 it (Ne.symm a3)).trans q
  .have hn:=(hf b U).1
   have Z:b=e∨b=it:=by simpa using U
   obtain ⟨oi,ad,_⟩:=Y
   have aa:b < s.heap.objs.size:=by
    rcases Z with rfl | rfl
    .exact a1
    .exact Heap.lt_size ad
   rw [ZAG (yAE aa)];exact hn
 done:=by
  intro X hP hw hK hc i pins s σ H E I hf st hg
  subst hP hw hK
  obtain ⟨xs,hq,hx⟩:=hg
  obtain ⟨its,rv,p,hz⟩:=I.list hq
  obtain ⟨⟨J,O⟩,Y⟩:=st
  obtain ⟨f0,f1,f2,f3,f4,f5⟩:=hf it (by simp)
  have hl:=rv.length
  exact wpAny_pyNext_enum_end (I.ok.hd hc) O Y p.isList (by rw [List.getElem?_toArray];exact yBA (by omega)) fun h' eb=>⟨rfl,I.turned (t':=s.toks) (fun b o U e=>eb b o U e) f0 f1 f3 f4 f5⟩
 self:=fun _ _ _ _ _ st h=>let ⟨_,O⟩:=st.1;wpAny_pyIter_enum O h
section
variable {X:Cx}
noncomputable def ZFM (K:W.Frag) (ta:TA):TI:=fun σ H R=>ta σ H fun vs H1=>∃ a,vs=[.ref a] /\ (∃ xs,SqL K H1 a xs) /\ R (Ite K a) H1
theorem pi_enum {J:List Expr} {x1} {tpos:Pos} {l:Expr} {ta:TA} {p pos:Pos} (hg:Gl X "enumerate") (hm:X.mg "enumerate"=none) (ha:PA X [l] ta) (hs:starEach [l] X.env=[(false,eval l X.env)]:=by rfl) :
  PI X (.Tuple J x1 tpos) (.Call (.Name "enumerate" p) [l] [] pos) (ZFM X.K ta):=by
 intro pins s σ H R I h
 refine Call_ (ZCJ I hg hm boot_enumerate (PyProof.Rows.callWith_type1 (thn (ha pos pins s σ H _ I h) fun us s1 Z=>?_) hs rfl))
 obtain ⟨vs,H1,L,r1,q1⟩:=Z
 obtain ⟨a,e,⟨xs,hq⟩,q⟩:=q1
 subst e
 obtain ⟨u,rfl,ru⟩:=ZCU r1
 cases ru
 obtain ⟨its,rv,pl,hz⟩:=L.list hq
 refine call_enumerate_list pl.isList fun h' Y U hsz hk=>wpAny_pyIter_enum Y ?_
 have I2:Inv X pins σ H1 { s1 with heap:=h' }:=L.kept (t':=s1.toks) hk
 refine ⟨s1.heap.objs.size+1,[s1.heap.objs.size+1,s1.heap.objs.size],_,Ite X.K a,H1,rfl,I2,turn_enum a _ _ (Nat.succ_ne_self _),⟨⟨_,Y⟩,U⟩,fun b hb=>?_,q⟩
 have O:b=s1.heap.objs.size+1∨b=s1.heap.objs.size:=by simpa using hb
 have z:s1.heap.objs.size <= b:=by
  rcases O with rfl | rfl
  .exact yAY _
  .exact yAA _
 exact L.fpOk z (L.hok.fresh z)
end
section
variable {K:W.Frag} {a:Addr} {xs:List V} {g:TG} {tb:TS} {D:Ends} {σ:St} {H:Hp}
noncomputable def forE (K:W.Frag) (g:TG) (tb:TS) (D:Ends) (σ:St) (x:V) (H1:Hp):Prop:=∃ a,[x]=[.ref a] /\ (∃ xs,SqL K H1 a xs) /\ ∃ W:Nat->Nat->St->Hp->Prop,(∃ m,W 0 m σ H1) /\ ∀ i m σ H,W i m σ H ->
 ((Ite K a).stop i H /\ D.nx σ H)∨((Ite K a).go i H /\ ∃ N:St->Hp->Prop,(∀ σ' H',N σ' H'->∃ m',m' < m /\ W (i+1) m' σ' H') /\ ∀ x H',(Ite K a).yld i H x H'->g x σ H' fun σ2 H2=>tb { D with nx:=N,ct:=N,bk:=D.nx } σ2 H2)
theorem tForE_eq {t:TE}:tFor (ZFM K (ZBx t tNil)) g tb D σ H=t σ H (fun x H1=>forE K g tb D σ x H1):=rfl
theorem forE_of (h:SqL K H a xs) (z:Nat->St->Hp->Prop) (O:z 0 σ H) (hl:∀ i σ H,i <= xs.length->z i σ H->SqL K H a xs)
  (U:∀ (i:Nat) x σ H p,xs[i]?=some x->z i σ H->H p=none->g (.ref p) σ (upd H p (.tup [.int i,x])) fun J H2=>tb { D with nx:=z (i+1),ct:=z (i+1),bk:=D.nx } J H2) (Y:∀ σ H,z xs.length σ H->D.nx σ H):forE K g tb D σ (.ref a) H:=by
 refine ⟨a,rfl,⟨xs,h⟩,fun i m σ H=>m=xs.length-i /\ i <= xs.length /\ z i σ H,⟨xs.length,by simp,yAD _,O⟩,?_⟩
 rintro i m σ H ⟨rfl,hi,p⟩
 have q:=hl i σ H hi p
 by_cases hlt:i < xs.length
 .refine .inr ⟨⟨xs,xs[i],q,by simp [hlt]⟩,z (i+1),fun a0 H' p'=>⟨xs.length-(i+1),by omega,rfl,hlt,p'⟩,fun x H' y=>?_⟩
  obtain ⟨L,Z,hn,y,rfl,rfl⟩:=y
  exact U i Z σ _ L (y xs q) p hn
 .have e:i=xs.length:=by omega
  subst e
  exact .inl ⟨⟨xs,q,yAA _⟩,Y σ H p⟩
variable {tt:TT} {te:TE} {Q:VK} {σ0:St}
noncomputable def compE (K:W.Frag) (g:TG) (tt:TT) (te:TE) (σ0:St) (Q:VK) (x:V) (H1:Hp):Prop:=∃ a,[x]=[.ref a] /\ (∃ xs,SqL K H1 a xs) /\ ∃ W:Nat->Nat->List V->St->Hp->Prop,(∃ m,W 0 m [] σ0 H1) /\ ∀ i m ys σ H,W i m ys σ H ->
 ((Ite K a).stop i H /\ ys.length <= sizeLine /\ ∀ p,H p=none->Q (.ref p) (upd H p (.lst ys))) ∨
 ((Ite K a).go i H /\ ys.length < sizeLine /\ ∀ x H',(Ite K a).yld i H x H'->g x σ H' fun σ2 H2=>tt σ2 H2 fun b H3=>if b=true then te σ2 H3 fun y H4=>∃ m',m' < m /\ W (i+1) m' (ys++[y]) σ2 H4 else ∃ m',m' < m /\ W (i+1) m' ys σ2 H3)
theorem tCompE_eq {k:Nat} {js:List Nat} {t:TE}:ZDq k js (ZFM K (ZBx t tNil)) g tt te σ H Q=t σ H (fun x H1=>compE K g tt te (up k js σ) Q x H1):=rfl
theorem compE_of (h:SqL K H a xs) (hz:xs.length <= 1000) (P:Nat->List V->St->Hp->Prop) (L:P 0 [] σ0 H) (hl:∀ i ys σ H,i <= xs.length->P i ys σ H->SqL K H a xs /\ ys.length <= i)
  (O:∀ (i:Nat) ys x σ H p,i < xs.length->xs[i]?=some x->P i ys σ H->H p=none->g (.ref p) σ (upd H p (.tup [.int i,x])) fun z H2=>tt z H2 fun b H3=>if b=true then te z H3 fun y H4=>Nxt P xs.length i (ys++[y]) z H4 else Nxt P xs.length i ys z H3)
  (U:∀ ys σ H,P xs.length ys σ H->∀ p,H p=none->Q (.ref p) (upd H p (.lst ys))):compE K g tt te σ0 Q (.ref a) H:=by
 have Z:=ZAW hz
 refine ⟨a,rfl,⟨xs,h⟩,fun i m ys σ H=>m=xs.length-i /\ i <= xs.length /\ P i ys σ H,⟨xs.length,by simp,yAD _,L⟩,?_⟩
 rintro i m ys σ H ⟨rfl,hi,p⟩
 obtain ⟨q,ly⟩:=hl i ys σ H hi p
 by_cases hlt:i < xs.length
 .refine .inr ⟨⟨xs,xs[i],q,by simp [hlt]⟩,by omega,fun x H' y=>?_⟩
  obtain ⟨J,Y,hn,y,rfl,rfl⟩:=y
  exact O i ys Y σ _ J hlt (y xs q) p hn
 .have e:i=xs.length:=by omega
  subst e
  exact .inl ⟨⟨xs,q,yAA _⟩,by omega,U ys σ H p⟩
end
noncomputable abbrev FZ (o:Obj):HO:=.frz o (.ext fun _=>True)
theorem ZEx {P:Program} {w:World} {H:Hp} {h:Heap} {a:Addr} {o:Obj} (e:h.get? a=some o):ObjOk P w H h a (FZ o):=⟨e,trivial,⟨o,e⟩,fun _ _ _ _=>trivial⟩
theorem ZDT {P:Program} {w:World} {H:Hp} {h:Heap} {a:Addr} {o:Obj} (x:HOk P w H h) (e:H a=some (FZ o)):h.get? a=some o:=(x a _ e).1
noncomputable def CodeAt (H:Hp) (c:Addr) (qual:Str):Prop:=∃ oc vs t,H c=some (FZ oc) /\ oc.data=.fields vs /\ vs[1]?=some (.str qual t)
theorem CodeAt.rec {P:Program} {w:World} {H:Hp} {h:Heap} {c:Addr} {qual:Str} (x:HOk P w H h) (k:CodeAt H c qual):h.CodeRec (.ref c) qual :=
 let ⟨oc,vs,t,e,d,v⟩:=k;⟨c,oc,vs,t,rfl,ZDT x e,d,v⟩
structure CloL (H:Hp) (g:Addr) (iname iq:Str) (ip:Arguments) (ib:List Stmt) (isc:Scope) (fr:List Str) (cs:List V) (cl:List (Str×Addr)):Prop where
 obj:∃ (doc pm ctv:Value) (c':Addr),H g=some (FZ (PySem.W.fnMade iname iq ip ib isc cl doc pm c' ctv)) /\ CodeAt H c' iq
 keys:∀ x c,cl.lookup x=some c->x∈fr
 inj:∀ x y c,cl.lookup x=some c->cl.lookup y=some c->x=y
 cell:∀ (i:Nat) (x:Str),fr[i]?=some x->∃ v c u o,cs[i]?=some v /\ cl.lookup x=some c /\ RelV v u /\ H c=some (FZ o) /\ o.data=.cell (some u)
 len:cs.length=fr.length
noncomputable def Clo (H:Hp) (g:Addr) (iname iq:Str) (ip:Arguments) (ib:List Stmt) (isc:Scope) (fr:List Str) (cs:List V):Prop:=∃ cl,CloL H g iname iq ip ib isc fr cs cl
noncomputable def ZEW (H H':Hp):Prop:=∀ b o,H b=some (FZ o)->H' b=some (FZ o)
theorem CodeAt.mono {H H':Hp} {c:Addr} {q:Str} (e:ZEW H H') (k:CodeAt H c q):CodeAt H' c q:=let ⟨oc,vs,t,a,d,v⟩:=k;⟨oc,vs,t,e _ _ a,d,v⟩
theorem CloL.mono {H H':Hp} {g:Addr} {iname iq:Str} {ip:Arguments} {ib:List Stmt} {isc:Scope} {fr:List Str} {cs:List V} {cl:List (Str×Addr)} (e:ZEW H H') (k:CloL H g iname iq ip ib isc fr cs cl):CloL H' g iname iq ip ib isc fr cs cl where
 obj:=let ⟨doc,pm,ctv,c',a,b⟩:=k.obj;⟨doc,pm,ctv,c',e _ _ a,b.mono e⟩
 keys:=k.keys
 inj:=k.inj
 cell:=fun i x h=>let ⟨v,c,u,o,a1,a2,a3,a4,a5⟩:=k.cell i x h;⟨v,c,u,o,a1,a2,a3,e _ _ a4,a5⟩
 len:=k.len
theorem Clo.mono {H H':Hp} {g:Addr} {iname iq:Str} {ip:Arguments} {ib:List Stmt} {isc:Scope} {fr:List Str} {cs:List V} (e:ZEW H H') (k:Clo H g iname iq ip ib isc fr cs):Clo H' g iname iq ip ib isc fr cs:=let ⟨cl,x⟩:=k;⟨cl,x.mono e⟩
theorem CloL.inj' {H:Hp} {g:Addr} {iname iq:Str} {ip:Arguments} {ib:List Stmt} {isc:Scope} {fr:List Str} {cs cs':List V} {cl cl':List (Str×Addr)} (k:CloL H g iname iq ip ib isc fr cs cl) (z:CloL H g iname iq ip ib isc fr cs' cl'):cs=cs':=by
 obtain ⟨d1,p1,t1,c1,e1,_⟩:=k.obj
 obtain ⟨d2,p2,t2,c2,e2,_⟩:=z.obj
 rw [e1] at e2
 have J:cl=cl':=by
  have:=Option.some.inj e2
  injection this with h1 h2
  injection h1 with h3 h4 h5
  injection h5 with h6
  injection h6
 subst J
 refine yCK fun i=>?_
 by_cases hi:i < fr.length
 .obtain ⟨v,c,u,o,a1,a2,Y,a4,a5⟩:=k.cell i _ (yAH hi)
  obtain ⟨v',c',u',o',Z,U,b3,O,L⟩:=z.cell i _ (yAH hi)
  rw [a2] at U
  cases U
  rw [a4] at O
  have eo:o=o':=by
   have:=Option.some.inj O
   injection this
  subst eo
  rw [a5] at L
  have eu:u=u':=by injection L with h;injection h
  subst eu
  rw [a1,Z,Y.inj b3]
 .rw [yBA (by rw [k.len];omega),yBA (by rw [z.len];omega)]
open Classical in
noncomputable def hid (cl:List (Str×Addr)) (H:Hp):Hp:=fun b=>if ∃ x,cl.lookup x=some b then none else H b
open Classical in
noncomputable def back (cl:List (Str×Addr)) (H H1:Hp):Hp:=fun b=>if ∃ x,cl.lookup x=some b then H b else H1 b
theorem ZEF {cl:List (Str×Addr)} {H:Hp} {x:Str} {b:Addr} (h:cl.lookup x=some b):hid cl H b=none:=by unfold hid;rw [if_pos ⟨x,h⟩]
theorem ZDB {cl:List (Str×Addr)} {H:Hp} {b:Addr} (h:¬ ∃ x,cl.lookup x=some b):hid cl H b=H b:=by unfold hid;rw [if_neg h]
theorem ZDU {cl:List (Str×Addr)} {H H1:Hp} {x:Str} {b:Addr} (h:cl.lookup x=some b):back cl H H1 b=H b:=by unfold back;rw [if_pos ⟨x,h⟩]
theorem ZCK {cl:List (Str×Addr)} {H H1:Hp} {b:Addr} (h:¬ ∃ x,cl.lookup x=some b):back cl H H1 b=H1 b:=by unfold back;rw [if_neg h]
theorem hid_le {cl:List (Str×Addr)} {H:Hp} {b:Addr} {o:HO} (h:hid cl H b=some o):H b=some o:=by
 by_cases q:∃ x,cl.lookup x=some b
 .obtain ⟨x,q⟩:=q;rw [ZEF q] at h;cases h
 .rw [ZDB q] at h;exact h
noncomputable def ZFS (cl:List (Str×Addr)) (H:Hp):Prop:=∀ x c,cl.lookup x=some c->∃ u o,H c=some (FZ o) /\ o.data=.cell u
theorem CloL.cells {H:Hp} {g:Addr} {iname iq:Str} {ip:Arguments} {ib:List Stmt} {isc:Scope} {fr:List Str} {cs:List V} {cl:List (Str×Addr)} (k:CloL H g iname iq ip ib isc fr cs cl):ZFS cl H:=fun x c h=>by
 obtain ⟨i,hi⟩:=yBK (k.keys x c h)
 obtain ⟨v,c2,u,o,_,h2,_,J,z⟩:=k.cell i x hi
 rw [h] at h2
 cases h2
 exact ⟨_,o,J,z⟩
theorem ZBq {cl:List (Str×Addr)} {H:Hp} {b:Addr} {o:HO} (C:ZFS cl H) (h:H b=some o) (n:∀ ob,o≠FZ ob):hid cl H b=some o:=by
 rw [ZDB,h]
 rintro ⟨x,q⟩
 obtain ⟨u,ob,e,_⟩:=C x b q
 rw [h] at e
 exact n ob (Option.some.inj e)
theorem hid_none {cl:List (Str×Addr)} {H:Hp} {b:Addr} (C:ZFS cl H) (h:hid cl H b=none) (n:¬ ∃ x,cl.lookup x=some b):H b=none:=by rw [ZDB n] at h;exact h
theorem back_upd {cl:List (Str×Addr)} {H H1:Hp} {l:Addr} {o:HO} (n:¬ ∃ x,cl.lookup x=some l):back cl H (upd H1 l o)=upd (back cl H H1) l o:=by
 funext b
 by_cases q:∃ x,cl.lookup x=some b
 .have:b≠l:=fun e=>n (e ▸ q)
  obtain ⟨x,q⟩:=q
  rw [ZDU q,ZAG this,ZDU q]
 .rw [ZCK q]
  by_cases e:b=l
  .subst e;rw [ZAD,ZAD]
  .rw [ZAG e,ZAG e,ZCK q]
theorem back_hid {cl:List (Str×Addr)} {H:Hp}:back cl H (hid cl H)=H:=by
 funext b
 by_cases q:∃ x,cl.lookup x=some b
 .obtain ⟨x,q⟩:=q;rw [ZDU q]
 .rw [ZCK q,ZDB q]
noncomputable def NoC (cl:List (Str×Addr)) (H:Hp):Prop:=∀ x c,cl.lookup x=some c->H c=none
structure CloScope (N ps fr:List Str) (sc:Scope):Prop where
 kind:sc.kind=.function
 co:sc.isCoroutine=false
 gen:sc.isGenerator=false
 nd:N.Nodup
 pre:N.take ps.length=ps
 suf:N.drop (N.length-fr.length)=fr
 two:ps.length+fr.length <= N.length
 par:∀ x∈ps,sc.names.lookup x=some .local
 nocell:∀ y∈sc.names,y.2≠.cell
 free:∀ x∈fr,sc.names.lookup x=some .free
 only:∀ x,sc.names.lookup x=some .free->x∈fr
noncomputable def ZCV (N:List Str) (vs cs:List V):St:=vs.map some++(List.replicate (N.length-vs.length-cs.length) none++cs.map some)
noncomputable def ZEc (P:Program) (w:World) (K:W.Frag) (mg:Str->Option Value) (base:Heap) (N:List Str) (qual:Str) (scope:Scope) (f:Addr) (cd:Value) (cl:List (Str×Addr)) (A:Around) (outer:List Env) (s:Shared) (H:Hp):Cx where
 prog:=P
 w:=w
 K:=K
 mg:=mg
 base:=base
 A:=A.deeper (PySem.W.envX qual scope s.heap.objs.size f cd cl)
 N:=N
 s₀:=s
 H₀:=H
 env:=PySem.W.envX qual scope s.heap.objs.size f cd cl
 outer:=outer
 stack:=PySem.W.envX qual scope s.heap.objs.size f cd cl::outer
 ex:=[]
 calm:=true
 fn:=fun _=>false
 pn:=[]
 xe:=fun _ _=>False
theorem startC_get {N:List Str} {vs cs:List V} {i:Nat} {v:V} (hl:vs.length+cs.length <= N.length) (h:(ZCV N vs cs)[i]?=some (some v)) :
  vs[i]?=some v∨(N.length-cs.length <= i /\ cs[i-(N.length-cs.length)]?=some v):=by
 unfold ZCV at h
 by_cases h1:i < vs.length
 .rw [yAZ (by simpa using h1),yAT] at h
  cases e:vs[i]? with
  | none=>rw [e] at h;cases h
  | some a=>rw [e] at h;cases h;exact .inl rfl
 .rw [yAX (by simpa using Nat.le_of_not_lt h1),yAB] at h
  by_cases h2:i-vs.length < N.length-vs.length-cs.length
  .rw [yAZ (by simpa using h2),List.getElem?_replicate,if_pos h2] at h
   cases h
  .rw [yAX (by simpa using Nat.le_of_not_lt h2),yCC,yAT] at h
   right
   refine ⟨by omega,?_⟩
   rw [show i-(N.length-cs.length)=i-vs.length-(N.length-vs.length-cs.length) by omega]
   cases e:cs[i-vs.length-(N.length-vs.length-cs.length)]? with
   | none=>rw [e] at h;cases h
   | some a=>rw [e] at h;cases h;rfl
theorem zip_fst_sub:∀ (ps:List Str) (us:List Value),((ps.zip us).map (·.1)).Sublist ps
 | [],_=>by simp
 | p::ps,[]=>by simp
 | p::ps,u::us=>by rw [List.zip_cons_cons,yAU];exact (zip_fst_sub ps us).cons₂ p
theorem lookup_nodup {α:Type}:∀ {cs:List (Str×α)} {n:Str} {c:α},(cs.map (·.1)).Nodup->(n,c)∈cs->cs.lookup n=some c
 | (m,d)::r,n,c,hn,h=>by
  rw [yAU] at hn
  have J:=List.nodup_cons.mp hn
  rw [yBV]
  rcases yAG.mp h with e | h
  .cases e;simp
  .have:n≠m:=fun z=>J.1 (z ▸ List.mem_map_of_mem (f:=(·.1)) h)
   have:(n == m)=false:=by simpa using this
   rw [this]
   exact lookup_nodup J.2 h
theorem zip_lookup {ps:List Str} {us:List Value} (nd:ps.Nodup) {i:Nat} {x:Str} {u:Value} (h1:ps[i]?=some x) (h2:us[i]?=some u):((ps.zip us).reverse).lookup x=some u:=by
 have hm:(x,u)∈(ps.zip us).reverse:=by
  rw [List.mem_reverse]
  refine yAO (i:=i) ?_
  rw [List.getElem?_zip_eq_some]
  exact ⟨h1,h2⟩
 have z:((ps.zip us).reverse.map (·.1)).Nodup:=by
  rw [List.map_reverse]
  exact List.pairwise_reverse.mpr (List.Pairwise.imp (fun h=>Ne.symm h) (nd.sublist (zip_fst_sub ps us)))
 exact lookup_nodup z hm
section
variable {P:Program} {w:World} {K:W.Frag} {mg:Str->Option Value} {base:Heap} {A:Around} {outer:List Env} {s:Shared} {H:Hp} {g:Addr} {iname iq:Str} {ip:Arguments} {ib:List Stmt} {isc:Scope} {N ps fr:List Str} {cs vs:List V} {us:List Value} {cl:List (Str×Addr)} {k:Nat}
theorem clo_call {Q:VK} (C:CloL H g iname iq ip ib isc fr cs cl) (S:CloScope N ps fr isc) (hr:Room (k+1) A) (Y:Env0 P w K mg base A outer s H) (hl:vs.length=ps.length) (r:Vals vs us)
  (a7:∀ (Z pm a0:Value) (c':Addr),bindArgs (PySem.W.fnX iname iq ip ib isc cl .none .none Z pm none (.ref c') a0) ⟨us,[]⟩=pure (ps.zip us))
  (a8:∀ (cd:Value) (A':Around),Room k A'->∃ t,PSs (ZEc P w K mg base N iq isc g cd cl A outer s (hid cl H)) ib t /\ t { nx:=fun _ H'=>NoC cl H'->Q .non (back cl H H'),rt:=fun v H'=>NoC cl H'->Q v (back cl H H') } (ZCV N vs cs) (hid cl H)) :
  codeAny (model P w) A (.call (.ref g) ⟨us,[]⟩) (fun r s'=>match r with | .ok (.ret u)=>CE outer P w H s Q u s' | _=>False) s:=by
 obtain ⟨Z,pm,a0,c',hg,hc⟩:=C.obj
 have aa:=ZDT Y.hok hg
 have ah:s.heap.NoLimit:=Y.mod.nolimit.keeps fun b o e=>(Y.bs b o e).1
 have aj:ps.Nodup:=by rw [<- S.pre];exact S.nd.sublist (List.take_sublist _ _)
 refine codeAny_call_def (o:=PySem.W.fnMade iname iq ip ib isc cl Z pm c' a0) (fd:=PySem.W.fnX iname iq ip ib isc cl .none .none Z pm none (.ref c') a0) (body:=ib) (binds:=ps.zip us) hr.depth aa rfl ah (hc.rec Y.hok) rfl (.of_eq (a7 Z pm a0 c')) S.nocell (fun y hy=>S.par _ (List.of_mem_zip hy).1) (fun h₁ ai O=>?_) S.co S.gen S.kind
 obtain ⟨t,ht,hq⟩:=a8 (.ref c') _ (hr.deeper (PySem.W.envX iq isc s.heap.objs.size g (.ref c') cl))
 have L:∀ x c,cl.lookup x=some c->∃ o u,H c=some (FZ o) /\ s.heap.get? c=some o /\ o.data=.cell u:=fun x c h=>by
  obtain ⟨u,o,e,d⟩:=C.cells x c h
  exact ⟨o,u,e,ZDT Y.hok e,d⟩
 have ac:∀ x c,cl.lookup x=some c->c∉frs outer:=fun x c h hb=>by
  obtain ⟨o,u,e,_⟩:=L x c h
  rw [Y.frf c hb] at e;cases e
 have ak:ps.length <= N.length:=by have:=S.two;omega
 have I:Inv (ZEc P w K mg base N iq isc g (.ref c') cl A outer s (hid cl H)) [] (ZCV N vs cs) (hid cl H) { s with heap:=h₁,toks:=s.toks+(ps.zip us).length }:=by
  refine ⟨⟨Y.mod,S.kind,rfl,rfl,yAA _,C.inj,fun x hx=>?_,fun y c h=>absurd h (by simp [ZEc]),fun _=>hr.hd,Around.frames_deeper Y.frames,.inr ⟨rfl,rfl⟩,fun b z=>absurd (show b∈([]:List Addr) from z) (by simp),fun b o e=>?_,Y.bsz,fun b _ _ z=>absurd (show b∈([]:List Addr) from z) (by simp),fun b z=>absurd (show b∈([]:List Addr) from z) (by simp),Y.funs,fun b hb=>?_⟩,
   rfl,Y.bare,Un.kept O,⟨_,ai,fun i x v h1 h2 h3=>?_⟩,fun x c h=>?_,?_,fun x c h=>ZEF h,fun p hp=>absurd (show p∈([]:List (Addr×Obj)) from hp) (by simp),?_,?_⟩
  .have hx:isc.names.lookup x=some .cell∨isc.names.lookup x=some .free:=hx
   rcases hx with hx | hx
   .exact absurd rfl (S.nocell _ (PySem.mem_of_lookup hx))
   .obtain ⟨i,hi⟩:=yBK (S.only x hx)
    obtain ⟨v,c,u,o,_,h2,_⟩:=C.cell i x hi
    exact ⟨c,h2⟩
  .refine ⟨(Y.bs b o e).1,?_⟩
   show hid cl H b=none
   by_cases q:∃ x,cl.lookup x=some b
   .obtain ⟨x,q⟩:=q;exact ZEF q
   .rw [ZDB q];exact (Y.bs b o e).2
  .show hid cl H b=none
   rw [ZDB]
   .exact Y.frf b hb
   .rintro ⟨x,q⟩;exact ac x b q hb
  .have h1:N[i]?=some x:=h1
   have ae:=C.len
   rcases startC_get (by rw [hl,ae];exact S.two) h2 with h4 | ⟨h4,h5⟩
   .obtain ⟨u,hu,rv⟩:=r.get h4
    have hi:i < vs.length:=(yAM.mp h4).1
    have hp:ps[i]?=some x:=by rw [<- S.pre,yBY (by omega)];exact h1
    exact ⟨u,rv,.inl ⟨S.par x (yAO hp),zip_lookup aj hp hu⟩⟩
   .have hf:fr[i-(N.length-cs.length)]?=some x:=by
     rw [<- S.suf,yBH,<- ae,show N.length-cs.length+(i-(N.length-cs.length))=i by omega]
     exact h1
    obtain ⟨v',c,u,o,a1,a2,a3,a4,a5⟩:=C.cell _ x hf
    rw [h5] at a1
    cases a1
    refine ⟨u,a3,.inr ⟨.inr (S.free x (yAO hf)),c,a2,o,O _ _ (ZDT Y.hok a4),a5⟩⟩
  .obtain ⟨o,u,e,e2,d⟩:=L x c h
   exact ⟨u,o,O _ _ e2,d⟩
  .show hid cl H s.heap.objs.size=none
   have hn:=Y.hok.fresh (yAA _)
   rw [ZDB]
   .exact hn
   .rintro ⟨x,q⟩
    obtain ⟨o,u,e,_⟩:=L x _ q
    rw [hn] at e;cases e
  .intro b o e
   have e':=hid_le e
   refine (Y.hok b o e').stay (fun c v _ q=>O c v q) (fun c q=>?_) fun c xs q=>?_
   .exact ZBq C.cells q (fun ob z=>by cases z)
   .exact ZBq C.cells q (fun ob z=>by cases z)
  .unfold ZCV
   show _=N.length
   have:=S.two
   have:=C.len
   simp only [yAC,yAB,yCC]
   omega
 refine wpAny_mono (ht [] _ (ZCV N vs cs) (hid cl H) _ I hq) (fun fl s' hs=>?_) fun e s' hs=>False.elim hs
 have ad:∀ {a6:St} {H':Hp} {v:V} {u:Value},Inv (ZEc P w K mg base N iq isc g (.ref c') cl A outer s (hid cl H)) [] a6 H' s'->RelV v u->(NoC cl H'->Q v (back cl H H'))->CE outer P w H s Q u s' :=
  fun {a6 H' v u} J rv q=>by
   have un:Un (frs outer) [] (hid cl H) H' s.heap s'.heap:=J.base
   have af:∀ b:Addr,b∉([]:List Addr):=fun b=>by simp
   have a9:∀ x c o,cl.lookup x=some c->s.heap.get? c=some o->s'.heap.get? c=some o:=fun x c o h e=>un.keep c o e (ZEF h) (ac x c h) (af c)
   have U:∀ x c,cl.lookup x=some c->H' c=none:=fun x c h=>by
    obtain ⟨o,u,e,e2,d⟩:=L x c h
    exact un.free c o e2 (ZEF h) (af c)
   refine ⟨v,back cl H H',J.os,J.bare,⟨fun b o e n hb hx=>?_,fun b o e n hb hx=>?_,fun b o e n hx=>?_,un.there,fun b xs e=>?_,fun b o u' e=>?_,fun b ag e=>?_⟩,fun b o e=>?_,rv,q U⟩
   .refine un.keep b o e ?_ hb hx
    by_cases q:∃ x,cl.lookup x=some b
    .obtain ⟨x,q⟩:=q;exact ZEF q
    .rw [ZDB q];exact n
   .refine un.slot b o e ?_ hb hx
    by_cases q:∃ x,cl.lookup x=some b
    .obtain ⟨x,q⟩:=q;exact ZEF q
    .rw [ZDB q];exact n
   .have nc:¬ ∃ x,cl.lookup x=some b:=by
     rintro ⟨x,q⟩
     obtain ⟨o,u,e,_⟩:=L x b q
     rw [n] at e;cases e
    rw [ZCK nc]
    exact un.free b o e (by rw [ZDB nc];exact n) hx
   .have e2:=un.tups b xs (ZBq C.cells e (fun ob z=>by cases z))
    rw [ZCK]
    .exact e2
    .rintro ⟨x,q⟩;rw [U x b q] at e2;cases e2
   .by_cases q:∃ x,cl.lookup x=some b
    .obtain ⟨x,q⟩:=q;rw [ZDU q];exact e
    .rw [ZCK q];exact un.frzs b o u' (by rw [ZDB q];exact e)
   .obtain ⟨more,e2⟩:=un.tbls b ag (ZBq C.cells e (fun ob z=>by cases z))
    refine ⟨more,?_⟩
    rw [ZCK]
    .exact e2
    .rintro ⟨x,q⟩;rw [U x b q] at e2;cases e2
   .have up:∀ c oc,H' c=some oc->back cl H H' c=some oc:=fun c oc q=>by
     rw [ZCK]
     .exact q
     .rintro ⟨x,z⟩;rw [U x c z] at q;cases q
    by_cases q:∃ x,cl.lookup x=some b
    .obtain ⟨x,q⟩:=q
     rw [ZDU q] at e
     obtain ⟨o2,u2,e2,e3,d⟩:=L x b q
     rw [e] at e2
     cases e2
     exact ZEx (a9 x b _ q e3)
    .rw [ZCK q] at e
     exact (J.hok b o e).stay (fun c v _ q=>q) (fun c q=>up c _ q) fun c xs q=>up c _ q
 cases fl with
 | ret u=>
  obtain ⟨v,a6,H',J,rv,q⟩:=hs
  exact ad J rv q
 | next=>
  obtain ⟨a6,H',J,q⟩:=hs
  exact ad (v:=V.non) (u:=Value.none) J rfl q
 | brk=>
  obtain ⟨_,_,_,q⟩:=hs
  exact False.elim q
 | cont=>
  obtain ⟨_,_,_,q⟩:=hs
  exact False.elim q
end
noncomputable def ZEj (r:V->List V->Hp->VK->Prop) (ta:TE) (t:TA):TE:=fun σ H Q=>ta σ H fun f H1=>(∃ g o,f=.ref g /\ H1 g=some (FZ o) /\ ∃ fd,o.data=.func fd) /\ t σ H1 fun vs H2=>r f vs H2 Q
noncomputable def CloR (X:Cx) (r:V->List V->Hp->VK->Prop):Prop :=
 ∀ (pins:List (Addr×Obj)) (s:Shared) (σ:St) (H:Hp) (f:Addr) (vs:List V) (us:List Value) (Q:VK),Inv X pins σ H s->Vals vs us->r (.ref f) vs H Q ->
  PySem.W.FnAt f s.heap /\ wpAny (model X.prog X.w) X.A (call (.ref f) us) (EP X pins σ Q) X.xe s
theorem fnAt_of {h:Heap} {g:Addr} {o:Obj} {fd:FuncData} (e:h.get? g=some o) (d:o.data=.func fd):PySem.W.FnAt g h:=by
 obtain ⟨oc,L,z,J⟩:=o
 have d':z=.func fd:=d
 subst d'
 exact ⟨oc,L,fd,J,e⟩
theorem pe_callV {X:Cx} {x:Str} {p pos:Pos} {e:Expr} {es:List Expr} {ta:TE} {t:TA} {r:V->List V->Hp->VK->Prop} (hc:CloR X r) (hx:PE X (.Name x p) ta) (ha:PA X (e::es) t)
  (O:starEach (e::es) X.env=(false,eval e X.env)::starEach es X.env:=by rfl) (J:(backTo pos (starEach es X.env)).any (·.1)=false:=by rfl):PE X (.Call (.Name x p) (e::es) [] pos) (ZEj r ta t):=by
 intro pins s σ H Q I h
 refine wpAny_Call_Name_kw (thn (hx pins s σ H _ I h) fun v s1 z=>?_)
 obtain ⟨f,H1,L,rf,⟨g,o,eg,hg,fd,Z⟩,q⟩:=z
 subst eg
 cases rf
 refine PySem.W.callWith_F (fnAt_of (ZDT L.hok hg) Z) (thn (ha pos pins s1 σ H1 _ L q) fun us s2 z=>?_) O J
 obtain ⟨vs,H2,I2,Y,U⟩:=z
 exact hc pins s2 σ H2 g vs us Q I2 Y U
structure CloOk (P:Program) (w:World) (K:W.Frag) (mg:Str->Option Value) (base:Heap) (k:Nat) (r:V->List V->Hp->VK->Prop):Prop where
 run:∀ (A:Around) (outer:List Env) (s:Shared) (H:Hp) (f:Addr) (vs:List V) (us:List Value) (Q:VK),Room k A->Env0 P w K mg base A outer s H->Vals vs us->r (.ref f) vs H Q ->
  PySem.W.FnAt f s.heap /\ codeAny (model P w) A (.call (.ref f) ⟨us,[]⟩) (fun r s'=>match r with | .ok (.ret u)=>CE outer P w H s Q u s' | _=>False) s
theorem CloOk.at {X:Cx} {k:Nat} {r:V->List V->Hp->VK->Prop} (C:CloOk X.prog X.w X.K X.mg X.base k r) (J:Room k X.A):CloR X r:=by
 intro pins s σ H f vs us Q I L h
 obtain ⟨h1,h2⟩:=C.run X.A X.stack s H f vs us Q J I.env0 L h
 refine ⟨h1,wpAny_call (codeAny_mono h2 fun r s' z=>?_)⟩
 cases r with
 | error e=>exact False.elim z
 | ok fl=>
  cases fl with
  | ret u=>exact I.after z
  | next=>exact False.elim z
  | brk=>exact False.elim z
  | cont=>exact False.elim z
theorem Clo.fnAt {P:Program} {w:World} {H:Hp} {h:Heap} {g:Addr} {iname iq:Str} {ip:Arguments} {ib:List Stmt} {isc:Scope} {fr:List Str} {cs:List V} {cl:List (Str×Addr)} (x:HOk P w H h) (C:CloL H g iname iq ip ib isc fr cs cl):PySem.W.FnAt g h:=by
 obtain ⟨J,L,z,c',e,_⟩:=C.obj
 exact fnAt_of (ZDT x e) rfl
theorem clo_of {P:Program} {w:World} {K:W.Frag} {mg:Str->Option Value} {base:Heap} {iname iq:Str} {ip:Arguments} {ib:List Stmt} {isc:Scope} {N ps fr:List Str} {k:Nat} {r:V->List V->Hp->VK->Prop} (S:CloScope N ps fr isc)
  (Y:∀ f vs H Q,r f vs H Q->∃ g cs,f=.ref g /\ Clo H g iname iq ip ib isc fr cs) (len:∀ f vs H Q,r f vs H Q->vs.length=ps.length)
  (J:∀ (cl:List (Str×Addr)) (O U L:Value) (c':Addr) (us:List Value),us.length=ps.length->bindArgs (PySem.W.fnX iname iq ip ib isc cl .none .none O U none (.ref c') L) ⟨us,[]⟩=pure (ps.zip us))
  (z:∀ (g:Addr) (cs:List V) (cl:List (Str×Addr)) (cd:Value) (A:Around) (outer:List Env) (s:Shared) (H:Hp) (vs:List V) (Q:VK),Room k (A.deeper (PySem.W.envX iq isc s.heap.objs.size g cd cl))->CloL H g iname iq ip ib isc fr cs cl->r (.ref g) vs H Q ->
   ∃ t,PSs (ZEc P w K mg base N iq isc g cd cl A outer s (hid cl H)) ib t /\ t { nx:=fun _ H'=>NoC cl H'->Q .non (back cl H H'),rt:=fun v H'=>NoC cl H'->Q v (back cl H H') } (ZCV N vs cs) (hid cl H)):CloOk P w K mg base (k+1) r:=by
 refine ⟨fun A outer s H f vs us Q Z e0 rv h=>?_⟩
 obtain ⟨g,cs,eg,cl,C⟩:=Y _ _ _ _ h
 cases eg
 have hl:=len _ _ _ _ h
 refine ⟨Clo.fnAt e0.hok C,clo_call (k:=k) C S Z e0 hl rv (fun O U L c'=>J cl O U L c' us (by rw [<- rv.length];exact hl)) fun cd A' a0=>?_⟩
 exact z f cs cl cd A outer s H vs Q (Z.deeper _) C h
theorem NoC.ne {cl:List (Str×Addr)} {H:Hp} {b:Addr} {o:HO} (n:NoC cl H) (h:H b=some o):¬ ∃ x,cl.lookup x=some b:=fun ⟨x,e⟩=>by rw [n x b e] at h;cases h
noncomputable def TabSt (H:Hp) (Pt:Addr) (pos:Pos) (iq:Str):Prop:=H Pt=some (.tbl #[])∨∃ c',H Pt=some (.tbl #[rawInt pos.line,rawInt pos.col,.ref c']) /\ CodeAt H c' iq
theorem TabSt.mono {H H':Hp} {Pt:Addr} {pos:Pos} {iq:Str} (e:H' Pt=H Pt) (f:ZEW H H') (k:TabSt H Pt pos iq):TabSt H' Pt pos iq:=by
 rcases k with k | ⟨c',k,q⟩
 .exact .inl (e.trans k)
 .exact .inr ⟨c',e.trans k,q.mono f⟩
noncomputable def ZDy (mg:Str->Option Value) (h:Heap):Prop:=∃ bm ob,mg "__builtins__"=some (.ref bm) /\ bm≠builtinsNs /\ h.get? bm=some ob /\ ob.cls=.type "module" /\ ob.dict=some builtinsNs /\ ob.data=.plain
structure MadeDef (H H':Hp) (Pt:Addr) (pos:Pos) (g:Addr) (iname iq:Str) (ip:Arguments) (ib:List Stmt) (isc:Scope) (fr:List Str) (cs:List V):Prop where
 same:∀ b o,b≠Pt->H b=some o->H' b=some o
 tab:TabSt H' Pt pos iq
 clo:Clo H' g iname iq ip ib isc fr cs
 fresh:H g=none
section
variable {X:Cx} {pins:List (Addr×Obj)} {σ:St} {H:Hp} {s:Shared}
structure MadeMid (H H':Hp) (Pt:Addr) (pos:Pos) (g:Addr) (iname iq:Str) (ip:Arguments) (ib:List Stmt) (isc:Scope) (cl:List (Str×Addr)):Prop where
 same:∀ b o,b≠Pt->H b=some o->H' b=some o
 tab:TabSt H' Pt pos iq
 obj:∃ (doc pm ctv:Value) (c':Addr),H' g=some (FZ (PySem.W.fnMade iname iq ip ib isc cl doc pm c' ctv)) /\ CodeAt H' c' iq
 fresh:H g=none
theorem Inv.made3 (I:Inv X pins σ H s) {Pt c':Addr} {ps more:Array Value} {h':Heap} {oc fo:Obj} {tk:Nat} (O:H Pt=some (.tbl ps)) (hx:Heap.ExtBut Pt s.heap h') (L:s.heap.objs.size <= c') (U:c' < h'.objs.size) (a2:h'.get? c'=some oc)
  (Y:h'.get? Pt=some (PySem.W.tabObj (ps++more))) (a0:fo.isFreed=false):Inv X pins σ (upd (upd (upd H Pt (.tbl (ps++more))) c' (FZ oc)) h'.objs.size (FZ fo)) { s with heap:=h'.push fo,toks:=tk }:=by
 have gn:∀ b o,s.heap.get? b=some o->b≠h'.objs.size /\ b≠c':=fun b o e=>by
  have l:=Heap.lt_size e
  exact ⟨yAE (Nat.lt_trans (yAQ l L) U),yAE (yAQ l L)⟩
 have Z:∀ b o,H b=some o->b≠h'.objs.size /\ b≠c':=fun b o e=>by
  have l:=I.hok.lt e
  exact ⟨yAE (Nat.lt_trans (yAQ l L) U),yAE (yAQ l L)⟩
 have np:∀ b,H b=none->b≠Pt:=fun b n z=>by rw [z,O] at n;cases n
 have cg:c'≠h'.objs.size:=yAE U
 have J:∀ b o,b≠Pt->H b=some o->upd (upd (upd H Pt (.tbl (ps++more))) c' (FZ oc)) h'.objs.size (FZ fo) b=some o:=fun b o n e=>by
  rw [ZAG (Z b o e).1,ZAG (Z b o e).2,ZAG n];exact e
 have a1:upd (upd (upd H Pt (.tbl (ps++more))) c' (FZ oc)) h'.objs.size (FZ fo) Pt=some (.tbl (ps++more)):=by
  rw [ZAG (Z Pt _ O).1,ZAG (Z Pt _ O).2,ZAD]
 refine I.un (h':=h'.push fo) (t':=tk) ⟨fun b o e n _ _=>?_,fun b o e n _ _=>?_,fun b o e n _=>?_,fun b o e _=>?_,fun b xs e=>?_,fun b o u e=>?_,fun b qs e=>?_⟩ fun b o e=>?_
 .exact Heap.get?_push_of_some _ (hx b o (np b n) e)
 .exact ⟨o.slots,Heap.get?_push_of_some _ (hx b o (np b n) e)⟩
 .rw [ZAG (gn b o e).1,ZAG (gn b o e).2,ZAG (np b n)];exact n
 .by_cases q:b=Pt
  .subst q;exact ⟨_,Heap.get?_push_of_some _ Y⟩
  .exact ⟨o,Heap.get?_push_of_some _ (hx b o q e)⟩
 .exact J b _ (fun z=>by rw [z,O] at e;cases e) e
 .exact J b _ (fun z=>by rw [z,O] at e;cases e) e
 .by_cases q:b=Pt
  .subst q
   rw [O] at e
   cases e
   exact ⟨more,a1⟩
  .exact ⟨#[],by rw [J b _ q e];simp⟩
 .by_cases q1:b=h'.objs.size
  .subst q1;rw [ZAD] at e;cases e;exact ZEx (Heap.get?_push_size _ a0)
  .rw [ZAG q1] at e
   by_cases q2:b=c'
   .subst q2;rw [ZAD] at e;cases e;exact ZEx (Heap.get?_push_of_some _ a2)
   .rw [ZAG q2] at e
    by_cases q3:b=Pt
    .subst q3;rw [ZAD] at e;cases e;exact Heap.get?_push_of_some _ Y
    .rw [ZAG q3] at e
     refine (I.hok b o e).stay (fun c u hc q=>?_) (fun c q=>?_) fun c xs q=>?_
     .refine Heap.get?_push_of_some _ (hx c u ?_ q)
      rcases hc with z | z
      .rw [z];exact q3
      .intro z2;rw [z2,O] at z;cases z
     .exact J c _ (fun z=>by rw [z,O] at q;cases q) q
     .exact J c _ (fun z=>by rw [z,O] at q;cases q) q
theorem Inv.made1 (I:Inv X pins σ H s) {h':Heap} {fo:Obj} {tk:Nat} (J:∀ b o,s.heap.get? b=some o->h'.get? b=some o) (hsz:s.heap.objs.size <= h'.objs.size) (z:fo.isFreed=false):Inv X pins σ (upd H h'.objs.size (FZ fo)) { s with heap:=h'.push fo,toks:=tk } :=
 I.laid (fun b u q=>Heap.get?_push_of_some _ (J b u q)) hsz (ZEx (Heap.get?_push_size _ z))
noncomputable def tDef (i:Nat) (Pt:Addr) (pos:Pos) (iname iq:Str) (ip:Arguments) (ib:List Stmt) (isc:Scope) (cl:List (Str×Addr)):TS:=fun D σ H=>TabSt H Pt pos iq /\ ∀ g H',MadeMid H H' Pt pos g iname iq ip ib isc cl->D.nx (σ.set i (some (.ref g))) H'
theorem ps_def {i:Nat} {Pt c:Addr} {pos:Pos} {iname iq:Str} {ip:Arguments} {ib:List Stmt} {isc:Scope} (hN:X.N.Nodup) (hi:X.N[i]?=some iname) (hx:Loc X.env.scope iname) (hf:X.fn iname=true∨X.env.scope.names.lookup iname=some .local)
  (Y:X.env.code=.ref c) (C:PySem.W.CodeHd X.base c Pt) (B:ZDy X.mg X.base) (hq:qualnameIn X.env iname iname=iq) (hd0:ip.defaults=[]) (af:ip.kw_defaults=[]) (ha:annTrees ip none X.env=[])
  (ac:∀ x,(x,NameKind.free)∈isc.names->∃ c,X.env.cells.lookup x=some c) :
  PS X (.FunctionDef iname ip ib [] none [] isc none iname pos) (tDef i Pt pos iname iq ip ib isc (closFrom X.env.cells isc.names [])):=by
 intro pins s σ H D I h
 obtain ⟨ht,h⟩:=h
 refine PySem.W.nestDef_K hd0 af ha ?_
 rw [hq]
 have a3:=I.ok.mod.glob.keeps I.bk
 have hC:=C.keeps I.bk
 have a8:=closureFor_eq (scope:=isc) (env:=X.env) ac
 obtain ⟨bm,ob,b1,b2,b3,b4,b5,b6⟩:=B
 have ad:bm≠mainGlobals:=fun q=>by
  obtain ⟨o,es,ep,e,hd,_⟩:=I.ok.mod.glob
  rw [q,e] at b3;cases b3;rw [hd] at b6;cases b6
 have U:∀ {qs:Array Value},s.heap.get? Pt=some (PySem.W.tabObj qs)->mainGlobals≠Pt /\ s.heap.BuiltinsAt X.mg Pt:=fun {qs} hm=>by
  refine ⟨fun q=>?_,bm,ob,b1,b2,ad,fun q=>?_,I.bk _ _ b3,b4,b5,b6⟩
  .obtain ⟨o,es,ep,e,hd,_⟩:=a3
   rw [q,hm] at e;cases e;cases hd
  .have e:=I.bk _ _ b3
   rw [q,hm] at e;cases e;cases b4
 have a6:∀ {g:Addr} {H':Hp} {s':Shared},Inv X pins σ H' s'->MadeMid H H' Pt pos g iname iq ip ib isc (closFrom X.env.cells isc.names []) ->
   wpAny (model X.prog X.w) X.A (storeName X.env iname (.ref g)) (fun _ a7=>SP X pins D .next a7) X.xe s':=fun {g H' s'} J M=>
  ZCq J hN hi hx (v:=.ref g) rfl (fun a7 J'=>⟨_,H',J',h g H' M⟩) hf
 rcases ht with ht | ⟨c1,ht,ae⟩
 .have hP:s.heap.get? Pt=some (PySem.W.tabObj #[]):=I.hok Pt _ ht
  obtain ⟨a1,a2⟩:=U hP
  refine PySem.W.makeFunction_K a8 I.ok.glob a3 Y hC hP trivial rfl a1 a2 fun c' L z h' tk a9 Z a0 a5 aa=>?_
  obtain ⟨c2,oc,vs,t,e2,ag,hd,hv⟩:=a5
  cases e2
  have J:=I.made3 (tk:=tk) (fo:=PySem.W.fnMade iname iq ip ib isc (closFrom X.env.cells isc.names []) z ((X.mg "__name__").getD .none) c' L) ht a9 Z a0 ag aa rfl
  have gt:∀ b o,H b=some o->b≠h'.objs.size /\ b≠c':=fun b o e=>by
   have l:=I.hok.lt e
   exact ⟨yAE (Nat.lt_trans (yAQ l Z) a0),yAE (yAQ l Z)⟩
  have O:CodeAt (upd (upd (upd H Pt (.tbl (#[]++#[rawInt pos.line,rawInt pos.col,.ref c']))) c' (FZ oc)) h'.objs.size (FZ (PySem.W.fnMade iname iq ip ib isc (closFrom X.env.cells isc.names []) z ((X.mg "__name__").getD .none) c' L))) c' iq :=
   ⟨oc,vs,t,by rw [ZAG (yAE a0),ZAD],hd,hv⟩
  refine a6 J ⟨fun b o n e=>?_,.inr ⟨c',?_,O⟩,⟨z,_,L,c',ZAD,O⟩,?_⟩
  .rw [ZAG (gt b o e).1,ZAG (gt b o e).2,ZAG n];exact e
  .rw [ZAG (gt Pt _ ht).1,ZAG (gt Pt _ ht).2,ZAD];rfl
  .exact I.hok.fresh (yAF Z (yBP a0))
 .have hP:s.heap.get? Pt=some (PySem.W.tabObj #[rawInt pos.line,rawInt pos.col,.ref c1]):=I.hok Pt _ ht
  obtain ⟨a1,a2⟩:=U hP
  refine PySem.W.makeFunction_hit (cv:=.ref c1) a8 I.ok.glob a3 Y hC hP trivial ?_ a2 fun L z h' tk hk hsz=>?_
  .simp [codeAmong,rawInt]
  have J:=I.made1 (tk:=tk) (fo:=PySem.W.fnMade iname iq ip ib isc (closFrom X.env.cells isc.names []) z ((X.mg "__name__").getD .none) c1 L) hk hsz rfl
  have gt:∀ b o,H b=some o->b≠h'.objs.size:=fun b o e=>yAE (yAQ (I.hok.lt e) hsz)
  have a4:∀ b o,H b=some o->upd H h'.objs.size (FZ (PySem.W.fnMade iname iq ip ib isc (closFrom X.env.cells isc.names []) z ((X.mg "__name__").getD .none) c1 L)) b=some o:=fun b o e=>by rw [ZAG (gt b o e)];exact e
  have O:=ae.mono (H':=upd H h'.objs.size (FZ (PySem.W.fnMade iname iq ip ib isc (closFrom X.env.cells isc.names []) z ((X.mg "__name__").getD .none) c1 L))) fun b o e=>a4 b _ e
  exact a6 J ⟨fun b o _ e=>a4 b o e,.inr ⟨c1,a4 _ _ ht,O⟩,⟨z,_,L,c1,ZAD,O⟩,I.hok.fresh hsz⟩
end
noncomputable def ZEO (Pt:Addr) (pos:Pos) (iname iq:Str) (ip:Arguments) (ib:List Stmt) (isc:Scope) (fr:List Str) (ix:List Nat) (n:Nat):Sp:=fun vs H Q _=>
 vs.length=n /\ TabSt H Pt pos iq /\ ∀ g H',MadeDef H H' Pt pos g iname iq ip ib isc fr (ix.map fun i=>vs.getD i .non)->Q (.ref g) H'
theorem teller_ok {P:Program} {w:World} {K:W.Frag} {mg:Str->Option Value} {base:Heap} {x qual:Str} {st:Stmt} {f c Pt:Addr} {fd:FuncData} {ps:List Str} {iname iq:Str} {ip:Arguments} {ib:List Stmt} {isc:Scope} {pos rp al:Pos} {fr:List Str} {ix:List Nat}
  (F:Fun K x qual st f fd) (S:FnScope (ps++[iname]) ps (ZAB st)) (aq:fd.code=.ref c) (C:PySem.W.CodeHd base c Pt) (B:ZDy mg base)
  (hb:ZAM st=[.FunctionDef iname ip ib [] none [] isc none iname pos,.Return (some (.Name iname rp)) al]) (av:∀ L cd,qualnameIn (envOfC qual (ZAB st) L f cd) iname iname=iq) (hd0:ip.defaults=[]) (aw:ip.kw_defaults=[]) (ha:∀ L cd,annTrees ip none (envOfC qual (ZAB st) L f cd)=[])
  (a0:(ZAB st).names.lookup iname=some .local) (az:(iname == ("__debug__":Str))=false) (ai:(iname == ("__classdict__":Str))=false)
  (Z:∀ y∈isc.names,y.2=.free->y.1∈fr) (ae:∀ y∈fr,(y,NameKind.free)∈isc.names) (a8:∀ y∈fr,(ZAB st).names.lookup y=some .cell) (ar:∀ (j:Nat) (y:Str),fr[j]?=some y->∃ i,ix[j]?=some i /\ ps[i]?=some y) (ac:ix.length=fr.length) :
  FnOk P w K mg base CX0 1 f fd ps (ZEO Pt pos iname iq ip ib isc fr ix ps.length):=by
 obtain ⟨oc,od,kV,b1,pm,an,a6,ct,b0,rfl,lk,ak⟩:=F.ex
 have a9:a6=.ref c:=aq
 refine ⟨fun vs H Q E h=>h.1,fun A outer s H args us vs Q E hr e0 au r ao=>?_⟩
 obtain ⟨hl,hT,hQ⟩:=ao
 have KX:K.In s.heap:=e0.mod.kin.keeps fun b o e=>(e0.bs b o e).1
 have ay:s.heap.NoLimit:=e0.mod.nolimit.keeps fun b o e=>(e0.bs b o e).1
 have a7:∀ y∈ps.zip us,(ZAB st).names.lookup y.1=some .local∨((ZAB st).names.lookup y.1=some .cell /\ ((cellsFrom (s.heap.objs.size+1) (ZAB st).names []).lookup y.1).isSome=true):=fun ⟨n,v⟩ hy=>by
  rcases S.par n (List.of_mem_zip hy).1 with q | q
  .exact .inl q
  .exact .inr ⟨q,PySem.W.cellsFrom_some _ _ _ (.inl q)⟩
 refine codeAny_call_function hr.depth (KX _ _ lk) rfl S.co S.gen rfl (PySem.W.codeRec_of KX ak) (au _ _ _ _ ?_)
 refine wpAny_newFunctionEnv_cells S.kind a7 fun env he s1 xx=>?_
 subst he
 refine ⟨ay.keeps xx.toInCall.keep,codeAny_func ?_⟩
 have I:Inv (cxOf CX0 P w K mg base (ps++[iname]) qual (ZAB st) f a6 A outer s H E).nox [] (start (ps++[iname]) vs) H s1:=(inv_start S hr.hd e0 hl r xx).wish _
 have O:∀ y∈fr,∃ cc,(cellsFrom (s.heap.objs.size+1) (ZAB st).names []).lookup y=some cc:=fun y hy=>ZCw (a8 y hy)
 rw [hb]
 have ag:(ps++[iname])[ps.length]?=some iname:=by simp
 have d1:=ps_def (X:=(cxOf CX0 P w K mg base (ps++[iname]) qual (ZAB st) f a6 A outer s H E).nox) (i:=ps.length) (pos:=pos) (Pt:=Pt) (c:=c) (iq:=iq) (ip:=ip) (ib:=ib) (isc:=isc) S.nd ag (.inl a0) (.inr a0) a9 C B (av _ _) hd0 aw (ha _ _) fun y hy=>O y (Z _ hy rfl)
 have aa:(start (ps++[iname]) vs).length=ps.length+1:=by
  unfold start
  simp only [yAC,yAB,yCC,yAK,yBL]
  omega
 have ax:=d1 [] s1 (start (ps++[iname]) vs) H { nx:=fun ah H'=>∃ g,ah=(start (ps++[iname]) vs).set ps.length (some (.ref g)) /\ MadeMid H H' Pt pos g iname iq ip ib isc (closFrom (cellsFrom (s.heap.objs.size+1) (ZAB st).names []) isc.names []),rt:=fun _ _=>False } I ⟨hT,fun g H' M=>⟨g,rfl,M⟩⟩
 refine wpAny_execs_cons (wpAny_mono ax (fun fl s2 q=>?_) fun e s' z=>z.elim)
 cases fl with
 | ret v=>obtain ⟨_,_,_,_,_,q⟩:=q;exact q.elim
 | brk=>obtain ⟨_,_,_,q⟩:=q;exact q.elim
 | cont=>obtain ⟨_,_,_,q⟩:=q;exact q.elim
 | next=>
  obtain ⟨ah,H',J,g,rfl,M⟩:=q
  have v1:=pe_var (pos:=rp) (X:=(cxOf CX0 P w K mg base (ps++[iname]) qual (ZAB st) f a6 A outer s H E).nox) ag (.inl a0) az ai [] s2 _ H' (fun v H2=>v=.ref g /\ H2=H') J ⟨.ref g,by rw [List.getElem?_set_self (by rw [aa];omega)],rfl,rfl⟩
  refine wpAny_execs_cons (wpAny_Return_some (wpAny_mono v1 (fun u s3 q=>?_) fun e s' z=>z.elim))
  obtain ⟨v,H2,J2,rv,rfl,rfl⟩:=q
  cases rv
  have un:Un (frs outer) [] H H2 s.heap s3.heap:=J2.base
  have b2:∀ b:Addr,b∉([]:List Addr):=fun b=>by simp
  have inj:=J2.ok.inj
  have ap:∀ (j:Nat) (y:Str),fr[j]?=some y->∃ v cc uu,(ix.map fun i=>vs.getD i .non)[j]?=some v /\ (cellsFrom (s.heap.objs.size+1) (ZAB st).names []).lookup y=some cc /\ RelV v uu /\ s3.heap.IsCell cc (some uu):=fun j y hj=>by
   obtain ⟨i,h1,h2⟩:=ar j y hj
   have hi:i < ps.length:=(yAM.mp h2).1
   obtain ⟨v,hv⟩:∃ v,vs[i]?=some v:=⟨_,yAH (by omega)⟩
   obtain ⟨m,_,hm⟩:=J2.loc
   have hs:((start (ps++[iname]) vs).set ps.length (some (.ref g)))[i]?=some (some v):=by
    rw [List.getElem?_set_ne (by omega)]
    unfold start
    rw [yAZ (by rw [yAB];omega),yAT,hv]
    rfl
   have hN:(ps++[iname])[i]?=some y:=by rw [yAZ hi];exact h2
   obtain ⟨uu,ru,am⟩:=hm i y v hN hs (.inr (.inl (a8 y (yAO hj))))
   refine ⟨v,?_⟩
   rcases am with ⟨k1,_⟩ | ⟨_,cc,e1,e2⟩
   .have k2:(ZAB st).names.lookup y=some .local:=k1
    rw [a8 y (yAO hj)] at k2
    cases k2
   .refine ⟨cc,uu,?_,e1,ru,e2⟩
    rw [yAT,h1]
    show some (vs.getD i .non)=some v
    rw [yCJ,hv]
    rfl
  have Y:∀ y cc,(closFrom (cellsFrom (s.heap.objs.size+1) (ZAB st).names []) isc.names []).lookup y=some cc->y∈fr /\ (cellsFrom (s.heap.objs.size+1) (ZAB st).names []).lookup y=some cc:=fun y cc h=>by
   rcases ZBf _ _ y cc (PySem.mem_of_lookup h) with z | ⟨z1,z2⟩
   .cases z
   .have hy:=Z _ z1 rfl
    obtain ⟨c3,h3⟩:=O y hy
    rw [h3] at z2
    exact ⟨hy,by rw [h3];exact congrArg some z2.symm⟩
  have af:∀ y cc,y∈fr->(cellsFrom (s.heap.objs.size+1) (ZAB st).names []).lookup y=some cc->(closFrom (cellsFrom (s.heap.objs.size+1) (ZAB st).names []) isc.names []).lookup y=some cc:=fun y cc hy h=>by
   obtain ⟨c3,h3⟩:=ZBS (ZBg (cells:=cellsFrom (s.heap.objs.size+1) (ZAB st).names []) isc.names [] y (ae y hy))
   have:=(Y y c3 h3).2
   rw [h] at this
   rw [h3,Option.some.inj this]
  have U:∀ y cc,(closFrom (cellsFrom (s.heap.objs.size+1) (ZAB st).names []) isc.names []).lookup y=some cc->s.heap.objs.size <= cc /\ H2 cc=none /\ ∃ o u,s3.heap.get? cc=some o /\ o.data=.cell u:=fun y cc h=>by
   obtain ⟨hy,h2⟩:=Y y cc h
   obtain ⟨u,o,e1,e2⟩:=J2.cell y cc h2
   exact ⟨yBP (xx.above y cc (PySem.mem_of_lookup h2)),J2.freeC y cc h2,o,u,e1,e2⟩
  generalize closFrom (cellsFrom (s.heap.objs.size+1) (ZAB st).names []) isc.names []=cl at M Y af U
  have tr:∀ b,¬ (∃ y,cl.lookup y=some b)->back cl (fun b=>(s3.heap.get? b).map FZ) H2 b=H2 b:=fun b n=>ZCK n
  have tc:∀ y b o,cl.lookup y=some b->s3.heap.get? b=some o->back cl (fun b=>(s3.heap.get? b).map FZ) H2 b=some (FZ o):=fun y b o h e=>by rw [ZDU h,e];rfl
  have aj:∀ b,b < s.heap.objs.size->¬ ∃ y,cl.lookup y=some b:=fun b hb ⟨y,z⟩=>absurd (U y b z).1 (Nat.not_le.mpr hb)
  have up:∀ b o,H2 b=some o->back cl (fun b=>(s3.heap.get? b).map FZ) H2 b=some o:=fun b o e=>by
   rw [tr b fun ⟨y,z⟩=>by rw [(U y b z).2.1] at e;cases e];exact e
  refine ⟨.ref g,back cl (fun b=>(s3.heap.get? b).map FZ) H2,J2.os,J2.bare,⟨un.keep,un.slot,fun b o e n hx=>?_,un.there,fun b xs e=>up _ _ (un.tups b xs e),fun b o u e=>up _ _ (un.frzs b o u e),fun b qs e=>?_⟩,fun b o e=>?_,rfl,hQ g _ ⟨fun b o n e=>up _ _ (M.same b o n e),?_,⟨cl,?_,fun y cc h=>(Y y cc h).1,fun y z cc h1 h2=>inj y z cc (Y y cc h1).2 (Y z cc h2).2,fun j y hj=>?_,?_⟩,M.fresh⟩⟩
  .rw [tr b (aj b (Heap.lt_size e))];exact un.free b o e n hx
  .obtain ⟨more,e2⟩:=un.tbls b qs e
   exact ⟨more,up _ _ e2⟩
  .by_cases q:∃ y,cl.lookup y=some b
   .obtain ⟨y,q⟩:=q
    obtain ⟨_,_,o2,u2,e2,_⟩:=U y b q
    rw [tc y b o2 q e2] at e
    cases e
    exact ZEx e2
   .rw [tr b q] at e
    exact (J2.hok b o e).stay (fun c v _ q=>q) (fun c q=>up c _ q) fun c xs q=>up c _ q
  .exact M.tab.mono (by
    rcases M.tab with z | ⟨_,z,_⟩
    .rw [z];exact up _ _ z
    .rw [z];exact up _ _ z) fun b o e=>up b _ e
  .obtain ⟨d1,d2,d3,c3,e1,e2⟩:=M.obj
   exact ⟨d1,d2,d3,c3,up _ _ e1,e2.mono fun b o e=>up b _ e⟩
  .obtain ⟨v,cc,uu,a1,a2,a3,o,a4,a5⟩:=ap j y hj
   have ad:=af y cc (yAO hj) a2
   exact ⟨v,cc,uu,o,a1,ad,a3,tc y cc o ad a4,a5⟩
  .rw [yAB];exact ac
noncomputable def ZFQ (tabs:List (Addr×Addr)) (H:Hp):Prop:=∀ q∈tabs,H q.2=some (.tbl #[])
theorem law_callT {P:Program} {w:World} {K:W.Frag} {mg mb:Str->Option Value} {CX:CXT} {k:Nat} {fa a:Addr} {fd:FuncData} {x:Str} {sp:Sp} {s₁:Shared} {vs:List Value} {ns:List Int} {tabs:List (Addr×Addr)}
  (KX:K.In s₁.heap) (ae:s₁.heap.Ns mainGlobals mg) (U:s₁.heap.Ns builtinsNs mb) (ag:∀ x:Str,x≠"__name__"->mb x=bootBuiltins x) (ad:s₁.heap.NoLimit) (hg:s₁.gens=#[])
  (ha:s₁.heap.get? a=some { cls:=.type "list",data:=.seq vs.toArray }) (hi:IntsAre vs ns) (hl:ns.length <= sizeLine) (hr:Room k callerA)
  (hT:∀ q∈tabs,PySem.W.CodeHd s₁.heap q.1 q.2 /\ s₁.heap.get? q.2=some (PySem.W.tabObj #[])) (nt:PySem.W.noTabs K=true) (ak:ZDy mg s₁.heap)
  (F:∀ base:Heap,K.In base->base.Ns mainGlobals mg->(∀ q∈tabs,PySem.W.CodeHd base q.1 q.2)->ZDy mg base->FnOk P w K mg base CX k fa fd [x] sp) (a3:∀ (s:Shared) (u:Value),BindsTo s fd ⟨[u],[]⟩ [(x,u)])
  (ah:∀ H:Hp,ZFQ tabs H->SqL K H a (ns.map V.int)->sp [.ref a] H (fun v _=>v=.bl true) fun _ _ _=>False)
  (al:∀ H e s',CX [] H s₁ (fun _ _ _=>False) e s'->False) :
  codeAny (model P w) callerA (.call (.ref fa) ⟨[.ref a],[]⟩) (fun r s'=>r=.ok (.ret (.bool true)) /\ OldK s₁.heap s'.heap /\ s'.os=s₁.os /\ AllBare s'.gens) s₁:=by
 have rv:=ZCT hi
 have ac:=hi.length
 have a2:∀ H:Hp,SqL K H a (ns.map V.int)->HOk P w H s₁.heap->(∀ b o,H b=some o->(b=a /\ K.lookup a=none /\ ∃ ob xs,o=.frz ob (.lst xs))∨(o=.tbl #[] /\ ∃ q∈tabs,q.2=b))->ZFQ tabs H ->
   codeAny (model P w) callerA (.call (.ref fa) ⟨[.ref a],[]⟩) (fun r s'=>r=.ok (.ret (.bool true)) /\ OldK s₁.heap s'.heap /\ s'.os=s₁.os /\ AllBare s'.gens) s₁:=by
  intro H hS a9 hA hO
  have J:∀ {b:Addr} {o:Obj},s₁.heap.get? b=some o->H b=none->(hidT s₁.heap H).get? b=some o:=fun e n=>hidT_get e n
  have Y:∀ {b:Addr} {o:Obj},s₁.heap.get? b=some o->(∀ a5 n',o.data≠.seq a5 n')->(o.cls=.none->∀ a5,o.data≠.fields a5)->H b=none:=fun {b o} e d1 d2=>by
   cases q:H b with
   | none=>rfl
   | some u=>
    rcases hA b u q with ⟨e',_⟩ | ⟨_,Z,L,e'⟩
    .subst e'
     rw [ha] at e;cases e
     exact absurd rfl (d1 _ _)
    .subst e'
     rw [(hT Z L).2] at e;cases e
     exact absurd rfl (d2 rfl _)
  have a0:∀ {b:Addr} {m:Str->Option Value},s₁.heap.Ns b m->(hidT s₁.heap H).Ns b m:=fun {b m} ⟨o,es,ep,e,d,r⟩=>⟨o,es,ep,J e (Y e (by rw [d];intro _ _ z;cases z) (fun _=>by rw [d];intro _ z;cases z)),d,r⟩
  have a8:K.In (hidT s₁.heap H):=fun b o e=>J (KX b o e) (by
   cases q:H b with
   | none=>rfl
   | some u=>
    rcases hA b u q with ⟨e',n,_⟩ | ⟨_,Z,L,e'⟩
    .subst e';rw [n] at e;cases e
    .subst e'
     have e2:=KX _ _ e
     rw [(hT Z L).2] at e2
     cases e2
     have h2:=List.all_eq_true.mp nt _ (PySem.W.mem_of_lookupK e)
     exact absurd (show false=true from h2) yBC)
  have hM:Mod K mg (hidT s₁.heap H):=⟨a8,a0 ae,⟨mb,a0 U,ag⟩,let ⟨mc,h1,h2⟩:=ad;⟨mc,a0 h1,h2⟩⟩
  have e0:Env0 P w K mg (hidT s₁.heap H) callerA [] s₁ H:=⟨rfl,hM,fun b o e=>of_hidT e,Nat.le_of_eq (hidT_size _ _),trivial,fun b U=>absurd (show b∈([]:List Addr) from U) (by simp),a9,.of_eq hg⟩
  have hC:∀ q∈tabs,PySem.W.CodeHd (hidT s₁.heap H) q.1 q.2:=fun q L=>by
   obtain ⟨o,vs,a7,tf,a4,tg,aj,aa,tt,e1,e2,e3,r⟩:=(hT q L).1
   exact ⟨o,vs,a7,tf,a4,tg,aj,aa,tt,J e1 (Y e1 (by rw [e3];intro _ _ z;cases z) (fun z=>by rw [e2] at z;cases z)),e2,e3,r⟩
  have hB:ZDy mg (hidT s₁.heap H):=by
   obtain ⟨bm,ob,b1,b2,b3,b4,b5,b6⟩:=ak
   exact ⟨bm,ob,b1,b2,J b3 (Y b3 (by rw [b6];intro _ _ z;cases z) (fun z=>by rw [b4] at z;cases z)),b4,b5,b6⟩
  refine codeAny_mono ((F _ a8 (a0 ae) hC hB).run callerA [] s₁ H ⟨[.ref a],[]⟩ [.ref a] [.ref a] _ _ hr e0 (a3 s₁ (.ref a)) (.cons rfl .nil) (ah H hO hS)) fun r s' h=>?_
  cases r with
  | error e=>exact (al H e s' h).elim
  | ok fl=>
   cases fl with
   | next=>exact False.elim h
   | brk=>exact False.elim h
   | cont=>exact False.elim h
   | ret u=>
    obtain ⟨v,H',os,a6,un,a1,r',q⟩:=h
    have Z:v=.bl true:=q
    subst Z
    obtain rfl:u=Value.bool true:=r'
    have ai:∀ b:Addr,b∉frs ([]:List Env):=fun b z=>absurd (show b∈([]:List Addr) from z) (by simp)
    refine ⟨rfl,⟨fun b o e=>?_,fun b o e=>un.there b o e (by simp)⟩,os,a6⟩
    cases q:H b with
    | none=>exact .inl (un.keep b o e q (ai b) (by simp))
    | some u=>
     rcases hA b u q with ⟨_,_,ob,xs,z⟩ | ⟨z,Z,L,e'⟩
     .subst z
      have z2:=un.frzs b ob _ q
      obtain ⟨e1,_⟩:=a9 b _ q
      obtain ⟨e2,_⟩:=a1 b _ z2
      rw [e] at e1;cases e1
      exact .inl e2
     .subst z
      subst e'
      obtain ⟨more,z2⟩:=un.tbls _ _ q
      have e2:s'.heap.get? Z.2=some (PySem.W.tabObj (#[]++more)):=a1 _ _ z2
      have e3:=(hT Z L).2
      rw [e] at e3
      have e4:o=PySem.W.tabObj #[]:=Option.some.inj e3
      subst e4
      exact .inr (.inl ⟨((hT Z L).1.tab (hT Z L).2).isCodeTable,rfl,#[],more,rfl,e2⟩)
 have af:∀ q∈tabs,q.2≠a:=fun q L z=>by
  have e:=(hT q L).2
  rw [z,ha] at e;cases e
 cases hk:K.lookup a with
 | some o=>
  have e:=KX a o hk
  rw [ha] at e
  cases e
  refine a2 (fun b=>if b∈tabs.map (·.2) then some (.tbl #[]) else none) (.inr ⟨_,vs.toArray,_,hk,rfl,rfl,rfl,by rw [yAN,ac];exact hl,by simpa using rv⟩) (fun b u z=>?_) (fun b u z=>?_) fun q L=>if_pos (List.mem_map_of_mem L)
  .by_cases U:b∈tabs.map (·.2)
   .have O:=(if_pos U).symm.trans z
    cases O
    obtain ⟨q,L,rfl⟩:=yBJ.mp U
    exact (hT q L).2
   .have O:=(if_neg U).symm.trans z
    cases O
  .by_cases U:b∈tabs.map (·.2)
   .have O:=(if_pos U).symm.trans z
    cases O
    obtain ⟨q,L,e⟩:=yBJ.mp U
    exact .inr ⟨rfl,q,L,e⟩
   .have O:=(if_neg U).symm.trans z
    cases O
 | none=>
  refine a2 (fun b=>if b∈tabs.map (·.2) then some (.tbl #[]) else if b=a then some (.frz { cls:=.type "list",data:=.seq vs.toArray } (.lst (ns.map V.int))) else none) (.inl (.inr ⟨{ cls:=.type "list",data:=.seq vs.toArray },?_⟩)) (fun b u z=>?_) (fun b u z=>?_) fun q L=>if_pos (List.mem_map_of_mem L)
  .dsimp only
   rw [if_neg,if_pos rfl]
   intro z
   obtain ⟨q,L,e⟩:=yBJ.mp z
   exact af q L e
  .by_cases U:b∈tabs.map (·.2)
   .have O:=(if_pos U).symm.trans z
    cases O
    obtain ⟨q,L,rfl⟩:=yBJ.mp U
    exact (hT q L).2
   .have O:=(if_neg U).symm.trans z
    by_cases hba:b=a
    .have O:=(if_pos hba).symm.trans O
     cases O
     subst hba
     exact ⟨ha,by rw [yAB];exact hl,vs,_,rv,ha⟩
    .have O:=(if_neg hba).symm.trans O
     cases O
  .by_cases U:b∈tabs.map (·.2)
   .have O:=(if_pos U).symm.trans z
    cases O
    obtain ⟨q,L,e⟩:=yBJ.mp U
    exact .inr ⟨rfl,q,L,e⟩
   .have O:=(if_neg U).symm.trans z
    by_cases hba:b=a
    .have O:=(if_pos hba).symm.trans O
     cases O
     exact .inl ⟨hba,hk,_,_,rfl⟩
    .have O:=(if_neg hba).symm.trans O
     cases O
noncomputable def ZEm (K:W.Frag) (tabs:List (Addr×Addr)):Sp:=fun vs H Q _=>∃ (a:Addr) (ns:List Int),vs=[.ref a] /\ SqL K H a (ns.map V.int) /\ ns.length <= 63 /\ ZFQ tabs H /\ ∀ H',Q (.bl true) H'
theorem tabIn_of {K:W.Frag} {x:Str} {f c Pt:Addr} {oc z:Value} {Z L:Option Addr} {fd:FuncData} {Y J:Array (Option Value)} {vs:Array Value} (a:W.nsIn K mainGlobals x=some (some (.ref f))) (l:K.lookup f=some ⟨oc,Z,.func fd,Y⟩) (hc:fd.code=.ref c)
  (O:K.lookup c=some ⟨z,L,.fields vs,J⟩) (U:vs[11]?=some (.ref Pt)):PySem.W.tabIn K x=some (c,Pt):=by
 unfold PySem.W.tabIn
 rw [a]
 dsimp only
 rw [l]
 dsimp only
 rw [hc]
 dsimp only
 rw [O]
 dsimp only
 rw [U]
theorem walk_ofT2 {l:PySem.W.OpenLaw} {k:Nat} {q:Program} {loose:List Str} {XP:(Str->Option Value)->Heap->Prop} {YP:World->Heap->Prop} {d:DefRec} {K:Params->W.Frag} {x:Str} {names:List Str}
  (hn:l.most=some 63) (a1:d.params.defaults=[]) (hr:Room k callerA)
  (hY:∀ (w:World) (h:Heap),YP w h->(K w.params).In h) (O:∀ y∈names,∃ dr,(recsOf q).find? (fun e=>e.name == y)=some dr)
  (F:∀ (w:World) (mg:Str->Option Value) (Z:Addr) (h:Heap),(K w.params).In h->h.Ns mainGlobals mg->mg d.name=some (.ref Z) ->
   ∃ (tabs:List (Addr×Addr)) (fd:FuncData),PySem.W.noTabs (K w.params)=true /\ (∀ t∈tabs,∃ y∈names,PySem.W.tabIn (K w.params) y=some t) /\ (∀ (s:Shared) (u:Value),BindsTo s fd ⟨[u],[]⟩ [(x,u)]) /\
    ∀ base:Heap,(K w.params).In base->base.Ns mainGlobals mg->(∀ t∈tabs,PySem.W.CodeHd base t.1 t.2)->ZDy mg base->FnOk l.prog w (K w.params) mg base CX0 k Z fd [x] (ZEm (K w.params) tabs)) :
  PySem.W.WalkO q loose XP YP l.row.toRowW d [] (fun f vs=>PySem.call f vs):=by
 refine Att.attach_call hn a1 fun w s₀ s₁ mg mb Z o pm cd a3 a vs ns G Y ho hd a2 a0 U L J hg=>?_
 have KX:=hY w _ Y
 obtain ⟨tabs,fd,nt,ht,hb,hF⟩:=F w mg Z _ KX G.T.g a0
 refine law_callT (tabs:=tabs) KX G.T.g G.T.b G.T.builtins G.T.nolimit hg U L (yAF J (by decide)) hr (fun t h2=>?_) nt G.T.bmain hF hb (fun H hO hS=>⟨a,ns,rfl,hS,J,hO,fun _=>rfl⟩) fun H e s' z=>z
 obtain ⟨y,hy,e2⟩:=ht t h2
 obtain ⟨dr,e1⟩:=O y hy
 exact PySem.W.tab_of G.T KX e1 e2
theorem hix_of {z:List Nat} {ps fr:List Str} (h:z.map (fun i=>ps[i]?)=fr.map some):∀ (j:Nat) (y:Str),fr[j]?=some y->∃ i,z[j]?=some i /\ ps[i]?=some y:=fun j y e=>by
 have:=congrArg (fun l=>l[j]?) h
 simp only [yAT,e,yCA] at this
 cases q:z[j]? with
 | none=>rw [q] at this;cases this
 | some i=>rw [q] at this;exact ⟨i,rfl,by simpa using this⟩
noncomputable def inBody (s:Stmt) (j:Nat):Stmt:=(ZAM s).getD j (.Pass ⟨0,0,0,0⟩)
noncomputable def ZEz (s:Stmt):Pos:=match s with
 | .FunctionDef _ _ _ _ _ _ _ _ _ pos=>pos
 | _=>⟨0,0,0,0⟩
theorem cx_cloK {P:Program} {w:World} {K:W.Frag} {mg:Str->Option Value} {base:Heap} {N:List Str} {qual:Str} {scope:Scope} {f:Addr} {cd:Value} {cl:List (Str×Addr)} {A:Around} {outer:List Env} {s:Shared} {H:Hp}:(ZEc P w K mg base N qual scope f cd cl A outer s H).K=K:=rfl
section
variable {prog:Program} {w:World} {A:Around} {R:Result->Shared->Prop} {I:Addr} {fp wr:List Addr} {n:Nat} {P:Nat->Value->Prop} {St:Nat->Heap->Prop}
theorem maxd_loop {kw:List (Str×Value)} (W:Walks prog w A.in1 I fp wr n P St) (bt:Nat->Nat->Bool) (a8:CmpOf prog w A.in1 .Gt P bt) (S:Addr) (a9:S∉fp) :
  ∀ (k j:Nat) (s:Shared) (vb:Value) (c:Nat),n-(j+1)=k->j+1 <= n->St (j+1) s.heap->P (argBest bt j) vb ->
  s.heap.get? S=some { cls:=.type "list",dict:=none,data:=.seq #[vb,vb] c,slots:=#[] } ->
  (∀ v h' tk,P (argBest bt (n-1)) v->(∀ b o,b∉wr->b≠S->s.heap.get? b=some o->h'.get? b=some o)->R (.ok (.ret v)) { s with heap:=h',toks:=tk }) ->
  codeAny (model prog w) A (.builtin "max.loop" ⟨[.ref I,.none,.ref S],kw⟩) R s:=by
 have a6:S∉wr:=fun h=>a9 (W.sub _ h)
 have U:(toString "max"++toString ".loop":String)="max.loop":=by decide
 intro k
 induction k with
 | zero=>
  intro j s vb c hk hj a3 a0 hS hR
  have a7:j+1=n:=by omega
  refine codeAny_builtin F.entry_max_loop ?_
  rw [Around.under_plainId F.plain_max_loop _]
  show wpAny _ A.in1 (seqItems? (.ref S) >>= _) _ _ s
  refine wpAny_bind (wpAny_seqItems hS rfl ?_)
  show wpAny _ A.in1 (tryCatch (pyNext (.ref I)) _ >>= _) _ _ s
  refine wpAny_bind (wpAny_tryCatch (W.done s _ _ (a7 ▸ a3) fun h' tk L=>?_))
  have O:=L S _ a6 hS
  show wpAny _ A.in1 (updateSeq S (fun _=>#[]) >>= _) _ _ _
  refine wpAny_bind ?_
  refine wpAny_updateSeq O rfl (wpAny_bind (wpAny_letGo (wpAny_pure ?_)))
  refine hR vb _ tk (by rw [<- a7];exact a0) fun b o z J e=>(Heap.get?_update_other _ _ (Ne.symm J)).trans (L b o z e)
 | succ k ih=>
  intro j s vb c hk hj a3 a0 hS hR
  have a4:j+1 < n:=by omega
  refine codeAny_builtin F.entry_max_loop ?_
  rw [Around.under_plainId F.plain_max_loop _]
  show wpAny _ A.in1 (seqItems? (.ref S) >>= _) _ _ s
  refine wpAny_bind (wpAny_seqItems hS rfl ?_)
  show wpAny _ A.in1 (tryCatch (pyNext (.ref I)) _ >>= _) _ _ s
  refine wpAny_bind (wpAny_tryCatch (W.item (j+1) s _ _ a4 a3 fun v h' tk hP a1 L=>?_))
  have O:=L S _ a6 hS
  show wpAny _ A.in1 (tryCatch (holding [v,v] (richCompare .Gt v vb >>= _)) _ >>= _) _ _ _
  refine wpAny_bind (wpAny_tryCatch (wpAny_holding (wpAny_bind (a8 (j+1) (argBest bt j) v vb _ _ _ hP a0 ?_))))
  refine wpAny_bind (wpAny_holding (wpAny_truthy_bool ?_))
  refine wpAny_bind (wpAny_letGo (wpAny_pure ?_))
  cases hb:bt (j+1) (argBest bt j) with
  | true=>
   simp only [if_true]
   refine wpAny_bind ?_
   refine wpAny_updateSeq O rfl (wpAny_bind (wpAny_letGo ?_))
   rw [U]
   refine wpAny_pure ⟨plainId_quiet F.plain_max_loop _,ih (j+1) _ v _ (by omega) a4 (W.frame _ _ _ a1 fun b aa o e=>?_) (by simp only [argBest,hb,if_true];exact hP) (Heap.get?_update_self _ O rfl)
    fun v' a5 Z a2 Y=>?_⟩
   .exact (Heap.get?_update_other _ _ (fun h:S=b=>a9 (by rw [h];exact aa))).trans e
   .exact hR v' a5 Z a2 fun b o z J e=>Y b o z J ((Heap.get?_update_other _ _ (Ne.symm J)).trans (L b o z e))
  | false=>
   simp only [yCB,if_false]
   refine wpAny_bind (wpAny_letGo ?_)
   rw [U]
   refine wpAny_pure ⟨plainId_quiet F.plain_max_loop _,ih (j+1) _ vb c (by omega) a4 a1 (by simp only [argBest,hb,yCB,if_false];exact a0) O fun v' a5 Z a2 Y=>?_⟩
   exact hR v' a5 Z a2 fun b o z J e=>Y b o z J (L b o z e)
theorem maxd_first {kw:List (Str×Value)} (W:Walks prog w A.in1 I fp wr n P St) (bt:Nat->Nat->Bool) (a1:CmpOf prog w A.in1 .Gt P bt) (S:Addr) (J:S∉fp) (hn:0 < n) {s:Shared} {c:Nat} (a5:St 0 s.heap)
  (hS:s.heap.get? S=some { cls:=.type "list",dict:=none,data:=.seq #[] c,slots:=#[] })
  (hR:∀ v h' tk,P (argBest bt (n-1)) v->(∀ b o,b∉wr->b≠S->s.heap.get? b=some o->h'.get? b=some o)->R (.ok (.ret v)) { s with heap:=h',toks:=tk }) :
  codeAny (model prog w) A (.builtin "max.loop" ⟨[.ref I,.none,.ref S],kw⟩) R s:=by
 have a3:S∉wr:=fun h=>J (W.sub _ h)
 have z:(toString "max"++toString ".loop":String)="max.loop":=by decide
 refine codeAny_builtin F.entry_max_loop ?_
 rw [Around.under_plainId F.plain_max_loop _]
 show wpAny _ A.in1 (seqItems? (.ref S) >>= _) _ _ s
 refine wpAny_bind (wpAny_seqItems hS rfl ?_)
 show wpAny _ A.in1 (tryCatch (pyNext (.ref I)) _ >>= _) _ _ s
 refine wpAny_bind (wpAny_tryCatch (W.item 0 s _ _ hn a5 fun v h' tk hP Y a0=>?_))
 have L:=a0 S _ a3 hS
 show wpAny _ A.in1 (updateSeq S (fun _=>#[v,v]) >>= _) _ _ _
 refine wpAny_bind ?_
 refine wpAny_updateSeq L rfl ?_
 rw [z]
 refine wpAny_pure ⟨plainId_quiet F.plain_max_loop _,maxd_loop W bt a1 S J _ 0 _ v _ rfl hn (W.frame _ _ _ Y fun b a7 o e=>?_) hP (Heap.get?_update_self _ L rfl) fun v' a6 a2 a4 Z=>?_⟩
 .exact (Heap.get?_update_other _ _ (fun h:S=b=>J (by rw [h];exact a7))).trans e
 .exact hR v' a6 a2 a4 fun b o U O e=>Z b o U O ((Heap.get?_update_other _ _ (Ne.symm O)).trans (a0 b o U e))
theorem maxd_none {d:Value} (W:Walks prog w A.in1 I fp wr 0 P St) (S:Addr) (O:S∉fp) {s:Shared} {c:Nat} (J:St 0 s.heap)
  (Z:s.heap.get? S=some { cls:=.type "list",dict:=none,data:=.seq #[] c,slots:=#[] })
  (Y:∀ h' tk,(∀ b o,b∉wr->b≠S->s.heap.get? b=some o->h'.get? b=some o)->R (.ok (.ret d)) { s with heap:=h',toks:=tk }) :
  codeAny (model prog w) A (.builtin "max.loop" ⟨[.ref I,.none,.ref S],[("default",d)]⟩) R s:=by
 have U:S∉wr:=fun h=>O (W.sub _ h)
 refine codeAny_builtin F.entry_max_loop ?_
 rw [Around.under_plainId F.plain_max_loop _]
 show wpAny _ A.in1 (seqItems? (.ref S) >>= _) _ _ s
 refine wpAny_bind (wpAny_seqItems Z rfl ?_)
 show wpAny _ A.in1 (tryCatch (pyNext (.ref I)) _ >>= _) _ _ s
 refine wpAny_bind (wpAny_tryCatch (W.done s _ _ J fun h' tk L=>?_))
 exact wpAny_bind (wpAny_rule (wpAny_pure (Y h' tk fun b o z _ e=>L b o z e)))
end
theorem args_maxd (a v:Value):argsOk "max" ⟨[a],[(Str.ofString "default",v)]⟩:=by unfold argsOk;kernel_rfl
section
variable {prog:Program} {w:World} {A:Around} {E:Value->Shared->Prop} {s:Shared} {l:Addr}
theorem maxd_ints {d:Value} {its:List Value} {ns:List Int} {Q:Value->Shared->Prop} (hh:A.handled=none) (hl:s.heap.IsList l its.toArray) (hi:IntsAre its ns)
  (h0:ns=[]->∀ h' tk,(∀ b o,s.heap.get? b=some o->h'.get? b=some o)->Q d { s with heap:=h',toks:=tk })
  (h1:∀ M t h' tk,M∈ns->(∀ a∈ns,a <= M)->(∀ b o,s.heap.get? b=some o->h'.get? b=some o)->Q (.int M t) { s with heap:=h',toks:=tk }) :
  wpAny (model prog w) A (call (.builtin "max") [.ref l] [("default",d)]) Q E s:=by
 have J:(toString "max"++toString ".loop":String)="max.loop":=by decide
 obtain ⟨xs,e⟩:=hi.allInts.items
 have O:ns=xs.toList.map (·.1):=by
  rw [<- hi.numsOf,<- nums_intItems,<- e]
 rw [e] at hl
 refine PyProof.Rows.kmb_tree F.kind_max F.plain_max F.entry_max (args_maxd _ _) ?_
 show wpAny _ A.in1 (Builtin.Builtins.bindParams "max" ["key","default"] 0 ⟨[],[("default",d)]⟩ >>= _) _ _ s
 refine wpAny_bind (wpAny_of_eq (show Builtin.Builtins.bindParams "max" ["key","default"] 0 ⟨[],[("default",d)]⟩=pure [none,some d] from rfl) ?_)
 refine wpAny_bind (wpAny_pure ?_)
 refine wpAny_bind (iter_intList hl fun a2 e st Y a1=>?_)
 subst e
 refine wpAny_bind (wpAny_newObj_type ?_)
 rw [J]
 have W:=Walks.list (prog:=prog) (w:=w) (A:=A.in1) hh _ l a1 (intItems xs)
 have U:∀ {z:Nat} {f:List Addr},(∀ b∈f,b < z)->z∉f:=fun h hm=>yBG _ (h _ hm)
 by_cases hz:xs.size=0
 .have a0:(intItems xs).size=0:=by simpa [intItems] using hz
  rw [a0] at W
  refine wpAny_pure ⟨plainId_quiet F.plain_max_loop _,maxd_none W _ (U Y) (W.frame _ _ _ st fun b _ o e=>Heap.get?_push_of_some _ e) (Heap.get?_push_size _ rfl) fun h' tk hk=>?_⟩
  refine h0 (by rw [O,List.map_eq_nil_iff,<- Array.toList_empty];exact congrArg Array.toList (Array.eq_empty_of_size_eq_zero hz)) h' tk ?_
  exact old_kept fun b o L e=>hk b o L (yAE (Heap.lt_size e)) (Heap.get?_push_of_some _ e)
 .refine wpAny_pure ⟨plainId_quiet F.plain_max_loop _,maxd_first W _ (CmpOf.ints_gt (numAt xs) (fun _ _=>intItems_at)) _ (U Y) (by simp [intItems];omega) (W.frame _ _ _ st fun b _ o e=>Heap.get?_push_of_some _ e) (Heap.get?_push_size _ rfl) fun v h' tk hP hk=>?_⟩
  have Z:(intItems xs)[argBest (fun i j=>decide (numAt xs i > numAt xs j)) (xs.size-1)]?=some v:=by simpa [intItems] using hP
  obtain ⟨t,rfl⟩:=intItems_at Z
  obtain ⟨g1,g2⟩:=argBest_gt (numAt xs) (xs.size-1)
  refine h1 _ t h' tk ?_ (fun a ha=>?_) (old_kept fun b o L e=>hk b o L (yAE (Heap.lt_size e)) (Heap.get?_push_of_some _ e))
  .rw [O,numAt_eq];exact getD_mem (by rw [yAB,yAI];omega)
  .rw [O] at ha
   obtain ⟨j,hj,rfl⟩:=mem_getD ha
   rw [yAB,yAI] at hj
   rw [<- numAt_eq];exact g2 j (by omega)
end
noncomputable def maxD (d:Int):List Int->Int
 | []=>d
 | x::r=>r.foldl (fun m y=>if m < y then y else m) x
theorem ZCX:∀ (r:List Int) (x:Int),(r.foldl (fun m y=>if m < y then y else m) x=x∨r.foldl (fun m y=>if m < y then y else m) x∈r) /\ x <= r.foldl (fun m y=>if m < y then y else m) x /\ ∀ y∈r,y <= r.foldl (fun m y=>if m < y then y else m) x
 | [],x=>⟨.inl rfl,Int.le_refl _,fun _ h=>(nomatch h)⟩
 | y::r,x=>by
  rw [List.foldl_cons]
  by_cases hxy:x < y
  .rw [if_pos hxy]
   obtain ⟨a,b,c⟩:=ZCX r y
   refine ⟨?_,by omega,fun z J=>?_⟩
   .rcases a with a | a
    .rw [a]
     exact .inr yAJ
    .exact .inr (yAL _ a)
   .rcases yAG.mp J with e | J
    .subst e
     exact b
    .exact c z J
  .rw [if_neg hxy]
   obtain ⟨a,b,c⟩:=ZCX r x
   refine ⟨?_,b,fun z J=>?_⟩
   .rcases a with a | a
    .exact .inl a
    .exact .inr (yAL _ a)
   .rcases yAG.mp J with e | J
    .subst e
     omega
    .exact c z J
theorem maxD_eq {d:Int} {ns:List Int} {M:Int} (h1:M∈ns) (h2:∀ a∈ns,a <= M):maxD d ns=M:=by
 cases ns with
 | nil=>cases h1
 | cons x r=>
  obtain ⟨a,b,c⟩:=ZCX r x
  show r.foldl (fun m y=>if m < y then y else m) x=M
  have h3:=h2 _ yAJ
  have z:r.foldl (fun m y=>if m < y then y else m) x <= M:=by
   rcases a with a | a
   .rw [a];exact h3
   .exact h2 _ (yAL _ a)
  rcases yAG.mp h1 with e | e
  .omega
  .have:=c M e
   omega
section
variable {X:Cx} {e d:Expr} {te td:TE} {p pos:Pos} {kpos:Pos}
noncomputable def ZFC (K:W.Frag) (te td:TE):TE:=fun σ H Q=>te σ H fun x H1=>td σ H1 fun y H2=>∃ a ns dd,x=.ref a /\ y=.int dd /\ SqL K H2 a (ns.map V.int) /\ Q (.int (maxD dd ns)) H2
theorem pe_maxd (hc:X.calm=true) (O:PE X e te) (hd:PE X d td) (hg:Gl X "max") (hm:X.mg "max"=none)
  (h1:starEach [e] X.env=(false,eval e X.env)::starEach [] X.env:=by rfl) (h2:backTo pos (starEach [e] X.env)=(false,eval e X.env)::backTo pos (starEach [] X.env):=by rfl)
  (h3:(backTo pos (starEach [e] X.env)).any (·.1)=false:=by rfl) (h4:(backToKw pos (keywordEach [⟨some "default",d,kpos⟩] X.env)).all (·.1.isSome)=true:=by rfl)
  (Y:(backToKw pos (keywordEach [⟨some "default",d,kpos⟩] X.env)).any (·.1.isNone)=false:=by rfl) :
  PE X (.Call (.Name "max" p) [e] [⟨some "default",d,kpos⟩] pos) (ZFC X.K te td):=by
 intro pins s σ H Q I h
 refine wpAny_Call_Name_kw (ZCJ I hg hm PyProof.Rows.boot_max ?_ (by decide) (by decide))
 refine PyProof.Rows.callWith_kw ?_ h2 h3 h4 Y
 rw [h1]
 show wpAny _ _ (spliced ((false,eval e X.env)::backTo pos (starEach [] X.env))) _ _ s
 refine Calls.spliced_cons (thn (O pins s σ H _ I h) fun u s1 J=>?_)
 obtain ⟨x,H1,I1,r1,q1⟩:=J
 refine Calls.spliced_nil ?_
 have L:ZBx td tNil σ H1 (fun zs H2=>match zs with | [y]=>∃ a ns dd,x=.ref a /\ y=.int dd /\ SqL X.K H2 a (ns.map V.int) /\ Q (.int (maxD dd ns)) H2 | _=>False):=q1
 refine thn (pk_cons (nm:=some "default") (kpos:=kpos) hd (pk_nil (X:=X)) pos pins s1 σ H1 _ I1 L) fun kvs s2 J=>?_
 obtain ⟨zs,H2,z,Z,U⟩:=J
 match zs,Z,U with
 | [y],.cons ry .nil,⟨a,ns,dd,ex,ey,hS,q⟩=>
  subst ex ey
  cases r1
  obtain ⟨t,rfl⟩:=ry
  obtain ⟨its,rv,pl,_⟩:=z.list hS
  obtain ⟨o,n,e1,e2,_,e3⟩:=pl
  have hi:=ZBE rv
  refine maxd_ints (z.ok.hd hc) ⟨o,e1,e2,n,e3⟩ hi (fun hn h' tk k=>?_) (fun M t' h' tk m1 m2 k=>?_)
  .subst hn
   exact ⟨.int dd,H2,z.kept k,⟨_,rfl⟩,q⟩
  .refine ⟨.int M,H2,z.kept k,⟨_,rfl⟩,?_⟩
   rw [<- maxD_eq (d:=dd) m1 m2]
   exact q
end
theorem lkc {k z:Str} {v:V} {r:List (Str×V)}:List.lookup k ((z,v)::r)=if k=z then some v else List.lookup k r:=by
 rw [yBV]
 by_cases h:k=z
 .subst h;simp
 .have:(k == z)=false:=by simpa using h
  rw [this,if_neg h]
theorem length_putF_of {f:Str} {v u:V}:∀ {fs:List (Str×V)},fs.lookup f=some u->(putF f v fs).length=fs.length
 | [],h=>by cases h
 | (g,w)::r,h=>by
  unfold putF
  by_cases e:g=f
  .rw [if_pos e];rfl
  .rw [if_neg e,yAK,yAK]
   rw [lkc,if_neg (fun z=>e z.symm)] at h
   rw [length_putF_of h]
structure Ins (H:Hp) (a C:Addr) (fl:List (Str×V)):Prop where
 ex:∃ dx fs,H a=some (.ins C dx fs) /\ fs.length <= 50 /\ ∀ f,fs.lookup f=fl.lookup f
theorem Ins.of {H:Hp} {a C dx:Addr} {fl:List (Str×V)} (h:H a=some (.ins C dx fl)) (hl:fl.length <= 50):Ins H a C fl:=⟨dx,fl,h,hl,fun _=>rfl⟩
theorem Ins.congr {H:Hp} {a C:Addr} {fl fl':List (Str×V)} (h:Ins H a C fl) (e:∀ f,fl.lookup f=fl'.lookup f):Ins H a C fl':=let ⟨dx,fs,h1,h2,h3⟩:=h.ex;⟨dx,fs,h1,h2,fun f=>(h3 f).trans (e f)⟩
theorem Ins.mono {H H':Hp} {a C:Addr} {fl:List (Str×V)} (h:Ins H a C fl) (s:Same H H'):Ins H' a C fl:=let ⟨dx,fs,h1,h2,h3⟩:=h.ex;⟨dx,fs,s _ _ h1,h2,h3⟩
theorem Ins.keep {H H':Hp} {a C:Addr} {fl:List (Str×V)} (h:Ins H a C fl) (s:H' a=H a):Ins H' a C fl:=let ⟨dx,fs,h1,h2,h3⟩:=h.ex;⟨dx,fs,s.trans h1,h2,h3⟩
theorem Ins.ne {H:Hp} {a b C:Addr} {fl:List (Str×V)} {o:HO} (h:Ins H a C fl) (J:H b=some o) (n:∀ C dx fs,o≠.ins C dx fs):b≠a:=fun z=>by
 obtain ⟨dx,fs,h1,_⟩:=h.ex
 rw [z,h1] at J
 exact n _ _ _ (Option.some.inj J).symm
theorem Ins.neN {H:Hp} {a b C:Addr} {fl:List (Str×V)} (h:Ins H a C fl) (J:H b=none):b≠a:=fun z=>by
 obtain ⟨dx,fs,h1,_⟩:=h.ex
 rw [z,h1] at J;cases J
section
variable {K:W.Frag} {f:Str} {a C:Addr} {fl:List (Str×V)} {v:V} {H:Hp}
theorem Ins.get {Q:VK} (h:Ins H a C fl) (cl:Cls K C) (n:NoAttr K C f) (l:fl.lookup f=some v) (q:Q v H):getF K f (.ref a) H Q:=by
 obtain ⟨dx,fs,h1,h2,h3⟩:=h.ex
 exact getF_of h1 cl n ((h3 f).trans l) q
theorem Ins.meth {m:Str} {R:Prop} (h:Ins H a C fl) (l:fl.lookup m=none) (q:R):∃ b dx fs,V.ref a=.ref b /\ H b=some (.ins C dx fs) /\ fs.lookup m=none /\ R:=by
 obtain ⟨dx,fs,h1,h2,h3⟩:=h.ex
 exact ⟨a,dx,fs,rfl,h1,(h3 m).trans l,q⟩
end
noncomputable def augA (K:W.Frag) (tv:TE) (rd:V->V->Hp->VK->Prop) (f:Str) (D:Ends) (σ:St) (x:V) (H1:Hp):Prop:=∃ a C dx fs v,x=.ref a /\ H1 a=some (.ins C dx fs) /\ Cls K C /\ NoAttr K C f /\ fs.lookup f=some v /\
 tv σ H1 fun y H2=>rd v y H2 fun z H3=>∃ dx' fs',H3 a=some (.ins C dx' fs') /\ fs'.length < 1000 /\ D.nx σ (upd H3 a (.ins C dx' (putF f z fs')))
theorem sFldAug_eq {K:W.Frag} {ta tv:TE} {rd:V->V->Hp->VK->Prop} {f:Str} {D:Ends} {σ:St} {H:Hp}:sFldAug K ta tv rd f D σ H=ta σ H (fun x H1=>augA K tv rd f D σ x H1):=rfl
theorem Ins.aug {K:W.Frag} {f:Str} {a C:Addr} {fl:List (Str×V)} {i j:Int} {H:Hp} {D:Ends} {σ:St} (h:Ins H a C fl) (cl:Cls K C) (n:NoAttr K C f) (l:fl.lookup f=some (.int i))
  (q:∀ H',Ins H' a C (putF f (.int (i+j)) fl)->(∀ b,b≠a->H' b=H b)->D.nx σ H'):augA K (tC (.int j)) rAdd f D σ (.ref a) H:=by
 obtain ⟨dx,fs,h1,h2,h3⟩:=h.ex
 refine ⟨a,C,dx,fs,_,rfl,h1,cl,n,(h3 f).trans l,i,j,rfl,rfl,dx,fs,h1,by omega,q _ ⟨dx,_,ZAD,?_,fun g=>?_⟩ fun b z=>ZAG z⟩
 .rw [length_putF_of ((h3 f).trans l)];exact h2
 .rw [ZAd,ZAd,h3]
theorem setX {K:W.Frag} {f:Str} {a C dx:Addr} {fs:List (Str×V)} {v:V} {H:Hp} {Q:Hp->Prop} (h:H a=some (.ins C dx fs)) (cl:Cls K C) (n:NoAttr K C f) (hl:fs.length <= 20) (q:∀ H',H' a=some (.ins C dx (putF f v fs))->(∀ b,b≠a->H' b=H b)->Q H'):setF K f (.ref a) v H Q :=
 setF_of h cl n (by omega) (q _ ZAD fun b z=>ZAG z)
theorem ZAm {f:Str} {v:V} {fs:List (Str×V)} {n:Nat} (h:fs.length <= n):(putF f v fs).length <= n+1:=yAF (ZCO f v fs) (Nat.succ_le_succ h)
theorem putL1 {f0:Str} {z:V}:(putF f0 z []).length <= 20:=yAF (ZAm (yAA 0)) (by decide)
theorem putL2 {f0 f1:Str} {z J:V}:(putF f1 J (putF f0 z [])).length <= 20:=yAF (ZAm (ZAm (yAA 0))) (by decide)
theorem putL3 {f0 f1 z:Str} {L O J:V}:(putF z J (putF f1 O (putF f0 L []))).length <= 20:=yAF (ZAm (ZAm (ZAm (yAA 0)))) (by decide)
theorem putL4 {f0 f1 z U:Str} {L Y J O:V}:(putF U O (putF z J (putF f1 Y (putF f0 L [])))).length <= 20:=yAF (ZAm (ZAm (ZAm (ZAm (yAA 0))))) (by decide)
theorem putL5 {f0 f1 z Z U:Str} {O v1 L Y J:V}:(putF U J (putF Z Y (putF z L (putF f1 v1 (putF f0 O []))))).length <= 20:=yAF (ZAm (ZAm (ZAm (ZAm (ZAm (yAA 0)))))) (by decide)
theorem ZFJ (p q:Int):(if q > p then q else p)=max p q:=by split <;> omega
theorem mn_eq (p q:Int):(if q < p then q else p)=min p q:=by split <;> omega
section
variable {X:Cx}
end
theorem us_len {us ds:List Value} {ps:List Str} {n:Nat} (h:(us++ds).length=ps.length) (e:n+ds.length=ps.length):us.length=n:=by
 rw [yAC] at h;omega
noncomputable def Fr (S:List Addr) (H H':Hp):Prop:=∀ b o,b∉S->H b=some o->H' b=some o
theorem Fr.refl {S:List Addr} {H:Hp}:Fr S H H:=fun _ _ _ h=>h
theorem Fr.trans {S:List Addr} {H H' H'':Hp} (e:Fr S H H') (f:Fr S H' H''):Fr S H H'':=fun b o n h=>f b o n (e b o n h)
theorem Same.fr {S:List Addr} {H H':Hp} (e:Same H H'):Fr S H H':=fun b o _ h=>e b o h
end L2
namespace PySem
namespace F
theorem nolen_lri:typeLookup (.type "list_reverseiterator") "__len__"=pure none:=by rw [typeLookup_type,builtinLookup_eq_fast];kernel_rfl
theorem hint_lri:typeLookup (.type "list_reverseiterator") "__length_hint__"=pure (some (.builtin "list_reverseiterator.__length_hint__")):=by rw [typeLookup_type,builtinLookup_eq_fast];kernel_rfl
end F
section
variable {prog:Program} {w:World} {A:Around} {s:Shared} {R:Result->Shared->Prop}
variable {I:Addr} {fp wr:List Addr} {G:Array GenState->Array GenState->Prop} {n:Nat} {P:Nat->Value->Prop} {St:Nat->Shared->Prop}
theorem wpAny_extend_rev (W:WalksS prog w A.in1 I fp wr G n P St) (Y:∀ i s,St i s->s.TypeIs (.ref I) "list_reverseiterator") (S:Addr) (res:Value) (L:Nat) (J:St 0 s) (U:S∉fp) (hI:I∈fp)
  (hS:s.heap.get? S=some { cls:=.type "list",data:=.seq #[] L })
  (hR:∀ s' z c',Moved (S::wr) G s s'->s'.heap.get? S=some { cls:=.type "list",dict:=none,data:=.seq z c',slots:=#[] }->ItemsOf P z n->R (.ok (.ret res)) s') (hn:n <= sizeLine) :
  wpAny (model prog w) A.in1 (Builtin.List.listExtendWith (.ref S) (.ref I) res)
   (fun a0 s'=>match a0 with | .done f=>R (.ok f) s' | .again c'=>c'.quiet=true /\ codeAny (model prog w) A c' R s') (fun e s'=>R (.error e) s') s:=by
 have a1:S≠I:=fun e=>U (e ▸ hI)
 unfold Builtin.List.listExtendWith
 refine wpAny_bind (wpAny_typeOf (Y 0 _ J) ?_)
 have h1:Builtin.List.listSameRef (.ref S) (.ref I)=false:=by simp [Builtin.List.listSameRef,a1]
 rw [if_neg (by rw [h1];decide)]
 refine wpAny_bind (W.self 0 _ _ _ J ?_)
 refine wpAny_bind (wpAny_holding ?_)
 unfold Builtin.List.listLengthHint
 refine wpAny_bind (wpAny_specialOf (Y 0 _ J) F.nolen_lri ?_)
 show wpAny _ A.in1 (specialOf (Value.ref I) (Str.ofString "__length_hint__") >>= _) _ _ _
 refine wpAny_bind (wpAny_specialOf (Y 0 _ J) F.hint_lri ?_)
 (generalize hid:("list_reverseiterator.__length_hint__":String)=id0;(fail_if_success (clear hid id0));wp_delta;rw [show splitId id0=some ("list_reverseiterator","__length_hint__") from by subst hid;decide +kernel];subst hid)
 refine wpAny_bind (wpAny_isInstance (b:=true) (Y 0 _ J) (by rw [isSubtype_type];kernel_rfl) ?_)
 refine wpAny_pure ?_
 rw [if_neg (by decide)]
 refine wpAny_pure ⟨plainId_quiet F.plain_extend_loop _,codeAny_extend_loopS W hn _ U _ n 0 _ _ _ rfl (yAD _) J hS (ItemsOf.nil P) fun s' z c' hm Z O=>?_⟩
 exact hR s' z c' hm Z O
theorem wpAny_list_init_rev (W:WalksS prog w A.in1 I fp wr G n P St) (hT:∀ i s,St i s->s.TypeIs (.ref I) "list_reverseiterator") (S:Addr) (a1:St 0 s) (Y:S∉fp) (hI:I∈fp)
  (hS:s.heap.get? S=some { cls:=.type "list",data:=.seq #[] })
  (hR:∀ s' z c',Moved (S::wr) G s s'->s'.heap.get? S=some { cls:=.type "list",dict:=none,data:=.seq z c',slots:=#[] }->ItemsOf P z n->R (.ok (.ret .none)) s') (hn:n <= sizeLine) :
  wpAny (model prog w) A.in1 (Builtin.«list.__init__» ⟨[.ref S,.ref I],[]⟩)
   (fun a0 s'=>match a0 with | .done f=>R (.ok f) s' | .again c'=>c'.quiet=true /\ codeAny (model prog w) A c' R s') (fun e s'=>R (.error e) s') s:=by
 show wpAny _ A.in1 (do let old <- Builtin.List.listItems (.ref S);Builtin.List.listUpdate (.ref S) (fun _=>#[]);letGo old.toList.reverse;Builtin.List.listExtendWith (.ref S) (.ref I) .none) _ _ s
 refine wpAny_bind ?_
 unfold Builtin.List.listItems
 refine wpAny_bind (wpAny_seqItems hS rfl (wpAny_pure ?_))
 show wpAny _ A.in1 (updateSeq S (fun _=>#[]) >>= fun _=>letGo (#[]:Array Value).toList.reverse >>= fun _=>Builtin.List.listExtendWith (.ref S) (.ref I) .none) _ _ s
 refine wpAny_bind (wpAny_updateSeq hS rfl ?_)
 have J:=Heap.get?_update_self (Obj.mapSeq (fun _=>(#[]:Array Value))) hS rfl
 have L:∀ b o,b≠S->s.heap.get? b=some o->(s.heap.update S (Obj.mapSeq (fun _=>(#[]:Array Value)))).get? b=some o :=
  fun b o U e=>(Heap.get?_update_other _ _ (Ne.symm U)).trans e
 refine wpAny_bind (wpAny_letGo ?_)
 refine wpAny_extend_rev (hn:=hn) W hT S .none _ (W.frame 0 s _ s.toks a1 (yAA _) fun b U o e=>L b o (fun h=>Y (h ▸ U)) e) Y hI J fun s' z c' hm Z O=>?_
 exact hR s' z c' (Moved.trans W.gtrans ((Moved.refl W.grefl).then_heap (yAA _) fun b o U e=>L b o (fun h=>U (h ▸ yAJ)) e) hm) Z O
end
section
variable {prog:Program} {w:World} {A:Around} {E:Value->Shared->Prop} {s:Shared}
variable {I:Addr} {fp wr:List Addr} {G:Array GenState->Array GenState->Prop} {n:Nat} {P:Nat->Value->Prop} {St:Nat->Shared->Prop}
theorem call_list_revW {Q:Value->Shared->Prop} (W:WalksS prog w A.in1.in1 I fp wr G n P St) (hT:∀ i s,St i s->s.TypeIs (.ref I) "list_reverseiterator") (O:St 0 s) (Y:∀ b∈fp,b < s.heap.objs.size) (hI:I∈fp)
  (hQ:∀ s' z c',Moved (s.heap.objs.size::wr) G { s with heap:=s.heap.push { cls:=.type "list",data:=.seq #[] } } s' ->
   s'.heap.get? s.heap.objs.size=some { cls:=.type "list",dict:=none,data:=.seq z c',slots:=#[] }->ItemsOf P z n->Q (.ref s.heap.objs.size) s') (hn:n <= sizeLine) :
  wpAny (model prog w) A (call (.type "list") [.ref I]) Q E s:=by
 have U:s.heap.objs.size∉fp:=fun hm=>yBG _ (Y _ hm)
 refine callType_codes (Q₁:=fun obj s₁=>obj=.ref s.heap.objs.size /\ s₁={ s with heap:=s.heap.push { cls:=.type "list",data:=.seq #[] } }) F.called_list (F.typeCall_list_1 _) F.entry_list_init
  (code_list_new _ ⟨rfl,rfl⟩) fun obj s₁ h₁=>?_
 obtain ⟨rfl,rfl⟩:=h₁
 have Z:(s.heap.push { cls:=.type "list",data:=.seq #[] }).get? s.heap.objs.size=some { cls:=.type "list",data:=.seq #[] }:=Heap.get?_push_size _ rfl
 refine ⟨⟨_,Z,rfl⟩,F.args_list_init_2 _ _,wpAny_list_init_rev (hn:=hn) W hT _ (W.frame 0 s _ s.toks O (yAA _) fun b _ o e=>Heap.get?_push_of_some _ e) U hI Z fun s' z c' hm L J=>?_⟩
 exact ⟨rfl,hQ s' z c' hm L J⟩
end
end PySem
namespace L2
open PySem PySem.Spec PyProof.Rows
noncomputable def ZE8 (K:W.Frag) (t:TA):TE:=fun σ H Q=>t σ H fun vs H1=>∃ (l:Addr) (ys:List V),vs=[.ref l] /\ SqL K H1 l ys /\ ∀ r,H1 r=none->Q (.ref r) (upd H1 r (.lst ys.reverse))
section
variable {X:Cx} {e:Expr} {ta:TA} {p p2 pos pos2:Pos}
theorem pe_list_rev (hc:X.calm=true) (hg:Gl X "list") (hm:X.mg "list"=none) (a4:Gl X "reversed") (a5:X.mg "reversed"=none) (ha:PA X [e] ta)
  (he:starEach [.Call (.Name "reversed" p2) [e] [] pos2] X.env=(false,eval (.Call (.Name "reversed" p2) [e] [] pos2) X.env)::starEach [] X.env:=by rfl) (a3:(backTo pos (starEach [] X.env)).any (·.1)=false:=by rfl)
  (a1:starEach [e] X.env=(false,eval e X.env)::starEach [] X.env:=by rfl) (Y:(backTo pos2 (starEach [] X.env)).any (·.1)=false:=by rfl) :
  PE X (.Call (.Name "list" p) [.Call (.Name "reversed" p2) [e] [] pos2] [] pos) (ZE8 X.K ta):=by
 intro pins s σ H Q I h
 refine wpAny_Call_Name_kw (ZCJ I hg hm PyProof.Rows.boot_list ?_ (by decide) (by decide))
 refine PyProof.Rows.callWith_type1 ?_ he a3
 rw [he]
 show wpAny _ _ (spliced ((false,eval (.Call (.Name "reversed" p2) [e] [] pos2) X.env)::backTo pos (starEach [] X.env))) _ _ s
 refine Calls.spliced_cons ?_
 refine wpAny_Call_Name_kw (ZCJ I a4 a5 PyProof.Rows.boot_reversed ?_ (by decide) (by decide))
 refine PyProof.Rows.callWith_type1 (thn (ha pos2 pins s σ H _ I h) fun us s1 zz=>?_) a1 Y
 obtain ⟨vs,H1,I1,r1,q1⟩:=zz
 obtain ⟨l,ys,rfl,hl,q⟩:=q1
 obtain ⟨u,rfl,rx⟩:=ZCU r1
 cases rx
 obtain ⟨its,r',pl,hz⟩:=I1.list hl
 have a2:l < s1.heap.objs.size:=by obtain ⟨o,ho,_⟩:=pl.isList;exact Heap.lt_size ho
 refine call_reversed_list pl.isList ?_
 refine Calls.spliced_nil ?_
 have hh:X.A.handled=none:=I1.ok.hd hc
 have a6:l≠s1.heap.objs.size:=yAE a2
 have W:=(Walks.listRev (prog:=X.prog) (w:=X.w) (A:=X.A.in1.in1) hh s1.heap.objs.size l a6 its.toArray).toS
 have hsz:its.toArray.size=its.length:=yAN ..
 have a7:=r'.length
 refine call_list_revW W (fun i s st=>st.2.1.typeIs) ⟨yAD _,⟨_,Heap.get?_push_size _ rfl,rfl,by simp [revObj]⟩,pl.isList.at fun o e=>Heap.get?_push_of_some _ e⟩ (fun b Z=>?_) yAJ (fun s' J c' hm a0 O=>?_) (by rw [hsz];omega)
 .rcases yAG.mp Z with z | z
  .rw [z];exact Heap.lt_size (Heap.get?_push_size _ rfl)
  .rw [yAP.mp z]
   obtain ⟨o,ho,_⟩:=pl.isList
   exact Heap.lt_size (Heap.get?_push_of_some _ ho)
 .rw [Moved.eq_with hm]
  have U:s1.heap.objs.size <= (s1.heap.push (revObj l ((its.toArray.size:Int)-1))).objs.size:=yBP (Heap.lt_size (Heap.get?_push_size _ rfl))
  have e:J.toList=its.reverse:=by
   refine yCK fun j=>?_
   have sz:J.toList.length=its.length:=by rw [yAI,O.1,hsz]
   by_cases hj:j < its.length
   .have h1:J.toList[j]?=some (J.toList[j]'(by omega)):=yAH (by omega)
    have h2:=O.2 j _ (by rw [<- yBE];exact h1)
    rw [h1,<- h2,List.getElem?_reverse hj,hsz]
    simp
   .rw [yBA (by omega),yBA (by rw [yCH];omega)]
  refine ⟨.ref _,_,I1.laid (h':=s'.heap) (t':=s'.toks) (o:=.lst ys.reverse) (a:=(s1.heap.push (revObj l ((its.toArray.size:Int)-1))).objs.size) (fun b u Z=>hm.heap b u (fun z=>?_) (Heap.get?_push_of_some _ (Heap.get?_push_of_some _ Z))) U ⟨by rw [yCH];exact hz,J.toList,c',by rw [e];exact r'.reverse,by simpa using a0⟩,rfl,q _ (I1.hok.fresh U)⟩
  have L:=Heap.lt_size Z
  rcases yAG.mp z with z | z
  .rw [z] at L;exact absurd L (Nat.not_lt.mpr U)
  .rw [yAP.mp z] at L;exact yBG _ L
end
theorem eqD_refl {K:W.Frag} {H:Hp} {x y:V} {d:PyData} {Q:VK} (hx:Dp K H d x) (J:Dp K H d y) (hc:d.canLay0=true) (z:d.depth <= 64) (q:Q (.bl true) H):rEqD K x y H Q :=
 ⟨d,d,hx,J,hc,hc,z,by rw [PySem.SeqAt.eqv_refl d hc];exact q⟩
theorem ZCW {K:W.Frag} {H:Hp} {x y:V} {d:PyData} {Q:VK} (hx:Dp K H d x) (J:Dp K H d y) (hc:d.canLay0=true) (z:d.depth <= 64) (q:Q (.bl false) H):rNeD K x y H Q :=
 ⟨d,d,hx,J,hc,hc,z,by rw [PySem.SeqAt.eqv_refl d hc];exact q⟩
noncomputable def compR2 (g:TG) (tt:TT) (te:TE) (σ0:St) (Q:VK) (x y:V) (H1:Hp):Prop:=∃ i j:Int,[x,y]=[.int i,.int j] /\ (-(2 ^ 62) <= i /\ i < 2 ^ 62 /\ -(2 ^ 62) <= j /\ j < 2 ^ 62) /\ compR i g tt te σ0 Q (j-i).toNat H1
theorem tCompR2_eq {k:Nat} {js:List Nat} {t u:TE} {g:TG} {tt:TT} {te:TE} {σ:St} {H:Hp} {Q:VK}:ZDq k js (iRng2 (ZBx t (ZBx u tNil))) g tt te σ H Q=t σ H (fun x H1=>u σ H1 fun y H2=>compR2 g tt te (up k js σ) Q x y H2):=rfl
section
variable {X:Cx}
theorem call_sumB (hc:X.calm=true):ZBd X (.builtin "sum") (fun xs H Q=>∃ (p:Addr) (ns:List Int),xs=[.ref p] /\ SqL X.K H p (ns.map V.int) /\ Q (.int ns.sum) H):=by
 intro pins s σ H xs us Q I r h
 obtain ⟨p,ns,rfl,hq,q⟩:=h
 obtain ⟨u,rfl,rx⟩:=ZCU r
 cases rx
 obtain ⟨its,r',pl,hz⟩:=I.list hq
 have J:=r'.length
 rw [yAB] at J
 have hh:X.A.handled=none:=I.ok.hd hc
 have hl:=pl.isList
 have O:p < s.heap.objs.size:=by obtain ⟨_,e,_⟩:=hl;exact Heap.lt_size e
 refine call_sum_walkG (wpAny_pyIter_list hl ⟨s.heap.objs.size,_,_,_,_,_,fun i=>ns.getD i 0,rfl,Walks.list (A:=X.A.in1) hh s.heap.objs.size p (yAE O) its.toArray,⟨⟨_,Heap.get?_push_size _ rfl,rfl,rfl⟩,hl.push _⟩,fun b U=>?_,fun i v hP=>?_,fun h' tk t' hk=>?_⟩)
 .have Y:b=s.heap.objs.size∨b=p:=by simpa using U
  show b < (s.heap.push _).objs.size
  rw [Heap.size_push]
  rcases Y with rfl | rfl
  .exact yBQ _
  .exact Nat.lt_succ_of_lt O
 .have L:its[i]?=some v:=by simpa using hP
  have hi:i < its.length:=(yAM.mp L).1
  obtain ⟨b,U⟩:∃ b,ns[i]?=some b:=⟨_,yAH (by omega)⟩
  obtain ⟨u,Z,ru⟩:=r'.get (i:=i) (x:=.int b) (by rw [yAT,U];rfl)
  rw [L] at Z
  cases Z
  obtain ⟨t,rfl⟩:=ru
  refine ⟨t,?_⟩
  show _=Value.int (ns.getD i 0) t
  rw [yCJ,U]
  rfl
 .refine ⟨.int ns.sum,H,I.kept (t':=tk) (fun b o e=>hk b o ?_ (Heap.get?_push_of_some _ e)),⟨t',?_⟩,q⟩
  .intro z
   have:b=s.heap.objs.size:=by simpa using z
   exact absurd (Heap.lt_size e) (by rw [this];exact yBG _)
  .have:its.toArray.size=ns.length:=by simp [J]
   rw [this,preSum_eq ns ns.length (yAA _),List.take_length]
end
noncomputable def Itz (K:W.Frag) (a b:Addr):It :=
 ⟨fun i H=>∃ xs x ys y,SqL K H a xs /\ xs[i]?=some x /\ SqL K H b ys /\ ys[i]?=some y,fun i H v H'=>∃ p x y,H p=none /\ (∀ xs,SqL K H a xs->xs[i]?=some x) /\ (∀ ys,SqL K H b ys->ys[i]?=some y) /\ H'=upd H p (.tup [x,y]) /\ v=.ref p,fun i H=>∃ xs ys,SqL K H a xs /\ SqL K H b ys /\ (xs.length <= i∨ys.length <= i)⟩
theorem turn_zip {P:Program} {w:World} {K:W.Frag} {ac:List Expr} {x1} {tpos:Pos} (a b z TI TO i1 i2:Addr) (D:ZipApart z TI TO i1 i2 a b):Turn P w K (.Tuple ac x1 tpos) (Itz K a b) [z,TI,TO,i1,i2] z (fun i h=>IsZip h z TI TO .none /\ IsPair h TI (.ref i1) (.ref i2) /\ (∃ u v,IsPair h TO u v) /\ h.IsListIter i1 a i /\ h.IsListIter i2 b i) where
 mem:=by simp
 obj:=fun i h st c hc=>by
  obtain ⟨O,J,⟨u,v,L⟩,⟨o1,e1,c1,d1⟩,⟨o2,e2,c2,d2⟩⟩:=st
  have a7:c=z∨c=TI∨c=TO∨c=i1∨c=i2:=by simpa using hc
  rcases a7 with rfl | rfl | rfl | rfl | rfl
  .exact ⟨_,O,fun v z=>by cases z⟩
  .exact ⟨_,J,fun v z=>by cases z⟩
  .exact ⟨_,L,fun v z=>by cases z⟩
  .exact ⟨o1,e1,fun v z=>by rw [d1] at z;cases z⟩
  .exact ⟨o2,e2,fun v z=>by rw [d2] at z;cases z⟩
 keep:=fun i h h' st k=>by
  obtain ⟨O,J,⟨u,v,L⟩,h1,h2⟩:=st
  exact ⟨k z (by simp) _ O,k TI (by simp) _ J,⟨u,v,k TO (by simp) _ L⟩,h1.at fun o q=>k i1 (by simp) o q,h2.at fun o q=>k i2 (by simp) o q⟩
 item:=by
  intro X hP hw hK hc i pins s σ H E I hf st hg
  subst hP hw hK
  obtain ⟨xs,x,ys,y,hq,hx,Z,hy⟩:=hg
  obtain ⟨its,rv,p,ag⟩:=I.list hq
  obtain ⟨u,hu,ru⟩:=rv.get hx
  obtain ⟨its',a0,p',a9⟩:=I.list Z
  obtain ⟨u',ad,af⟩:=a0.get hy
  obtain ⟨O,J,⟨ua,ub,L⟩,h1,h2⟩:=st
  refine wpAny_pyNext_zip_item D O J L h1 h2 p.isList p'.isList (x:=u) (y:=u') (by simpa using hu) (by simpa using ad) fun hp a1 a2 a3 a4 a5 a6 hk=>⟨_,rfl,?_⟩
  refine wpAny_letOwnedTupleGo_zip a1 fun hp2 b1 Y=>?_
  replace Y:Heap.SameBut z hp hp2:=Y
  have a8:z < s.heap.objs.size:=Heap.lt_size O
  have ae:hp2.get? s.heap.objs.size=some { cls:=.type "tuple",data:=.seq #[u,u'] }:=(Y.2 _ (yBN a8)).trans a5
  have aa:H s.heap.objs.size=none:=I.hok.fresh (yAA _)
  have U:∀ c o,c≠z->hp.get? c=some o->hp2.get? c=some o:=fun c o n q=>(Y.2 c n).trans q
  refine ⟨.ref s.heap.objs.size,upd H s.heap.objs.size (.tup [x,y]),I.turn2 (ch:=[z,TI,TO,i1,i2]) (t':=s.toks) hf (fun c ob hc q=>?_) (yAA _) ?_,rfl,⟨_,x,y,aa,fun zs O=>by rw [I.list_inj O hq];exact hx,fun zs O=>by rw [I.list_inj O Z];exact hy,rfl,rfl⟩,⟨b1,U _ _ D.TIz (hk _ _ D.TIz D.TITO D.TIi1 D.TIi2 J),⟨_,_,U _ _ D.TOz a2⟩,a3.at fun o q=>U _ _ D.i1z q,a4.at fun o q=>U _ _ D.i2z q⟩,fun c hc=>?_⟩
  .have n1:c≠z:=fun e=>hc (by simp [e])
   have n2:c≠TO:=fun e=>hc (by simp [e])
   have n3:c≠i1:=fun e=>hc (by simp [e])
   have n4:c≠i2:=fun e=>hc (by simp [e])
   exact U _ _ n1 (hk c ob n1 n2 n3 n4 q)
  .exact ⟨ZAW (show 2 <= 1000 by decide),[u,u'],.cons ru (.cons af .nil),_,ae,rfl,0,rfl⟩
  .have hn:=(hf c hc).1
   have a7:c=z∨c=TI∨c=TO∨c=i1∨c=i2:=by simpa using hc
   obtain ⟨o1,g1,_⟩:=h1
   obtain ⟨o2,g2,_⟩:=h2
   have ah:c < s.heap.objs.size:=by
    rcases a7 with rfl | rfl | rfl | rfl | rfl
    .exact a8
    .exact Heap.lt_size J
    .exact Heap.lt_size L
    .exact Heap.lt_size g1
    .exact Heap.lt_size g2
   rw [ZAG (yAE ah)];exact hn
 done:=by
  intro X hP hw hK hc i pins s σ H E I hf st hg
  subst hP hw hK
  obtain ⟨xs,ys,hq,Z,hx⟩:=hg
  obtain ⟨its,rv,p,ag⟩:=I.list hq
  obtain ⟨its',a0,p',a9⟩:=I.list Z
  obtain ⟨O,J,⟨ua,ub,L⟩,h1,h2⟩:=st
  have hl:=rv.length
  have ai:=a0.length
  refine wpAny_pyNext_zip_end (I.ok.hd hc) D O J L h1 h2 p.isList p'.isList (hx.imp (fun z=>by rw [List.getElem?_toArray];exact yBA (by omega)) (fun z=>by rw [List.getElem?_toArray];exact yBA (by omega))) fun h' eb=>⟨rfl,?_⟩
  have tr:∀ c u,H c=some u->c∉[z,TI,TO,i1,i2]:=fun c u e q=>by rw [(hf c q).1] at e;cases e
  have k:∀ c ob,c∉[z,TI,TO,i1,i2]->s.heap.get? c=some ob->h'.get? c=some ob:=fun c ob n q=>eb c ob (fun e=>n (by simp [e])) (fun e=>n (by simp [e])) (fun e=>n (by simp [e])) (fun e=>n (by simp [e])) q
  refine I.call (g':=s.gens) (t':=s.toks) (d':=s.drawn) (ch:=[z,TI,TO,i1,i2]) ⟨fun b ob e n _ hx=>k b ob hx e,fun b ob e n _ hx=>⟨ob.slots,k b ob hx e⟩,fun b ob e n _=>n,fun b ob e hx=>⟨ob,k b ob hx e⟩,fun b xs e=>e,fun b ob u e=>e,fun b qs e=>⟨#[],by rw [e];simp⟩⟩ (fun b u e=>?_) I.bare fun b hb=>?_
  .refine (I.hok b u e).stay (fun c v hc q=>k c v ?_ q) (fun c q=>q) fun c xs q=>q
   rcases hc with z | z
   .rw [z];exact tr b u e
   .exact tr c _ z
  .obtain ⟨a1,a2,a3,a4,a5,a6⟩:=hf b hb
   exact ⟨a4,a2,a5,a6⟩
 self:=fun _ _ _ _ _ st h=>wpAny_pyIter_zip st.1 h
section
variable {X:Cx}
noncomputable def iZip (K:W.Frag) (ta:TA):TI:=fun σ H R=>ta σ H fun vs H1=>∃ a b,vs=[.ref a,.ref b] /\ (∃ xs,SqL K H1 a xs) /\ (∃ xs,SqL K H1 b xs) /\ R (Itz K a b) H1
theorem zneN {a b:Nat} (h:a≠b):(a:Addr)≠b:=h
theorem pi_zip {O:List Expr} {x1} {tpos:Pos} {l m:Expr} {ta:TA} {p pos:Pos} (hg:Gl X "zip") (hm:X.mg "zip"=none) (ha:PA X [l,m] ta)
  (he:starEach [l,m] X.env=(false,eval l X.env)::starEach [m] X.env:=by rfl) (Z:(backTo pos (starEach [m] X.env)).any (·.1)=false:=by rfl) :
  PI X (.Tuple O x1 tpos) (.Call (.Name "zip" p) [l,m] [] pos) (iZip X.K ta):=by
 intro pins s σ H R I h
 refine Call_ (ZCJ I hg hm PyProof.Rows.boot_zip (PyProof.Rows.callWith_type1 (thn (ha pos pins s σ H _ I h) fun us s1 zz=>?_) he Z))
 obtain ⟨vs,H1,U,r1,q1⟩:=zz
 obtain ⟨a,b,e,⟨xs,hq⟩,⟨ys,a0⟩,q⟩:=q1
 subst e
 obtain ⟨u,u',rfl,ru,a2⟩:=ZDV r1
 cases ru
 cases a2
 obtain ⟨its,rv,pl,hz⟩:=U.list hq
 obtain ⟨its',a3,L,a4⟩:=U.list a0
 have Y:a < s1.heap.objs.size:=by obtain ⟨o,ho,_⟩:=pl.isList;exact Heap.lt_size ho
 have z:b < s1.heap.objs.size:=by obtain ⟨o,ho,_⟩:=L.isList;exact Heap.lt_size ho
 have D:ZipApart (s1.heap.objs.size+4) (s1.heap.objs.size+2) (s1.heap.objs.size+3) s1.heap.objs.size (s1.heap.objs.size+1) a b:=by
  generalize s1.heap.objs.size=n at Y z ⊢
  have h1:LT.lt (α:=Nat) a n:=Y
  have h2:LT.lt (α:=Nat) b n:=z
  constructor <;> (refine zneN ?_;omega)
 refine call_zip_2 pl.isList L.isList fun h' z1 z2 z3 z4 z5 z6 hk=>wpAny_pyIter_zip z1 ?_
 have I2:Inv X pins σ H1 { s1 with heap:=h' }:=U.kept (t':=s1.toks) hk
 refine ⟨s1.heap.objs.size+4,_,_,Itz X.K a b,H1,rfl,I2,turn_zip a b _ _ _ _ _ D,⟨z1,z2,⟨_,_,z3⟩,z4,z5⟩,fun c hc=>?_,q⟩
 have a1:c=s1.heap.objs.size+4∨c=s1.heap.objs.size+2∨c=s1.heap.objs.size+3∨c=s1.heap.objs.size∨c=s1.heap.objs.size+1:=by simpa using hc
 have J:s1.heap.objs.size <= c:=by
  rcases a1 with rfl | rfl | rfl | rfl | rfl
  .exact yBW _ _
  .exact yBW _ _
  .exact yBW _ _
  .exact yAA _
  .exact yBW _ _
 exact U.fpOk J (U.hok.fresh J)
end
section
variable {K:W.Frag} {a b:Addr} {xs ys:List V} {g:TG} {tb:TS} {D:Ends} {σ:St} {H:Hp}
noncomputable def forZ (K:W.Frag) (g:TG) (tb:TS) (D:Ends) (σ:St) (x y:V) (H1:Hp):Prop:=∃ a b,[x,y]=[.ref a,.ref b] /\ (∃ xs,SqL K H1 a xs) /\ (∃ xs,SqL K H1 b xs) /\ ∃ W:Nat->Nat->St->Hp->Prop,(∃ m,W 0 m σ H1) /\ ∀ i m σ H,W i m σ H ->
 ((Itz K a b).stop i H /\ D.nx σ H)∨((Itz K a b).go i H /\ ∃ N:St->Hp->Prop,(∀ σ' H',N σ' H'->∃ m',m' < m /\ W (i+1) m' σ' H') /\ ∀ x H',(Itz K a b).yld i H x H'->g x σ H' fun σ2 H2=>tb { D with nx:=N,ct:=N,bk:=D.nx } σ2 H2)
theorem tForZ_eq {t u:TE}:tFor (iZip K (ZBx t (ZBx u tNil))) g tb D σ H=t σ H (fun x H1=>u σ H1 fun y H2=>forZ K g tb D σ x y H2):=rfl
theorem forZ_of (h:SqL K H a xs) (h':SqL K H b ys) (z:Nat->St->Hp->Prop) (Y:z 0 σ H) (hl:∀ i σ H,i <= min xs.length ys.length->z i σ H->SqL K H a xs /\ SqL K H b ys)
  (Z:∀ (i:Nat) x y σ H p,xs[i]?=some x->ys[i]?=some y->z i σ H->H p=none->g (.ref p) σ (upd H p (.tup [x,y])) fun L H2=>tb { D with nx:=z (i+1),ct:=z (i+1),bk:=D.nx } L H2) (hd:∀ σ H,z (min xs.length ys.length) σ H->D.nx σ H):forZ K g tb D σ (.ref a) (.ref b) H:=by
 refine ⟨a,b,rfl,⟨xs,h⟩,⟨ys,h'⟩,fun i m σ H=>m=min xs.length ys.length-i /\ i <= min xs.length ys.length /\ z i σ H,⟨min xs.length ys.length,by simp,yAD _,Y⟩,?_⟩
 rintro i m σ H ⟨rfl,hi,p⟩
 obtain ⟨q,J⟩:=hl i σ H hi p
 by_cases hlt:i < min xs.length ys.length
 .refine .inr ⟨⟨xs,xs[i],ys,ys[i],q,yAH (by omega),J,yAH (by omega)⟩,z (i+1),fun a0 H' p'=>⟨min xs.length ys.length-(i+1),by omega,rfl,hlt,p'⟩,fun x H' y=>?_⟩
  obtain ⟨O,x',y',hn,U,y2,rfl,rfl⟩:=y
  exact Z i x' y' σ _ O (U xs q) (y2 ys J) p hn
 .have e:i=min xs.length ys.length:=by omega
  subst e
  exact .inl ⟨⟨xs,ys,q,J,by omega⟩,hd σ H p⟩
end
theorem rcGe_int (A:Around) (s:Shared) (a:Int) (t:Tok) (c:Int) (u:Tok) (prog:Program) (w:World) (E:Value->Shared->Prop) (Q:Value->Shared->Prop) (h:Q (.bool (decide (c <= a))) s) :
  wpAny (model prog w) A (richCompare .GtE (.int a t) (.int c u)) Q E s :=
 (PyProof.Rows.ge_int h:wpAny (model prog w) A (compareOp .GtE (.int a t) (.int c u)) Q E s)
section
open PySem.SeqAt
open PySem.AutoSeq1 (wpAny_loadPart')
open PySem.MeetsSeq PySem.MeetsSeq2 PySem.MeetsSeq3 HT
theorem tuple_ge_ints (l b:Addr) (items J:Array Value) (n n2:Nat) (dd a4:Option Addr) (sl a6:Array (Option Value)) (ns ms:List Int) (hi:IntsAre items.toList ns) (hj:IntsAre J.toList ms) :
  Meets (Builtin.«tuple.__ge__» ⟨[.ref l,.ref b],[]⟩)
   (fun _ R s=>s.heap.get? l=some { cls:=.type "tuple",dict:=dd,data:=.seq items n,slots:=sl } /\ s.heap.get? b=some { cls:=.type "tuple",dict:=a4,data:=.seq J n2,slots:=a6 } /\
    R (.ok (.ret (.bool (!lexLt ns ms)))) s) :=
 .of_wp fun prog w A R s h=>by
  obtain ⟨hp,g,d,tk,os⟩:=s;obtain ⟨hl,hb,h⟩:=h
  have f2:=AutoSeq1.sub_tuple_tuple
  have z1:items.size=ns.length:=by rw [<- hi.length];simp
  have z2:J.size=ms.length:=by rw [<- hj.length];simp
  wp_walk using wpAny_loadPart' hl,wpAny_loadPart' hb,wpAny_forIn_list _ (fun rest b s'=>b.1=none /\ s'=⟨hp,g,d,tk,os⟩ /\ ∃ (vs ws:List Value) (O U:List Int),rest=vs.zip ws /\
   IntsAre vs O /\ IntsAre ws U /\ O.length+J.size=U.length+items.size /\ R (.ok (.ret (.bool (!lexLt O U)))) ⟨hp,g,d,tk,os⟩) _
  case turn=>
   rintro ⟨y,x⟩ rest b s' ⟨a2,rfl,vs,ws,O,U,Z,a3,a0,L,Y⟩
   cases a3 with
   | nil=>rw [List.zip_nil_left] at Z;cases Z
   | cons a t hvi'=>
    cases a0 with
    | nil=>rw [List.zip_nil_right] at Z;cases Z
    | cons c u hwi'=>
     rw [List.zip_cons_cons] at Z
     injection Z with hyx hrest
     injection hyx with hy hx
     subst hy hx
     rw [lexLt_cons] at Y
     simp only [yAK] at L
     obtain ⟨e,he,a1⟩:=eqAt_int A.in1 ⟨hp,g,d,tk,os⟩ a t c u
     refine wpAny_bind (he prog w _ _ ?_)
     cases e with
     | true=>
      rw [if_pos (a1.mp rfl)] at Y
      wp_walk
      exact ⟨rfl,rfl,_,_,_,_,hrest,hvi',hwi',by omega,Y⟩
     | false=>
      rw [if_neg (fun q=>absurd (a1.mpr q) yBC)] at Y
      rw [show (!decide (a < c))=decide (c <= a) by by_cases z:a < c <;> simp [z] <;> omega] at Y
      have a5:=rcGe_int A.in1 ⟨hp,g,d,tk,os⟩ a t c u prog w
      wp_walk using a5
      exact ⟨_,rfl,by simpa using Y⟩
  case fin=>
   rintro ⟨b1,b2⟩ s' ⟨a2,rfl,vs,ws,O,U,Z,a3,a0,L,Y⟩
   simp only at a2
   subst a2
   have hv:(!lexLt O U)=decide (items.size≥J.size):=by
    cases a3 with
    | nil=>
     cases a0 with
     | nil=>
      simp only [yBL] at L
      rw [lexLt_nil_nil]
      exact (decide_eq_true (by omega)).symm
     | cons c u hw=>
      simp only [yBL,yAK] at L
      rw [lexLt_nil_cons]
      exact (decide_eq_false (by omega)).symm
    | cons a t hv=>
     cases a0 with
     | nil=>
      simp only [yBL,yAK] at L
      rw [lexLt_cons_nil]
      exact (decide_eq_true (by omega)).symm
     | cons c u hw=>
      rw [List.zip_cons_cons] at Z
      cases Z
   rw [hv] at Y
   wp_walk
   exact ⟨_,rfl,by simpa [Builtin.Tuple.tupleCompareSizes] using Y⟩
  case h=>
   exact ⟨rfl,rfl,items.toList,J.toList,ns,ms,rfl,hi,hj,by omega,h⟩
end
section
variable {prog:Program} {w:World} {A:Around} {E:Value->Shared->Prop} {s:Shared}
theorem ge_tupInts {l b:Addr} {items z:Array Value} {ns ms:List Int} {Q:Value->Shared->Prop} (hl:IsTup s.heap l items) (hb:IsTup s.heap b z) (hi:IntsAre items.toList ns) (hj:IntsAre z.toList ms)
  (hu:A.units < cLine) (h:Q (.bool (!HT.lexLt ns ms)) s):wpAny (model prog w) A (compareOp .GtE (.ref l) (.ref b)) Q E s:=by
 obtain ⟨⟨cls,dd,data,sl⟩,ho,hc,n,hd⟩:=id hl
 obtain ⟨⟨a0,U,Y,Z⟩,O,L,n2,J⟩:=id hb
 simp only at hc hd L J
 subst hc hd L J
 exact richCompare_meets_room (op:=.GtE) ⟨_,ho,rfl⟩ ⟨_,O,rfl⟩ PySem.F.slot_tuple_ge PySem.F.entry_tuple_ge (PySem.F.args_tuple_ge_2 _ _) (tuple_ge_ints l b items z n n2 dd U sl Z ns ms hi hj)
  ⟨ho,O,show Value.bool (!HT.lexLt ns ms)≠Value.notImplemented /\ Q (.bool (!HT.lexLt ns ms)) s from ⟨(fun x=>nomatch x),h⟩⟩ hu
end
section
variable {X:Cx}
noncomputable def rGeT (K:W.Frag):R2:=fun x y H Q=>∃ (a b:Addr) (ns ms:List Int),x=.ref a /\ y=.ref b /\ SqT K H a (ns.map V.int) /\ SqT K H b (ms.map V.int) /\ Q (.bl (!HT.lexLt ns ms)) H
theorem op_geT (Z:X.A.units+64 < cLine):OpR X (compareOp .GtE) (rGeT X.K):=by
 intro pins s σ H x y v u Q I U J h
 obtain ⟨a,b,ns,ms,rfl,rfl,ha,O,q⟩:=h
 cases U
 cases J
 obtain ⟨its,Y,p1,_⟩:=I.tuple ha
 obtain ⟨z,L,p2,_⟩:=I.tuple O
 have i1:IntsAre its.toArray.toList ns:=ZBE Y
 have i2:IntsAre z.toArray.toList ms:=ZBE L
 exact ge_tupInts p1 p2 i1 i2 (by omega) ⟨.bl (!HT.lexLt ns ms),H,I,rfl,q⟩
end
end L2
namespace L2S
open PySem PyProof.Rows
noncomputable def kn (f:Keyed->Int) (xs:Array Keyed) (i:Nat):Int:=((xs[i]?).map f).getD 0
theorem ZAv {f:Keyed->Int} {xs ys:Array Keyed} {i j:Nat} (h:xs[i]?=ys[j]?):kn f xs i=kn f ys j:=by unfold kn;rw [h]
structure Asks (M:Model) (A:Around) (E:Value->Shared->Prop) (s:Shared) (κ:SortKind) (a₀:Array Keyed) (f:Keyed->Int):Prop where
 lt:∀ x y,x∈a₀.toList->y∈a₀.toList->∀ (st:SortSt) (Q:Option Bool->SortSt->Prop),kindOf st=κ->Q (some (decide (f x < f y))) st->wpS M A E s (lt' x y) Q st
structure SB (κ:SortKind) (a₀:Array Keyed) (st:SortSt):Prop where
 perm:(arrOf st).Perm a₀
 kind:kindOf st=κ
 fail:failedOf st=none
theorem SB.size {κ:SortKind} {a₀:Array Keyed} {st:SortSt} (h:SB κ a₀ st):(arrOf st).size=a₀.size:=h.perm.size_eq
theorem SB.arr {κ:SortKind} {a₀:Array Keyed} {st:SortSt} (h:SB κ a₀ st) {xs:Array Keyed} (z:xs.Perm (arrOf st)):SB κ a₀ (setArr st xs):=⟨z.trans h.perm,h.kind,h.fail⟩
theorem SB.get {κ:SortKind} {a₀:Array Keyed} {st:SortSt} {f:Keyed->Int} (h:SB κ a₀ st) {i:Nat} (hi:i < a₀.size):∃ x,(arrOf st)[i]?=some x /\ x∈a₀.toList /\ kn f (arrOf st) i=f x:=by
 have z:i < (arrOf st).size:=by rw [h.size];exact hi
 refine ⟨(arrOf st)[i],getElem?_pos _ i z,(Array.perm_iff_toList_perm.mp h.perm).mem_iff.mp (by simp),?_⟩
 unfold kn
 rw [getElem?_pos _ i z]
 rfl
noncomputable def Up (f:Keyed->Int) (xs:Array Keyed) (lo n:Nat):Prop:=∀ i j,lo <= i->i <= j->j < lo+n->kn f xs i <= kn f xs j
noncomputable def Down (f:Keyed->Int) (xs:Array Keyed) (lo n:Nat):Prop:=∀ i j,lo <= i->i <= j->j < lo+n->kn f xs j <= kn f xs i
noncomputable def Kept (lo:Nat) (xs ys:Array Keyed):Prop:=∀ i,i < lo->ys[i]?=xs[i]?
theorem Kept.refl {lo:Nat} {xs:Array Keyed}:Kept lo xs xs:=fun _ _=>rfl
theorem Kept.trans {lo:Nat} {xs ys zs:Array Keyed} (a:Kept lo xs ys) (b:Kept lo ys zs):Kept lo xs zs:=fun i h=>(b i h).trans (a i h)
theorem ZC9 {f:Keyed->Int} {xs:Array Keyed} {i j:Nat} (z:j <= xs.size) (k:Nat):kn f (mirror xs i j ((j-i) / 2)) k=if i <= k /\ k < j then kn f xs (i+j-1-k) else kn f xs k:=by
 have e:=getElem?_mirror_all (i:=i) z k
 split
 .rename_i h;rw [if_pos h] at e;exact ZAv e
 .rename_i h;rw [if_neg h] at e;exact ZAv e
theorem ZBp {lo:Nat} {xs:Array Keyed} {i j:Nat} (z:j <= xs.size) (hi:lo <= i):Kept lo xs (mirror xs i j ((j-i) / 2)):=fun k J=>by
 rw [getElem?_mirror_all z k,if_neg (by omega)]
theorem ZC8 {f:Keyed->Int} {xs:Array Keyed} {i j:Nat} (J:j <= xs.size) (z:∀ k,i <= k->k < j->kn f xs k=kn f xs (j-1)) (k:Nat):kn f (mirror xs i j ((j-i) / 2)) k=kn f xs k:=by
 rw [ZC9 J]
 split
 .rename_i h;rw [z _ (by omega) (by omega),z k h.1 h.2]
 .rfl
section
variable {M:Model} {A:Around} {E:Value->Shared->Prop} {s:Shared} {κ:SortKind} {a₀:Array Keyed} {f:Keyed->Int}
theorem ZDx {st:SortSt} {i j:Nat} {Q:Option Bool->SortSt->Prop} (L:Asks M A E s κ a₀ f) (z:SB κ a₀ st) (hi:i < a₀.size) (O:j < a₀.size)
  (h:Q (some (decide (kn f (arrOf st) i < kn f (arrOf st) j))) st):wpS M A E s (ltAt' i j) Q st:=by
 obtain ⟨x,Y,U,k1⟩:=z.get (f:=f) hi
 obtain ⟨y,e2,J,k2⟩:=z.get (f:=f) O
 rw [ltAt'_eq]
 refine wpS_bind (wpS_get ?_)
 show wpS _ _ _ _ (elem' (arrOf st) i >>= fun x=>elem' (arrOf st) j >>= fun y=>lt' x y) Q st
 rw [elem'_eq,elem'_eq,Y,e2]
 refine wpS_bind (wpS_pure (wpS_bind (wpS_pure (L.lt x y U J st Q z.kind ?_))))
 rw [<- k1,<- k2]
 exact h
theorem ZEP {st:SortSt} {i j:Nat} {Q:Unit->SortSt->Prop} (h:Q () (setArr st (mirror (arrOf st) i j ((j-i) / 2)))):wpS M A E s (reverseSlice' i j) Q st:=by
 rw [reverseSlice'_eq]
 exact wpS_modify h
noncomputable def ZCG (lo a nrem:Nat):StateT SortSt Sem AscSt :=
 forIn [a:nrem] ((none,a):AscSt) fun _ c=>do
  let r <- ltAt' (lo+c.snd) (lo+c.snd-1)
  match r with
  | some b=>if b=true then pure (ForInStep.done (none,c.snd)) else pure (ForInStep.yield (none,c.snd+1))
  | _=>pure (ForInStep.done (some none,c.snd))
noncomputable def ZD0 (lo n nrem:Nat):StateT SortSt Sem (Option Nat):=do
 reverseSlice' lo (lo+n)
 let c <- ZCG lo n nrem
 match c.fst with
 | some r=>pure r
 | none=>pure (some c.snd)
noncomputable def ZCF (lo n nrem:Nat):StateT SortSt Sem DescSt :=
 forIn [n:nrem] ((none,n,0):DescSt) fun _ c=>do
  let r <- ltAt' (lo+c.snd.fst) (lo+c.snd.fst-1)
  match r with
  | some b=>
   if b=true then
    if c.snd.snd > 0 then do
     reverseSlice' (lo+c.snd.fst-(c.snd.snd+1)) (lo+c.snd.fst)
     pure (ForInStep.yield (none,c.snd.fst+1,0))
    else pure (ForInStep.yield (none,c.snd.fst+1,0))
   else do
    let r2 <- ltAt' (lo+c.snd.fst-1) (lo+c.snd.fst)
    match r2 with
    | some b2=>
     if b2=true then pure (ForInStep.done (none,c.snd.fst,c.snd.snd))
     else pure (ForInStep.yield (none,c.snd.fst+1,c.snd.snd+1))
    | _=>pure (ForInStep.done (some none,c.snd.fst,c.snd.snd))
  | _=>pure (ForInStep.done (some none,c.snd.fst,c.snd.snd))
noncomputable def ZCc (lo n nrem:Nat):StateT SortSt Sem (Option Nat):=do
 liftM (rule "list.sort.descending-run")
 let c <- ZCF lo (n+1) nrem
 match c.fst with
 | some r=>pure r
 | none=>
  if c.snd.snd > 0 then do
   reverseSlice' (lo+c.snd.fst-(c.snd.snd+1)) (lo+c.snd.fst)
   ZD0 lo c.snd.fst nrem
  else ZD0 lo c.snd.fst nrem
theorem bnd {α z:Type} (m:StateT SortSt Sem α) {g h:α->StateT SortSt Sem z} (e:∀ a,g a=h a):(m >>= g)=(m >>= h):=by rw [show g=h from funext e]
theorem count_eq (lo nrem:Nat):countRun' lo nrem=(do
  let c <- ZCG lo 1 nrem
  match c.fst with
  | some r=>pure r
  | none=>
   if (c.snd == nrem)=true then pure (some c.snd)
   else if c.snd > 1 then do
    let r <- ltAt' lo (lo+c.snd-1)
    match r with
    | some b=>if b=true then pure (some c.snd) else do
      reverseSlice' lo (lo+c.snd)
      ZCc lo c.snd nrem
    | _=>pure none
   else ZCc lo c.snd nrem):=by
 have tl:∀ z:Nat,ZD0 lo z nrem=(reverseSlice' lo (lo+z) >>= fun _=>ZCG lo z nrem >>= fun c=>match c.fst with | some r=>pure r | none=>pure (some c.snd)):=fun _=>rfl
 rw [countRun'_eq]
 refine bnd (ZCG lo 1 nrem) fun c=>?_
 obtain ⟨r,n⟩:=c
 cases r with
 | some r=>rfl
 | none=>
  have dn:∀ Y:Nat,(liftM (rule "list.sort.descending-run") >>= fun _=>ZCF lo (Y+1) nrem >>= fun c=>match c.fst with
    | some r=>pure r
    | none=>if c.snd.snd > 0 then (reverseSlice' (lo+c.snd.fst-(c.snd.snd+1)) (lo+c.snd.fst) >>= fun _=>ZD0 lo c.snd.fst nrem) else ZD0 lo c.snd.fst nrem)=ZCc lo Y nrem:=fun _=>rfl
  dsimp only
  split
  .rfl
  .split
   .refine bnd (ltAt' lo (lo+n-1)) fun x=>?_
    cases x with
    | none=>rfl
    | some rose=>
     dsimp only
     split
     .rfl
     .refine bnd _ fun _=>?_
      rw [<- dn]
      refine bnd _ fun _=>bnd (ZCF lo (n+1) nrem) fun s2=>?_
      obtain ⟨O,z,Z⟩:=s2
      cases O with
      | some O=>rfl
      | none=>
       dsimp only
       split
       .refine bnd _ fun _=>?_
        rw [tl]
        refine bnd _ fun _=>bnd (ZCG lo z nrem) fun L=>?_
        obtain ⟨J,U⟩:=L
        cases J <;> rfl
       .rw [tl]
        refine bnd _ fun _=>bnd (ZCG lo z nrem) fun L=>?_
        obtain ⟨J,U⟩:=L
        cases J <;> rfl
   .rw [<- dn]
    refine bnd _ fun _=>bnd (ZCF lo (n+1) nrem) fun s2=>?_
    obtain ⟨O,z,Z⟩:=s2
    cases O with
    | some O=>rfl
    | none=>
     dsimp only
     split
     .refine bnd _ fun _=>?_
      rw [tl]
      refine bnd _ fun _=>bnd (ZCG lo z nrem) fun L=>?_
      obtain ⟨J,U⟩:=L
      cases J <;> rfl
     .rw [tl]
      refine bnd _ fun _=>bnd (ZCG lo z nrem) fun L=>?_
      obtain ⟨J,U⟩:=L
      cases J <;> rfl
theorem up_one {xs:Array Keyed} {lo:Nat}:Up f xs lo 1:=fun i j h1 h2 h3=>by rw [show i=j by omega];exact Int.le_refl _
theorem up_loop {st:SortSt} {lo a nrem:Nat} {Q:AscSt->SortSt->Prop} (L:Asks M A E s κ a₀ f) (hn:lo+nrem <= a₀.size) (ha:1 <= a) (J:a <= nrem) (Y:SB κ a₀ st) (U:Up f (arrOf st) lo a)
  (h:∀ n,a <= n->n <= nrem->Up f (arrOf st) lo n->(n=nrem∨kn f (arrOf st) (lo+n) < kn f (arrOf st) (lo+n-1))->Q (none,n) st):wpS M A E s (ZCG lo a nrem) Q st:=by
 unfold ZCG
 refine wpS_forRange (I:=fun x c st'=>st'=st /\ c=(none,x) /\ Up f (arrOf st) lo x) ?_ ?_ ⟨rfl,rfl,U⟩
 .rintro x c st' O Z ⟨rfl,rfl,z⟩
  dsimp only
  refine wpS_bind (ZDx L Y (by omega) (by omega) ?_)
  by_cases hl:kn f (arrOf st') (lo+x) < kn f (arrOf st') (lo+x-1)
  .rw [decide_eq_true hl]
   exact wpS_pure (h x O (by omega) z (.inr hl))
  .rw [decide_eq_false hl]
   refine wpS_pure ⟨rfl,rfl,fun i j h1 h2 h3=>?_⟩
   by_cases hj:j < lo+x
   .exact z i j h1 h2 hj
   .by_cases hi:i=j
    .rw [hi];exact Int.le_refl _
    .have e1:=z i (lo+x-1) h1 (by omega) (by omega)
     rw [show j=lo+x by omega]
     omega
 .rintro c st' ⟨rfl,rfl,z⟩
  rw [Nat.max_eq_right J] at z ⊢
  exact h nrem J (yAA _) z (.inl rfl)
noncomputable abbrev ZE2 (κ:SortKind) (a₀:Array Keyed) (f:Keyed->Int) (lo nrem:Nat) (xs:Array Keyed) (pd:Array (Nat×Nat×Nat)) (Q:Option Nat->SortSt->Prop):Prop :=
 ∀ m st',SB κ a₀ st'->1 <= m->m <= nrem->Up f (arrOf st') lo m->Kept lo xs (arrOf st')->pendingOf st'=pd->Q (some m) st'
theorem tail_l {st:SortSt} {lo n nrem:Nat} {xs:Array Keyed} {Z:Array (Nat×Nat×Nat)} {Q:Option Nat->SortSt->Prop} (L:Asks M A E s κ a₀ f) (hn:lo+nrem <= a₀.size) (h1:1 <= n) (Y:n <= nrem) (hB:SB κ a₀ st)
  (hs:Down f (arrOf st) lo n) (hk:Kept lo xs (arrOf st)) (hp:pendingOf st=Z) (h:ZE2 κ a₀ f lo nrem xs Z Q):wpS M A E s (ZD0 lo n nrem) Q st:=by
 unfold ZD0
 have hsz:lo+n <= (arrOf st).size:=by rw [hB.size];omega
 refine wpS_bind (ZEP ?_)
 have z:SB κ a₀ (setArr st (mirror (arrOf st) lo (lo+n) ((lo+n-lo) / 2))):=hB.arr (mirror_perm _ _ _ _)
 have O:Kept lo xs (mirror (arrOf st) lo (lo+n) ((lo+n-lo) / 2)):=hk.trans (ZBp hsz (yAA _))
 refine wpS_bind (up_loop L hn h1 Y z (fun i j z1 z2 z3=>?_) fun m a0 U J _=>wpS_pure (h m _ z (by omega) U J O hp))
 show kn f (mirror (arrOf st) lo (lo+n) _) i <= kn f (mirror (arrOf st) lo (lo+n) _) j
 rw [ZC9 hsz,ZC9 hsz,if_pos (by omega),if_pos (by omega)]
 exact hs _ _ (by omega) (by omega) (by omega)
theorem down_loop {st:SortSt} {lo n nrem:Nat} {xs:Array Keyed} {pd:Array (Nat×Nat×Nat)} {Q:DescSt->SortSt->Prop} (L:Asks M A E s κ a₀ f) (hn:lo+nrem <= a₀.size) (h1:1 <= n) (a0:n <= nrem) (hB:SB κ a₀ st)
  (hs:Down f (arrOf st) lo n) (hk:Kept lo xs (arrOf st)) (hp:pendingOf st=pd)
  (h:∀ m q st',SB κ a₀ st'->n <= m->m <= nrem->Down f (arrOf st') lo m->q+1 <= m->(∀ i,lo+m-(q+1) <= i->i < lo+m->kn f (arrOf st') i=kn f (arrOf st') (lo+m-1))->Kept lo xs (arrOf st')->pendingOf st'=pd->Q (none,m,q) st') :
  wpS M A E s (ZCF lo n nrem) Q st:=by
 unfold ZCF
 refine wpS_forRange (I:=fun x c st'=>∃ q,c=(none,x,q) /\ SB κ a₀ st' /\ Down f (arrOf st') lo x /\ q+1 <= x /\ (∀ i,lo+x-(q+1) <= i->i < lo+x->kn f (arrOf st') i=kn f (arrOf st') (lo+x-1)) /\ Kept lo xs (arrOf st') /\ pendingOf st'=pd) ?_ ?_
  ⟨0,rfl,hB,hs,by omega,fun i Y Z=>by rw [show i=lo+n-1 by omega],hk,hp⟩
 .rintro x c st' a1 a2 ⟨q,rfl,z,J,hq,he,O,U⟩
  dsimp only
  have hsz:lo+x <= (arrOf st').size:=by rw [z.size];omega
  refine wpS_bind (ZDx L z (by omega) (by omega) ?_)
  by_cases hl:kn f (arrOf st') (lo+x) < kn f (arrOf st') (lo+x-1)
  .rw [decide_eq_true hl]
   have more:∀ ys:Array Keyed,(∀ k,kn f ys k=kn f (arrOf st') k)->Down f ys lo (x+1):=fun ys hy i j Y Z z3=>by
    rw [hy,hy]
    by_cases hj:j < lo+x
    .exact J i j Y Z hj
    .by_cases hi:i=j
     .rw [hi];exact Int.le_refl _
     .have e1:=J i (lo+x-1) Y (by omega) (by omega)
      rw [show j=lo+x by omega]
      omega
   dsimp only
   rw [if_pos rfl]
   by_cases hq0:q > 0
   .rw [if_pos hq0]
    refine wpS_bind (ZEP (wpS_pure ⟨0,rfl,z.arr (mirror_perm _ _ _ _),more _ (ZC8 hsz he),by omega,fun i Y Z=>by rw [show i=lo+(x+1)-1 by omega],O.trans (ZBp hsz (by omega)),U⟩))
   .rw [if_neg hq0]
    exact wpS_pure ⟨0,rfl,z,more _ (fun _=>rfl),by omega,fun i Y Z=>by rw [show i=lo+(x+1)-1 by omega],O,U⟩
  .rw [decide_eq_false hl]
   dsimp only
   rw [if_neg (by decide)]
   refine wpS_bind (ZDx L z (by omega) (by omega) ?_)
   by_cases hg:kn f (arrOf st') (lo+x-1) < kn f (arrOf st') (lo+x)
   .rw [decide_eq_true hg]
    exact wpS_pure (h x q st' z a1 (by omega) J hq he O U)
   .rw [decide_eq_false hg]
    have ex:kn f (arrOf st') (lo+x)=kn f (arrOf st') (lo+x-1):=by omega
    refine wpS_pure ⟨q+1,rfl,z,fun i j Y Z z3=>?_,by omega,fun i Y Z=>?_,O,U⟩
    .by_cases hj:j < lo+x
     .exact J i j Y Z hj
     .by_cases hi:i=j
      .rw [hi];exact Int.le_refl _
      .have e1:=J i (lo+x-1) Y (by omega) (by omega)
       rw [show j=lo+x by omega]
       omega
    .rw [show lo+(x+1)-1=lo+x by omega]
     by_cases hi:i=lo+x
     .rw [hi]
     .rw [ex];exact he i (by omega) (by omega)
 .rintro c st' ⟨q,rfl,z,J,hq,he,O,U⟩
  rw [Nat.max_eq_right a0] at J hq he ⊢
  exact h nrem q st' z a0 (yAA _) J hq he O U
theorem down_part {st:SortSt} {lo n nrem:Nat} {xs:Array Keyed} {pd:Array (Nat×Nat×Nat)} {Q:Option Nat->SortSt->Prop} (L:Asks M A E s κ a₀ f) (hn:lo+nrem <= a₀.size) (Z:n+1 <= nrem) (hB:SB κ a₀ st)
  (hs:Down f (arrOf st) lo (n+1)) (hk:Kept lo xs (arrOf st)) (hp:pendingOf st=pd) (h:ZE2 κ a₀ f lo nrem xs pd Q):wpS M A E s (ZCc lo n nrem) Q st:=by
 unfold ZCc
 refine wpS_bind (wpS_lift (wpAny_rule ⟨rfl,?_⟩))
 refine wpS_bind (down_loop L hn (by omega) Z hB hs hk hp fun m q st' z a0 U J hq he O Y=>?_)
 dsimp only
 have hsz:lo+m <= (arrOf st').size:=by rw [z.size];omega
 by_cases hq0:q > 0
 .rw [if_pos hq0]
  refine wpS_bind (ZEP (tail_l L hn (by omega) U (z.arr (mirror_perm _ _ _ _)) (fun i j z1 z2 z3=>?_) (O.trans (ZBp hsz (by omega))) Y h))
  show kn f (mirror (arrOf st') _ _ _) j <= kn f (mirror (arrOf st') _ _ _) i
  rw [ZC8 hsz he,ZC8 hsz he]
  exact J i j z1 z2 z3
 .rw [if_neg hq0]
  exact tail_l L hn (by omega) U z J O Y h
theorem count_run {st:SortSt} {lo nrem:Nat} {Q:Option Nat->SortSt->Prop} (L:Asks M A E s κ a₀ f) (hn:lo+nrem <= a₀.size) (h1:1 <= nrem) (O:SB κ a₀ st)
  (h:ZE2 κ a₀ f lo nrem (arrOf st) (pendingOf st) Q):wpS M A E s (countRun' lo nrem) Q st:=by
 rw [count_eq]
 refine wpS_bind (up_loop L hn (yAA 1) h1 O up_one fun n Y a0 J a3=>?_)
 dsimp only
 by_cases hnn:n=nrem
 .rw [if_pos (by simpa using hnn)]
  exact wpS_pure (h n st O Y a0 J .refl rfl)
 rw [if_neg (by simpa using hnn)]
 have Z:=a3.resolve_left hnn
 by_cases hgt:n > 1
 .rw [if_pos hgt]
  refine wpS_bind (ZDx L O (by omega) (by omega) ?_)
  by_cases hr:kn f (arrOf st) lo < kn f (arrOf st) (lo+n-1)
  .rw [decide_eq_true hr]
   exact wpS_pure (h n st O Y a0 J .refl rfl)
  rw [decide_eq_false hr]
  dsimp only
  rw [if_neg (by decide)]
  have hsz:lo+n <= (arrOf st).size:=by rw [O.size];omega
  have z:∀ k,lo <= k->k < lo+n->kn f (arrOf st) k=kn f (arrOf st) (lo+n-1):=fun k k1 k2=>by
   have a1:=J lo k (yAA _) k1 k2
   have a2:=J k (lo+n-1) k1 (by omega) (by omega)
   omega
  refine wpS_bind (ZEP (down_part L hn (by omega) (O.arr (mirror_perm _ _ _ _)) (fun i j z1 z2 z3=>?_) (ZBp hsz (yAA _)) rfl h))
  show kn f (mirror (arrOf st) _ _ _) j <= kn f (mirror (arrOf st) _ _ _) i
  rw [ZC8 hsz z,ZC8 hsz z]
  by_cases hj:j < lo+n
  .rw [z i z1 (by omega),z j (by omega) hj];exact Int.le_refl _
  .by_cases hi:i=j
   .rw [hi];exact Int.le_refl _
   .rw [z i z1 (by omega),show j=lo+n by omega];exact Int.le_of_lt Z
 .rw [if_neg hgt]
  have U:n=1:=by omega
  subst U
  refine down_part L hn (by omega) O (fun i j z1 z2 z3=>?_) .refl rfl h
  by_cases hi:i=j
  .rw [hi];exact Int.le_refl _
  .have e1:i=lo:=by omega
   have e2:j=lo+1:=by omega
   subst e1 e2
   exact Int.le_of_lt Z
theorem kn_bubble {xs:Array Keyed} {z d:Nat} (L:z < xs.size) (J:d <= z) (k:Nat):kn f (bubble xs z d) k=if k=z-d then kn f xs z else if z-d < k /\ k <= z then kn f xs (k-1) else kn f xs k:=by
 have e:=getElem?_bubble L d J k
 split
 .rename_i h;rw [if_pos h] at e;exact ZAv e
 .rename_i h
  rw [if_neg h] at e
  split
  .rename_i h2;rw [if_pos h2] at e;exact ZAv e
  .rename_i h2;rw [if_neg h2] at e;exact ZAv e
theorem kept_bubble {lo:Nat} {xs:Array Keyed} {z d:Nat} (J:z < xs.size) (O:lo+d <= z):Kept lo xs (bubble xs z d):=fun k L=>by
 rw [getElem?_bubble J d (by omega) k,if_neg (by omega),if_neg (by omega)]
theorem bin_sort {st:SortSt} {lo n ok:Nat} {Q:Bool->SortSt->Prop} (L:Asks M A E s κ a₀ f) (hn:lo+n <= a₀.size) (a8:ok <= n) (hB:SB κ a₀ st) (hs:Up f (arrOf st) lo ok)
  (h:∀ st',SB κ a₀ st'->Up f (arrOf st') lo n->Kept lo (arrOf st) (arrOf st')->pendingOf st'=pendingOf st->Q true st'):wpS M A E s (binarySort' lo n ok) Q st:=by
 rw [binarySort'_eq]
 refine wpS_bind (wpS_mono (wpS_forRange (I:=fun k c st'=>c=(none,()) /\ SB κ a₀ st' /\ Up f (arrOf st') lo (min k n) /\ Kept lo (arrOf st) (arrOf st') /\ pendingOf st'=pendingOf st)
  (Q:=fun c st'=>c=(none,()) /\ SB κ a₀ st' /\ Up f (arrOf st') lo n /\ Kept lo (arrOf st) (arrOf st') /\ pendingOf st'=pendingOf st) ?_ ?_ ?_) ?_)
 .rintro k c st' a7 a6 ⟨rfl,J,z,Y,Z⟩
  rw [show min k n=k by omega] at z
  have hk:lo+k < a₀.size:=by omega
  refine wpS_bind (wpS_mono (wpS_forRange (I:=fun x c st2=>st2=st' /\ ∃ l r,c=(none,l,r) /\ l <= r /\ r <= k /\ r-l <= k-x /\
    (∀ i,i < l->kn f (arrOf st') (lo+i) <= kn f (arrOf st') (lo+k)) /\ (∀ i,r <= i->i < k->kn f (arrOf st') (lo+k) < kn f (arrOf st') (lo+i)))
   (Q:=fun c st2=>st2=st' /\ ∃ l r,c=(none,l,r) /\ l <= k /\ (∀ i,i < l->kn f (arrOf st') (lo+i) <= kn f (arrOf st') (lo+k)) /\ (∀ i,l <= i->i < k->kn f (arrOf st') (lo+k) < kn f (arrOf st') (lo+i))) ?_ ?_ ?_) ?_)
  .rintro x c st2 _ a9 ⟨rfl,l,r,rfl,a3,a0,hm,U,O⟩
   dsimp only
   by_cases hge:l≥r
   .rw [if_pos hge]
    have:l=r:=by omega
    subst this
    exact wpS_pure ⟨rfl,l,l,rfl,a0,U,O⟩
   rw [if_neg hge]
   refine wpS_bind (ZDx L J hk (by omega) ?_)
   by_cases hl:kn f (arrOf st2) (lo+k) < kn f (arrOf st2) (lo+(l+r) / 2)
   .rw [decide_eq_true hl]
    refine wpS_pure ⟨rfl,l,(l+r) / 2,rfl,by omega,by omega,by omega,U,fun i z1 z2=>?_⟩
    exact Int.lt_of_lt_of_le hl (z _ _ (by omega) (by omega) (by omega))
   .rw [decide_eq_false hl]
    refine wpS_pure ⟨rfl,(l+r) / 2+1,r,rfl,by omega,by omega,by omega,fun i z1=>?_,O⟩
    have e1:=z (lo+i) (lo+(l+r) / 2) (by omega) (by omega) (by omega)
    omega
  .rintro c st2 ⟨rfl,l,r,rfl,a3,a0,hm,U,O⟩
   have:l=r:=by omega
   subst this
   exact ⟨rfl,l,l,rfl,a0,U,O⟩
  .exact ⟨rfl,0,k,rfl,by omega,by omega,by omega,fun i hi=>by omega,fun i z1 z2=>by omega⟩
  .rintro c st2 ⟨rfl,l,r,rfl,a5,U,O⟩
   show wpS _ _ _ _ (moveDown' (lo+k) (lo+l) >>= fun _=>pure (ForInStep.yield (none,()))) _ _
   rw [moveDown'_eq,show lo+k-(lo+l)=k-l by omega]
   have a1:lo+k < (arrOf st2).size:=by rw [J.size];exact hk
   refine wpS_bind (wpS_modify (wpS_pure ⟨rfl,J.arr (bubble_perm _ _ _),?_,Y.trans (kept_bubble a1 (by omega)),Z⟩))
   rw [show min (k+1) n=k+1 by omega]
   intro i j z1 z2 z3
   show kn f (bubble (arrOf st2) (lo+k) (k-l)) i <= kn f (bubble (arrOf st2) (lo+k) (k-l)) j
   have at':∀ m,lo <= m->m < lo+k+1->kn f (bubble (arrOf st2) (lo+k) (k-l)) m=if m < lo+l then kn f (arrOf st2) m else if m=lo+l then kn f (arrOf st2) (lo+k) else kn f (arrOf st2) (m-1):=fun m m1 m2=>by
    rw [kn_bubble a1 (by omega)]
    by_cases c1:m < lo+l
    .rw [if_pos c1,if_neg (by omega),if_neg (by omega)]
    .rw [if_neg c1]
     by_cases c2:m=lo+l
     .rw [if_pos c2,if_pos (by omega)]
     .rw [if_neg c2,if_neg (by omega),if_pos (by omega)]
   rw [at' i z1 (by omega),at' j (by omega) (by omega)]
   have a2:∀ m,lo <= m->m < lo+l->kn f (arrOf st2) m <= kn f (arrOf st2) (lo+k):=fun m m1 m2=>by
    have:=U (m-lo) (by omega)
    rw [show lo+(m-lo)=m by omega] at this
    exact this
   have a4:∀ m,lo+l <= m->m < lo+k->kn f (arrOf st2) (lo+k) < kn f (arrOf st2) m:=fun m m1 m2=>by
    have:=O (m-lo) (by omega) (by omega)
    rw [show lo+(m-lo)=m by omega] at this
    exact this
   by_cases c1:j < lo+l
   .rw [if_pos c1,if_pos (by omega)]
    exact z i j z1 z2 (by omega)
   rw [if_neg c1]
   by_cases c2:j=lo+l
   .rw [if_pos c2]
    by_cases c3:i < lo+l
    .rw [if_pos c3];exact a2 i z1 c3
    .rw [if_neg c3,if_pos (by omega)];exact Int.le_refl _
   .rw [if_neg c2]
    by_cases c3:i < lo+l
    .rw [if_pos c3];exact z i (j-1) z1 (by omega) (by omega)
    .rw [if_neg c3]
     by_cases c4:i=lo+l
     .rw [if_pos c4];exact Int.le_of_lt (a4 (j-1) (by omega) (by omega))
     .rw [if_neg c4];exact z (i-1) (j-1) (by omega) (by omega) (by omega)
 .rintro c st' ⟨hc,J,z,Y,Z⟩
  rw [show min (max (max ok 1) n) n=n by omega] at z
  exact ⟨hc,J,z,Y,Z⟩
 .refine ⟨rfl,hB,fun i j z1 z2 z3=>?_,.refl,rfl⟩
  by_cases h1:ok=0
  .rw [show i=j by omega];exact Int.le_refl _
  .exact hs i j z1 z2 (by omega)
 .rintro c st' ⟨rfl,J,z,Y,Z⟩
  exact wpS_pure (h st' J z Y Z)
end
end L2S
namespace L2S
open PySem PyProof.Rows
noncomputable def gal:Bool->Keyed->Array Keyed->Nat->Nat->Nat->StateT SortSt Sem (Option Nat):=sortPriv% PySem.Builtin.gallop
noncomputable def past (left:Bool) (key:Keyed) (arr:Array Keyed) (base i:Nat):StateT SortSt Sem (Option Bool):=do
 let y <- elem' arr (base+i)
 if left then lt' y key else return (<- lt' key y).map (!·)
theorem gal_eq (left:Bool) (J:Keyed) (arr:Array Keyed) (base n z:Nat):gal left J arr base n z=(do
 let mut o1:=0
 let mut o2:=1
 let mut p1:=0
 let mut p2:=0
 let some b0 <- past left J arr base z | return none
 if b0 then
  let mx:=n-z
  for _ in [0:n] do
   if o2≥mx then break
   let some b <- past left J arr base (z+o2) | return none
   if !b then break
   o1:=o2
   o2:=2 * o2+1
  p1:=z+o1+1
  p2:=z+min o2 mx
 else
  let mx:=z+1
  for _ in [0:n] do
   if o2≥mx then break
   let some b <- past left J arr base (z-o2) | return none
   if b then break
   o1:=o2
   o2:=2 * o2+1
  p1:=z+1-min o2 mx
  p2:=z-o1
 for _ in [0:n] do
  if p1≥p2 then break
  let m:=p1+(p2-p1) / 2
  let some b <- past left J arr base m | return none
  if b then p1:=m+1 else p2:=m
 return some p2):=rfl
section
variable {M:Model} {A:Around} {E:Value->Shared->Prop} {s:Shared}
theorem gal_ok {left:Bool} {a0:Keyed} {arr:Array Keyed} {base n J:Nat} {st:SortSt} {Q:Option Nat->SortSt->Prop} (g:Nat->Bool) (hh:J < n)
  (hp:∀ i,i < n->∀ Q:Option Bool->SortSt->Prop,Q (some (g i)) st->wpS M A E s (past left a0 arr base i) Q st) (hm:∀ i j,i <= j->j < n->g j=true->g i=true)
  (h:∀ k,k <= n->(∀ i,i < k->g i=true)->(∀ i,k <= i->i < n->g i=false)->Q (some k) st):wpS M A E s (gal left a0 arr base n J) Q st:=by
 have a5:∀ i j,i <= j->j < n->g i=false->g j=false:=fun i j z1 z2 z3=>by
  cases e:g j with
  | false=>rfl
  | true=>rw [hm i j z1 z2 e] at z3;cases z3
 have Z:∀ p1 p2:Nat,p1 <= p2->p2 <= n->(∀ i,i < p1->g i=true)->(∀ i,p2 <= i->i < n->g i=false) ->
   wpS M A E s (forIn [0:n] ((none,p1,p2):Option (Option Nat)×Nat×Nat) fun _ c=>if c.2.1≥c.2.2 then pure (ForInStep.done (none,c.2.1,c.2.2)) else do
    let r <- past left a0 arr base (c.2.1+(c.2.2-c.2.1) / 2)
    match r with
    | some b=>if b=true then pure (ForInStep.yield (none,c.2.1+(c.2.2-c.2.1) / 2+1,c.2.2)) else pure (ForInStep.yield (none,c.2.1,c.2.1+(c.2.2-c.2.1) / 2))
    | _=>pure (ForInStep.done (some none,c.2.1,c.2.2))) (fun c st'=>∃ k,c=(none,k,k) /\ st'=st /\ k <= n /\ (∀ i,i < k->g i=true) /\ (∀ i,k <= i->i < n->g i=false)) st:=by
  intro p1 p2 a1 a2 a3 a4
  refine wpS_forRange (I:=fun x c st'=>st'=st /\ ∃ p1 p2,c=(none,p1,p2) /\ p1 <= p2 /\ p2 <= n /\ p2-p1 <= n-x /\ (∀ i,i < p1->g i=true) /\ (∀ i,p2 <= i->i < n->g i=false)) ?_ ?_ ⟨rfl,p1,p2,rfl,a1,a2,by omega,a3,a4⟩
  .rintro x c st' _ hx ⟨rfl,p1,p2,rfl,U,b2,O,L,Y⟩
   dsimp only
   by_cases hge:p1≥p2
   .rw [if_pos hge]
    have:p1=p2:=by omega
    subst this
    exact wpS_pure ⟨p1,rfl,rfl,b2,L,Y⟩
   rw [if_neg hge]
   refine wpS_bind (hp _ (by omega) _ ?_)
   cases e:g (p1+(p2-p1) / 2) with
   | true=>exact wpS_pure ⟨rfl,_,_,rfl,by omega,b2,by omega,fun i hi=>hm i _ (by omega) (by omega) e,Y⟩
   | false=>exact wpS_pure ⟨rfl,_,_,rfl,by omega,by omega,by omega,L,fun i i1 i2=>a5 _ i i1 i2 e⟩
  .rintro c st' ⟨rfl,p1,p2,rfl,U,b2,O,L,Y⟩
   have:p1=p2:=by omega
   subst this
   exact ⟨p1,rfl,rfl,b2,L,Y⟩
 rw [gal_eq]
 refine wpS_bind (hp J hh _ ?_)
 cases e0:g J with
 | true=>
  refine wpS_bind (wpS_mono (wpS_forRange (I:=fun x c st'=>st'=st /\ ∃ o1 o2,c=(none,o1,o2) /\ o1 < o2 /\ x+1 <= o2 /\ J+o1 < n /\ g (J+o1)=true)
   (Q:=fun c st'=>st'=st /\ ∃ o1 o2,c=(none,o1,o2) /\ o1 < o2 /\ J+o1 < n /\ g (J+o1)=true /\ (o2≥n-J∨(J+o2 < n /\ g (J+o2)=false))) ?_ ?_ ⟨rfl,0,1,rfl,by omega,by omega,by omega,e0⟩) ?_)
  .rintro x c st' _ hx ⟨rfl,o1,o2,rfl,U,b2,O,L⟩
   dsimp only
   by_cases hge:o2≥n-J
   .rw [if_pos hge]
    exact wpS_pure ⟨rfl,o1,o2,rfl,U,O,L,.inl hge⟩
   rw [if_neg hge]
   refine wpS_bind (hp _ (by omega) _ ?_)
   cases e:g (J+o2) with
   | true=>exact wpS_pure ⟨rfl,_,_,rfl,by omega,by omega,by omega,e⟩
   | false=>exact wpS_pure ⟨rfl,_,_,rfl,U,O,L,.inr ⟨by omega,e⟩⟩
  .rintro c st' ⟨rfl,o1,o2,rfl,U,b2,O,L⟩
   exact ⟨rfl,o1,o2,rfl,U,O,L,.inl (by omega)⟩
  .rintro c st' ⟨rfl,o1,o2,rfl,U,O,L,Y⟩
   dsimp only
   refine wpS_bind (wpS_mono (Z (J+o1+1) (J+min o2 (n-J)) (by omega) (by omega) (fun i hi=>hm i _ (by omega) O L) fun i i1 i2=>?_) ?_)
   .rcases Y with z | ⟨z1,z2⟩
    .omega
    .exact a5 _ i (by omega) i2 z2
   .rintro c st' ⟨k,rfl,rfl,k1,k2,k3⟩
    exact wpS_pure (h k k1 k2 k3)
 | false=>
  refine wpS_bind (wpS_mono (wpS_forRange (I:=fun x c st'=>st'=st /\ ∃ o1 o2,c=(none,o1,o2) /\ o1 < o2 /\ x+1 <= o2 /\ o1 <= J /\ g (J-o1)=false)
   (Q:=fun c st'=>st'=st /\ ∃ o1 o2,c=(none,o1,o2) /\ o1 < o2 /\ o1 <= J /\ g (J-o1)=false /\ (o2≥J+1∨(o2 < J+1 /\ g (J-o2)=true))) ?_ ?_ ⟨rfl,0,1,rfl,by omega,by omega,by omega,e0⟩) ?_)
  .rintro x c st' _ hx ⟨rfl,o1,o2,rfl,U,b2,O,L⟩
   dsimp only
   by_cases hge:o2≥J+1
   .rw [if_pos hge]
    exact wpS_pure ⟨rfl,o1,o2,rfl,U,O,L,.inl hge⟩
   rw [if_neg hge]
   refine wpS_bind (hp _ (by omega) _ ?_)
   cases e:g (J-o2) with
   | true=>exact wpS_pure ⟨rfl,_,_,rfl,U,O,L,.inr ⟨by omega,e⟩⟩
   | false=>exact wpS_pure ⟨rfl,_,_,rfl,by omega,by omega,by omega,e⟩
  .rintro c st' ⟨rfl,o1,o2,rfl,U,b2,O,L⟩
   exact ⟨rfl,o1,o2,rfl,U,O,L,.inl (by omega)⟩
  .rintro c st' ⟨rfl,o1,o2,rfl,U,O,L,Y⟩
   dsimp only
   refine wpS_bind (wpS_mono (Z (J+1-min o2 (J+1)) (J-o1) (by omega) (by omega) (fun i hi=>?_) fun i i1 i2=>a5 _ i i1 i2 L) ?_)
   .rcases Y with z | ⟨z1,z2⟩
    .omega
    .exact hm i _ (by omega) (by omega) z2
   .rintro c st' ⟨k,rfl,rfl,k1,k2,k3⟩
    exact wpS_pure (h k k1 k2 k3)
end
end L2S
namespace L2S
open PySem PyProof.Rows
noncomputable def mLo:Array Keyed->Array Keyed->StateT SortSt Sem (Array Keyed):=sortPriv% PySem.Builtin.mergeLo
noncomputable abbrev setG (st:SortSt) (g:Nat):SortSt:=SortSt.mk' (kindOf st) (arrOf st) (pendingOf st) g (failedOf st)
theorem mLo_eq (a b:Array Keyed):mLo a b=(do
 rule "list.sort.merge-lo"
 let tt:=a.size+b.size
 let dn (o:Array Keyed) (i j:Nat):=o++a.extract i a.size++b.extract j b.size
 let la (o:Array Keyed) (i j:Nat):=o++b.extract j b.size++a.extract i a.size
 let mut o:Array Keyed:=#[<- elem' b 0]
 let mut i:=0
 let mut j:=1
 if j == b.size then return dn o i j
 if i+1 == a.size then return la o i j
 let mut mg:=gallopOf (<- get)
 for _ in [0:tt] do
  let mut ac:=0
  let mut bc:=0
  for _ in [0:tt] do
   let some w <- lt' (<- elem' b j) (<- elem' a i) | return dn o i j
   if w then
    o:=o.push (<- elem' b j);j:=j+1;bc:=bc+1;ac:=0
    if j == b.size then return dn o i j
    if bc≥mg then break
   else
    o:=o.push (<- elem' a i);i:=i+1;ac:=ac+1;bc:=0
    if i+1 == a.size then return la o i j
    if ac≥mg then break
  rule "list.sort.gallop"
  mg:=mg+1
  for _ in [0:tt] do
   if mg > 1 then mg:=mg-1
   modify fun st=>setG st mg
   let some k <- gal false (<- elem' b j) a i (a.size-i) 0 | return dn o i j
   ac:=k
   if k > 0 then
    o:=o++a.extract i (i+k);i:=i+k
    if i+1 == a.size then return la o i j
    if i == a.size then return dn o i j
   o:=o.push (<- elem' b j);j:=j+1
   if j == b.size then return dn o i j
   let some k <- gal true (<- elem' a i) b j (b.size-j) 0 | return dn o i j
   bc:=k
   if k > 0 then
    o:=o++b.extract j (j+k);j:=j+k
    if j == b.size then return dn o i j
   o:=o.push (<- elem' a i);i:=i+1
   if i+1 == a.size then return la o i j
   if ac < 7 && bc < 7 then break
  mg:=mg+1
  modify fun st=>setG st mg
 unsupported "internal:list.sort.merge-bound"):=rfl
noncomputable def leK (f:Keyed->Int) (x y:Keyed):Prop:=f x <= f y
structure Jm (f:Keyed->Int) (as bs o:List Keyed) (i j:Nat):Prop where
 perm:o.Perm (as.take i++bs.take j)
 sa:(o++as.drop i).Pairwise (leK f)
 sb:(o++bs.drop j).Pairwise (leK f)
noncomputable def Good (f:Keyed->Int) (as bs r:List Keyed):Prop:=r.Perm (as++bs) /\ r.Pairwise (leK f)
theorem take_more (as:List Keyed) (i k:Nat):as.take (i+k)=as.take i++(as.drop i).take k:=List.take_add
theorem drop_more (as:List Keyed) (i k:Nat):as.drop i=(as.drop i).take k++as.drop (i+k):=by rw [<- List.drop_drop,yBR]
section
variable {f:Keyed->Int} {as bs o:List Keyed} {i j:Nat}
theorem Jm.swap (h:Jm f as bs o i j):Jm f bs as o j i:=⟨h.perm.trans yCL,h.sb,h.sa⟩
theorem Jm.chunk (h:Jm f as bs o i j) (k:Nat) (hc:∀ x∈(as.drop i).take k,∀ y∈bs.drop j,f x <= f y):Jm f as bs (o++(as.drop i).take k) (i+k) j:=by
 have sa:=h.sa
 rw [drop_more as i k,<- yAV] at sa
 refine ⟨?_,sa,?_⟩
 .rw [take_more]
  refine (List.Perm.append_right _ h.perm).trans ?_
  rw [yAV,yAV]
  exact List.Perm.append_left _ yCL
 .obtain ⟨p1,p2,L⟩:=List.pairwise_append.mp h.sb
  obtain ⟨O,U,Y⟩:=List.pairwise_append.mp sa
  refine List.pairwise_append.mpr ⟨O,p2,fun x hx y J=>?_⟩
  rcases yBB.mp hx with z | z
  .exact L x z y J
  .exact hc x z y J
theorem Jm.dn (h:Jm f as bs o i j) (e:as.drop i=[]∨bs.drop j=[]):Good f as bs (o++as.drop i++bs.drop j):=by
 refine ⟨?_,?_⟩
 .have p:(o++as.drop i++bs.drop j).Perm ((as.take i++bs.take j)++as.drop i++bs.drop j):=List.Perm.append_right _ (List.Perm.append_right _ h.perm)
  refine p.trans ?_
  have z:(as.take i++bs.take j++as.drop i++bs.drop j).Perm (as.take i++as.drop i++(bs.take j++bs.drop j)):=by
   rw [yAV,yAV,yAV]
   refine List.Perm.append_left _ ?_
   rw [<- yAV,<- yAV]
   exact List.Perm.append_right _ yCL
  rw [yBR,yBR] at z
  exact z
 .rcases e with e | e
  .rw [e,yBD];exact h.sb
  .rw [e,yBD];exact h.sa
theorem Jm.la (h:Jm f as bs o i j) (hl:∀ x∈as.drop i,∀ y∈bs.drop j,f y <= f x):Good f as bs (o++bs.drop j++as.drop i):=by
 have c:=h.swap.chunk (bs.length-j) (fun x hx y z=>hl y z x (List.mem_of_mem_take hx))
 rw [yCD (by rw [yAR];exact yAA _)] at c
 have g:=c.dn (.inl (List.drop_eq_nil_of_le (by omega)))
 rw [List.drop_eq_nil_of_le (as:=bs) (i:=j+(bs.length-j)) (by omega),yBD] at g
 exact ⟨g.1.trans yCL,g.2⟩
end
theorem ZDk (a:Array Keyed) (i:Nat):(a.extract i a.size).toList=a.toList.drop i:=by
 rw [yCE,yCF]
 exact yCD (by rw [yAR];simp)
theorem ZEI (a:Array Keyed) (i k:Nat):(a.extract i (i+k)).toList=(a.toList.drop i).take k:=by
 rw [yCE,yCF,show i+k-i=k by omega]
theorem ZEu {a:Array Keyed} {i:Nat} {x:Keyed} (h:a[i]?=some x):(a.toList.drop i).take 1=[x]:=by
 have hi:i < a.toList.length:=by
  rw [yAI]
  exact (yBF.mp h).1
 rw [List.drop_eq_getElem_cons hi]
 have:a.toList[i]=x:=by
  rw [yBF] at h
  obtain ⟨_,e⟩:=h
  simpa using e
 rw [this]
 simp
structure Ev (st st':SortSt):Prop where
 k:kindOf st'=kindOf st
 a:arrOf st'=arrOf st
 p:pendingOf st'=pendingOf st
 f:failedOf st'=failedOf st
theorem Ev.refl {st:SortSt}:Ev st st:=⟨rfl,rfl,rfl,rfl⟩
theorem Ev.setG {st st':SortSt} (h:Ev st st') (g:Nat):Ev st (setG st' g):=⟨h.k,h.a,h.p,h.f⟩
section
variable {M:Model} {A:Around} {E:Value->Shared->Prop} {s:Shared} {κ:SortKind} {a₀:Array Keyed} {f:Keyed->Int}
theorem ZAj {a:Array Keyed} {i:Nat} {x:Keyed} {st:SortSt} {Q:Keyed->SortSt->Prop} (h:a[i]?=some x) (q:Q x st):wpS M A E s (elem' a i) Q st:=by
 rw [elem'_eq,h]
 exact wpS_pure q
noncomputable def InA (a₀ a:Array Keyed):Prop:=∀ x∈a.toList,x∈a₀.toList
theorem InA.get {a:Array Keyed} (h:InA a₀ a) {i:Nat} {x:Keyed} (e:a[i]?=some x):x∈a₀.toList:=h x (by rw [yBF] at e;obtain ⟨_,rfl⟩:=e;simp)
theorem ZBD {a:Array Keyed} {i:Nat} {x:Keyed} (e:a[i]?=some x):kn f a i=f x:=by unfold kn;rw [e];rfl
theorem ZCS {a:Array Keyed} {i:Nat} (h:i < a.size):∃ x,a[i]?=some x:=⟨_,getElem?_pos a i h⟩
theorem past_at {left:Bool} {z x:Keyed} {arr:Array Keyed} {base i:Nat} {st:SortSt} {Q:Option Bool->SortSt->Prop} (L:Asks M A E s κ a₀ f) (J:kindOf st=κ) (hx:arr[base+i]?=some x) (h1:x∈a₀.toList) (h2:z∈a₀.toList)
  (q:Q (some (if left=true then decide (f x < f z) else !decide (f z < f x))) st):wpS M A E s (past left z arr base i) Q st:=by
 unfold past
 refine wpS_bind (ZAj hx ?_)
 cases left with
 | true=>exact L.lt x z h1 h2 st _ J q
 | false=>
  refine wpS_bind (L.lt z x h2 h1 st _ J ?_)
  exact wpS_pure q
theorem ZEw {J:Keyed} {arr:Array Keyed} {base n O:Nat} {st:SortSt} {Q:Option Nat->SortSt->Prop} (L:Asks M A E s κ a₀ f) (hk:kindOf st=κ) (hi:InA a₀ arr) (U:J∈a₀.toList) (hh:O < n) (hs:base+n <= arr.size) (hu:Up f arr base n)
  (h:∀ k,k <= n->(∀ i,i < k->kn f arr (base+i) <= f J)->(∀ i,k <= i->i < n->f J < kn f arr (base+i))->Q (some k) st):wpS M A E s (gal false J arr base n O) Q st:=by
 refine gal_ok (fun i=>!decide (f J < kn f arr (base+i))) hh (fun i a0 Q q=>?_) (fun i j Z Y z3=>?_) fun k k1 k2 k3=>h k k1 (fun i z=>?_) fun i Z Y=>?_
 .obtain ⟨x,hx⟩:=ZCS (a:=arr) (i:=base+i) (by omega)
  refine past_at L hk hx (hi.get hx) U ?_
  rw [ZBD hx] at q
  exact q
 .have:=hu (base+i) (base+j) (by omega) (by omega) (by omega)
  simp at z3 ⊢
  omega
 .have:=k2 i z
  simp at this
  exact this
 .have:=k3 i Z Y
  simp at this
  exact this
theorem ZEG {J:Keyed} {arr:Array Keyed} {base n O:Nat} {st:SortSt} {Q:Option Nat->SortSt->Prop} (L:Asks M A E s κ a₀ f) (hk:kindOf st=κ) (hi:InA a₀ arr) (U:J∈a₀.toList) (hh:O < n) (hs:base+n <= arr.size) (hu:Up f arr base n)
  (h:∀ k,k <= n->(∀ i,i < k->kn f arr (base+i) < f J)->(∀ i,k <= i->i < n->f J <= kn f arr (base+i))->Q (some k) st):wpS M A E s (gal true J arr base n O) Q st:=by
 refine gal_ok (fun i=>decide (kn f arr (base+i) < f J)) hh (fun i a0 Q q=>?_) (fun i j Z Y z3=>?_) fun k k1 k2 k3=>h k k1 (fun i z=>?_) fun i Z Y=>?_
 .obtain ⟨x,hx⟩:=ZCS (a:=arr) (i:=base+i) (by omega)
  refine past_at L hk hx (hi.get hx) U ?_
  rw [ZBD hx] at q
  exact q
 .have:=hu (base+i) (base+j) (by omega) (by omega) (by omega)
  simp at z3 ⊢
  omega
 .have:=k2 i z
  simp at this
  exact this
 .have:=k3 i Z Y
  simp at this
  exact this
theorem ZCt {a:Array Keyed} {i:Nat} {x:Keyed} (h:x∈a.toList.drop i):∃ k,i <= k /\ k < a.size /\ kn f a k=f x /\ a[k]?=some x:=by
 obtain ⟨n,hn⟩:=yBK h
 rw [yBH] at hn
 rw [yBE] at hn
 exact ⟨i+n,by omega,(yBF.mp hn).1,ZBD hn,hn⟩
theorem mem_take {a:Array Keyed} {i k:Nat} {x:Keyed} (h:x∈(a.toList.drop i).take k):∃ n,i <= n /\ n < i+k /\ n < a.size /\ kn f a n=f x:=by
 obtain ⟨n,hn⟩:=yBK h
 have hl:=(yAM.mp hn).1
 rw [yAS] at hl
 rw [yBY (by omega),yBH,yBE] at hn
 exact ⟨i+n,by omega,by omega,(yBF.mp hn).1,ZBD hn⟩
structure Two (a₀:Array Keyed) (f:Keyed->Int) (a b:Array Keyed):Prop where
 ia:InA a₀ a
 ib:InA a₀ b
 ua:Up f a 0 a.size
 ub:Up f b 0 b.size
 na:1 <= a.size
 nb:1 <= b.size
 lo:∀ i,i < a.size->kn f b 0 <= kn f a i
 hi:∀ j,j < b.size->kn f b j <= kn f a (a.size-1)
end
end L2S
namespace L2S
open PySem PyProof.Rows
noncomputable abbrev C5:=Option (Array Keyed)×Array Keyed×Nat×Nat×Nat
noncomputable abbrev C6:=Option (Array Keyed)×Array Keyed×Nat×Nat×Nat×Nat
noncomputable abbrev C7:=Option (Array Keyed)×Array Keyed×Nat×Nat×Nat×Nat×Nat
noncomputable abbrev SM (α:Type):=StateT SortSt Sem α
noncomputable abbrev dnA (a b o:Array Keyed) (i j:Nat):Array Keyed:=o++a.extract i a.size++b.extract j b.size
noncomputable abbrev laA (a b o:Array Keyed) (i j:Nat):Array Keyed:=o++b.extract j b.size++a.extract i a.size
noncomputable def lo1 (a b:Array Keyed) (mg:Nat) (c:C6):SM (ForInStep C6):=do
 let y <- elem' b c.2.2.2.1
 let x <- elem' a c.2.2.1
 let r <- lt' y x
 match r with
 | some w=>
  if w=true then do
   let y <- elem' b c.2.2.2.1
   if (c.2.2.2.1+1 == b.size)=true then pure (.done (some (dnA a b (c.2.1.push y) c.2.2.1 (c.2.2.2.1+1)),c.2.1.push y,c.2.2.1,c.2.2.2.1+1,0,c.2.2.2.2.2+1))
   else if c.2.2.2.2.2+1≥mg then pure (.done (none,c.2.1.push y,c.2.2.1,c.2.2.2.1+1,0,c.2.2.2.2.2+1))
   else pure (.yield (none,c.2.1.push y,c.2.2.1,c.2.2.2.1+1,0,c.2.2.2.2.2+1))
  else do
   let x <- elem' a c.2.2.1
   if (c.2.2.1+1+1 == a.size)=true then pure (.done (some (laA a b (c.2.1.push x) (c.2.2.1+1) c.2.2.2.1),c.2.1.push x,c.2.2.1+1,c.2.2.2.1,c.2.2.2.2.1+1,0))
   else if c.2.2.2.2.1+1≥mg then pure (.done (none,c.2.1.push x,c.2.2.1+1,c.2.2.2.1,c.2.2.2.2.1+1,0))
   else pure (.yield (none,c.2.1.push x,c.2.2.1+1,c.2.2.2.1,c.2.2.2.2.1+1,0))
 | _=>pure (.done (some (dnA a b c.2.1 c.2.2.1 c.2.2.2.1),c.2.1,c.2.2.1,c.2.2.2.1,c.2.2.2.2.1,c.2.2.2.2.2))
noncomputable def lo4 (a b:Array Keyed) (g ac bc:Nat) (o:Array Keyed) (i j:Nat):SM (ForInStep C7):=do
 let x <- elem' a i
 if (i+1+1 == a.size)=true then pure (.done (some (laA a b (o.push x) (i+1) j),o.push x,i+1,j,g,ac,bc))
 else if (decide (ac < 7) && decide (bc < 7))=true then pure (.done (none,o.push x,i+1,j,g,ac,bc))
 else pure (.yield (none,o.push x,i+1,j,g,ac,bc))
noncomputable def lo3 (a b:Array Keyed) (g ac bc:Nat) (o:Array Keyed) (i j:Nat):SM (ForInStep C7):=do
 let y <- elem' b j
 if (j+1 == b.size)=true then pure (.done (some (dnA a b (o.push y) i (j+1)),o.push y,i,j+1,g,ac,bc))
 else do
  let x <- elem' a i
  let r <- gal true x b (j+1) (b.size-(j+1)) 0
  match r with
  | some k=>
   if k > 0 then
    if (j+1+k == b.size)=true then pure (.done (some (dnA a b (o.push y++b.extract (j+1) (j+1+k)) i (j+1+k)),o.push y++b.extract (j+1) (j+1+k),i,j+1+k,g,ac,k))
    else lo4 a b g ac k (o.push y++b.extract (j+1) (j+1+k)) i (j+1+k)
   else lo4 a b g ac k (o.push y) i (j+1)
  | _=>pure (.done (some (dnA a b (o.push y) i (j+1)),o.push y,i,j+1,g,ac,bc))
noncomputable def lo2 (a b:Array Keyed) (g ac bc:Nat) (o:Array Keyed) (i j:Nat):SM (ForInStep C7):=do
 modify fun st=>setG st g
 let y <- elem' b j
 let r <- gal false y a i (a.size-i) 0
 match r with
 | some k=>
  if k > 0 then
   if (i+k+1 == a.size)=true then pure (.done (some (laA a b (o++a.extract i (i+k)) (i+k) j),o++a.extract i (i+k),i+k,j,g,k,bc))
   else if (i+k == a.size)=true then pure (.done (some (dnA a b (o++a.extract i (i+k)) (i+k) j),o++a.extract i (i+k),i+k,j,g,k,bc))
   else lo3 a b g k bc (o++a.extract i (i+k)) (i+k) j
  else lo3 a b g k bc o i j
 | _=>pure (.done (some (dnA a b o i j),o,i,j,g,ac,bc))
noncomputable def loB (a b:Array Keyed) (c:C7):SM (ForInStep C7) :=
 if c.2.2.2.2.1 > 1 then lo2 a b (c.2.2.2.2.1-1) c.2.2.2.2.2.1 c.2.2.2.2.2.2 c.2.1 c.2.2.1 c.2.2.2.1
 else lo2 a b c.2.2.2.2.1 c.2.2.2.2.2.1 c.2.2.2.2.2.2 c.2.1 c.2.2.1 c.2.2.2.1
noncomputable def loO (a b:Array Keyed) (c:C5):SM (ForInStep C5):=do
 let c1 <- forIn [0:a.size+b.size] ((none,c.2.1,c.2.2.1,c.2.2.2.1,0,0):C6) fun _ d=>lo1 a b c.2.2.2.2 d
 match c1.1 with
 | some r=>pure (.done (some r,c1.2.1,c1.2.2.1,c1.2.2.2.1,c.2.2.2.2))
 | none=>do
  liftM (rule "list.sort.gallop")
  let c2 <- forIn [0:a.size+b.size] ((none,c1.2.1,c1.2.2.1,c1.2.2.2.1,c.2.2.2.2+1,c1.2.2.2.2.1,c1.2.2.2.2.2):C7) fun _ d=>loB a b d
  match c2.1 with
  | some r=>pure (.done (some r,c2.2.1,c2.2.2.1,c2.2.2.2.1,c2.2.2.2.2.1))
  | none=>do
   modify fun st=>setG st (c2.2.2.2.2.1+1)
   pure (.yield (none,c2.2.1,c2.2.2.1,c2.2.2.2.1,c2.2.2.2.2.1+1))
theorem bnd2 {α L:Type} {m z:StateT SortSt Sem α} {g h:α->StateT SortSt Sem L} (J:m=z) (e:∀ a,g a=h a):(m >>= g)=(z >>= h):=by rw [J,show g=h from funext e]
theorem for2 {z:Type} {r:Std.Legacy.Range} {c:z} {g h:Nat->z->StateT SortSt Sem (ForInStep z)} (e:∀ x c,g x c=h x c):forIn r c g=forIn r c h:=by rw [show g=h from funext fun x=>funext (e x)]
theorem if2 {α:Type} {c:Prop} [Decidable c] {x y z J:α} (L:x=z) (e2:y=J):(if c then x else y)=(if c then z else J):=by rw [L,e2]
theorem mLo_low (a b:Array Keyed):mLo a b=(do
 liftM (rule "list.sort.merge-lo")
 let y <- elem' b 0
 if (1 == b.size)=true then pure (dnA a b #[y] 0 1)
 else if (0+1 == a.size)=true then pure (laA a b #[y] 0 1)
 else do
  let st <- get
  let c <- forIn [0:a.size+b.size] ((none,#[y],0,1,gallopOf st):C5) fun _ d=>loO a b d
  match c.1 with
  | some r=>pure r
  | none=>liftM (unsupported "internal:list.sort.merge-bound":Sem (Array Keyed))):=by
 rw [mLo_eq]
 refine bnd _ fun _=>bnd _ fun y=>?_
 refine if2 rfl (if2 rfl ?_)
 refine bnd _ fun st=>bnd2 (for2 fun _ c=>?_) fun c=>?_
 .unfold loO
  refine bnd2 (for2 fun _ d=>?_) fun c1=>?_
  .rfl
  .obtain ⟨r,o,i,j,ac,bc⟩:=c1
   cases r with
   | some r=>rfl
   | none=>
    refine bnd2 rfl fun _=>bnd2 (for2 fun _ d=>?_) fun c2=>?_
    .unfold loB
     refine if2 ?_ ?_
     all_goals
      unfold lo2
      refine bnd2 rfl fun _=>bnd2 rfl fun y=>bnd2 rfl fun r=>?_
      cases r with
      | none=>rfl
      | some k=>
       refine if2 (if2 rfl (if2 rfl ?_)) ?_
       all_goals
        unfold lo3
        refine bnd2 rfl fun O=>if2 rfl (bnd2 rfl fun L=>bnd2 rfl fun z=>?_)
        cases z with
        | none=>rfl
        | some k2=>
         refine if2 (if2 rfl ?_) ?_
         all_goals
          unfold lo4
          refine bnd2 rfl fun J=>if2 rfl (if2 rfl rfl)
    .obtain ⟨r,o,i,j,g,ac,bc⟩:=c2
     cases r with
     | some r=>rfl
     | none=>rfl
 .obtain ⟨r,o,i,j,g⟩:=c
  cases r with
  | some r=>rfl
  | none=>rfl
end L2S
namespace L2S
open PySem PyProof.Rows
section
variable {M:Model} {A:Around} {E:Value->Shared->Prop} {s:Shared} {κ:SortKind} {a₀:Array Keyed} {f:Keyed->Int} {a b o:Array Keyed} {i j:Nat}
theorem ZE3 {a:Array Keyed} (h:Up f a 0 a.size):a.toList.Pairwise (leK f):=by
 rw [List.pairwise_iff_getElem]
 intro i j hi J z
 rw [yAI] at hi J
 have:=h i j (yAD _) (yBP z) (by omega)
 rw [ZBD (getElem?_pos a i hi),ZBD (getElem?_pos a j J)] at this
 simpa [leK] using this
noncomputable abbrev JA (f:Keyed->Int) (a b o:Array Keyed) (i j:Nat):Prop:=Jm f a.toList b.toList o.toList i j
noncomputable abbrev Fin (f:Keyed->Int) (a b r:Array Keyed):Prop:=Good f a.toList b.toList r.toList
theorem JA.dn (h:JA f a b o i j) (e:a.size <= i∨b.size <= j):Fin f a b (dnA a b o i j):=by
 have g:=Jm.dn h (e.imp (fun z=>List.drop_eq_nil_of_le (by rw [yAI];exact z)) (fun z=>List.drop_eq_nil_of_le (by rw [yAI];exact z)))
 unfold Fin dnA
 rw [yBT,yBT,ZDk,ZDk]
 exact g
theorem JA.la (h:JA f a b o i j) (T:Two a₀ f a b) (e:i+1=a.size):Fin f a b (laA a b o i j):=by
 have g:=Jm.la h fun x hx y L=>by
  obtain ⟨k,k1,k2,k3,_⟩:=ZCt (f:=f) hx
  obtain ⟨n,O,z,J,_⟩:=ZCt (f:=f) L
  have:=T.hi n z
  rw [show a.size-1=k by omega,k3,J] at this
  exact this
 unfold Fin laA
 rw [yBT,yBT,ZDk,ZDk]
 exact g
theorem JA.pushA {x:Keyed} (h:JA f a b o i j) (hx:a[i]?=some x) (hc:∀ n,j <= n->n < b.size->f x <= kn f b n):JA f a b (o.push x) (i+1) j:=by
 have g:=Jm.chunk h 1 fun u z y U=>by
  rw [ZEu hx,yAP] at z
  obtain ⟨n,L,J,O,_⟩:=ZCt (f:=f) U
  rw [z,<- O]
  exact hc n L J
 rw [ZEu hx] at g
 unfold JA
 rw [Array.toList_push]
 exact g
theorem JA.pushB {x:Keyed} (h:JA f a b o i j) (hx:b[j]?=some x) (hc:∀ n,i <= n->n < a.size->f x <= kn f a n):JA f a b (o.push x) i (j+1) :=
 (JA.pushA (Jm.swap h) hx hc).swap
theorem JA.chunkA (h:JA f a b o i j) (k:Nat) (hc:∀ n m,i <= n->n < i+k->n < a.size->j <= m->m < b.size->kn f a n <= kn f b m):JA f a b (o++a.extract i (i+k)) (i+k) j:=by
 have g:=Jm.chunk h k fun u Y y hy=>by
  obtain ⟨n,O,J,n3,L⟩:=mem_take (f:=f) Y
  obtain ⟨m,Z,U,z,_⟩:=ZCt (f:=f) hy
  rw [<- L,<- z]
  exact hc n m O J n3 Z U
 unfold JA
 rw [yBT,ZEI]
 exact g
theorem JA.chunkB (h:JA f a b o i j) (k:Nat) (hc:∀ n m,j <= n->n < j+k->n < b.size->i <= m->m < a.size->kn f b n <= kn f a m):JA f a b (o++b.extract j (j+k)) i (j+k) :=
 (JA.chunkA (Jm.swap h) k hc).swap
theorem Up.sub {xs:Array Keyed} {n:Nat} (h:Up f xs 0 n) {lo m:Nat} (e:lo+m <= n):Up f xs lo m:=fun i j L z J=>h i j (yAD _) z (by omega)
noncomputable def R7 (f:Keyed->Int) (a b:Array Keyed) (st:SortSt) (x:Nat):ForInStep C7->SortSt->Prop
 | .done c,st'=>Ev st st' /\ ((∃ r z,c=(some r,z) /\ Fin f a b r)∨∃ o i j g ac bc,c=(none,o,i,j,g,ac,bc) /\ JA f a b o i j /\ i+1 < a.size /\ j < b.size /\ x+2 <= i+j)
 | .yield c,st'=>Ev st st' /\ ∃ o i j g ac bc,c=(none,o,i,j,g,ac,bc) /\ JA f a b o i j /\ i+1 < a.size /\ j < b.size /\ x+2 <= i+j
theorem mLo_ok {st:SortSt} {Q:Array Keyed->SortSt->Prop} (L:Asks M A E s κ a₀ f) (hk:kindOf st=κ) (T:Two a₀ f a b) (h:∀ r st',Ev st st'->Fin f a b r->Q r st'):wpS M A E s (mLo a b) Q st:=by
 have ta:=T.na
 have tb:=T.nb
 have ua:∀ n m,n <= m->m < a.size->kn f a n <= kn f a m:=fun n m z1 z2=>T.ua n m (yAD _) z1 (by omega)
 have ub:∀ n m,n <= m->m < b.size->kn f b n <= kn f b m:=fun n m z1 z2=>T.ub n m (yAD _) z1 (by omega)
 rw [mLo_low]
 refine wpS_bind (wpS_lift (wpAny_rule ⟨rfl,?_⟩))
 obtain ⟨y0,a3⟩:=ZCS (a:=b) (i:=0) (by omega)
 refine wpS_bind (ZAj a3 ?_)
 have J0:JA f a b #[y0] 0 1:=by
  have e:JA f a b #[] 0 0:=⟨by simp,by simpa using ZE3 T.ua,by simpa using ZE3 T.ub⟩
  have:=JA.pushB e a3 fun n _ n2=>by rw [<- ZBD (f:=f) a3];exact T.lo n n2
  exact this
 by_cases c1:1=b.size
 .rw [if_pos (by simpa using c1)]
  exact wpS_pure (h _ st .refl (J0.dn (.inr (by omega))))
 rw [if_neg (by simpa using c1)]
 by_cases c2:0+1=a.size
 .rw [if_pos (by simpa using c2)]
  exact wpS_pure (h _ st .refl (J0.la T c2))
 rw [if_neg (by simpa using c2)]
 refine wpS_bind (wpS_get ?_)
 refine wpS_bind (wpS_mono (wpS_forRange (I:=fun x c st'=>Ev st st' /\ ∃ o i j g,c=(none,o,i,j,g) /\ JA f a b o i j /\ i+1 < a.size /\ j < b.size /\ x+1 <= i+j) (Q:=fun c st'=>Ev st st' /\ ∃ r z,c=(some r,z) /\ Fin f a b r) ?_ ?_ ⟨.refl,_,0,1,_,rfl,J0,by omega,by omega,by omega⟩) ?_)
 .rintro x c a4 _ hx ⟨e1,o,i,j,g,rfl,J,hi,Y,hp⟩
  unfold loO
  dsimp only
  refine wpS_bind (wpS_mono (wpS_forRange (I:=fun y c st'=>Ev st st' /\ ∃ o i j ac bc,c=(none,o,i,j,ac,bc) /\ JA f a b o i j /\ i+1 < a.size /\ j < b.size /\ x+1+y <= i+j)
   (Q:=fun c st'=>Ev st st' /\ ((∃ r z,c=(some r,z) /\ Fin f a b r)∨∃ o i j ac bc,c=(none,o,i,j,ac,bc) /\ JA f a b o i j /\ i+1 < a.size /\ j < b.size /\ x+2 <= i+j)) ?_ ?_ ⟨e1,o,i,j,0,0,rfl,J,hi,Y,by omega⟩) ?_)
  .rintro y c st2 _ hy ⟨e2,o,i,j,ac,bc,rfl,J,hi,Y,hp⟩
   unfold lo1
   dsimp only
   obtain ⟨yb,U⟩:=ZCS (a:=b) Y
   obtain ⟨xa,O⟩:=ZCS (a:=a) (i:=i) (by omega)
   refine wpS_bind (ZAj U ?_)
   refine wpS_bind (ZAj O ?_)
   refine wpS_bind (L.lt yb xa (T.ib.get U) (T.ia.get O) st2 _ (e2.k.trans hk) ?_)
   by_cases hw:f yb < f xa
   .rw [decide_eq_true hw]
    dsimp only
    rw [if_pos rfl]
    refine wpS_bind (ZAj U ?_)
    have Z:=J.pushB U fun n n1 n2=>by
     have:=ua i n n1 n2
     rw [ZBD O] at this
     omega
    by_cases c3:j+1=b.size
    .rw [if_pos (by simpa using c3)]
     exact wpS_pure ⟨e2,.inl ⟨_,_,rfl,Z.dn (.inr (by omega))⟩⟩
    rw [if_neg (by simpa using c3)]
    split
    .exact wpS_pure ⟨e2,.inr ⟨_,_,_,_,_,rfl,Z,hi,by omega,by omega⟩⟩
    .exact wpS_pure ⟨e2,_,_,_,_,_,rfl,Z,hi,by omega,by omega⟩
   .rw [decide_eq_false hw]
    dsimp only
    rw [if_neg (by decide)]
    refine wpS_bind (ZAj O ?_)
    have Z:=J.pushA O fun n n1 n2=>by
     have:=ub j n n1 n2
     rw [ZBD U] at this
     omega
    by_cases c3:i+1+1=a.size
    .rw [if_pos (by simpa using c3)]
     exact wpS_pure ⟨e2,.inl ⟨_,_,rfl,Z.la T c3⟩⟩
    rw [if_neg (by simpa using c3)]
    split
    .exact wpS_pure ⟨e2,.inr ⟨_,_,_,_,_,rfl,Z,by omega,Y,by omega⟩⟩
    .exact wpS_pure ⟨e2,_,_,_,_,_,rfl,Z,by omega,Y,by omega⟩
  .rintro c st2 ⟨e2,o,i,j,ac,bc,rfl,J,hi,Y,hp⟩
   exact ⟨e2,.inr ⟨_,_,_,_,_,rfl,J,hi,Y,by omega⟩⟩
  .rintro c st2 ⟨e2,⟨r,z,rfl,hr⟩ | ⟨o,i,j,ac,bc,rfl,J,hi,Y,hp⟩⟩
   .exact wpS_pure ⟨e2,r,_,rfl,hr⟩
   dsimp only
   refine wpS_bind (wpS_lift (wpAny_rule ⟨rfl,?_⟩))
   refine wpS_bind (wpS_mono (wpS_forRange (I:=fun y c st'=>Ev st st' /\ ∃ o i j g ac bc,c=(none,o,i,j,g,ac,bc) /\ JA f a b o i j /\ i+1 < a.size /\ j < b.size /\ x+2 <= i+j)
    (Q:=fun c st'=>Ev st st' /\ ((∃ r z,c=(some r,z) /\ Fin f a b r)∨∃ o i j g ac bc,c=(none,o,i,j,g,ac,bc) /\ JA f a b o i j /\ i+1 < a.size /\ j < b.size /\ x+2 <= i+j)) ?_ ?_ ⟨e2,o,i,j,_,ac,bc,rfl,J,hi,Y,hp⟩) ?_)
   .rintro y c st3 _ hy ⟨e3,o,i,j,g,ac,bc,rfl,J,hi,Y,hp⟩
    have a1:∀ (g ac bc:Nat) (o:Array Keyed) (i j:Nat) (st4:SortSt) (xa:Keyed),Ev st st4->JA f a b o i j->i+1 < a.size->j < b.size->x+2 <= i+j->a[i]?=some xa->(∀ n,j <= n->n < b.size->f xa <= kn f b n) ->
      wpS M A E s (lo4 a b g ac bc o i j) (R7 f a b st x) st4:=by
     intro g ac bc o i j st4 xa e4 J hi Y hp O a2
     unfold lo4
     refine wpS_bind (ZAj O ?_)
     have Z:=J.pushA O a2
     by_cases c3:i+1+1=a.size
     .rw [if_pos (by simpa using c3)]
      exact wpS_pure ⟨e4,.inl ⟨_,_,rfl,Z.la T c3⟩⟩
     rw [if_neg (by simpa using c3)]
     split
     .exact wpS_pure ⟨e4,.inr ⟨_,_,_,_,_,_,rfl,Z,by omega,Y,by omega⟩⟩
     .exact wpS_pure ⟨e4,_,_,_,_,_,_,rfl,Z,by omega,Y,by omega⟩
    have a0:∀ (g ac bc:Nat) (o:Array Keyed) (i j:Nat) (st4:SortSt) (yb:Keyed),Ev st st4->JA f a b o i j->i+1 < a.size->j < b.size->x+2 <= i+j->b[j]?=some yb->(∀ n,i <= n->n < a.size->f yb <= kn f a n) ->
      wpS M A E s (lo3 a b g ac bc o i j) (R7 f a b st x) st4:=by
     intro g ac bc o i j st4 yb e4 J hi Y hp U a2
     unfold lo3
     refine wpS_bind (ZAj U ?_)
     have Z:=J.pushB U a2
     by_cases c3:j+1=b.size
     .rw [if_pos (by simpa using c3)]
      exact wpS_pure ⟨e4,.inl ⟨_,_,rfl,Z.dn (.inr (by omega))⟩⟩
     rw [if_neg (by simpa using c3)]
     obtain ⟨xa,O⟩:=ZCS (a:=a) (i:=i) (by omega)
     refine wpS_bind (ZAj O ?_)
     refine wpS_bind (ZEG L (e4.k.trans hk) T.ib (T.ia.get O) (by omega) (by omega) (T.ub.sub (by omega)) fun k k1 k2 k3=>?_)
     dsimp only
     have rest:∀ n,j+1+k <= n->n < b.size->f xa <= kn f b n:=fun n n1 n2=>by
      have:=k3 (n-(j+1)) (by omega) (by omega)
      rw [show j+1+(n-(j+1))=n by omega] at this
      exact this
     by_cases hk0:k > 0
     .rw [if_pos hk0]
      have J3:=Z.chunkB k fun n m n1 n2 n3 m1 m2=>by
       have z:=k2 (n-(j+1)) (by omega)
       rw [show j+1+(n-(j+1))=n by omega] at z
       have z2:=ua i m m1 m2
       rw [ZBD O] at z2
       omega
      by_cases c4:j+1+k=b.size
      .rw [if_pos (by simpa using c4)]
       exact wpS_pure ⟨e4,.inl ⟨_,_,rfl,J3.dn (.inr (by omega))⟩⟩
      rw [if_neg (by simpa using c4)]
      exact a1 _ _ _ _ _ _ _ xa e4 J3 hi (by omega) (by omega) O rest
     .rw [if_neg hk0]
      have:k=0:=by omega
      subst this
      exact a1 _ _ _ _ _ _ _ xa e4 Z hi (by omega) (by omega) O rest
    have two:∀ (g ac bc:Nat),wpS M A E s (lo2 a b g ac bc o i j) (R7 f a b st x) st3:=by
     intro g ac bc
     unfold lo2
     obtain ⟨yb,U⟩:=ZCS (a:=b) Y
     refine wpS_bind (wpS_modify ?_)
     have e4:=e3.setG g
     refine wpS_bind (ZAj U ?_)
     refine wpS_bind (ZEw L (e4.k.trans hk) T.ia (T.ib.get U) (by omega) (by omega) (T.ua.sub (by omega)) fun k k1 k2 k3=>?_)
     dsimp only
     have rest:∀ n,i+k <= n->n < a.size->f yb <= kn f a n:=fun n n1 n2=>by
      have:=k3 (n-i) (by omega) (by omega)
      rw [show i+(n-i)=n by omega] at this
      omega
     by_cases hk0:k > 0
     .rw [if_pos hk0]
      have J3:=J.chunkA k fun n m n1 n2 n3 m1 m2=>by
       have z:=k2 (n-i) (by omega)
       rw [show i+(n-i)=n by omega] at z
       have z2:=ub j m m1 m2
       rw [ZBD U] at z2
       omega
      by_cases c4:i+k+1=a.size
      .rw [if_pos (by simpa using c4)]
       exact wpS_pure ⟨e4,.inl ⟨_,_,rfl,J3.la T c4⟩⟩
      rw [if_neg (by simpa using c4)]
      by_cases c5:i+k=a.size
      .rw [if_pos (by simpa using c5)]
       exact wpS_pure ⟨e4,.inl ⟨_,_,rfl,J3.dn (.inl (by omega))⟩⟩
      rw [if_neg (by simpa using c5)]
      exact a0 _ _ _ _ _ _ _ yb e4 J3 (by omega) Y (by omega) U rest
     .rw [if_neg hk0]
      have:k=0:=by omega
      subst this
      exact a0 _ _ _ _ _ _ _ yb e4 J hi Y hp U rest
    unfold loB
    dsimp only
    split
    .exact wpS_mono (two _ _ _) fun r st' z=>by cases r <;> exact z
    .exact wpS_mono (two _ _ _) fun r st' z=>by cases r <;> exact z
   .rintro c st3 ⟨e3,o,i,j,g,ac,bc,rfl,J,hi,Y,hp⟩
    exact ⟨e3,.inr ⟨_,_,_,_,_,_,rfl,J,hi,Y,hp⟩⟩
   .rintro c st3 ⟨e3,⟨r,z,rfl,hr⟩ | ⟨o,i,j,g,ac,bc,rfl,J,hi,Y,hp⟩⟩
    .exact wpS_pure ⟨e3,r,_,rfl,hr⟩
    .dsimp only
     exact wpS_bind (wpS_modify (wpS_pure ⟨e3.setG _,_,_,_,_,rfl,J,hi,Y,by omega⟩))
 .rintro c a4 ⟨e1,o,i,j,g,rfl,J,hi,Y,hp⟩
  omega
 .rintro c a4 ⟨e1,r,z,rfl,hr⟩
  exact wpS_pure (h r a4 e1 hr)
end
end L2S
namespace L2S
open PySem PyProof.Rows
noncomputable def mHi:Array Keyed->Array Keyed->StateT SortSt Sem (Array Keyed):=sortPriv% PySem.Builtin.mergeHi
theorem mHi_eq (a b:Array Keyed):mHi a b=(do
 rule "list.sort.merge-hi"
 let tt:=a.size+b.size
 let dn (o:Array Keyed) (i j:Nat):=a.extract 0 i++b.extract 0 j++o.reverse
 let fb (o:Array Keyed) (i j:Nat):=b.extract 0 j++a.extract 0 i++o.reverse
 let mut i:=a.size-1
 let mut j:=b.size
 let mut o:Array Keyed:=#[<- elem' a i]
 if i == 0 then return dn o i j
 if j == 1 then return fb o i j
 let mut mg:=gallopOf (<- get)
 for _ in [0:tt] do
  let mut ac:=0
  let mut bc:=0
  for _ in [0:tt] do
   let some w <- lt' (<- elem' b (j-1)) (<- elem' a (i-1)) | return dn o i j
   if w then
    i:=i-1;o:=o.push (<- elem' a i);ac:=ac+1;bc:=0
    if i == 0 then return dn o i j
    if ac≥mg then break
   else
    j:=j-1;o:=o.push (<- elem' b j);bc:=bc+1;ac:=0
    if j == 1 then return fb o i j
    if bc≥mg then break
  rule "list.sort.gallop"
  mg:=mg+1
  for _ in [0:tt] do
   if mg > 1 then mg:=mg-1
   modify fun st=>setG st mg
   let some t <- gal false (<- elem' b (j-1)) a 0 i (i-1) | return dn o i j
   let k:=i-t
   ac:=k
   if k > 0 then
    o:=o++(a.extract t i).reverse;i:=t
    if i == 0 then return dn o i j
   j:=j-1;o:=o.push (<- elem' b j)
   if j == 1 then return fb o i j
   let some t <- gal true (<- elem' a (i-1)) b 0 j (j-1) | return dn o i j
   let k:=j-t
   bc:=k
   if k > 0 then
    o:=o++(b.extract t j).reverse;j:=t
    if j == 1 then return fb o i j
    if j == 0 then return dn o i j
   i:=i-1;o:=o.push (<- elem' a i)
   if i == 0 then return dn o i j
   if ac < 7 && bc < 7 then break
  mg:=mg+1
  modify fun st=>setG st mg
 unsupported "internal:list.sort.merge-bound"):=rfl
noncomputable abbrev D5:=Option (Array Keyed)×Nat×Nat×Array Keyed×Nat
noncomputable abbrev D6:=Option (Array Keyed)×Nat×Nat×Array Keyed×Nat×Nat
noncomputable abbrev D7:=Option (Array Keyed)×Nat×Nat×Array Keyed×Nat×Nat×Nat
noncomputable abbrev dnH (a b o:Array Keyed) (i j:Nat):Array Keyed:=a.extract 0 i++b.extract 0 j++o.reverse
noncomputable abbrev fbH (a b o:Array Keyed) (i j:Nat):Array Keyed:=b.extract 0 j++a.extract 0 i++o.reverse
noncomputable def hi1 (a b:Array Keyed) (mg:Nat) (c:D6):SM (ForInStep D6):=do
 let y <- elem' b (c.2.2.1-1)
 let x <- elem' a (c.2.1-1)
 let r <- lt' y x
 match r with
 | some w=>
  if w=true then do
   let x <- elem' a (c.2.1-1)
   if (c.2.1-1 == 0)=true then pure (.done (some (dnH a b (c.2.2.2.1.push x) (c.2.1-1) c.2.2.1),c.2.1-1,c.2.2.1,c.2.2.2.1.push x,c.2.2.2.2.1+1,0))
   else if c.2.2.2.2.1+1≥mg then pure (.done (none,c.2.1-1,c.2.2.1,c.2.2.2.1.push x,c.2.2.2.2.1+1,0))
   else pure (.yield (none,c.2.1-1,c.2.2.1,c.2.2.2.1.push x,c.2.2.2.2.1+1,0))
  else do
   let y <- elem' b (c.2.2.1-1)
   if (c.2.2.1-1 == 1)=true then pure (.done (some (fbH a b (c.2.2.2.1.push y) c.2.1 (c.2.2.1-1)),c.2.1,c.2.2.1-1,c.2.2.2.1.push y,0,c.2.2.2.2.2+1))
   else if c.2.2.2.2.2+1≥mg then pure (.done (none,c.2.1,c.2.2.1-1,c.2.2.2.1.push y,0,c.2.2.2.2.2+1))
   else pure (.yield (none,c.2.1,c.2.2.1-1,c.2.2.2.1.push y,0,c.2.2.2.2.2+1))
 | _=>pure (.done (some (dnH a b c.2.2.2.1 c.2.1 c.2.2.1),c.2.1,c.2.2.1,c.2.2.2.1,c.2.2.2.2.1,c.2.2.2.2.2))
noncomputable def hi4 (a b:Array Keyed) (g ac bc:Nat) (o:Array Keyed) (i j:Nat):SM (ForInStep D7):=do
 let x <- elem' a (i-1)
 if (i-1 == 0)=true then pure (.done (some (dnH a b (o.push x) (i-1) j),i-1,j,o.push x,g,ac,bc))
 else if (decide (ac < 7) && decide (bc < 7))=true then pure (.done (none,i-1,j,o.push x,g,ac,bc))
 else pure (.yield (none,i-1,j,o.push x,g,ac,bc))
noncomputable def hi3 (a b:Array Keyed) (g ac bc:Nat) (o:Array Keyed) (i j:Nat):SM (ForInStep D7):=do
 let y <- elem' b (j-1)
 if (j-1 == 1)=true then pure (.done (some (fbH a b (o.push y) i (j-1)),i,j-1,o.push y,g,ac,bc))
 else do
  let x <- elem' a (i-1)
  let r <- gal true x b 0 (j-1) (j-1-1)
  match r with
  | some t=>
   if j-1-t > 0 then
    if (t == 1)=true then pure (.done (some (fbH a b (o.push y++(b.extract t (j-1)).reverse) i t),i,t,o.push y++(b.extract t (j-1)).reverse,g,ac,j-1-t))
    else if (t == 0)=true then pure (.done (some (dnH a b (o.push y++(b.extract t (j-1)).reverse) i t),i,t,o.push y++(b.extract t (j-1)).reverse,g,ac,j-1-t))
    else hi4 a b g ac (j-1-t) (o.push y++(b.extract t (j-1)).reverse) i t
   else hi4 a b g ac (j-1-t) (o.push y) i (j-1)
  | _=>pure (.done (some (dnH a b (o.push y) i (j-1)),i,j-1,o.push y,g,ac,bc))
noncomputable def hi2 (a b:Array Keyed) (g ac bc:Nat) (o:Array Keyed) (i j:Nat):SM (ForInStep D7):=do
 modify fun st=>setG st g
 let y <- elem' b (j-1)
 let r <- gal false y a 0 i (i-1)
 match r with
 | some t=>
  if i-t > 0 then
   if (t == 0)=true then pure (.done (some (dnH a b (o++(a.extract t i).reverse) t j),t,j,o++(a.extract t i).reverse,g,i-t,bc))
   else hi3 a b g (i-t) bc (o++(a.extract t i).reverse) t j
  else hi3 a b g (i-t) bc o i j
 | _=>pure (.done (some (dnH a b o i j),i,j,o,g,ac,bc))
noncomputable def hiB (a b:Array Keyed) (c:D7):SM (ForInStep D7) :=
 if c.2.2.2.2.1 > 1 then hi2 a b (c.2.2.2.2.1-1) c.2.2.2.2.2.1 c.2.2.2.2.2.2 c.2.2.2.1 c.2.1 c.2.2.1
 else hi2 a b c.2.2.2.2.1 c.2.2.2.2.2.1 c.2.2.2.2.2.2 c.2.2.2.1 c.2.1 c.2.2.1
noncomputable def hiO (a b:Array Keyed) (c:D5):SM (ForInStep D5):=do
 let c1 <- forIn [0:a.size+b.size] ((none,c.2.1,c.2.2.1,c.2.2.2.1,0,0):D6) fun _ d=>hi1 a b c.2.2.2.2 d
 match c1.1 with
 | some r=>pure (.done (some r,c1.2.1,c1.2.2.1,c1.2.2.2.1,c.2.2.2.2))
 | none=>do
  liftM (rule "list.sort.gallop")
  let c2 <- forIn [0:a.size+b.size] ((none,c1.2.1,c1.2.2.1,c1.2.2.2.1,c.2.2.2.2+1,c1.2.2.2.2.1,c1.2.2.2.2.2):D7) fun _ d=>hiB a b d
  match c2.1 with
  | some r=>pure (.done (some r,c2.2.1,c2.2.2.1,c2.2.2.2.1,c2.2.2.2.2.1))
  | none=>do
   modify fun st=>setG st (c2.2.2.2.2.1+1)
   pure (.yield (none,c2.2.1,c2.2.2.1,c2.2.2.2.1,c2.2.2.2.2.1+1))
theorem mHi_low (a b:Array Keyed):mHi a b=(do
 liftM (rule "list.sort.merge-hi")
 let x <- elem' a (a.size-1)
 if (a.size-1 == 0)=true then pure (dnH a b #[x] (a.size-1) b.size)
 else if (b.size == 1)=true then pure (fbH a b #[x] (a.size-1) b.size)
 else do
  let st <- get
  let c <- forIn [0:a.size+b.size] ((none,a.size-1,b.size,#[x],gallopOf st):D5) fun _ d=>hiO a b d
  match c.1 with
  | some r=>pure r
  | none=>liftM (unsupported "internal:list.sort.merge-bound":Sem (Array Keyed))):=by
 rw [mHi_eq]
 refine bnd _ fun _=>bnd _ fun y=>?_
 refine if2 rfl (if2 rfl ?_)
 refine bnd _ fun st=>bnd2 (for2 fun _ c=>?_) fun c=>?_
 .unfold hiO
  refine bnd2 (for2 fun _ d=>?_) fun c1=>?_
  .rfl
  .obtain ⟨r,i,j,o,ac,bc⟩:=c1
   cases r with
   | some r=>rfl
   | none=>
    refine bnd2 rfl fun _=>bnd2 (for2 fun _ d=>?_) fun c2=>?_
    .unfold hiB
     refine if2 ?_ ?_
     all_goals
      unfold hi2
      refine bnd2 rfl fun _=>bnd2 rfl fun y=>bnd2 rfl fun r=>?_
      cases r with
      | none=>rfl
      | some k=>
       refine if2 (if2 rfl ?_) ?_
       all_goals
        unfold hi3
        refine bnd2 rfl fun O=>if2 rfl (bnd2 rfl fun L=>bnd2 rfl fun z=>?_)
        cases z with
        | none=>rfl
        | some k2=>
         refine if2 (if2 rfl (if2 rfl ?_)) ?_
         all_goals
          unfold hi4
          refine bnd2 rfl fun J=>if2 rfl (if2 rfl rfl)
    .obtain ⟨r,i,j,o,g,ac,bc⟩:=c2
     cases r with
     | some r=>rfl
     | none=>rfl
 .obtain ⟨r,i,j,o,g⟩:=c
  cases r with
  | some r=>rfl
  | none=>rfl
end L2S
namespace L2S
open PySem PyProof.Rows
section
variable {M:Model} {A:Around} {E:Value->Shared->Prop} {s:Shared} {κ:SortKind} {a₀:Array Keyed} {f:Keyed->Int} {a b o:Array Keyed} {i j:Nat}
noncomputable abbrev JH (f:Keyed->Int) (a b o:Array Keyed) (i j:Nat):Prop:=Jm (fun x=>- f x) a.toList.reverse b.toList.reverse o.toList (a.size-i) (b.size-j)
theorem ZBe {a:Array Keyed} {i:Nat} (h:i <= a.size):a.toList.reverse.drop (a.size-i)=(a.toList.take i).reverse:=by
 rw [List.drop_reverse,yAI,show a.size-(a.size-i)=i by omega]
theorem ZET (a:Array Keyed) (i:Nat):(a.extract 0 i).toList=a.toList.take i:=by
 rw [yCE,yCF,Nat.sub_zero]
 rfl
theorem ZEA {a:Array Keyed} {i:Nat} {x:Keyed} (h:i <= a.size) (hx:x∈a.toList.reverse.drop (a.size-i)):∃ k,k < i /\ kn f a k=f x:=by
 rw [ZBe h,List.mem_reverse] at hx
 obtain ⟨n,hn⟩:=yBK hx
 have hl:=(yAM.mp hn).1
 rw [yAS] at hl
 rw [yBY (by omega),yBE] at hn
 exact ⟨n,by omega,ZBD hn⟩
theorem good_rev {as bs r:List Keyed} (h:Good (fun x=>- f x) as.reverse bs.reverse r):Good f as bs r.reverse:=by
 refine ⟨?_,?_⟩
 .refine (List.reverse_perm r).trans (h.1.trans ?_)
  exact List.Perm.append (List.reverse_perm as) (List.reverse_perm bs)
 .rw [List.pairwise_reverse]
  refine h.2.imp fun {x y} z=>?_
  have w:- f x <= - f y:=z
  show f y <= f x
  omega
theorem JH.dn (h:JH f a b o i j) (hi:i <= a.size) (L:j <= b.size) (e:i=0∨j=0):Fin f a b (dnH a b o i j):=by
 have g:=Jm.dn (Jm.swap h) (e.symm.imp (fun z=>by rw [ZBe L,z];rfl) (fun z=>by rw [ZBe hi,z];rfl))
 have J:=good_rev g
 rw [ZBe hi,ZBe L,List.reverse_append,List.reverse_append,List.reverse_reverse,List.reverse_reverse,<- yAV] at J
 unfold Fin dnH
 rw [yBT,yBT,ZET,ZET,Array.toList_reverse]
 exact ⟨J.1.trans yCL,J.2⟩
theorem JH.fb (h:JH f a b o i j) (T:Two a₀ f a b) (hi:i <= a.size) (J:j <= b.size) (e:j=1):Fin f a b (fbH a b o i j):=by
 have g:=Jm.la (Jm.swap h) fun x hx y O=>by
  obtain ⟨k,k1,k2⟩:=ZEA (f:=f) J hx
  obtain ⟨n,U,L⟩:=ZEA (f:=f) hi O
  have:=T.lo n (by omega)
  rw [show k=0 by omega] at k2
  rw [k2,L] at this
  show-f y <= - f x
  omega
 have z:=good_rev g
 rw [ZBe hi,ZBe J,List.reverse_append,List.reverse_append,List.reverse_reverse,List.reverse_reverse,<- yAV] at z
 unfold Fin fbH
 rw [yBT,yBT,ZET,ZET,Array.toList_reverse]
 exact ⟨z.1.trans yCL,z.2⟩
theorem JH.chunkA (h:JH f a b o i j) {t:Nat} (Y:t <= i) (hi:i <= a.size) (U:j <= b.size) (hc:∀ n m,t <= n->n < i->m < j->kn f b m <= kn f a n):JH f a b (o++(a.extract t i).reverse) t j:=by
 have e:(a.toList.reverse.drop (a.size-i)).take (i-t)=(a.extract t i).reverse.toList:=by
  rw [ZBe hi,List.take_reverse,Array.toList_reverse,yCE,yCF,yAS,yAI,yCM hi,show i-(i-t)=t by omega,List.drop_take]
 have g:=Jm.chunk h (i-t) fun u z y J=>by
  obtain ⟨m,L,m2⟩:=ZEA (f:=f) U J
  rw [e,Array.toList_reverse,List.mem_reverse,show i=t+(i-t) by omega,ZEI] at z
  obtain ⟨n,O,Z,n3,n4⟩:=mem_take (f:=f) z
  have:=hc n m O (by omega) L
  show-f u <= - f y
  omega
 rw [e] at g
 unfold JH
 rw [yBT,show a.size-t=a.size-i+(i-t) by omega]
 exact g
theorem JH.chunkB (h:JH f a b o i j) {t:Nat} (z:t <= j) (hi:i <= a.size) (J:j <= b.size) (hc:∀ n m,t <= n->n < j->m < i->kn f a m <= kn f b n):JH f a b (o++(b.extract t j).reverse) i t :=
 (JH.chunkA (Jm.swap h) z J hi hc).swap
theorem one_rev {x:Keyed} (hx:a[i-1]?=some x) (hi:1 <= i):(a.extract (i-1) i).reverse=#[x]:=by
 have e:(a.extract (i-1) i).toList=[x]:=by
  have:=ZEI a (i-1) 1
  rw [show i-1+1=i by omega] at this
  rw [this]
  exact ZEu hx
 apply Array.toList_inj.mp
 rw [Array.toList_reverse,e]
 rfl
theorem JH.pushA {x:Keyed} (h:JH f a b o i j) (hx:a[i-1]?=some x) (h1:1 <= i) (hi:i <= a.size) (z:j <= b.size) (hc:∀ m,m < j->kn f b m <= f x):JH f a b (o.push x) (i-1) j:=by
 have g:=JH.chunkA h (t:=i-1) (by omega) hi z fun n m O L J=>by
  rw [show n=i-1 by omega,ZBD hx]
  exact hc m J
 rw [one_rev hx h1] at g
 rw [show o.push x=o++#[x] from rfl]
 exact g
theorem JH.pushB {x:Keyed} (h:JH f a b o i j) (hx:b[j-1]?=some x) (h1:1 <= j) (hi:i <= a.size) (z:j <= b.size) (hc:∀ m,m < i->kn f a m <= f x):JH f a b (o.push x) i (j-1) :=
 (JH.pushA (Jm.swap h) hx h1 z hi hc).swap
structure At (f:Keyed->Int) (a b:Array Keyed) (x:Nat) (i j:Nat) (o:Array Keyed):Prop where
 J:JH f a b o i j
 i1:1 <= i
 i2:i <= a.size
 j1:2 <= j
 j2:j <= b.size
 p:x+i+j <= a.size+b.size
noncomputable def R7h (f:Keyed->Int) (a b:Array Keyed) (st:SortSt) (x:Nat):ForInStep D7->SortSt->Prop
 | .done c,st'=>Ev st st' /\ ((∃ r z,c=(some r,z) /\ Fin f a b r)∨∃ i j o g ac bc,c=(none,i,j,o,g,ac,bc) /\ At f a b x i j o)
 | .yield c,st'=>Ev st st' /\ ∃ i j o g ac bc,c=(none,i,j,o,g,ac,bc) /\ At f a b x i j o
theorem mHi_ok {st:SortSt} {Q:Array Keyed->SortSt->Prop} (L:Asks M A E s κ a₀ f) (hk:kindOf st=κ) (T:Two a₀ f a b) (h:∀ r st',Ev st st'->Fin f a b r->Q r st'):wpS M A E s (mHi a b) Q st:=by
 have ta:=T.na
 have tb:=T.nb
 have ua:∀ n m,n <= m->m < a.size->kn f a n <= kn f a m:=fun n m z1 z2=>T.ua n m (yAD _) z1 (by omega)
 have ub:∀ n m,n <= m->m < b.size->kn f b n <= kn f b m:=fun n m z1 z2=>T.ub n m (yAD _) z1 (by omega)
 have pr:∀ l:List Keyed,l.Pairwise (leK f)->l.reverse.Pairwise (leK fun x=>- f x):=fun l z=>by
  rw [List.pairwise_reverse]
  refine z.imp fun {x y} w=>?_
  have w':f x <= f y:=w
  show-f y <= - f x
  omega
 rw [mHi_low]
 refine wpS_bind (wpS_lift (wpAny_rule ⟨rfl,?_⟩))
 obtain ⟨x0,a4⟩:=ZCS (a:=a) (i:=a.size-1) (by omega)
 refine wpS_bind (ZAj a4 ?_)
 have J0:JH f a b #[x0] (a.size-1) b.size:=by
  have e:JH f a b #[] a.size b.size:=⟨by simp,by simpa using pr _ (ZE3 T.ua),by simpa using pr _ (ZE3 T.ub)⟩
  exact JH.pushA e a4 ta (yAA _) (yAA _) fun m m1=>by rw [<- ZBD (f:=f) a4];exact T.hi m m1
 by_cases c1:a.size-1=0
 .rw [if_pos (by simpa using c1)]
  exact wpS_pure (h _ st .refl (J0.dn (by omega) (yAA _) (.inl c1)))
 rw [if_neg (by simpa using c1)]
 by_cases c2:b.size=1
 .rw [if_pos (by simpa using c2)]
  exact wpS_pure (h _ st .refl (J0.fb T (by omega) (yAA _) c2))
 rw [if_neg (by simpa using c2)]
 refine wpS_bind (wpS_get ?_)
 refine wpS_bind (wpS_mono (wpS_forRange (I:=fun x c st'=>Ev st st' /\ ∃ i j o g,c=(none,i,j,o,g) /\ At f a b (x+1) i j o) (Q:=fun c st'=>Ev st st' /\ ∃ r z,c=(some r,z) /\ Fin f a b r) ?_ ?_ ⟨.refl,_,_,_,_,rfl,J0,by omega,by omega,by omega,by omega,by omega⟩) ?_)
 .rintro x c a3 _ hx ⟨e1,i,j,o,g,rfl,W⟩
  unfold hiO
  dsimp only
  refine wpS_bind (wpS_mono (wpS_forRange (I:=fun y c st'=>Ev st st' /\ ∃ i j o ac bc,c=(none,i,j,o,ac,bc) /\ At f a b (x+1+y) i j o)
   (Q:=fun c st'=>Ev st st' /\ ((∃ r z,c=(some r,z) /\ Fin f a b r)∨∃ i j o ac bc,c=(none,i,j,o,ac,bc) /\ At f a b (x+2) i j o)) ?_ ?_ ⟨e1,i,j,o,0,0,rfl,W⟩) ?_)
  .rintro y c st2 _ hy ⟨e2,i,j,o,ac,bc,rfl,J,i1,i2,j1,Y,hp⟩
   unfold hi1
   dsimp only
   obtain ⟨yb,U⟩:=ZCS (a:=b) (i:=j-1) (by omega)
   obtain ⟨xa,O⟩:=ZCS (a:=a) (i:=i-1) (by omega)
   refine wpS_bind (ZAj U ?_)
   refine wpS_bind (ZAj O ?_)
   refine wpS_bind (L.lt yb xa (T.ib.get U) (T.ia.get O) st2 _ (e2.k.trans hk) ?_)
   by_cases hw:f yb < f xa
   .rw [decide_eq_true hw]
    dsimp only
    rw [if_pos rfl]
    refine wpS_bind (ZAj O ?_)
    have Z:=J.pushA O i1 i2 Y fun m m1=>by
     have:=ub m (j-1) (by omega) (by omega)
     rw [ZBD U] at this
     omega
    by_cases c3:i-1=0
    .rw [if_pos (by simpa using c3)]
     exact wpS_pure ⟨e2,.inl ⟨_,_,rfl,Z.dn (by omega) Y (.inl c3)⟩⟩
    rw [if_neg (by simpa using c3)]
    split
    .exact wpS_pure ⟨e2,.inr ⟨_,_,_,_,_,rfl,Z,by omega,by omega,j1,Y,by omega⟩⟩
    .exact wpS_pure ⟨e2,_,_,_,_,_,rfl,Z,by omega,by omega,j1,Y,by omega⟩
   .rw [decide_eq_false hw]
    dsimp only
    rw [if_neg (by decide)]
    refine wpS_bind (ZAj U ?_)
    have Z:=J.pushB U (by omega) i2 Y fun m m1=>by
     have:=ua m (i-1) (by omega) (by omega)
     rw [ZBD O] at this
     omega
    by_cases c3:j-1=1
    .rw [if_pos (by simpa using c3)]
     exact wpS_pure ⟨e2,.inl ⟨_,_,rfl,Z.fb T i2 (by omega) c3⟩⟩
    rw [if_neg (by simpa using c3)]
    split
    .exact wpS_pure ⟨e2,.inr ⟨_,_,_,_,_,rfl,Z,i1,i2,by omega,by omega,by omega⟩⟩
    .exact wpS_pure ⟨e2,_,_,_,_,_,rfl,Z,i1,i2,by omega,by omega,by omega⟩
  .rintro c st2 ⟨e2,i,j,o,ac,bc,rfl,J,i1,i2,j1,Y,hp⟩
   exact ⟨e2,.inr ⟨_,_,_,_,_,rfl,J,i1,i2,j1,Y,by omega⟩⟩
  .rintro c st2 ⟨e2,⟨r,z,rfl,hr⟩ | ⟨i,j,o,ac,bc,rfl,W⟩⟩
   .exact wpS_pure ⟨e2,r,_,rfl,hr⟩
   dsimp only
   refine wpS_bind (wpS_lift (wpAny_rule ⟨rfl,?_⟩))
   refine wpS_bind (wpS_mono (wpS_forRange (I:=fun y c st'=>Ev st st' /\ ∃ i j o g ac bc,c=(none,i,j,o,g,ac,bc) /\ At f a b (x+2) i j o)
    (Q:=fun c st'=>Ev st st' /\ ((∃ r z,c=(some r,z) /\ Fin f a b r)∨∃ i j o g ac bc,c=(none,i,j,o,g,ac,bc) /\ At f a b (x+2) i j o)) ?_ ?_ ⟨e2,i,j,o,_,ac,bc,rfl,W⟩) ?_)
   .rintro y c st3 _ hy ⟨e3,i,j,o,g,ac,bc,rfl,J,i1,i2,j1,Y,hp⟩
    have a1:∀ (g ac bc:Nat) (o:Array Keyed) (i j:Nat) (st4:SortSt) (xa:Keyed),Ev st st4->At f a b (x+2) i j o->a[i-1]?=some xa->(∀ n,n < j->kn f b n <= f xa)->wpS M A E s (hi4 a b g ac bc o i j) (R7h f a b st (x+2)) st4:=by
     rintro g ac bc o i j st4 xa e4 ⟨J,i1,i2,j1,Y,hp⟩ O a2
     unfold hi4
     refine wpS_bind (ZAj O ?_)
     have Z:=J.pushA O i1 i2 Y a2
     by_cases c3:i-1=0
     .rw [if_pos (by simpa using c3)]
      exact wpS_pure ⟨e4,.inl ⟨_,_,rfl,Z.dn (by omega) Y (.inl c3)⟩⟩
     rw [if_neg (by simpa using c3)]
     split
     .exact wpS_pure ⟨e4,.inr ⟨_,_,_,_,_,_,rfl,Z,by omega,by omega,j1,Y,by omega⟩⟩
     .exact wpS_pure ⟨e4,_,_,_,_,_,_,rfl,Z,by omega,by omega,j1,Y,by omega⟩
    have a0:∀ (g ac bc:Nat) (o:Array Keyed) (i j:Nat) (st4:SortSt) (yb:Keyed),Ev st st4->At f a b (x+2) i j o->b[j-1]?=some yb->(∀ n,n < i->kn f a n <= f yb)->wpS M A E s (hi3 a b g ac bc o i j) (R7h f a b st (x+2)) st4:=by
     rintro g ac bc o i j st4 yb e4 ⟨J,i1,i2,j1,Y,hp⟩ U a2
     unfold hi3
     refine wpS_bind (ZAj U ?_)
     have Z:=J.pushB U (by omega) i2 Y a2
     by_cases c3:j-1=1
     .rw [if_pos (by simpa using c3)]
      exact wpS_pure ⟨e4,.inl ⟨_,_,rfl,Z.fb T i2 (by omega) c3⟩⟩
     rw [if_neg (by simpa using c3)]
     obtain ⟨xa,O⟩:=ZCS (a:=a) (i:=i-1) (by omega)
     refine wpS_bind (ZAj O ?_)
     refine wpS_bind (ZEG L (e4.k.trans hk) T.ib (T.ia.get O) (by omega) (by omega) (T.ub.sub (by omega)) fun t k1 k2 k3=>?_)
     dsimp only
     have rest:∀ n,n < t->kn f b n <= f xa:=fun n n1=>by
      have:=k2 n n1
      rw [yCG] at this
      omega
     by_cases hk0:j-1-t > 0
     .rw [if_pos hk0]
      have J3:=Z.chunkB k1 i2 (by omega) fun n m n1 n2 m1=>by
       have z:=k3 n n1 n2
       rw [yCG] at z
       have z2:=ua m (i-1) (by omega) (by omega)
       rw [ZBD O] at z2
       omega
      by_cases c4:t=1
      .rw [if_pos (by simpa using c4)]
       exact wpS_pure ⟨e4,.inl ⟨_,_,rfl,J3.fb T i2 (by omega) c4⟩⟩
      rw [if_neg (by simpa using c4)]
      by_cases c5:t=0
      .rw [if_pos (by simpa using c5)]
       exact wpS_pure ⟨e4,.inl ⟨_,_,rfl,J3.dn i2 (by omega) (.inr c5)⟩⟩
      rw [if_neg (by simpa using c5)]
      exact a1 _ _ _ _ _ _ _ xa e4 ⟨J3,i1,i2,by omega,by omega,by omega⟩ O rest
     .rw [if_neg hk0]
      have:t=j-1:=by omega
      subst this
      exact a1 _ _ _ _ _ _ _ xa e4 ⟨Z,i1,i2,by omega,by omega,by omega⟩ O rest
    have two:∀ (g ac bc:Nat),wpS M A E s (hi2 a b g ac bc o i j) (R7h f a b st (x+2)) st3:=by
     intro g ac bc
     unfold hi2
     obtain ⟨yb,U⟩:=ZCS (a:=b) (i:=j-1) (by omega)
     refine wpS_bind (wpS_modify ?_)
     have e4:=e3.setG g
     refine wpS_bind (ZAj U ?_)
     refine wpS_bind (ZEw L (e4.k.trans hk) T.ia (T.ib.get U) (by omega) (by omega) (T.ua.sub (by omega)) fun t k1 k2 k3=>?_)
     dsimp only
     have rest:∀ n,n < t->kn f a n <= f yb:=fun n n1=>by
      have:=k2 n n1
      rw [yCG] at this
      exact this
     by_cases hk0:i-t > 0
     .rw [if_pos hk0]
      have J3:=J.chunkA k1 i2 Y fun n m n1 n2 m1=>by
       have z:=k3 n n1 n2
       rw [yCG] at z
       have z2:=ub m (j-1) (by omega) (by omega)
       rw [ZBD U] at z2
       omega
      by_cases c4:t=0
      .rw [if_pos (by simpa using c4)]
       exact wpS_pure ⟨e4,.inl ⟨_,_,rfl,J3.dn (by omega) Y (.inl c4)⟩⟩
      rw [if_neg (by simpa using c4)]
      exact a0 _ _ _ _ _ _ _ yb e4 ⟨J3,by omega,by omega,j1,Y,by omega⟩ U rest
     .rw [if_neg hk0]
      have:t=i:=by omega
      subst this
      exact a0 _ _ _ _ _ _ _ yb e4 ⟨J,i1,i2,j1,Y,hp⟩ U rest
    unfold hiB
    dsimp only
    split
    .exact wpS_mono (two _ _ _) fun r st' z=>by cases r <;> exact z
    .exact wpS_mono (two _ _ _) fun r st' z=>by cases r <;> exact z
   .rintro c st3 ⟨e3,i,j,o,g,ac,bc,rfl,W⟩
    exact ⟨e3,.inr ⟨_,_,_,_,_,_,rfl,W⟩⟩
   .rintro c st3 ⟨e3,⟨r,z,rfl,hr⟩ | ⟨i,j,o,g,ac,bc,rfl,W⟩⟩
    .exact wpS_pure ⟨e3,r,_,rfl,hr⟩
    .dsimp only
     exact wpS_bind (wpS_modify (wpS_pure ⟨e3.setG _,_,_,_,_,rfl,W⟩))
 .rintro c a3 ⟨e1,i,j,o,g,rfl,J,i1,i2,j1,Y,hp⟩
  omega
 .rintro c a3 ⟨e1,r,z,rfl,hr⟩
  exact wpS_pure (h r a3 e1 hr)
end
end L2S
namespace L2S
open PySem PyProof.Rows
noncomputable abbrev PT:=Nat×Nat×Nat
noncomputable def ZDK (xs m:Array Keyed) (lo:Nat):Array Keyed:=m.toList.zipIdx.foldl (fun a (p,j)=>a.setIfInBounds (lo+j) p) xs
theorem mAt_eq (i:Nat):mergeAt' i=(do
 let z <- get
 let (some (s1,n1,w1),some (s2,n2,_)):=((pendingOf z)[i]?,(pendingOf z)[i+1]?) | unsupported "internal:list.sort.pending"
 set (setPending z (((pendingOf z).setIfInBounds i (s1,n1+n2,w1)).eraseIdxIfInBounds (i+1)))
 let some k <- gal false (<- elem' (arrOf z) s2) (arrOf z) s1 n1 0 | return false
 let (s1,n1):=(s1+k,n1-k)
 if n1 == 0 then return true
 let some n2 <- gal true (<- elem' (arrOf z) (s1+n1-1)) (arrOf z) s2 n2 (n2-1) | return false
 if n2 == 0 then return true
 let x:=(arrOf z).extract s1 s2
 let y:=(arrOf z).extract s2 (s2+n2)
 let m <- if n1 <= n2 then mLo x y else mHi x y
 modify fun z=>setArr z (ZDK (arrOf z) m s1)
 return (failedOf (<- get)).isNone):=rfl
theorem wpS_set {M:Model} {A:Around} {E:Value->Shared->Prop} {s:Shared} {σ:Type} {x:σ} {Q:PUnit->σ->Prop} {st:σ} (h:Q ⟨⟩ x):wpS M A E s (set x:StateT σ Sem PUnit) Q st:=by
 unfold wpS;rw [StateT.run_set];exact wpAny_pure ⟨rfl,h⟩
theorem lay_go (lo:Nat):∀ (l:List Keyed) (k:Nat) (xs:Array Keyed),lo+k+l.length <= xs.size ->
  (((l.zipIdx k).foldl (fun a (p:Keyed×Nat)=>a.setIfInBounds (lo+p.2) p.1) xs).size=xs.size) /\ ∀ n,((l.zipIdx k).foldl (fun a (p:Keyed×Nat)=>a.setIfInBounds (lo+p.2) p.1) xs)[n]?=if lo+k <= n /\ n < lo+k+l.length then l[n-(lo+k)]? else xs[n]?
 | [],k,xs,_=>by
  refine ⟨rfl,fun n=>?_⟩
  rw [if_neg (fun z=>by rw [yBL] at z;omega)]
  rfl
 | x::r,k,xs,h=>by
  rw [yAK] at h
  rw [List.zipIdx_cons,List.foldl_cons]
  obtain ⟨i1,i2⟩:=lay_go lo r (k+1) (xs.setIfInBounds (lo+k) x) (by rw [Array.size_setIfInBounds];omega)
  refine ⟨by rw [i1,Array.size_setIfInBounds],fun n=>?_⟩
  rw [i2,yAK]
  by_cases c1:lo+(k+1) <= n /\ n < lo+(k+1)+r.length
  .rw [if_pos c1,if_pos (by omega),show n-(lo+k)=(n-(lo+(k+1)))+1 by omega,List.getElem?_cons_succ]
  .rw [if_neg c1,Array.getElem?_setIfInBounds]
   by_cases c2:lo+k=n
   .rw [if_pos c2,if_pos (by omega),if_pos (by omega),show n-(lo+k)=0 by omega]
    rfl
   .rw [if_neg c2,if_neg (by omega)]
theorem ZEC {xs m:Array Keyed} {lo:Nat} (h:lo+m.size <= xs.size) (n:Nat):(ZDK xs m lo)[n]?=if lo <= n /\ n < lo+m.size then m[n-lo]? else xs[n]?:=by
 have:=(lay_go lo m.toList 0 xs (by rw [yAI];omega)).2 n
 rw [yAI,Nat.add_zero,yBE] at this
 exact this
theorem lay_list {xs m:Array Keyed} {lo:Nat} (h:lo+m.size <= xs.size):(ZDK xs m lo).toList=xs.toList.take lo++m.toList++xs.toList.drop (lo+m.size):=by
 refine yCK fun n=>?_
 rw [yBE,ZEC h]
 by_cases c1:n < lo
 .rw [if_neg (by omega),yAV,yAZ (by rw [yAS,yAI];omega),yBY c1,yBE]
 .by_cases c2:n < lo+m.size
  .rw [if_pos (by omega),yAV,yAX (by rw [yAS,yAI];omega),yAS,yAI,yCM (by omega),yAZ (by rw [yAI];omega),yBE]
  .rw [if_neg (by omega),yAX (by rw [yAC,yAS,yAI,yAI];omega),yAC,yAS,yAI,yAI,yCM (by omega),yBH,yBE]
   congr 1
   omega
section
variable {M:Model} {A:Around} {E:Value->Shared->Prop} {s:Shared} {κ:SortKind} {a₀:Array Keyed} {f:Keyed->Int}
theorem SB.inA {st:SortSt} (h:SB κ a₀ st):InA a₀ (arrOf st):=fun x hx=>(Array.perm_iff_toList_perm.mp h.perm).mem_iff.mp hx
theorem ext_get {xs:Array Keyed} {i j n:Nat} (h:j <= xs.size) (hn:n < j-i):(xs.extract i j)[n]?=xs[i+n]?:=by
 rw [Array.getElem?_extract]
 rw [if_pos (by omega)]
theorem merge_at {st:SortSt} {i J na w nb v:Nat} {Q:Bool->SortSt->Prop} (L:Asks M A E s κ a₀ f) (hB:SB κ a₀ st) (p1:(pendingOf st)[i]?=some (J,na,w)) (p2:(pendingOf st)[i+1]?=some (J+na,nb,v)) (ac:1 <= na) (aa:1 <= nb) (hz:J+na+nb <= a₀.size)
  (ua:Up f (arrOf st) J na) (ub:Up f (arrOf st) (J+na) nb)
  (h:∀ st',SB κ a₀ st'->pendingOf st'=((pendingOf st).setIfInBounds i (J,na+nb,w)).eraseIdxIfInBounds (i+1)->Up f (arrOf st') J (na+nb)->(∀ k,k < J∨J+na+nb <= k->(arrOf st')[k]?=(arrOf st)[k]?)->Q true st'):wpS M A E s (mergeAt' i) Q st:=by
 have hsz:=hB.size
 rw [mAt_eq]
 refine wpS_bind (wpS_get ?_)
 rw [p1,p2]
 dsimp only
 refine wpS_bind (wpS_set ?_)
 have Z:SB κ a₀ (setPending st (((pendingOf st).setIfInBounds i (J,na+nb,w)).eraseIdxIfInBounds (i+1))):=⟨hB.perm,hB.kind,hB.fail⟩
 obtain ⟨b0,a2⟩:=ZCS (a:=arrOf st) (i:=J+na) (by omega)
 refine wpS_bind (ZAj a2 ?_)
 refine wpS_bind (ZEw L Z.kind hB.inA (hB.inA.get a2) (by omega) (by omega) ua fun k k1 k2 k3=>?_)
 dsimp only
 have a1:∀ n,J <= n->n < J+k->kn f (arrOf st) n <= f b0:=fun n U O=>by
  have:=k2 (n-J) (by omega)
  rw [show J+(n-J)=n by omega] at this
  exact this
 have Y:∀ n,J+na <= n->n < J+na+nb->f b0 <= kn f (arrOf st) n:=fun n U O=>by
  have:=ub (J+na) n (yAA _) U O
  rw [ZBD a2] at this
  exact this
 by_cases c1:na-k=0
 .rw [if_pos (by simpa using c1)]
  refine wpS_pure (h _ Z rfl (fun n m U O n3=>?_) fun _ _=>rfl)
  by_cases d1:m < J+na
  .exact ua n m U O d1
  .by_cases d2:n < J+na
   .have z1:=a1 n U (by omega)
    have z2:=Y m (by omega) (by omega)
    show kn f (arrOf st) n <= kn f (arrOf st) m
    omega
   .exact ub n m (by omega) O (by omega)
 rw [if_neg (by simpa using c1)]
 rw [show J+k+(na-k)-1=J+na-1 by omega]
 obtain ⟨aN,a3⟩:=ZCS (a:=arrOf st) (i:=J+na-1) (by omega)
 refine wpS_bind (ZAj a3 ?_)
 refine wpS_bind (ZEG L Z.kind hB.inA (hB.inA.get a3) (by omega) (by omega) ub fun t t1 t2 t3=>?_)
 dsimp only
 have a0:∀ n,J+na+t <= n->n < J+na+nb->f aN <= kn f (arrOf st) n:=fun n U O=>by
  have:=t3 (n-(J+na)) (by omega) (by omega)
  rw [show J+na+(n-(J+na))=n by omega] at this
  exact this
 have a6:∀ n,J <= n->n < J+na->kn f (arrOf st) n <= f aN:=fun n U O=>by
  have:=ua n (J+na-1) U (by omega) (by omega)
  rw [ZBD a3] at this
  exact this
 by_cases c2:t=0
 .rw [if_pos (by simpa using c2)]
  refine wpS_pure (h _ Z rfl (fun n m U O n3=>?_) fun _ _=>rfl)
  by_cases d1:m < J+na
  .exact ua n m U O d1
  .by_cases d2:n < J+na
   .have z1:=a6 n U d2
    have z2:=a0 m (by omega) (by omega)
    show kn f (arrOf st) n <= kn f (arrOf st) m
    omega
   .exact ub n m (by omega) O (by omega)
 rw [if_neg (by simpa using c2)]
 have x1:((arrOf st).extract (J+k) (J+na)).size=na-k:=by rw [Array.size_extract];omega
 have y1:((arrOf st).extract (J+na) (J+na+t)).size=t:=by rw [Array.size_extract];omega
 have xg:∀ n,n < na-k->kn f ((arrOf st).extract (J+k) (J+na)) n=kn f (arrOf st) (J+k+n):=fun n hn=>ZAv (ext_get (by omega) (by omega))
 have yg:∀ n,n < t->kn f ((arrOf st).extract (J+na) (J+na+t)) n=kn f (arrOf st) (J+na+n):=fun n hn=>ZAv (ext_get (by omega) (by omega))
 have a8:∀ n,J+k <= n->n < J+na->f b0 < kn f (arrOf st) n:=fun n U O=>by
  have:=k3 (n-J) (by omega) (by omega)
  rw [show J+(n-J)=n by omega] at this
  exact this
 have a4:∀ (lo hi:Nat),InA a₀ ((arrOf st).extract lo hi):=fun lo hi x hx=>by
  rw [yCE,yCF] at hx
  exact hB.inA x (List.mem_of_mem_drop (List.mem_of_mem_take hx))
 have T:Two a₀ f ((arrOf st).extract (J+k) (J+na)) ((arrOf st).extract (J+na) (J+na+t)):={
  ia:=a4 _ _
  ib:=a4 _ _
  ua:=fun n m _ O n3=>by
   rw [xg n (by omega),xg m (by omega)]
   exact ua _ _ (by omega) (by omega) (by omega)
  ub:=fun n m _ O n3=>by
   rw [yg n (by omega),yg m (by omega)]
   exact ub _ _ (by omega) (by omega) (by omega)
  na:=by omega
  nb:=by omega
  lo:=fun n hn=>by
   rw [xg n (by omega),yg 0 (by omega),Nat.add_zero,ZBD a2]
   exact Int.le_of_lt (a8 _ (by omega) (by omega))
  hi:=fun n hn=>by
   rw [x1,xg _ (by omega),yg n (by omega),show J+k+(na-k-1)=J+na-1 by omega,ZBD a3]
   exact Int.le_of_lt (t2 n (by omega)) }
 have a5:∀ m st',Ev (setPending st (((pendingOf st).setIfInBounds i (J,na+nb,w)).eraseIdxIfInBounds (i+1))) st'->Fin f ((arrOf st).extract (J+k) (J+na)) ((arrOf st).extract (J+na) (J+na+t)) m ->
   wpS M A E s (modify (fun z=>setArr z (ZDK (arrOf z) m (J+k))) >>= fun _=>get >>= fun z=>pure (failedOf z).isNone) Q st':=by
  intro m st' ev g
  have ea:arrOf st'=arrOf st:=ev.a
  have hm:m.size=na-k+t:=by
   have:=g.1.length_eq
   rw [yAI,yAC,yAI,yAI,x1,y1] at this
   exact this
  refine wpS_bind (wpS_modify (wpS_bind (wpS_get (wpS_pure ?_))))
  have hf:failedOf st'=none:=ev.f.trans hB.fail
  show Q (failedOf st').isNone _
  rw [hf]
  have hl:J+k+m.size <= (arrOf st).size:=by omega
  have a7:∀ n,n < m.size->∃ p,J+k <= p /\ p < J+na+t /\ kn f m n=kn f (arrOf st) p:=fun n hn=>by
   obtain ⟨x,hx⟩:=ZCS (a:=m) hn
   have a9:x∈m.toList:=by
    rw [yBF] at hx
    obtain ⟨_,rfl⟩:=hx
    simp
   have:=g.1.mem_iff.mp a9
   rw [ZBD hx]
   rcases yBB.mp this with z | z
   .obtain ⟨q,q1⟩:=yBK z
    rw [yBE] at q1
    have q2:=(yBF.mp q1).1
    refine ⟨J+k+q,by omega,by omega,?_⟩
    rw [<- xg q (by omega),ZBD q1]
   .obtain ⟨q,q1⟩:=yBK z
    rw [yBE] at q1
    have q2:=(yBF.mp q1).1
    refine ⟨J+na+q,by omega,by omega,?_⟩
    rw [<- yg q (by omega),ZBD q1]
  have ms:∀ n q,n <= q->q < m.size->kn f m n <= kn f m q:=fun n q U O=>by
   by_cases e:n=q
   .rw [e];exact Int.le_refl _
   .have:=List.pairwise_iff_getElem.mp g.2 n q (by rw [yAI];omega) (by rw [yAI];omega) (by omega)
    rw [ZBD (getElem?_pos m n (by omega)),ZBD (getElem?_pos m q O)]
    simpa [leK] using this
  have lk:∀ n,kn f (ZDK (arrOf st') m (J+k)) n=if J+k <= n /\ n < J+na+t then kn f m (n-(J+k)) else kn f (arrOf st) n:=fun n=>by
   rw [ea]
   have:=ZEC hl n
   by_cases e:J+k <= n /\ n < J+na+t
   .rw [if_pos e]
    rw [if_pos (by omega)] at this
    exact ZAv this
   .rw [if_neg e]
    rw [if_neg (by omega)] at this
    exact ZAv this
  refine h (setArr st' (ZDK (arrOf st') m (J+k))) ⟨?_,ev.k.trans hB.kind,hf⟩ ev.p (fun n q U O n3=>?_) fun n hn=>?_
  .show (ZDK (arrOf st') m (J+k)).Perm a₀
   rw [ea]
   refine Array.Perm.trans ?_ hB.perm
   rw [Array.perm_iff_toList_perm,lay_list hl]
   have e1:(arrOf st).toList=(arrOf st).toList.take (J+k)++(((arrOf st).extract (J+k) (J+na)).toList++((arrOf st).extract (J+na) (J+na+t)).toList)++(arrOf st).toList.drop (J+k+m.size):=by
    rw [yCE,yCE,yCF,yCF]
    have s1:((arrOf st).toList.drop (J+k)).take (J+na-(J+k))++((arrOf st).toList.drop (J+na)).take (J+na+t-(J+na))=((arrOf st).toList.drop (J+k)).take m.size:=by
     rw [show m.size=(J+na-(J+k))+(J+na+t-(J+na)) by omega,List.take_add,List.drop_drop,show J+k+(J+na-(J+k))=J+na by omega]
    rw [s1,yAV,show (arrOf st).toList.drop (J+k+m.size)=((arrOf st).toList.drop (J+k)).drop m.size by rw [List.drop_drop],yBR,yBR]
   conv=>rhs;rw [e1]
   exact List.Perm.append_right _ (List.Perm.append_left _ g.1)
  .show kn f (ZDK (arrOf st') m (J+k)) n <= kn f (ZDK (arrOf st') m (J+k)) q
   rw [lk,lk]
   by_cases c3:J+k <= n /\ n < J+na+t
   .rw [if_pos c3]
    by_cases c4:J+k <= q /\ q < J+na+t
    .rw [if_pos c4]
     exact ms _ _ (by omega) (by omega)
    .rw [if_neg c4]
     obtain ⟨p,q1,q2,q3⟩:=a7 (n-(J+k)) (by omega)
     rw [q3]
     by_cases c5:p < J+na
     .have z1:=a6 p (by omega) c5
      have z2:=a0 q (by omega) (by omega)
      omega
     .exact ub p q (by omega) (by omega) (by omega)
   .rw [if_neg c3]
    by_cases c4:J+k <= q /\ q < J+na+t
    .rw [if_pos c4]
     obtain ⟨p,q1,q2,q3⟩:=a7 (q-(J+k)) (by omega)
     rw [q3]
     have z1:=a1 n U (by omega)
     by_cases c5:p < J+na
     .exact ua n p U (by omega) c5
     .have z2:=Y p (by omega) (by omega)
      omega
    .rw [if_neg c4]
     by_cases c5:q < J+na
     .exact ua n q U O c5
     .by_cases c6:n < J+na
      .have z1:=a1 n U (by omega)
       have z2:=Y q (by omega) (by omega)
       omega
      .exact ub n q (by omega) O (by omega)
  .show (ZDK (arrOf st') m (J+k))[n]?=(arrOf st)[n]?
   rw [ea,ZEC hl,if_neg (by omega)]
 by_cases c3:na-k <= t
 .rw [if_pos c3]
  exact wpS_bind (mLo_ok L Z.kind T a5)
 .rw [if_neg c3]
  exact wpS_bind (mHi_ok L Z.kind T a5)
end
end L2S
namespace L2S
open PySem PyProof.Rows
section
variable {M:Model} {A:Around} {E:Value->Shared->Prop} {s:Shared} {κ:SortKind} {a₀:Array Keyed} {f:Keyed->Int}
noncomputable def Chn (f:Keyed->Int) (xs:Array Keyed):Nat->List PT->Nat->Prop
 | a,[],e=>a=e
 | a,(b,n,_)::r,e=>b=a /\ 1 <= n /\ Up f xs a n /\ Chn f xs (a+n) r e
theorem Chn.le {xs:Array Keyed}:∀ {l:List PT} {a e:Nat},Chn f xs a l e->a+l.length <= e
 | [],a,e,h=>by have:a=e:=h;rw [yBL];omega
 | (b,n,w)::r,a,e,h=>by
  obtain ⟨_,h1,_,h2⟩:=h
  have:=h2.le
  rw [yAK]
  omega
theorem Chn.keep {xs ys:Array Keyed}:∀ {l:List PT} {a e:Nat},Chn f xs a l e->(∀ k,a <= k->k < e->ys[k]?=xs[k]?)->Chn f ys a l e
 | [],a,e,h,_=>h
 | (b,n,w)::r,a,e,⟨h0,h1,h2,h3⟩,k=>by
  have hl:=h3.le
  refine ⟨h0,h1,fun i j z J O=>?_,h3.keep fun m U L=>k m (by omega) L⟩
  rw [ZAv (k i z (by omega)),ZAv (k j (by omega) (by omega))]
  exact h2 i j z J O
theorem Chn.app {xs:Array Keyed}:∀ {l m:List PT} {a e:Nat},Chn f xs a (l++m) e↔∃ c,Chn f xs a l c /\ Chn f xs c m e
 | [],m,a,e=>⟨fun h=>⟨a,rfl,h⟩,fun ⟨c,h1,h2⟩=>by have:a=c:=h1;rw [this];exact h2⟩
 | (b,n,w)::r,m,a,e=>by
  constructor
  .rintro ⟨J,h1,h2,h3⟩
   obtain ⟨c,L,z⟩:=Chn.app.mp h3
   exact ⟨c,⟨J,h1,h2,L⟩,z⟩
  .rintro ⟨c,⟨J,h1,h2,L⟩,z⟩
   exact ⟨J,h1,h2,Chn.app.mpr ⟨c,L,z⟩⟩
theorem two_of {l:List PT} {i:Nat} (h:i+1 < l.length):∃ z x y l2,l=z++x::y::l2 /\ z.length=i:=by
 refine ⟨l.take i,l[i],l[i+1],l.drop (i+2),?_,by rw [yAS];omega⟩
 rw [<- List.drop_eq_getElem_cons (by omega),<- List.drop_eq_getElem_cons (by omega),yBR]
theorem join_of {z l2:List PT} {x y v:PT} {i:Nat} (h:z.length=i):((z++x::y::l2).set i v).eraseIdx (i+1)=z++v::l2:=by
 subst h
 rw [List.set_append_right _ _ (yAA _),yBU,List.set_cons_zero,List.eraseIdx_append_of_length_le (by omega),show z.length+1-z.length=1 by omega]
 rfl
theorem join_at {st:SortSt} {i lo:Nat} {Q:Bool->SortSt->Prop} (L:Asks M A E s κ a₀ f) (hB:SB κ a₀ st) (hc:Chn f (arrOf st) 0 (pendingOf st).toList lo) (a2:lo <= a₀.size) (hi:i+1 < (pendingOf st).size)
  (h:∀ st',SB κ a₀ st'->Chn f (arrOf st') 0 (pendingOf st').toList lo->(pendingOf st').size+1=(pendingOf st).size->(∀ k,lo <= k->(arrOf st')[k]?=(arrOf st)[k]?)->Q true st'):wpS M A E s (mergeAt' i) Q st:=by
 obtain ⟨l1,⟨z,U,w1⟩,⟨b2,Y,w2⟩,l2,J,hl⟩:=two_of (l:=(pendingOf st).toList) (i:=i) (by rw [yAI];exact hi)
 have O:=hc
 rw [J] at O
 obtain ⟨c,c1,rfl,c2,c3,rfl,c4,c5,c6⟩:=Chn.app.mp O
 have le:=c6.le
 have p1:(pendingOf st)[i]?=some (z,U,w1):=by
  rw [<- yBE,J,yAX (by omega),hl,yBU]
  rfl
 have p2:(pendingOf st)[i+1]?=some (z+U,Y,w2):=by
  rw [<- yBE,J,yAX (by omega),show i+1-l1.length=1 by omega]
  rfl
 refine merge_at L hB p1 p2 c2 c4 (by omega) c3 c5 fun st' a0 hp hu Z=>?_
 have e2:(pendingOf st').toList=l1++(z,U+Y,w1)::l2:=by
  rw [hp,Array.toList_eraseIdxIfInBounds,Array.toList_setIfInBounds,J]
  exact join_of hl
 refine h st' a0 ?_ ?_ fun k a1=>Z k (.inr (by omega))
 .rw [e2]
  have a3:=c1.le
  refine Chn.app.mpr ⟨z,c1.keep fun k k1 k2=>Z k (.inl k2),rfl,by omega,hu,?_⟩
  rw [show z+(U+Y)=z+U+Y by omega]
  exact c6.keep fun k k1 k2=>Z k (.inr k1)
 .have z1:=congrArg List.length e2
  have z2:=congrArg List.length J
  rw [yAI,yAC,yAK] at z1 z2
  rw [yAK] at z2
  omega
theorem Chn.pow {xs:Array Keyed} {l:List PT} {b n w v a e:Nat} (h:Chn f xs a (l++[(b,n,w)]) e):Chn f xs a (l++[(b,n,v)]) e:=by
 obtain ⟨c,c1,c2,z,J,L⟩:=Chn.app.mp h
 exact Chn.app.mpr ⟨c,c1,c2,z,J,L⟩
noncomputable def more (sz pw:Nat):SM (Option Unit×Unit):=forIn [0:sz] ((none,()):Option Unit×Unit) fun _ _=>do
 let z <- get
 match if (pendingOf z).size > 1 then (pendingOf z)[(pendingOf z).size-2]? else none with
 | some (_,_,old)=>
  if old <= pw then pure (ForInStep.done (none,()))
  else do
   let b <- mergeAt' ((pendingOf z).size-2)
   if (!b)=true then pure (ForInStep.done (some (),())) else pure (ForInStep.yield (none,()))
 | _=>pure (ForInStep.done (none,()))
noncomputable def pile (sz lo n:Nat):SM (ForInStep (Option Unit×Nat)):=do
 let z <- get
 match (pendingOf z).back? with
 | some (s1,n1,_)=>do
  let c <- more sz (power' sz (2 * s1+n1) (2 * s1+n1+n1+n) sz)
  match c.fst with
  | some r=>pure (ForInStep.done (some r,lo))
  | none=>do
   modify fun z=>setPending z ((pendingOf z).modify ((pendingOf z).size-1) fun x=>(x.fst,x.2.fst,power' sz (2 * s1+n1) (2 * s1+n1+n1+n) sz))
   modify fun z=>setPending z ((pendingOf z).push (lo,n,0))
   pure (ForInStep.yield (none,lo+n))
 | _=>do
  modify fun z=>setPending z ((pendingOf z).push (lo,n,0))
  pure (ForInStep.yield (none,lo+n))
noncomputable abbrev PQ (κ:SortKind) (a₀:Array Keyed) (f:Keyed->Int) (lo n:Nat) (st:SortSt):Prop:=SB κ a₀ st /\ Chn f (arrOf st) 0 (pendingOf st).toList lo /\ Up f (arrOf st) lo n
theorem more_ok {sz pw lo n:Nat} {st:SortSt} {Q:Option Unit×Unit->SortSt->Prop} (L:Asks M A E s κ a₀ f) (a1:lo <= a₀.size) (O:PQ κ a₀ f lo n st) (h:∀ st',PQ κ a₀ f lo n st'->Q (none,()) st'):wpS M A E s (more sz pw) Q st:=by
 unfold more
 refine wpS_forRange (I:=fun x c st'=>c=(none,()) /\ PQ κ a₀ f lo n st') ?_ ?_ ⟨rfl,O⟩
 .rintro x c z _ _ ⟨rfl,Y,hc,Z⟩
  refine wpS_bind (wpS_get ?_)
  by_cases h1:(pendingOf z).size > 1
  .rw [if_pos h1,getElem?_pos (pendingOf z) ((pendingOf z).size-2) (by omega)]
   dsimp only
   split
   .exact wpS_pure (h _ ⟨Y,hc,Z⟩)
   .refine wpS_bind (join_at L Y hc a1 (by omega) fun st2 a0 U _ J=>?_)
    exact wpS_pure ⟨rfl,a0,U,fun i j z1 z2 z3=>by rw [ZAv (J i z1),ZAv (J j (by omega))];exact Z i j z1 z2 z3⟩
  .rw [if_neg h1]
   exact wpS_pure (h _ ⟨Y,hc,Z⟩)
 .rintro c z ⟨rfl,O⟩
  exact h _ O
theorem modify_last {p:Array PT} {w:Nat} {l:List PT} {b n v:Nat} (h:p.toList=l++[(b,n,v)]):(p.modify (p.size-1) fun x=>(x.fst,x.2.fst,w)).toList=l++[(b,n,w)]:=by
 have z:p.size=l.length+1:=by rw [<- yAI,h,yAC];rfl
 refine yCK fun i=>?_
 rw [yBE,Array.getElem?_modify]
 rw [<- yBE,h]
 by_cases c:p.size-1=i
 .rw [if_pos c,yAX (by omega),yAX (by omega),show i-l.length=0 by omega]
  rfl
 .rw [if_neg c]
  by_cases c2:i < l.length
  .rw [yAZ c2,yAZ c2]
  .rw [yBA (by rw [yAC,yBZ];omega),yBA (by rw [yAC,yBZ];omega)]
theorem pile_ok {lo n:Nat} {st:SortSt} {Q:ForInStep (Option Unit×Nat)->SortSt->Prop} (L:Asks M A E s κ a₀ f) (hn:1 <= n) (a3:lo+n <= a₀.size) (hq:PQ κ a₀ f lo n st)
  (h:∀ st',SB κ a₀ st'->Chn f (arrOf st') 0 (pendingOf st').toList (lo+n)->Q (.yield (none,lo+n)) st'):wpS M A E s (pile a₀.size lo n) Q st:=by
 have Y:∀ st3:SortSt,PQ κ a₀ f lo n st3->wpS M A E s (modify (fun z=>setPending z ((pendingOf z).push (lo,n,0))) >>= fun _=>pure (ForInStep.yield ((none,lo+n):Option Unit×Nat))) Q st3:=by
  rintro st3 ⟨O,a2,a1⟩
  refine wpS_bind (wpS_modify (wpS_pure (h _ ⟨O.perm,O.kind,O.fail⟩ ?_)))
  show Chn f (arrOf st3) 0 ((pendingOf st3).push (lo,n,0)).toList (lo+n)
  rw [Array.toList_push]
  exact Chn.app.mpr ⟨lo,a2,rfl,hn,a1,rfl⟩
 unfold pile
 refine wpS_bind (wpS_get ?_)
 cases hb:(pendingOf st).back? with
 | none=>exact Y st hq
 | some t=>
  obtain ⟨s1,n1,w1⟩:=t
  dsimp only
  refine wpS_bind (more_ok L (by omega) hq fun st2 a0=>?_)
  dsimp only
  refine wpS_bind (wpS_modify (Y _ ?_))
  obtain ⟨U,J,Z⟩:=a0
  refine ⟨⟨U.perm,U.kind,U.fail⟩,?_,Z⟩
  show Chn f (arrOf st2) 0 ((pendingOf st2).modify _ _).toList lo
  rcases List.eq_nil_or_concat (pendingOf st2).toList with e | ⟨l,⟨b,k,v⟩,e⟩
  .have:pendingOf st2=#[]:=by rw [<- Array.toList_inj,e]
   rw [this] at J ⊢
   exact J
  .rw [List.concat_eq_append] at e
   rw [modify_last e]
   rw [e] at J
   exact J.pow
theorem ite_less (c:Prop) [Decidable c] (n:Nat):(if c then n-1 else n) <= n:=by split <;> omega
theorem wpS_cast {α:Type} {m z:SM α} {Q Q':α->SortSt->Prop} {st:SortSt} (e:m=z) (h:wpS M A E s z Q' st) (q:∀ a st',Q' a st'->Q a st'):wpS M A E s m Q st:=by rw [e];exact wpS_mono h q
theorem sort_runs {st:SortSt} {Q:Unit->SortSt->Prop} (L:Asks M A E s κ a₀ f) (hB:SB κ a₀ st) (hp:pendingOf st=#[]) (h2:2 <= a₀.size)
  (h:∀ st',SB κ a₀ st'->Up f (arrOf st') 0 a₀.size->Q () st'):wpS M A E s sortRuns' Q st:=by
 rw [sortRuns'_eq]
 refine wpS_bind (wpS_get ?_)
 dsimp only
 rw [hB.size]
 generalize minRun' a₀.size a₀.size 0=mr
 refine wpS_bind (wpS_mono (wpS_forRange (I:=fun x c st'=>∃ lo,c=(none,lo) /\ SB κ a₀ st' /\ Chn f (arrOf st') 0 (pendingOf st').toList lo /\ lo <= a₀.size /\ min x a₀.size <= lo)
  (Q:=fun c st'=>c=(none,a₀.size) /\ SB κ a₀ st' /\ Chn f (arrOf st') 0 (pendingOf st').toList a₀.size) ?_ ?_ ⟨0,rfl,hB,by rw [hp];rfl,by omega,by omega⟩) ?_)
 .rintro x c a4 _ hx ⟨lo,rfl,Y,U,aa,ad⟩
  dsimp only
  by_cases hge:lo≥a₀.size
  .rw [if_pos hge]
   have:lo=a₀.size:=by omega
   subst this
   exact wpS_pure ⟨rfl,Y,U⟩
  rw [if_neg hge]
  refine wpS_bind (count_run L (by omega) (by omega) Y fun m st2 O a7 ah a2 a5 hp2=>?_)
  dsimp only
  have J:Chn f (arrOf st2) 0 (pendingOf st2).toList lo:=by
   rw [hp2]
   exact U.keep fun k _ k2=>a5 k k2
  have done:∀ (n:Nat) (st3:SortSt),1 <= n->lo+n <= a₀.size->PQ κ a₀ f lo n st3->wpS M A E s (pile a₀.size lo n)
    (fun r st'=>match r with | .done c'=>c'=(none,a₀.size) /\ SB κ a₀ st' /\ Chn f (arrOf st') 0 (pendingOf st').toList a₀.size | .yield c'=>∃ lo,c'=(none,lo) /\ SB κ a₀ st' /\ Chn f (arrOf st') 0 (pendingOf st').toList lo /\ lo <= a₀.size /\ min (x+1) a₀.size <= lo) st3 :=
   fun n st3 hn a3 hq=>pile_ok L hn a3 hq fun st' ac ae=>⟨lo+n,rfl,ac,ae,a3,by omega⟩
  by_cases hlt:m < mr
  .rw [if_pos hlt]
   refine wpS_bind (wpS_lift (wpAny_rule ⟨rfl,?_⟩))
   refine wpS_bind (bin_sort L (by omega) (by omega) O a2 fun st3 a0 a8 af a6=>?_)
   rw [if_neg (by decide)]
   refine wpS_cast (by
    refine bnd _ fun z=>?_
    cases (pendingOf z).back? with
    | none=>rfl
    | some t=>
     obtain ⟨s1,n1,w1⟩:=t
     refine bnd2 (for2 fun _ c=>bnd _ fun Z=>?_) fun c=>?_
     .generalize (if (pendingOf Z).size > 1 then (pendingOf Z)[(pendingOf Z).size-2]? else none)=t2
      cases t2 with
      | none=>rfl
      | some t2=>rfl
     .obtain ⟨r,u⟩:=c
      cases r with
      | none=>rfl
      | some r=>rfl) (done _ st3 (by omega) (by omega) ⟨a0,by rw [a6];exact J.keep fun k _ k2=>af k k2,a8⟩) fun r st' z=>by cases r <;> exact z
  .rw [if_neg hlt]
   refine wpS_cast (by
    refine bnd _ fun z=>?_
    cases (pendingOf z).back? with
    | none=>rfl
    | some t=>
     obtain ⟨s1,n1,w1⟩:=t
     refine bnd2 (for2 fun _ c=>bnd _ fun Z=>?_) fun c=>?_
     .generalize (if (pendingOf Z).size > 1 then (pendingOf Z)[(pendingOf Z).size-2]? else none)=t2
      cases t2 with
      | none=>rfl
      | some t2=>rfl
     .obtain ⟨r,u⟩:=c
      cases r with
      | none=>rfl
      | some r=>rfl) (done m st2 a7 (by omega) ⟨O,J,a2⟩) fun r st' z=>by cases r <;> exact z
 .rintro c a4 ⟨lo,rfl,Y,U,aa,ad⟩
  have:lo=a₀.size:=by omega
  subst this
  exact ⟨rfl,Y,U⟩
 .rintro c a4 ⟨rfl,Y,U⟩
  dsimp only
  refine wpS_bind (wpS_mono (wpS_forRange (I:=fun x c st'=>c=(none,()) /\ SB κ a₀ st' /\ Chn f (arrOf st') 0 (pendingOf st').toList a₀.size /\ ((pendingOf st').size+x <= a₀.size∨(pendingOf st').size <= 1))
   (Q:=fun c st'=>c=(none,()) /\ SB κ a₀ st' /\ Chn f (arrOf st') 0 (pendingOf st').toList a₀.size /\ (pendingOf st').size <= 1) ?_ ?_ ?_) ?_)
  .rintro x c st2 _ hx ⟨rfl,O,J,a1⟩
   refine wpS_bind (wpS_get ?_)
   by_cases h1:(pendingOf st2).size <= 1
   .rw [if_pos h1]
    exact wpS_pure ⟨rfl,O,J,h1⟩
   rw [if_neg h1]
   have go:∀ i,i+1 < (pendingOf st2).size->wpS M A E s (mergeAt' i >>= fun b=>if (!b)=true then pure (ForInStep.done (some (),())) else pure (ForInStep.yield ((none,()):Option Unit×Unit)))
     (fun r st'=>match r with | .done c'=>c'=(none,()) /\ SB κ a₀ st' /\ Chn f (arrOf st') 0 (pendingOf st').toList a₀.size /\ (pendingOf st').size <= 1 | .yield c'=>c'=(none,()) /\ SB κ a₀ st' /\ Chn f (arrOf st') 0 (pendingOf st').toList a₀.size /\ ((pendingOf st').size+(x+1) <= a₀.size∨(pendingOf st').size <= 1)) st2:=fun i hi=>by
    refine wpS_bind (join_at L O J (yAA _) hi fun st3 a0 a9 ag _=>?_)
    exact wpS_pure ⟨rfl,a0,a9,by omega⟩
   refine wpS_mono (go _ ?_) fun r st' z=>by cases r <;> exact z
   exact Nat.lt_of_le_of_lt (Nat.add_le_add_right (ite_less _ _) 1) (by omega)
  .rintro c st2 ⟨rfl,O,J,a1⟩
   exact ⟨rfl,O,J,by omega⟩
  .refine ⟨rfl,Y,U,.inl ?_⟩
   have:=U.le
   rw [yAI] at this
   omega
  .rintro c st2 ⟨rfl,O,J,a1⟩
   refine wpS_pure (h st2 O ?_)
   cases e:(pendingOf st2).toList with
   | nil=>
    rw [e] at J
    have:0=a₀.size:=J
    omega
   | cons t r=>
    have hl:=congrArg List.length e
    rw [yAI,yAK] at hl
    have hr:r=[]:=List.length_eq_zero_iff.mp (by omega)
    subst hr
    obtain ⟨b,n,w⟩:=t
    rw [e] at J
    obtain ⟨_,_,hu,hn⟩:=J
    have:0+n=a₀.size:=hn
    rw [yCG] at this
    rw [<- this]
    exact hu
end
end L2S
namespace L2S
open PySem PyProof.Rows
noncomputable abbrev ZCN (h:Heap) (a:Addr) (vs:List Value):Heap:=((h.update a (Obj.mapSeq fun _=>#[])).push (seqObj "tuple" vs.toArray 0)).push (seqObj "list" #[] 0)
section
variable {prog:Program} {w:World} {A:Around} {E:Value->Shared->Prop} {s:Shared}
theorem mid_old {h:Heap} {a b:Addr} {vs:List Value} {o:Obj} (z:b≠a) (e:h.get? b=some o):(ZCN h a vs).get? b=some o:=by
 refine Heap.get?_push_of_some _ (Heap.get?_push_of_some _ ?_)
 exact (Heap.get?_update_other _ _ (Ne.symm z)).trans e
theorem sort_any {a:Addr} {vs:List Value} {n:Nat} {κ:SortKind} {f:Keyed->Int} {P:PySem.Fin->Shared->Prop} (U:s.heap.get? a=some (seqObj "list" vs.toArray n)) (hz:vs.length <= 1000)
  (J:2 <= vs.length->∀ Q':SortKind->Shared->Prop,Q' κ { s with heap:=ZCN s.heap a vs }->wpAny (model prog w) A (keyKind' vs.toArray) Q' E { s with heap:=ZCN s.heap a vs })
  (O:2 <= vs.length->Asks (model prog w) A E { s with heap:=ZCN s.heap a vs } κ (pairsOf vs) f)
  (h:∀ out:Array Keyed,out.Perm (pairsOf vs)->Up f out 0 vs.length->P (.done (.ret .none)) { s with heap:=sortedHeap s.heap a vs (out.map (·.2)) }):wpAny (model prog w) A (Builtin.«list.sort» ⟨[.ref a],[]⟩) P E s:=by
 rw [list_sort_plain]
 have ha:a < s.heap.objs.size:=Heap.lt_size U
 refine wpAny_bind (listItems_at U rfl ?_)
 refine wpAny_bind (listUpdate_at U rfl ?_)
 obtain ⟨Z,L⟩:∃ Z,(s.heap.update a (Obj.mapSeq fun _=>#[])).get? a=some (seqObj "list" #[] Z):=⟨_,get?_update_seq U (fun _=>#[])⟩
 refine wpAny_bind (seqEpoch_at L rfl ?_)
 refine wpAny_bind (wpAny_newTuple (wpAny_bind (wpAny_newList (wpAny_holding ?_))))
 have z:(ZCN s.heap a vs).get? a=some (seqObj "list" #[] Z):=Heap.get?_push_of_some _ (Heap.get?_push_of_some _ L)
 show wpAny (model prog w) A _ P E { s with heap:=ZCN s.heap a vs }
 dsimp only
 have hsz:vs.toArray.size=vs.length:=yAN ..
 have hl:vs.length <= sizeLine:=yAF hz (by decide)
 rw [hsz]
 by_cases h2:vs.length < 2
 .rw [if_pos h2,if_pos h2]
  refine wpAny_bind (wpAny_pure ?_)
  rw [StateT.run_pure]
  refine wpAny_bind (wpAny_pure ?_)
  dsimp only
  refine wpAny_bind (seqEpoch_at z rfl ?_)
  refine wpAny_bind (listUpdate_at z rfl ?_ (hsz2:=by rw [Array.size_map];show (pairsOf vs).size <= _;rw [pairsOf_size];omega))
  rw [if_neg (by simp)]
  exact wpAny_pure (h (pairsOf vs) (Array.Perm.refl _) fun i j _ z2 z3=>by rw [show i=j by omega];exact Int.le_refl _)
 .rw [if_neg h2,if_neg h2]
  refine wpAny_bind (J (by omega) _ ?_)
  refine wpAny_bind (wpAny_mono (sort_runs (st:=SortSt.mk' κ (vs.toArray.zip vs.toArray) #[] 7 none) (Q:=fun _ st'=>SB κ (pairsOf vs) st' /\ Up f (arrOf st') 0 (pairsOf vs).size) (O (by omega)) ⟨Array.Perm.refl _,rfl,rfl⟩ rfl (by rw [pairsOf_size];omega) fun st' a1 a2=>⟨a1,a2⟩) ?_ fun _ _ e=>e)
  rintro ⟨⟨⟩,st'⟩ s' ⟨rfl,Y,hu⟩
  dsimp only
  refine wpAny_bind (seqEpoch_at z rfl ?_)
  have hs:(arrOf st').size=(pairsOf vs).size:=Y.size
  rw [pairsOf_size] at hs hu
  refine wpAny_bind (listUpdate_at z rfl ?_ (hsz2:=by rw [Array.size_map];omega))
  rw [Y.fail,if_neg (by simp)]
  exact wpAny_pure (h _ Y.perm hu)
theorem sorted_any {l:Addr} {vs:List Value} {κ:SortKind} {f:Keyed->Int} {Q:Value->Shared->Prop} (hl:s.heap.IsList l vs.toArray) (Z:vs.length <= 1000)
  (z:∀ h':Heap,(∀ b o,s.heap.get? b=some o->h'.get? b=some o)->2 <= vs.length->∀ (O:Around) (U:Value->Shared->Prop) (Q':SortKind->Shared->Prop),O.units <= A.units+8->Q' κ { s with heap:=h' }->wpAny (model prog w) O (keyKind' vs.toArray) Q' U { s with heap:=h' })
  (L:∀ h':Heap,(∀ b o,s.heap.get? b=some o->h'.get? b=some o)->2 <= vs.length->∀ (O:Around) (U:Value->Shared->Prop),O.units <= A.units+8->Asks (model prog w) O U { s with heap:=h' } κ (pairsOf vs) f)
  (h:∀ out:Array Keyed,out.Perm (pairsOf vs)->Up f out 0 vs.length->Q (.ref (s.heap.objs.size+1)) { s with heap:=sortedAll s.heap vs (out.map (·.2)) }):wpAny (model prog w) A (call (.builtin "sorted") [.ref l]) Q E s:=by
 refine Calls.call_function_entry kind_sorted plain_sorted entry_sorted (args_sorted1 _) ?_
 unfold Builtin.«sorted»
 refine wpAny_bind (m:=checkCount "sorted" 1 1 _) (wpAny_pure ?_)
 refine wpAny_bind (collect_list hl ?_ (yAF Z (by decide)))
 refine wpAny_bind (wpAny_newList ?_)
 have Y:((s.heap.push (seqObj "list" #[] 0)).update s.heap.objs.size (Obj.mapSeq (·++vs.toArray))).objs.size=s.heap.objs.size+1:=(Heap.size_update ..).trans (size_push' ..)
 have g1:(((s.heap.push (seqObj "list" #[] 0)).update s.heap.objs.size (Obj.mapSeq (·++vs.toArray))).push (seqObj "list" vs.toArray 0)).get? (s.heap.objs.size+1)=some (seqObj "list" vs.toArray 0):=by
  rw [<- Y];exact Heap.get?_push_size _ rfl
 have J:∀ b o,s.heap.get? b=some o->(ZCN (((s.heap.push (seqObj "list" #[] 0)).update s.heap.objs.size (Obj.mapSeq (·++vs.toArray))).push (seqObj "list" vs.toArray 0)) (s.heap.objs.size+1) vs).get? b=some o:=fun b o e=>by
  have lt:=Heap.lt_size e
  refine mid_old (yAE (Nat.lt_succ_of_lt lt)) (Heap.get?_push_of_some _ ?_)
  exact (Heap.get?_update_other _ _ (yBN lt)).trans (Heap.get?_push_of_some _ e)
 show wpAny _ _ _ _ _ { s with heap:=((s.heap.push (seqObj "list" #[] 0)).update s.heap.objs.size (Obj.mapSeq (·++vs.toArray))).push (seqObj "list" vs.toArray 0) }
 rw [Y]
 refine wpAny_bind (wpAny_holding (wpAny_call_entry slot_list_sort ⟨_,g1,rfl⟩ entry_list_sort (sort_any g1 Z (fun h2 Q' q=>z _ J h2 _ _ Q' ?_ q) (fun h2=>L _ J h2 _ _ ?_) fun out a1 a2=>⟨_,rfl,?_⟩) (args_list_sort _)))
 .show A.units+1+1 <= A.units+8;omega
 .show A.units+1+1 <= A.units+8;omega
 .exact wpAny_pure ⟨_,rfl,h out a1 a2⟩
end
end L2S
namespace L2
open PySem PySem.Spec PyProof.Rows L2S
theorem kn_K {xs:Array Keyed} {i:Nat}:kn (fun p=>numOf p.1) xs i=PyProof.Rows.K xs i:=by
 unfold kn PyProof.Rows.K
 cases xs[i]? <;> rfl
section
variable {prog:Program} {w:World} {A:Around} {E:Value->Shared->Prop} {s:Shared}
theorem asks_ints {a₀:Array Keyed} (z:IntKeys a₀):Asks (model prog w) A E s oneType' a₀ fun p=>numOf p.1 where
 lt:=fun x y hx J st Q L q=>by
  obtain ⟨n,t,O⟩:=z x hx
  obtain ⟨m,u,e2⟩:=z y J
  rw [lt'_eq]
  refine wpS_bind (wpS_get ?_)
  rw [L,keyLt'_oneType]
  rw [O,e2] at q ⊢
  exact wpS_bind (wpS_lift (wpAny_attempt (oneLt_int ⟨rfl,wpS_pure q⟩)))
theorem kind_of_ints {vs:List Value} {ns:List Int} (z:IntsAre vs ns) (h2:2 <= vs.length):keyKind' vs.toArray=pure oneType':=by
 cases vs with
 | nil=>exact absurd h2 (by simp)
 | cons v₁ r=>
  cases r with
  | nil=>exact absurd h2 (by simp)
  | cons v₂ r=>exact keyKind_ints z
theorem sorted_intsB {l:Addr} {vs:List Value} {ns:List Int} {Q:Value->Shared->Prop} (hl:s.heap.IsList l vs.toArray) (J:IntsAre vs ns) (hz:vs.length <= 1000)
  (h:∀ (z:Array Value) (ns':List Int),IntsAre z.toList ns'->ns'.Perm ns->ns'.Pairwise (· <= ·)->Q (.ref (s.heap.objs.size+1)) { s with heap:=sortedAll s.heap vs z }):wpAny (model prog w) A (call (.builtin "sorted") [.ref l]) Q E s:=by
 refine sorted_any (κ:=oneType') (f:=fun p=>numOf p.1) hl hz (fun h' _ h2 A' E' Q' _ q=>?_) (fun h' _ h2 A' E' _=>asks_ints J.intKeys) fun z Y U=>?_
 .rw [kind_of_ints J h2]
  exact wpAny_pure q
 .obtain ⟨ns',a1,Z,L⟩:=sorted_out J Y (fun i j z1 O=>by
   rw [pairsOf_size] at O
   have:=U i j (yAD _) z1 (by omega)
   rw [kn_K,kn_K] at this
   exact this)
  exact h _ ns' a1 Z L
end
section
variable {X:Cx}
theorem call_sortedB:ZBd X (.builtin "sorted") (fun xs H Q=>∃ (p:Addr) (ns:List Int),xs=[.ref p] /\ SqL X.K H p (ns.map V.int) /\ ns.length <= 1000 /\ ∀ (l:Addr) (ms:List Int),H l=none->ms.Perm ns->ms.Pairwise (· <= ·)->Q (.ref l) (upd H l (.lst (ms.map V.int)))):=by
 intro pins s σ H xs us Q I r h
 obtain ⟨p,ns,rfl,hq,hn,q⟩:=h
 obtain ⟨u,rfl,rx⟩:=ZCU r
 cases rx
 obtain ⟨its,U,pl,hz⟩:=I.list hq
 have J:=U.length
 rw [yAB] at J
 refine sorted_intsB pl.isList (ZBE U) (by omega) fun L z a1 O Z=>?_
 obtain ⟨e,Y⟩:=sortedAll_at s.heap its L
 have a0:z.length=ns.length:=O.length_eq
 refine ⟨.ref (s.heap.objs.size+1),_,I.laid (t':=s.toks) (fun b o e=>sortedAll_old e) (yAY _) (o:=.lst (z.map V.int)) ⟨?_,L.toList,e,ZCT a1,by simpa using Y⟩,rfl,q _ z (I.hok.fresh (yAY _)) O Z⟩
 rw [yAB]
 exact ZAW (by omega)
theorem op_notB:OpR X (compareOp .IsNot) (fun x y H Q=>∃ b c,x=.bl b /\ y=.bl c /\ Q (.bl (b != c)) H):=by
 intro pins s σ H x y v u Q I J z h
 obtain ⟨b,c,rfl,rfl,q⟩:=h
 cases J
 cases z
 exact isnot_bool (ZAb I q rfl)
end
open PySem PySem.Spec PyProof.Rows
section
variable {κ:Type} [DecidableEq κ]
noncomputable def valV (kvs:List (κ×V)) (k:κ):Option V:=(kvs.find? fun kv=>decide (kv.1=k)).map (·.2)
noncomputable def putK (kvs:List (κ×V)) (k:κ) (v:V):List (κ×V) :=
 if (kvs.any fun kv=>decide (kv.1=k))=true then kvs.map (fun kv=>if kv.1=k then (kv.1,v) else kv) else kvs++[(k,v)]
theorem valV_nil {k:κ}:valV ([]:List (κ×V)) k=none:=rfl
theorem ZA3 {p:κ×V} {r:List (κ×V)} {k:κ} (e:p.1=k):valV (p::r) k=some p.2:=by simp [valV,yCN,e]
theorem ZA4 {p:κ×V} {r:List (κ×V)} {k:κ} (e:¬ p.1=k):valV (p::r) k=valV r k:=by simp [valV,yCN,e]
theorem ZCp (k:κ):∀ kvs:List (κ×V),(kvs.any fun z=>decide (z.1=k))=(valV kvs k).isSome
 | []=>rfl
 | p::r=>by
  rw [List.any_cons]
  by_cases e:p.1=k
  .simp only [ZA3 e,decide_eq_true e,Bool.true_or,Option.isSome_some]
  .rw [ZA4 e,decide_eq_false e,Bool.false_or];exact ZCp k r
theorem valV_map (k j:κ) (y:V):∀ kvs:List (κ×V),valV (kvs.map fun J=>if J.1=k then (J.1,y) else J) j=(valV kvs j).map fun x=>if j=k then y else x
 | []=>rfl
 | p::r=>by
  have L:=valV_map k j y r
  rw [yAU]
  by_cases h:p.1=k
  .rw [if_pos h]
   by_cases e:p.1=j
   .rw [ZA3 (p:=(p.1,y)) e,ZA3 e,yCA,if_pos (e.symm.trans h)]
   .rw [ZA4 (p:=(p.1,y)) e,ZA4 e,L]
  .rw [if_neg h]
   by_cases e:p.1=j
   .rw [ZA3 (p:=p) e,ZA3 e,yCA,if_neg (fun z=>h (e.trans z))]
   .rw [ZA4 (p:=p) e,ZA4 e,L]
theorem valV_snoc (k j:κ) (y:V):∀ kvs:List (κ×V),valV kvs k=none->valV (kvs++[(k,y)]) j=if j=k then some y else valV kvs j
 | [],_=>by
  by_cases e:k=j
  .rw [if_pos e.symm];exact ZA3 (p:=(k,y)) e
  .rw [if_neg (fun z=>e z.symm)];exact ZA4 (p:=(k,y)) e
 | p::r,hn=>by
  rw [List.cons_append]
  have J:¬ p.1=k:=fun z=>by rw [ZA3 z] at hn;cases hn
  rw [ZA4 J] at hn
  have L:=valV_snoc k j y r hn
  by_cases e:p.1=j
  .rw [ZA3 e,ZA3 e,if_neg (fun z=>J (e.trans z))]
  .rw [ZA4 e,ZA4 e,L]
theorem ZDW (kvs:List (κ×V)) (k j:κ) (y:V):valV (putK kvs k y) j=if j=k then some y else valV kvs j:=by
 unfold putK
 by_cases a:(kvs.any fun z=>decide (z.1=k))=true
 .rw [if_pos a,valV_map]
  rw [ZCp] at a
  by_cases e:j=k
  .obtain ⟨x,hx⟩:=Option.isSome_iff_exists.mp a
   rw [if_pos e,e,hx,yCA,if_pos rfl]
  .rw [if_neg e]
   cases valV kvs j with
   | none=>rfl
   | some x=>rw [yCA,if_neg e]
 .rw [if_neg a]
  refine valV_snoc k j y kvs ?_
  rw [ZCp] at a
  cases q:valV kvs k with
  | none=>rfl
  | some x=>rw [q] at a;exact (a rfl).elim
theorem ZBC (kvs:List (κ×V)) (k:κ) (v:V):(putK kvs k v).length <= kvs.length+1:=by
 unfold putK
 split
 .rw [yAB];omega
 .rw [yAC,yAK,yBL];omega
theorem RelO.isSome_eq {o:Option V} {u:Option Value} (r:RelO o u):o.isSome=u.isSome:=by
 cases o with
 | none=>cases u with
  | none=>rfl
  | some _=>exact (show False from r).elim
 | some _=>cases u with
  | none=>exact (show False from r).elim
  | some _=>rfl
theorem RelO.getD {o:Option V} {u:Option Value} {d:V} {d':Value} (r:RelO o u) (rd:RelV d d'):RelV (o.getD d) (u.getD d'):=by
 cases o with
 | none=>cases u with
  | none=>exact rd
  | some _=>exact (show False from r).elim
 | some _=>cases u with
  | none=>exact (show False from r).elim
  | some _=>exact r
theorem KV.val {kvs:List (κ×V)} {vs:List (κ×Value)} (r:KV kvs vs) (k:κ):RelO (valV kvs k) (valueAt vs k):=by
 unfold KV at r
 induction r with
 | nil=>exact True.intro
 | @cons p q ps qs h t ih=>
  obtain ⟨h1,h2⟩:=h
  by_cases e:p.1=k
  .have J:q.1=k:=h1.symm.trans e
   have b:valueAt (q::qs) k=some q.2:=by simp [valueAt,yCN,J]
   rw [ZA3 e,b];exact h2
  .have J:¬ q.1=k:=fun z=>e (h1.trans z)
   have b:valueAt (q::qs) k=valueAt qs k:=by simp [valueAt,yCN,J]
   rw [ZA4 e,b];exact ih
theorem KV.any {kvs:List (κ×V)} {vs:List (κ×Value)} (r:KV kvs vs) (k:κ):(kvs.any fun z=>decide (z.1=k))=vs.any fun z=>decide (z.1=k):=by
 unfold KV at r
 induction r with
 | nil=>rfl
 | cons h t ih=>rw [List.any_cons,List.any_cons,ih,h.1]
theorem KV.repl {kvs:List (κ×V)} {vs:List (κ×Value)} (r:KV kvs vs) (k:κ) {y:V} {u:Value} (L:RelV y u) :
  KV (kvs.map fun J=>if J.1=k then (J.1,y) else J) (vs.map fun J=>if J.1=k then (J.1,u) else J):=by
 unfold KV at r ⊢
 induction r with
 | nil=>exact .nil
 | @cons p q ps qs h t ih=>
  rw [yAU,yAU]
  refine .cons ?_ ih
  obtain ⟨h1,h2⟩:=h
  by_cases e:p.1=k
  .rw [if_pos e,if_pos (h1.symm.trans e)];exact ⟨h1,L⟩
  .rw [if_neg e,if_neg (fun z=>e (h1.trans z))];exact ⟨h1,h2⟩
theorem KV.put {kvs:List (κ×V)} {vs:List (κ×Value)} (r:KV kvs vs) (k:κ) {y:V} {u:Value} (z:RelV y u):KV (putK kvs k y) (stored vs k u):=by
 unfold putK stored
 rw [r.any k]
 by_cases e:(vs.any fun J=>decide (J.1=k))=true
 .rw [if_pos e,if_pos e];exact r.repl k z
 .rw [if_neg e,if_neg e];exact Paired.snoc r ⟨rfl,z⟩
theorem KV.length {kvs:List (κ×V)} {vs:List (κ×Value)} (r:KV kvs vs):kvs.length=vs.length:=Paired.length r
end
theorem ZEv {P:Program} {w:World} {k:Key} {u:Value} (r:RelV (kV k) u):(ZAZ P w).is k u=true:=by
 cases k with
 | inl i=>obtain ⟨t,e⟩:=(show ∃ t,u=Value.int i t from r);subst e;exact mixKind_int P w i t
 | inr x=>obtain ⟨t,e⟩:=(show ∃ t,u=Value.str x t from r);subst e;exact mixKind_str P w x t
theorem items_are {P:Program} {w:World}:∀ {ks:List Key} {us:List Value},Vals (ks.map kV) us->ItemsAre (ZAZ P w) ks us
 | [],_,r=>by rw [List.map_nil] at r;cases r;exact .nil
 | k::ks,_,r=>by
  rw [yAU] at r
  cases r with
  | cons h t=>exact .cons (ZEv h) (items_are t)
noncomputable abbrev KT (H:Hp):List (List Key×V)->List (List Key×Addr×Value)->Prop:=Paired fun p q=>p.1=q.1 /\ H q.2.1=some (.tup (p.1.map kV)) /\ RelV p.2 q.2.2
theorem KT.val {H:Hp} {kvs:List (List Key×V)} {xs:List (List Key×Addr×Value)} (r:KT H kvs xs) (k:List Key):RelO (valV kvs k) ((atKey xs k).map (·.2)):=by
 induction r with
 | nil=>exact True.intro
 | @cons p q ps qs h t ih=>
  obtain ⟨h1,_,h2⟩:=h
  by_cases e:p.1=k
  .have J:q.1=k:=h1.symm.trans e
   have b:atKey (q::qs) k=some q.2:=by simp [atKey,yCN,J]
   rw [ZA3 e,b];exact h2
  .have J:¬ q.1=k:=fun z=>e (h1.trans z)
   have b:atKey (q::qs) k=atKey qs k:=by simp [atKey,yCN,J]
   rw [ZA4 e,b];exact ih
theorem KT.repl {H:Hp} {kvs:List (List Key×V)} {xs:List (List Key×Addr×Value)} (r:KT H kvs xs) (k:List Key) {y:V} {u:Value} (L:RelV y u) :
  KT H (kvs.map fun J=>if J.1=k then (J.1,y) else J) (xs.map (putAt k u)):=by
 induction r with
 | nil=>exact .nil
 | @cons p q ps qs h t ih=>
  rw [yAU,yAU]
  refine .cons ?_ ih
  obtain ⟨h1,h2,h3⟩:=h
  unfold putAt
  by_cases e:p.1=k
  .rw [if_pos e,if_pos (h1.symm.trans e)];exact ⟨h1,h2,L⟩
  .rw [if_neg e,if_neg (fun z=>e (h1.trans z))];exact ⟨h1,h2,h3⟩
theorem KT.put {H:Hp} {kvs:List (List Key×V)} {xs:List (List Key×Addr×Value)} (r:KT H kvs xs) (k:List Key) {b:Addr} {y:V} {u:Value} (J:H b=some (.tup (k.map kV))) (z:RelV y u) :
  KT H (putK kvs k y) (storedH xs k b u):=by
 have e:(kvs.any fun L=>decide (L.1=k))=(atKey xs k).isSome:=by
  rw [ZCp,(r.val k).isSome_eq,Option.isSome_map]
 unfold putK storedH
 rw [e]
 by_cases q:(atKey xs k).isSome=true
 .rw [if_pos q,if_pos q];exact r.repl k z
 .rw [if_neg q,if_neg q];exact Paired.snoc r ⟨rfl,J,z⟩
theorem KT.keeps {H H':Hp} {kvs:List (List Key×V)} {xs:List (List Key×Addr×Value)} (r:KT H kvs xs) (J:∀ b ys,H b=some (.tup ys)->H' b=some (.tup ys)):KT H' kvs xs :=
 Paired.mapP r fun _ _ z=>⟨z.1,J _ _ z.2.1,z.2.2⟩
section
variable {P:Program} {w:World} {H:Hp} {h:Heap} {a:Addr}
theorem rd_of {u:HO} (ok:HOk P w H h) (e:Rd H a u):ObjOk P w H h a u:=e.ok ok
theorem ZE6 {kvs:List (Key×V)} (ok:HOk P w H h) (e:Rd H a (.dK kvs)):kvs.length <= sizeLine /\ (a == sysModules)=false /\ ∃ vs,KV kvs vs /\ h.DictOf (ZAZ P w) a vs :=
 show ObjOk P w H h a (.dK kvs) from rd_of ok e
theorem dk_of {kvs:List (Key×V)} (ok:HOk P w H h) (e:H a=some (.dK kvs)):kvs.length <= sizeLine /\ (a == sysModules)=false /\ ∃ vs,KV kvs vs /\ h.DictOf (ZAZ P w) a vs:=ZE6 ok (.inl e)
theorem ZDR {ks:List Key} (ok:HOk P w H h) (e:H a=some (.tup (ks.map kV))):(tupleKind (ZAZ P w)).is h ks a:=by
 obtain ⟨_,its,r,o,h1,h2,n,h3⟩:=(show ObjOk P w H h a (.tup (ks.map kV)) from ok a _ e)
 exact ⟨o,its.toArray,n,h1,h2,h3,by simpa using items_are r⟩
theorem ZFP {kvs:List (List Key×V)} (ok:HOk P w H h) (e:Rd H a (.dT kvs)):kvs.length <= sizeLine /\ (a == sysModules)=false /\
  ∃ xs,KT H kvs xs /\ h.DictOfH (tupleKind (ZAZ P w)) a xs:=by
 obtain ⟨z,y,xs,r,o,es,ep,h1,h2,h3,L,J⟩:=(show ObjOk P w H h a (.dT kvs) from rd_of ok e)
 refine ⟨z,y,xs,r,o,es,ep,h1,h2,h3,L,fun x hx=>?_,J⟩
 have all:∀ {l:List (List Key×V)} {m:List (List Key×Addr×Value)},KT H l m->∀ x∈m,(tupleKind (ZAZ P w)).is h x.1 x.2.1:=by
  intro l m q
  induction q with
  | nil=>intro x hx;exact nomatch hx
  | @cons p q ps qs hq t ih=>
   intro x hx
   rcases yAG.mp hx with e | hx
   .subst e
    exact ZDR ok (by rw [<- hq.1];exact hq.2.1)
   .exact ih x hx
 exact all r x hx
theorem dt_of {kvs:List (List Key×V)} (ok:HOk P w H h) (e:H a=some (.dT kvs)):kvs.length <= sizeLine /\ (a == sysModules)=false /\
  ∃ xs,KT H kvs xs /\ h.DictOfH (tupleKind (ZAZ P w)) a xs:=ZFP ok (.inl e)
end
noncomputable def DGet (H:Hp) (a:Addr) (y:V) (r:Option V):Prop :=
 (∃ kvs k,Rd H a (.dK kvs) /\ y=kV k /\ r=valV kvs k)∨∃ kvs k b,Rd H a (.dT kvs) /\ y=.ref b /\ H b=some (.tup (k.map kV)) /\ r=valV kvs k
noncomputable def DPut (H:Hp) (a:Addr) (y v:V) (H':Hp):Prop :=
 (∃ kvs k,H a=some (.dK kvs) /\ y=kV k /\ kvs.length < sizeLine /\ H'=upd H a (.dK (putK kvs k v))) ∨
 ∃ kvs k b,H a=some (.dT kvs) /\ y=.ref b /\ H b=some (.tup (k.map kV)) /\ kvs.length < sizeLine /\ H'=upd H a (.dT (putK kvs k v))
theorem DGet.t {H:Hp} {a b:Addr} {kvs:List (List Key×V)} {k:List Key} (e:H a=some (.dT kvs)) (z:H b=some (.tup (k.map kV))):DGet H a (.ref b) (valV kvs k):=.inr ⟨kvs,k,b,.inl e,rfl,z,rfl⟩
theorem DPut.k {H:Hp} {a:Addr} {kvs:List (Key×V)} {k:Key} {v:V} (e:H a=some (.dK kvs)) (hl:kvs.length < sizeLine):DPut H a (kV k) v (upd H a (.dK (putK kvs k v))):=.inl ⟨kvs,k,e,rfl,hl,rfl⟩
theorem DPut.t {H:Hp} {a b:Addr} {kvs:List (List Key×V)} {k:List Key} {v:V} (e:H a=some (.dT kvs)) (z:H b=some (.tup (k.map kV))) (hl:kvs.length < sizeLine) :
  DPut H a (.ref b) v (upd H a (.dT (putK kvs k v))):=.inr ⟨kvs,k,b,e,rfl,z,hl,rfl⟩
section
variable {X:Cx} {pins:List (Addr×Obj)} {σ:St} {H:Hp} {s:Shared} {a:Addr} {y v:V} {u r:Value} {o:Option V} {A:Around} {E:Value->Shared->Prop}
theorem Inv.big (I:Inv X pins σ H s):sysModules < s.heap.objs.size:=by
 have h:mainGlobals < s.heap.objs.size:=(I.mod.glob.keeps I.bk).lt
 exact Nat.lt_trans (by decide) h
theorem d_in {Q:Value->Shared->Prop} (Y:A.units+1 < cLine) (I:Inv X pins σ H s) (g:DGet H a y o) (U:RelV y u) (h:∀ s',Inv X pins σ H s'->Q (.bool o.isSome) s') :
  wpAny (model X.prog X.w) A (compareOp .In u (.ref a)) Q E s:=by
 rcases g with ⟨kvs,k,e,O,l⟩ | ⟨kvs,k,b,e,O,Z,l⟩
 .subst O
  obtain ⟨z,L,vs,J,dd⟩:=ZE6 I.hok e
  refine wpAny_in_of (ZEv U) L dd.mapOf ?_
  rw [<- (J.val k).isSome_eq,<- l]
  exact h _ (I.tok _)
 .subst O
  cases (show u=Value.ref b from U)
  obtain ⟨z,L,xs,J,dd⟩:=ZFP I.hok e
  refine wpAny_in_heap (tupleKind_room_in1 Y) (ZDR I.hok Z) L dd ?_
  have q:=(J.val k).isSome_eq
  rw [Option.isSome_map] at q
  rw [<- q,<- l]
  exact h _ (I.tok _)
theorem d_notIn {Q:Value->Shared->Prop} (Y:A.units+1 < cLine) (I:Inv X pins σ H s) (g:DGet H a y o) (U:RelV y u) (h:∀ s',Inv X pins σ H s'->Q (.bool (!o.isSome)) s') :
  wpAny (model X.prog X.w) A (compareOp .NotIn u (.ref a)) Q E s:=by
 rcases g with ⟨kvs,k,e,O,l⟩ | ⟨kvs,k,b,e,O,Z,l⟩
 .subst O
  obtain ⟨z,L,vs,J,dd⟩:=ZE6 I.hok e
  refine wpAny_notIn_of (ZEv U) L dd.mapOf ?_
  rw [<- (J.val k).isSome_eq,<- l]
  exact h _ (I.tok _)
 .subst O
  cases (show u=Value.ref b from U)
  obtain ⟨z,L,xs,J,dd⟩:=ZFP I.hok e
  refine wpAny_notIn_heap (tupleKind_room_in1 Y) (ZDR I.hok Z) L dd ?_
  have q:=(J.val k).isSome_eq
  rw [Option.isSome_map] at q
  rw [<- q,<- l]
  exact h _ (I.tok _)
theorem d_write {h':Heap} {t':Nat} {ob:HO} (I:Inv X pins σ H s) (O:Mut (H a)) (U:Heap.SameBut a s.heap h') (L:∃ q,h'.get? a=some q) (new:ObjOk X.prog X.w (upd H a ob) h' a ob) :
  Inv X pins σ (upd H a ob) { s with heap:=h',toks:=t' } :=
 I.write (x:=a) (e:=a) O (.inl rfl) (fun b q J z=>(U.2 b J).trans z) L new
theorem dk_new {P:Program} {w:World} {H':Hp} {h':Heap} {kvs:List (Key×V)} {vs:List (Key×Value)} (z:kvs.length <= sizeLine) (L:(a == sysModules)=false) (J:KV kvs vs) (dd:h'.DictOf (ZAZ P w) a vs) :
  ObjOk P w H' h' a (.dK kvs):=⟨z,L,vs,J,dd⟩
theorem d_setItem {H':Hp} {Q:Unit->Shared->Prop} (hu:A.units+1 < cLine) (I:Inv X pins σ H s) (g:DPut H a y v H') (ry:RelV y u) (rv:RelV v r) (h:∀ s',Inv X pins σ H' s'->Q () s') :
  wpAny (model X.prog X.w) A (setItem (.ref a) u r) Q E s:=by
 rcases g with ⟨kvs,k,e,ey,l,Y⟩ | ⟨kvs,k,b,e,ey,eb,l,Y⟩
 .subst ey Y
  obtain ⟨z,Z,vs,J,dd⟩:=dk_of I.hok e
  have hz:vs.length <= sizeLine:=by rw [<- J.length];exact z
  have hl:(putK kvs k v).length <= sizeLine:=by have:=ZBC kvs k v;omega
  refine wpAny_setItem_pairs (hsz:=hz) (ZEv ry) dd fun h' L U=>h _ ?_
  have he:∃ q,h'.get? a=some q:=let ⟨q,_,_,O,_⟩:=L;⟨q,O⟩
  exact d_write I (by rw [e];exact True.intro) U he (dk_new hl Z (J.put k rv) L)
 .subst ey Y
  cases (show u=Value.ref b from ry)
  obtain ⟨z,Z,xs,J,dd⟩:=dt_of I.hok e
  have hz:xs.length <= sizeLine:=by rw [<- Paired.length J];exact z
  have hl:(putK kvs k v).length <= sizeLine:=by have:=ZBC kvs k v;omega
  refine wpAny_setItem_heap (hsz:=hz) (tupleKind_room_in1 hu) (ZDR I.hok eb) dd fun h' L U=>h _ ?_
  obtain ⟨q,es,ep,O,h2,h3,h4,_,h5⟩:=L
  refine d_write I (by rw [e];exact True.intro) U ⟨q,O⟩ ⟨hl,Z,_,(J.put k eb rv).keeps fun c ys ec=>?_,q,es,ep,O,h2,h3,h4,h5⟩
  rw [ZAG (ne_of ec e (fun z=>nomatch z))]
  exact ec
end
section
variable {X:Cx} {pins:List (Addr×Obj)} {σ:St} {H:Hp} {s:Shared} {a:Addr} {kvs:List (Key×V)} {k:Key} {u:Value} {A:Around} {E:Value->Shared->Prop}
end
noncomputable def tDGet (td ty:TE):TE:=fun σ H Q=>td σ H fun x H1=>ty σ H1 fun y H2=>∃ a v,x=.ref a /\ DGet H2 a y (some v) /\ Q v H2
noncomputable def tDIn (ty td:TE):TE:=fun σ H Q=>ty σ H fun y H1=>td σ H1 fun x H2=>∃ a o,x=.ref a /\ DGet H2 a y o /\ Q (.bl o.isSome) H2
noncomputable def ZD3 (ty td:TE):TE:=fun σ H Q=>ty σ H fun y H1=>td σ H1 fun x H2=>∃ a o,x=.ref a /\ DGet H2 a y o /\ Q (.bl (!o.isSome)) H2
noncomputable def ZFG (td ty tv:TE):TS:=fun D σ H=>tv σ H fun v H1=>td σ H1 fun x H2=>ty σ H2 fun y H3=>∃ a H4,x=.ref a /\ DPut H3 a y v H4 /\ D.nx σ H4
section
variable {X:Cx} {o i e value:Expr} {pos pos' tpos:Pos} {td ty tv:TE}
theorem pc_din (L:X.A.units+1 < cLine) (hi:PE X i ty) (ho:PE X o td):PC X .In i o (tDIn ty td):=by
 intro pins s σ H Q I h
 refine thn (hi pins s σ H _ I h) fun iv s1 ⟨y,H1,Z,z,Y⟩=>thn (ho pins s1 σ H1 _ Z Y) fun u s2 ⟨x,H2,O,U,a,ov,ex,g,J⟩=>?_
 subst ex
 obtain rfl:u=Value.ref a:=U
 exact d_in L O g z fun s3 I3=>⟨.bl ov.isSome,H2,I3,rfl,J⟩
theorem pc_dnotin (L:X.A.units+1 < cLine) (hi:PE X i ty) (ho:PE X o td):PC X .NotIn i o (ZD3 ty td):=by
 intro pins s σ H Q I h
 refine thn (hi pins s σ H _ I h) fun iv s1 ⟨y,H1,Z,z,Y⟩=>thn (ho pins s1 σ H1 _ Z Y) fun u s2 ⟨x,H2,O,U,a,ov,ex,g,J⟩=>?_
 subst ex
 obtain rfl:u=Value.ref a:=U
 exact d_notIn L O g z fun s3 I3=>⟨.bl (!ov.isSome),H2,I3,rfl,J⟩
theorem ps_dput (O:X.A.units+1 < cLine) (ho:PE X o td) (hi:PE X i ty) (hv:PE X value tv) (L:swapsWith value (some (.Subscript o i pos')) pos.line X.env=pure false) :
  PS X (.Assign [.Subscript o i pos'] value pos) (ZFG td ty tv):=by
 intro pins s σ H D I h
 refine wpAny_Assign_Subscript (thn (hv pins s σ H _ I h) fun r s1 ⟨v,H1,I1,Z,q1⟩=>thn (ho pins s1 σ H1 _ I1 q1) fun u s2 ⟨x,H2,U,Y,J⟩=>thn (hi pins s2 σ H2 _ U J) fun iv s3 ⟨y,H3,I3,z,a,H4,ex,g,q3⟩=>?_) L
 subst ex
 obtain rfl:u=Value.ref a:=Y
 exact d_setItem O I3 g z Z fun s4 I4=>⟨σ,H4,I4,q3⟩
end
theorem dk_empty {P:Program} {w:World} {H:Hp} (h:Heap) (z:sysModules < h.objs.size):ObjOk P w H (h.push { cls:=.type "dict",data:=.dict #[] }) h.objs.size (.dK []) :=
 ⟨yAD _,beq_eq_false_iff_ne.mpr (Ne.symm (yAE z)),[],.nil,Heap.DictOf.new h⟩
theorem dt_empty {P:Program} {w:World} {H:Hp} (h:Heap) (z:sysModules < h.objs.size):ObjOk P w H (h.push { cls:=.type "dict",data:=.dict #[] }) h.objs.size (.dT []) :=
 ⟨yAD _,beq_eq_false_iff_ne.mpr (Ne.symm (yAE z)),[],.nil,_,#[],0,Heap.get?_push_size _ rfl,⟨rfl,rfl,rfl⟩,rfl,rfl,List.nodup_nil⟩
noncomputable def ZEi:TE:=fun _ H Q=>∀ p,H p=none->Q (.ref p) (upd H p (.dK []))
noncomputable def ZEh:TE:=fun _ H Q=>∀ p,H p=none->Q (.ref p) (upd H p (.dT []))
section
variable {X:Cx} {pos:Pos}
theorem pe_dnewK:PE X (.Dict [] [] pos) ZEi:=fun pins s σ H Q I h=>
 wpAny_Dict_empty ⟨.ref s.heap.objs.size,_,I.laid (a:=s.heap.objs.size) (o:=.dK []) (t':=s.toks) (fun _ _ q=>Heap.get?_push_of_some _ q) (yAA _) (dk_empty s.heap I.big),rfl,h _ (I.hok.fresh (yAA _))⟩
theorem pe_dnewT:PE X (.Dict [] [] pos) ZEh:=fun pins s σ H Q I h=>
 wpAny_Dict_empty ⟨.ref s.heap.objs.size,_,I.laid (a:=s.heap.objs.size) (o:=.dT []) (t':=s.toks) (fun _ _ q=>Heap.get?_push_of_some _ q) (yAA _) (dt_empty s.heap I.big),rfl,h _ (I.hok.fresh (yAA _))⟩
end
end L2
namespace PySem
open Sem (wp)
namespace F
theorem lk_list_keys:typeLookup (.type "list") "keys"=pure none:=by rw [typeLookup_type,builtinLookup_eq_fast];kernel_rfl
theorem lk_list_getattr:typeLookup (.type "list") "__getattr__"=pure none:=by rw [typeLookup_type,builtinLookup_eq_fast];kernel_rfl
theorem sub_ae:isSubtype (.type "AttributeError") (.type "AttributeError")=pure true:=by rw [isSubtype_type];kernel_rfl
end F
section
variable {α:Type} {prog:Program} {w:World} {A:Around} {E:Value->Shared->Prop} {s:Shared}
noncomputable def NewX (h h':Heap) (e:Addr):Prop:=(∀ b u,h.get? b=some u->h'.get? b=some u) /\ ∃ ob,h'.get? e=some ob /\ ob.cls=.type "AttributeError"
theorem note_any {h:Heap} {g:Array GenState} {d:Drawn} {t:Nat} {os:OsState} {e:Addr} {v nm O:Value} {Q:Unit->Shared->Prop} (z:h.get? e=some { cls:=.type "AttributeError",data:=.fields #[O,.none,.none,.none,.bool false,.none,unsetMember,unsetMember] })
  (L:Q () ⟨h.update e (Obj.mapFields fun vs=>vs.extract 0 6++#[nm,v]),g,d,t,os⟩):wpAny (model prog w) A (noteAttr (.ref e) v nm) Q E ⟨h,g,d,t,os⟩:=by
 have f1:=F.sub_ae
 have J:(⟨h,g,d,t,os⟩:Shared).TypeIs (.ref e) "AttributeError":=⟨_,z,rfl⟩
 unfold noteAttr lacksNameAndObj
 refine wpAny_bind (wpAny_bind (wpAny_isInstance (b:=true) J f1 ?_))
 refine wpAny_bind (wpAny_load z ?_)
 refine wpAny_of_eq (a:=true) (by kernel_rfl) ?_
 rw [if_pos rfl]
 refine wpAny_bind (wpAny_rule ?_)
 refine wpAny_bind (wpAny_typeOf J ?_)
 show wpAny _ _ (layMembers e 6 #[nm,v]) _ _ _
 unfold layMembers
 refine wpAny_bind (wpAny_load z ?_)
 show wpAny _ _ (update e (Obj.mapFields fun vs=>vs.extract 0 6++#[nm,v])) _ _ _
 exact wpAny_update z L
theorem raiseAttr_any {v:Value} {x z:Str} {h:Heap} {g:Array GenState} {d:Drawn} {t:Nat} {os:OsState} {Q:α->Shared->Prop} (hh:A.handled=none) (hm:z.length <= sizeLine)
  (Y:∀ h' t' e,NewX h h' e->E (.ref e) ⟨h',g,d,t',os⟩):wpAny (model prog w) A (raiseAttrError v x z:Sem α) Q E ⟨h,g,d,t,os⟩:=by
 unfold raiseAttrError
 refine wpAny_bind (wpAny_mkStr (wpAny_bind ?_) hm)
 unfold newExc newTuple
 refine wpAny_bind (wpAny_newObj_type ?_)
 refine wpAny_bind (m:=firstArgMember _ _) (wpAny_of_eq (a:=Value.none) (by kernel_rfl) ?_)
 refine wpAny_newObj_type ?_
 have U:∀ b u,h.get? b=some u->(h.push { cls:=.type "tuple",data:=.seq [Value.str z t].toArray }).get? b=some u:=fun b u e=>Heap.get?_push_of_some _ e
 show wpAny (model prog w) A (do noteAttr (.ref (h.push { cls:=.type "tuple",data:=.seq [Value.str z t].toArray }).objs.size) v (<- mkText x);raiseNew (.ref (h.push { cls:=.type "tuple",data:=.seq [Value.str z t].toArray }).objs.size)) Q E ⟨(h.push { cls:=.type "tuple",data:=.seq [Value.str z t].toArray }).push { cls:=.type "AttributeError",data:=.fields #[.ref h.objs.size,.none,.none,.none,.bool false,.none,unsetMember,unsetMember] },g,d,t+1,os⟩
 generalize (h.push { cls:=.type "tuple",data:=.seq [Value.str z t].toArray })=h1 at U ⊢
 have J:∀ b u,h.get? b=some u->(h1.push { cls:=.type "AttributeError",data:=.fields #[.ref h.objs.size,.none,.none,.none,.bool false,.none,unsetMember,unsetMember] }).get? b=some u:=fun b u e=>Heap.get?_push_of_some _ (U b u e)
 have L:∀ b u,h.get? b=some u->b≠h1.objs.size:=fun b u e=>yAE (Heap.lt_size (U b u e))
 have O:(h1.push { cls:=.type "AttributeError",data:=.fields #[.ref h.objs.size,.none,.none,.none,.bool false,.none,unsetMember,unsetMember] }).get? h1.objs.size=some { cls:=.type "AttributeError",data:=.fields #[.ref h.objs.size,.none,.none,.none,.bool false,.none,unsetMember,unsetMember] }:=Heap.get?_push_size _ rfl
 generalize h1.push { cls:=.type "AttributeError",data:=.fields #[.ref h.objs.size,.none,.none,.none,.bool false,.none,unsetMember,unsetMember] }=h2 at J O ⊢
 generalize h1.objs.size=ea at L O ⊢
 refine wpAny_bind (wpAny_mkText ?_)
 refine wpAny_bind (note_any O ?_)
 unfold raiseNew
 refine wpAny_bind (wpAny_handled ?_)
 rw [hh]
 first
  | refine wpAny_throw ?_
  | refine wpAny_bind (wpAny_pure (wpAny_throw ?_))
 exact Y _ _ _ ⟨fun b u e=>(Heap.get?_update_other _ _ (Ne.symm (L b u e))).trans (J b u e),_,Heap.get?_update_self _ O rfl,rfl⟩
end
section
variable {prog:Program} {w:World} {A:Around} {E:Value->Shared->Prop} {h:Heap} {g:Array GenState} {d:Drawn} {t:Nat} {os:OsState} {a:Addr} {its:Array Value} {n:Nat}
theorem nokeys_entry {tk:Tok} {Q:Fin->Shared->Prop} (hh:A.handled=none) (hx:h.get? a=some { cls:=.type "list",data:=.seq its n })
  (z:∀ h' t' e,NewX h h' e->E (.ref e) ⟨h',g,d,t',os⟩) :
  wpAny (model prog w) A (Builtin.«object.__getattribute__» ⟨[.ref a,.str "keys" tk],[]⟩) Q E ⟨h,g,d,t,os⟩:=by
 have L:(⟨h,g,d,t,os⟩:Shared).TypeIs (.ref a) "list":=⟨_,hx,rfl⟩
 have J:=F.lk_list_keys
 repeat (any_goals (first | assumption | wp_step))
 exact raiseAttr_any hh (by decide +kernel) z
theorem nokeys_call {tk:Tok} {R:Result->Shared->Prop} (hh:A.handled=none) (hx:h.get? a=some { cls:=.type "list",data:=.seq its n })
  (z:∀ h' t' e,NewX h h' e->R (.error (.ref e)) ⟨h',g,d,t',os⟩) :
  codeAny (model prog w) A (.call (.builtin "list.__getattribute__") ⟨[.ref a,.str "keys" tk],[]⟩) R ⟨h,g,d,t,os⟩ :=
 codeAny_call_builtin F.slot_list_getattribute.plain F.entry_list_ga (F.slot_list_getattribute.check _ _ _ _ _ _ _ _ (show (⟨h,g,d,t,os⟩:Shared).TypeIs (.ref a) "list" from ⟨_,hx,rfl⟩) (F.args_list_getattribute_2 _ _) (nokeys_entry hh hx z))
theorem nokeys_by {tk:Tok} {Q:Value->Shared->Prop} (hh:A.handled=none) (hx:h.get? a=some { cls:=.type "list",data:=.seq its n })
  (O:∀ h' t' e,NewX h h' e->E (.ref e) ⟨h',g,d,t',os⟩):wpAny (model prog w) A (getAttrBy (.ref a) (.str "keys" tk) false) Q E ⟨h,g,d,t,os⟩:=by
 have Z:(⟨h,g,d,t,os⟩:Shared).TypeIs (.ref a) "list":=⟨_,hx,rfl⟩
 have U:=F.slot_list_getattribute.lookup
 have Y:=F.slot_list_getattribute.bind (.ref a)
 have J:=F.lk_list_getattr
 have L:=F.sub_ae
 repeat (any_goals (first | assumption | wp_step))
 refine nokeys_call hh hx fun h' t' e hn=>?_
 obtain ⟨k,ob,z,hc⟩:=id hn
 show wpAny _ _ (getattributeRaised (Value.ref a) (Value.str (Str.ofString "keys") tk) (Value.type "list") (.ref e) none false false) _ _ _
 unfold getattributeRaised
 refine wpAny_bind (wpAny_isInstance (b:=true) (show (⟨h',g,d,t',os⟩:Shared).TypeIs (.ref e) "AttributeError" from ⟨_,z,hc⟩) L ?_)
 rw [if_pos rfl]
 refine wpAny_bind (m:=hookBehind _ _) (wpAny_of_eq (a:=none) J ?_)
 show wpAny _ _ (attributeErrorLeaves _ _ _ false false) _ _ _
 unfold attributeErrorLeaves
 dsimp only
 rw [if_pos (by decide)]
 exact wpAny_bind (wpAny_throw (O _ _ _ hn))
theorem nokeys_attr {Q:Option Value->Shared->Prop} (hh:A.handled=none) (hx:h.get? a=some { cls:=.type "list",data:=.seq its n })
  (L:∀ h' t',(∀ b u,h.get? b=some u->h'.get? b=some u)->Q none ⟨h',g,d,t',os⟩):wpAny (model prog w) A (getAttr? (.ref a) "keys") Q E ⟨h,g,d,t,os⟩:=by
 have J:=F.sub_ae
 unfold getAttr? getAttrBy?
 refine wpAny_bind (wpAny_mkText ?_)
 refine wpAny_bind (wpAny_attempt ?_)
 refine nokeys_by hh hx fun h' t' e hn=>?_
 obtain ⟨k,ob,z,hc⟩:=id hn
 show wpAny _ _ (do if <- isInstance (.ref e) (.type "AttributeError") then pure none else throw (.ref e)) _ _ _
 refine wpAny_bind (wpAny_isInstance (b:=true) (show (⟨h',g,d,t',os⟩:Shared).TypeIs (.ref e) "AttributeError" from ⟨_,z,hc⟩) J ?_)
 rw [if_pos rfl]
 exact wpAny_pure (L _ _ k)
end
end PySem
namespace PySem
namespace F
theorem entry_upd_loop:entryFor table "dict.update.loop"=some Builtin.«dict.update.loop»:=entryFor_of_tree (by kernel_rfl)
theorem plain_upd_loop:plainId "dict.update.loop"=true:=by decide +kernel
end F
end PySem
namespace L2
open PySem PySem.Spec PyProof.Rows
theorem key_mono {P:Program} {w:World} {h h':Heap} {ks:List Key} {a:Addr} (m:∀ b o,h.get? b=some o->h'.get? b=some o) (k:(tupleKind (ZAZ P w)).is h ks a):(tupleKind (ZAZ P w)).is h' ks a:=by
 obtain ⟨o,its,n,h1,r⟩:=k
 exact ⟨o,its,n,m _ _ h1,r⟩
theorem KT.is {P:Program} {w:World} {H:Hp} {h:Heap} (ok:HOk P w H h):∀ {l:List (List Key×V)} {m:List (List Key×Addr×Value)},KT H l m->∀ x∈m,(tupleKind (ZAZ P w)).is h x.1 x.2.1:=by
 intro l m q
 induction q with
 | nil=>intro x hx;exact nomatch hx
 | @cons p q ps qs hq t ih=>
  intro x hx
  rcases yAG.mp hx with e | hx
  .subst e
   exact ZDR ok (by rw [<- hq.1];exact hq.2.1)
  .exact ih x hx
noncomputable abbrev PQ:=Addr×Addr×List Key×V
noncomputable def ZBu (m:List (List Key×V)) (ps:List PQ):List (List Key×V):=ps.foldl (fun m q=>putK m q.2.2.1 q.2.2.2) m
theorem putAll_len:∀ (ps:List PQ) (m:List (List Key×V)),(ZBu m ps).length <= m.length+ps.length
 | [],m=>yAA _
 | q::r,m=>by
  have:=putAll_len r (putK m q.2.2.1 q.2.2.2)
  have h2:=ZBC m q.2.2.1 q.2.2.2
  show (ZBu (putK m q.2.2.1 q.2.2.2) r).length <= _
  rw [yAK];omega
section
variable {X:Cx} {pins:List (Addr×Obj)} {σ:St} {H:Hp} {s1:Shared} {A:Around}
noncomputable def Lp (X:Cx) (H:Hp) (s1 s:Shared) (d:Addr) (kvs:List (List Key×V)):Prop :=
 (∀ b o,s1.heap.get? b=some o->s.heap.get? b=some o) /\ s={ s1 with heap:=s.heap,toks:=s.toks } /\ ∃ xs,KT H kvs xs /\ s.heap.DictOfH (tupleKind (ZAZ X.prog X.w)) d xs
theorem dict_loop {R:Result->Shared->Prop} (I1:Inv X pins σ H s1) (hh:A.handled=none) (hu:A.units+1 < cLine) {I l d:Addr} {its:List Value} {ps:List PQ} (a2:Vals (ps.map fun q=>V.ref q.1) its)
  (hp:∀ q∈ps,H q.1=some (.tup [.ref q.2.1,q.2.2.2]) /\ H q.2.1=some (.tup (q.2.2.1.map kV))) (hz:ps.length <= sizeLine) (a7:l≠I) (a1:d≠I) (a8:l≠d) (nI:s1.heap.get? I=none) (nd:s1.heap.get? d=none) :
  ∀ (k i:Nat) (s:Shared) (kvs:List (List Key×V)),ps.length-i=k->i <= ps.length->kvs.length <= i->(s.heap.IsListIter I l i /\ s.heap.IsList l its.toArray)->Lp X H s1 s d kvs ->
  (∀ s',Lp X H s1 s' d (ZBu kvs (ps.drop i))->R (.ok (.ret .none)) s') ->
  codeAny (model X.prog X.w) A (.builtin "dict.update.loop" ⟨[.ref d,.ref I,rawInt i,.none],[]⟩) R s:=by
 have W:=Walks.list (prog:=X.prog) (w:=X.w) (A:=A.in1) hh I l a7 its.toArray
 have hn:its.toArray.size=ps.length:=by rw [yAN,<- a2.length,yAB]
 rw [hn] at W
 have mv:∀ {s:Shared} {h':Heap} {tk:Nat} {kvs:List (List Key×V)},Lp X H s1 s d kvs->(∀ b o,b∉[I]->s.heap.get? b=some o->h'.get? b=some o)->Lp X H s1 { s with heap:=h',toks:=tk } d kvs:=by
  rintro s h' tk kvs ⟨p,e,xs,Y,o,es,ep,h1,h2,h3,h4,h5,h6⟩ m
  have p':∀ b o,s1.heap.get? b=some o->h'.get? b=some o:=fun b o J=>m b o (fun z=>by rw [yAP.mp z,nI] at J;cases J) (p b o J)
  exact ⟨p',by rw [e],xs,Y,o,es,ep,m d o (fun z=>a1 (yAP.mp z)) h1,h2,h3,h4,fun x hx=>key_mono p' (KT.is I1.hok Y x hx),h6⟩
 intro k
 induction k with
 | zero=>
  intro i s kvs hk hi a3 L hL hR
  have a6:i=ps.length:=by omega
  subst a6
  refine codeAny_builtin F.entry_upd_loop ?_
  rw [Around.under_plainId F.plain_upd_loop _]
  show wpAny _ A.in1 (pyNext (.ref I) >>= _) _ _ s
  refine wpAny_bind (W.done s _ _ L fun h' tk m=>?_)
  show wpAny _ A.in1 (Builtin.Dict.addKeywords d [] >>= fun _=>ret .none) _ _ _
  refine wpAny_bind (wpAny_pure (wpAny_pure ?_))
  refine hR _ ?_
  rw [List.drop_of_length_le (yAA _)]
  exact mv hL m
 | succ k ih=>
  intro i s kvs hk hi a3 L hL hR
  have O:i < ps.length:=by omega
  refine codeAny_builtin F.entry_upd_loop ?_
  rw [Around.under_plainId F.plain_upd_loop _]
  show wpAny _ A.in1 (pyNext (.ref I) >>= _) _ _ s
  refine wpAny_bind (W.item i s _ _ O L fun v h' tk hP a0 m=>?_)
  have a5:=mv (tk:=tk) hL m
  obtain ⟨q,hq⟩:∃ q,ps[i]?=some q:=⟨_,yAH O⟩
  obtain ⟨u,aa,ru⟩:=a2.get (show (ps.map fun q=>V.ref q.1)[i]?=some (V.ref q.1) by rw [yAT,hq];rfl)
  have hv:v=u:=by
   rw [<- yBE] at hP
   rw [aa] at hP
   exact (Option.some.inj hP).symm
  subst hv
  cases (show v=Value.ref q.1 from ru)
  obtain ⟨ht,Z⟩:=hp q (yAO hq)
  obtain ⟨pz,pe,xs,Y,ac⟩:=a5
  obtain ⟨_,U,r2,o2,g1,g2,n2,g3⟩:=(show ObjOk X.prog X.w H s1.heap q.1 (.tup [.ref q.2.1,q.2.2.2]) from I1.hok q.1 _ ht)
  obtain ⟨u1,u2,rfl,rb,rv⟩:∃ u1 u2,U=[u1,u2] /\ RelV (.ref q.2.1) u1 /\ RelV q.2.2.2 u2:=by
   cases r2 with
   | cons p q=>
    cases q with
    | cons p' q'=>
     cases q'
     exact ⟨_,_,rfl,p,p'⟩
  cases (show u1=Value.ref q.2.1 from rb)
  dsimp only
  refine wpAny_bind (wpAny_holding (wpAny_bind (wpAny_tryCatch ?_)))
  unfold Builtin.Dict.pairItems
  refine wpAny_bind (wpAny_typeOf (show Shared.TypeIs _ _ "tuple" from ⟨o2,pz _ _ g1,g2⟩) ?_)
  rw [if_pos (by decide)]
  refine wpAny_bind (wpAny_seqItems (pz _ _ g1) g3 (wpAny_pure ?_))
  show wpAny _ A.in1 (holding [.ref q.2.1,u2] (dictSet d (.ref q.2.1) u2)) _ _ _
  have ad:xs.length=kvs.length:=(Paired.length Y).symm
  refine wpAny_holding (wpAny_dictSet_heap (knd:=tupleKind (ZAZ X.prog X.w)) (tupleKind_room_in1 hu) (key_mono pz (ZDR I1.hok Z)) ac (fun h2 a9 sb=>?_) (by omega))
  refine wpAny_pure ⟨plainId_quiet F.plain_upd_loop _,?_⟩
  have nb:∀ {b:Addr} {o:Obj},s1.heap.get? b=some o->b≠d:=fun J z=>by rw [z,nd] at J;cases J
  refine ih (i+1) _ (putK kvs q.2.2.1 q.2.2.2) (by omega) O (yAF (ZBC _ _ _) (by omega)) (W.frame (i+1) h' h2 a0 fun b J o e=>?_) ⟨fun b o J=>(sb.2 b (nb J)).trans (pz b o J),by rw [hL.2.1],storedH xs q.2.2.1 q.2.1 u2,Y.put _ Z rv,a9⟩ fun s' a4=>hR s' ?_
  .refine (sb.2 b fun z=>?_).trans e
   rcases yAG.mp J with y | y
   .exact a1 (z.symm.trans y)
   .exact a8 ((yAP.mp y).symm.trans z)
  .have e:ps.drop i=q::ps.drop (i+1):=by
    obtain ⟨h1,h2⟩:=yAM.mp hq
    rw [List.drop_eq_getElem_cons h1,h2]
   rw [e]
   exact a4
theorem call_dictP (hc:X.calm=true) (hu:X.A.units+64 < cLine):ZBd X (.type "dict") (fun xs H Q=>∃ (p:Addr) (ps:List PQ),xs=[.ref p] /\ H p=some (.lst (ps.map fun q=>V.ref q.1)) /\ (∀ q∈ps,H q.1=some (.tup [.ref q.2.1,q.2.2.2]) /\ H q.2.1=some (.tup (q.2.2.1.map kV))) /\
  ∀ d,H d=none->Q (.ref d) (upd H d (.dT (ZBu [] ps)))):=by
 intro pins s σ H xs us Q I r h
 obtain ⟨p,ps,rfl,a2,a3,q⟩:=h
 obtain ⟨u,rfl,rx⟩:=ZCU r
 cases rx
 obtain ⟨z,its,n,r',hl,e⟩:=I.lstM a2
 rw [yAB] at z
 have hh:X.A.handled=none:=I.ok.hd hc
 refine callType_codes (Q₁:=fun obj s₁=>obj=.ref s.heap.objs.size /\ s₁={ s with heap:=s.heap.push { cls:=.type "dict",data:=.dict #[] } }) F.kt_called_dict (F.kt_typeCall_dict_1 _) F.entry_dict_init (kt_code_dict_new _ ⟨rfl,rfl⟩) ?_
 rintro obj s₁ ⟨rfl,rfl⟩
 have Z:(s.heap.push { cls:=.type "dict",data:=.dict #[] }).get? s.heap.objs.size=some { cls:=.type "dict",data:=.dict #[] }:=Heap.get?_push_size _ rfl
 have J:∀ b o,s.heap.get? b=some o->(s.heap.push { cls:=.type "dict",data:=.dict #[] }).get? b=some o:=fun b o O=>Heap.get?_push_of_some _ O
 have hT:Shared.TypeIs { s with heap:=s.heap.push { cls:=.type "dict",data:=.dict #[] } } (.ref s.heap.objs.size) "dict":=⟨_,Z,rfl⟩
 refine ⟨hT,F.args_dict_init_2 _ _,?_⟩
 unfold Builtin.«dict.__init__»
 refine wpAny_bind ?_
 unfold Builtin.Dict.selfAndRest
 refine wpAny_bind (wpAny_notOrdered_dict hT ?_)
 show wpAny _ _ (pure (s.heap.objs.size,[Value.ref p])) _ _ _
 refine wpAny_pure ?_
 show wpAny _ _ (Builtin.Dict.updateFrom "dict.__init__" s.heap.objs.size (.ref p) [] .none) _ _ _
 unfold Builtin.Dict.updateFrom
 refine wpAny_bind (wpAny_typeOf (show Shared.TypeIs _ (.ref p) "list" from ⟨_,J _ _ e,rfl⟩) ?_)
 rw [if_pos (by decide)]
 refine wpAny_bind (nokeys_attr hh (J _ _ e) fun h' t' k=>?_)
 rw [if_pos (by rfl)]
 refine wpAny_bind (wpAny_rule ?_)
 refine wpAny_bind (wpAny_pyIter_list (s:=⟨h',s.gens,s.drawn,t',s.os⟩) (items:=its.toArray) ⟨_,k _ _ (J _ _ e),rfl,n,rfl⟩ ?_)
 have U:=k _ _ Z
 have a0:∀ b o,s.heap.get? b=some o->b≠s.heap.objs.size:=fun b o O=>yAE (Heap.lt_size O)
 have L:∀ b o,h'.get? b=some o->b≠h'.objs.size:=fun b o O=>yAE (Heap.lt_size O)
 have nn:∀ {b:Addr},(∀ o,s.heap.get? b=some o->False)->s.heap.get? b=none:=fun {b} g=>by
  cases eb:s.heap.get? b with
  | none=>rfl
  | some o=>exact (g o eb).elim
 refine wpAny_pure ⟨plainId_quiet F.plain_upd_loop _,dict_loop (A:=X.A.in1) I hh (by show X.A.units+1+1 < cLine;omega) (l:=p) r' a3 z (L _ _ (k _ _ (J _ _ e))) (L _ _ U) (a0 _ _ e) (nn fun o ho=>L _ _ (k _ _ (J _ _ ho)) rfl) (nn fun o ho=>a0 _ _ ho rfl) ps.length 0 _ [] rfl (yAD _) (yAA _) ⟨⟨_,Heap.get?_push_size _ rfl,rfl,rfl⟩,⟨_,Heap.get?_push_of_some _ (k _ _ (J _ _ e)),rfl,n,rfl⟩⟩ ⟨fun b o O=>Heap.get?_push_of_some _ (k _ _ (J _ _ O)),rfl,[],.nil,_,#[],0,Heap.get?_push_of_some _ U,⟨rfl,rfl,rfl⟩,rfl,rfl,⟨(fun x hx=>absurd hx List.not_mem_nil),List.nodup_nil⟩⟩ fun s' a1=>⟨rfl,?_⟩⟩
 obtain ⟨pz,pe,xs,kt,o,es,ep,h1,h2,h3,h4,_,h6⟩:=a1
 have Y:(ZBu [] ps).length <= sizeLine:=yAF (putAll_len ps []) (by simpa using z)
 rw [pe]
 refine ⟨.ref s.heap.objs.size,_,I.laid (h':=s'.heap) (t':=s'.toks) (o:=.dT (ZBu [] ps)) pz (yAA _) ⟨Y,?_,xs,kt.keeps fun c ys ec=>?_,o,es,ep,h1,h2,h3,h4,h6⟩,rfl,q _ (I.hok.fresh (yAA _))⟩
 .have:=I.big
  exact beq_eq_false_iff_ne.mpr (yBN this)
 .rw [ZAG (ZAF ec (I.hok.fresh (yAA _)))]
  exact ec
end
end L2
namespace PySem
noncomputable abbrev IsZ (hp:Heap) (zo ti to:Addr) (f0 f1:Value):Prop :=
 hp.get? zo=some { cls:=.type "zip",dict:=none,data:=.fields #[f0,f1,.bool false,.ref ti,.ref to],slots:=#[] }
noncomputable def F0 (f:Value):Prop:=f=.none∨∃ a t,f=.int a t
section
variable {prog:Program} {w:World} {A:Around} {E:Value->Shared->Prop} {s:Shared} {zo ti to:Addr} {f0 f1:Value}
theorem alive_any {a:Addr} {Q:Option Obj->Shared->Prop} (q:Q (s.heap.get? a) s):wpAny (model prog w) A (loadIfAlive a) Q E s:=fun Γ p z=>by
 unfold loadIfAlive
 rw [Sem.wp_loadIfAlive]
 exact wpAny_pure (M:=model prog w) (A:=A) (E:=E) q Γ p z
theorem zfree {Q:Bool->Shared->Prop} (J:IsZ s.heap zo ti to f0 f1) (U:F0 f0) (h1:Q true s) (h2:∀ z g1,IsZ z zo ti to f0 g1->Heap.SameBut zo s.heap z->Q false { s with heap:=z }) :
  wpAny (model prog w) A (Builtin.SmallTypes.ownedTupleIsFree (.ref zo)) Q E s:=by
 unfold Builtin.SmallTypes.ownedTupleIsFree
 refine wpAny_bind (wpAny_field J rfl (x:=f0) rfl ?_)
 rcases U with rfl | ⟨a,t,rfl⟩
 .exact wpAny_pure h1
 .dsimp only
  refine wpAny_bind (alive_any ?_)
  by_cases ha:(s.heap.get? a.toNat).isNone=true
  .rw [if_pos ha]
   exact wpAny_pure h1
  .rw [if_neg ha]
   refine wpAny_bind (wpAny_field J rfl (x:=f1) rfl ?_)
   by_cases hb:(f1 != Value.bool true)=true
   .rw [if_pos hb]
    exact wpAny_bind (wpAny_setField_rec J (by simp) fun z O L=>wpAny_pure (h2 z _ O L))
   .rw [if_neg hb]
    exact wpAny_pure (h2 s.heap f1 J (Heap.SameBut.refl _ _))
theorem zipG_item {i1 i2 l1 l2:Addr} {k:Nat} {xs ys:Array Value} {x y c0 c1:Value} {Q:Value->Shared->Prop} (D:ZipApart zo ti to i1 i2 l1 l2)
  (qz:IsZ s.heap zo ti to f0 f1) (hf:F0 f0) (qT:IsPair s.heap ti (.ref i1) (.ref i2)) (qO:IsPair s.heap to c0 c1)
  (h1:s.heap.IsListIter i1 l1 k) (h2:s.heap.IsListIter i2 l2 k) (a0:s.heap.IsList l1 xs) (a1:s.heap.IsList l2 ys) (hx:xs[k]?=some x) (hy:ys[k]?=some y)
  (q:∀ (hp:Heap) (p:Addr) (g0 g1 d0 d1:Value),IsZ hp zo ti to g0 g1->F0 g0->IsPair hp to d0 d1->hp.IsListIter i1 l1 (k+1)->hp.IsListIter i2 l2 (k+1)->IsPair hp p x y->p=s.heap.objs.size->(∀ c o,c≠zo->c≠to->c≠i1->c≠i2->s.heap.get? c=some o->hp.get? c=some o)->Q (.ref p) { s with heap:=hp }) :
  wpAny (model prog w) A (Builtin.«zip.__next__» ⟨[.ref zo],[]⟩) (fun a3 s'=>∃ v,a3=.done (.ret v) /\ Q v s') E s:=by
 show wpAny _ _ (field (.ref zo) 2 >>= _) _ _ _
 refine wpAny_bind (wpAny_field qz rfl (x:=.bool false) rfl ?_)
 show wpAny _ _ (field (.ref zo) 3 >>= _) _ _ _
 refine wpAny_bind (wpAny_field qz rfl (x:=.ref ti) rfl ?_)
 refine wpAny_bind (wpAny_seqItems qT rfl ?_)
 show wpAny _ _ (Builtin.SmallTypes.ownedTupleIsFree (.ref zo) >>= _) _ _ _
 refine wpAny_bind (zfree qz hf ?_ ?_)
 .simp only [if_true]
  refine wpAny_bind (wpAny_rule (wpAny_bind (wpAny_field qz rfl (x:=.ref to) rfl (wpAny_bind (wpAny_setField_rec qz (by simp) fun e1 z1 O=>?_)))))
  replace z1:IsZ e1 zo ti to .ellipsis f1:=z1
  simp only [List.zipIdx_cons,List.zipIdx_nil,List.forIn_cons,yCI]
  refine wpAny_bind (wpAny_bind (wpAny_bind (wpAny_onRaise ?_)))
  show wpAny _ _ (Builtin.SmallTypes.nextOf (.ref i1) >>= fun v=>pure (some v)) _ _ _
  refine wpAny_bind (wpAny_nextOf_list_item (h1.extBut O.extBut D.i1z) (a0.extBut O.extBut D.l1z) hx fun e2 t2 z=>wpAny_pure ?_)
  have o2:IsPair e2 to c0 c1:=z.extBut _ _ D.TOi1 (O.extBut _ _ D.TOz qO)
  refine wpAny_bind (wpAny_seqItems o2 rfl (wpAny_bind (wpAny_updateSeq_pair o2 fun e3 o3 L=>wpAny_bind (wpAny_letGo (wpAny_pure ?_)))))
  replace o3:IsPair e3 to x c1:=o3
  refine wpAny_bind (wpAny_bind (wpAny_onRaise ?_))
  show wpAny _ _ (Builtin.SmallTypes.nextOf (.ref i2) >>= fun v=>pure (some v)) _ _ _
  refine wpAny_bind (wpAny_nextOf_list_item (((h2.extBut O.extBut D.i2z).extBut z.extBut D.i12.symm).extBut L.extBut D.TOi2.symm) (((a1.extBut O.extBut D.l2z).extBut z.extBut D.l2i1).extBut L.extBut D.l2TO) hy fun e4 t4 J=>wpAny_pure ?_)
  have o4:IsPair e4 to x c1:=J.extBut _ _ D.TOi2 o3
  refine wpAny_bind (wpAny_seqItems o4 rfl (wpAny_bind (wpAny_updateSeq_pair o4 fun e5 o5 Y=>wpAny_bind (wpAny_letGo (wpAny_pure (wpAny_pure ?_))))))
  replace o5:IsPair e5 to x y:=o5
  refine wpAny_bind (wpAny_seqItems o5 rfl (wpAny_bind (wpAny_newTuple ?_)))
  replace z:Heap.SameBut i1 e1 e2:=z
  replace L:Heap.SameBut to e2 e3:=L
  replace J:Heap.SameBut i2 e3 e4:=J
  replace Y:Heap.SameBut to e4 e5:=Y
  have sz:e5.objs.size=s.heap.objs.size:=by rw [Y.1,J.1,L.1,z.1,O.1]
  have z5:IsZ e5 zo ti to .ellipsis f1:=Y.extBut _ _ D.TOz.symm (J.extBut _ _ D.i2z.symm (L.extBut _ _ D.TOz.symm (z.extBut _ _ D.i1z.symm z1)))
  have k5:∀ c o,c≠zo->c≠to->c≠i1->c≠i2->s.heap.get? c=some o->e5.get? c=some o:=fun c o Z n2 n3 n4 e=>Y.extBut _ _ n2 (J.extBut _ _ n4 (L.extBut _ _ n2 (z.extBut _ _ n3 (O.extBut _ _ Z e))))
  have t5:e5.IsListIter i1 l1 (k+1):=((t2.extBut L.extBut D.TOi1.symm).extBut J.extBut D.i12).extBut Y.extBut D.TOi1.symm
  have u5:e5.IsListIter i2 l2 (k+1):=t4.extBut Y.extBut D.TOi2.symm
  have lz:zo < e5.objs.size:=Heap.lt_size z5
  show wpAny _ _ (Builtin.SmallTypes.ownedTupleHandOut (.ref zo) (.ref e5.objs.size) >>= _) _ _ _
  refine wpAny_bind ?_
  unfold Builtin.SmallTypes.ownedTupleHandOut
  have z6:IsZ (e5.push { cls:=.type "tuple",data:=.seq #[x,y] }) zo ti to .ellipsis f1:=Heap.get?_push_of_some _ z5
  refine wpAny_bind (wpAny_setField_rec z6 (by simp) fun e7 z7 b7=>wpAny_setField_rec z7 (by simp) fun e8 z8 b8=>wpAny_pure ⟨_,rfl,?_⟩)
  replace z8:IsZ e8 zo ti to (rawInt e5.objs.size) (.bool false):=z8
  replace b7:Heap.SameBut zo (e5.push { cls:=.type "tuple",data:=.seq #[x,y] }) e7:=b7
  replace b8:Heap.SameBut zo e7 e8:=b8
  have up:∀ c o,c≠zo->e5.get? c=some o->e8.get? c=some o:=fun c o n e=>b8.extBut _ _ n (b7.extBut _ _ n (Heap.get?_push_of_some _ e))
  exact q e8 e5.objs.size _ _ x y z8 (.inr ⟨_,_,rfl⟩) (up _ _ D.TOz o5) (t5.at fun o e=>up _ o D.i1z e) (u5.at fun o e=>up _ o D.i2z e) (b8.extBut _ _ (yBN lz) (b7.extBut _ _ (yBN lz) (Heap.get?_push_size _ rfl))) sz fun c o Z n2 n3 n4 e=>up c o Z (k5 c o Z n2 n3 n4 e)
 .intro hp g1 a2 U
  simp only [yCB,if_false]
  simp only [<- Array.forIn_toList,List.forIn_cons,yCI]
  refine wpAny_bind (wpAny_bind (wpAny_bind (wpAny_holding ?_)))
  show wpAny _ _ (Builtin.SmallTypes.nextOf (.ref i1) >>= fun v=>pure (some v)) _ _ _
  refine wpAny_bind (wpAny_nextOf_list_item (h1.extBut U.extBut D.i1z) (a0.extBut U.extBut D.l1z) hx fun e2 t2 z=>wpAny_pure (wpAny_pure ?_))
  replace z:Heap.SameBut i1 hp e2:=z
  refine wpAny_bind (wpAny_bind (wpAny_holding ?_))
  show wpAny _ _ (Builtin.SmallTypes.nextOf (.ref i2) >>= fun v=>pure (some v)) _ _ _
  refine wpAny_bind (wpAny_nextOf_list_item ((h2.extBut U.extBut D.i2z).extBut z.extBut D.i12.symm) ((a1.extBut U.extBut D.l2z).extBut z.extBut D.l2i1) hy fun e4 t4 J=>wpAny_pure (wpAny_pure (wpAny_pure ?_)))
  replace J:Heap.SameBut i2 e2 e4:=J
  show wpAny _ _ (newTuple [x,y] >>= fun r=>ret r) _ _ { s with heap:=e4 }
  refine wpAny_bind (wpAny_newTuple (wpAny_pure ⟨_,rfl,?_⟩))
  have pu:∀ c o,e4.get? c=some o->(e4.push { cls:=.type "tuple",data:=.seq #[x,y] }).get? c=some o:=fun c o e=>Heap.get?_push_of_some _ e
  have z4:IsZ e4 zo ti to f0 g1:=J.extBut _ _ D.i2z.symm (z.extBut _ _ D.i1z.symm a2)
  have o4:IsPair e4 to c0 c1:=J.extBut _ _ D.TOi2 (z.extBut _ _ D.TOi1 (U.extBut _ _ D.TOz qO))
  have sz:e4.objs.size=s.heap.objs.size:=by rw [J.1,z.1,U.1]
  exact q (e4.push { cls:=.type "tuple",data:=.seq #[x,y] }) e4.objs.size f0 g1 c0 c1 (pu _ _ z4) hf (pu _ _ o4) ((t2.extBut J.extBut D.i12).at fun o e=>pu _ o e) (t4.at fun o e=>pu _ o e) (Heap.get?_push_size _ rfl) sz fun c o Z n2 n3 n4 e=>pu _ _ (J.extBut _ _ n4 (z.extBut _ _ n3 (U.extBut _ _ Z e)))
theorem zipG_end {i1 i2 l1 l2:Addr} {k:Nat} {xs ys:Array Value} {c0 c1:Value} {Q:Fin->Shared->Prop} (hh:A.handled=none) (D:ZipApart zo ti to i1 i2 l1 l2)
  (qz:IsZ s.heap zo ti to f0 f1) (hf:F0 f0) (qT:IsPair s.heap ti (.ref i1) (.ref i2)) (qO:IsPair s.heap to c0 c1)
  (h1:s.heap.IsListIter i1 l1 k) (h2:s.heap.IsListIter i2 l2 k) (L:s.heap.IsList l1 xs) (a0:s.heap.IsList l2 ys) (he:xs[k]?=none∨ys[k]?=none)
  (q:∀ (hp:Heap) (e:Addr),(∀ c o,c≠zo->c≠to->c≠i1->c≠i2->s.heap.get? c=some o->hp.get? c=some o)->(∃ o,hp.get? e=some o /\ o.cls=.type "StopIteration")->E (.ref e) { s with heap:=hp }) :
  wpAny (model prog w) A (Builtin.«zip.__next__» ⟨[.ref zo],[]⟩) Q E s:=by
 show wpAny _ _ (field (.ref zo) 2 >>= _) _ _ _
 refine wpAny_bind (wpAny_field qz rfl (x:=.bool false) rfl ?_)
 show wpAny _ _ (field (.ref zo) 3 >>= _) _ _ _
 refine wpAny_bind (wpAny_field qz rfl (x:=.ref ti) rfl ?_)
 refine wpAny_bind (wpAny_seqItems qT rfl ?_)
 show wpAny _ _ (Builtin.SmallTypes.ownedTupleIsFree (.ref zo) >>= _) _ _ _
 refine wpAny_bind (zfree qz hf ?_ ?_)
 .simp only [if_true]
  refine wpAny_bind (wpAny_rule (wpAny_bind (wpAny_field qz rfl (x:=.ref to) rfl (wpAny_bind (wpAny_setField_rec qz (by simp) fun e1 z1 O=>?_)))))
  replace z1:IsZ e1 zo ti to .ellipsis f1:=z1
  simp only [List.zipIdx_cons,List.zipIdx_nil,List.forIn_cons,yCI]
  refine wpAny_bind (wpAny_bind (wpAny_bind (wpAny_onRaise ?_)))
  show wpAny _ _ (Builtin.SmallTypes.nextOf (.ref i1) >>= fun v=>pure (some v)) _ _ _
  cases hx:xs[k]? with
  | none=>
   refine wpAny_bind (wpAny_nextOf_list_end hh (h1.extBut O.extBut D.i1z) (L.extBut O.extBut D.l1z) hx fun e2 e J ⟨oe,ho,hc⟩=>?_)
   have z2:IsZ e2 zo ti to .ellipsis f1:=J _ _ D.i1z.symm z1
   have ne:e≠zo:=fun z=>by subst z;rw [z2] at ho;cases ho;simp at hc
   exact wpAny_setField_rec z2 (by simp) fun e3 _ b3=>q e3 e (fun c o U _ n3 _ x=>b3.extBut _ _ U (J _ _ n3 (O.extBut _ _ U x))) ⟨oe,b3.extBut _ _ ne ho,hc⟩
  | some x=>
   have hy:ys[k]?=none:=he.resolve_left (by rw [hx];simp)
   refine wpAny_bind (wpAny_nextOf_list_item (h1.extBut O.extBut D.i1z) (L.extBut O.extBut D.l1z) hx fun e2 t2 J=>wpAny_pure ?_)
   have o2:IsPair e2 to c0 c1:=J.extBut _ _ D.TOi1 (O.extBut _ _ D.TOz qO)
   refine wpAny_bind (wpAny_seqItems o2 rfl (wpAny_bind (wpAny_updateSeq_pair o2 fun e3 o3 b3=>wpAny_bind (wpAny_letGo (wpAny_pure ?_)))))
   refine wpAny_bind (wpAny_bind (wpAny_onRaise ?_))
   show wpAny _ _ (Builtin.SmallTypes.nextOf (.ref i2) >>= fun v=>pure (some v)) _ _ _
   refine wpAny_bind (wpAny_nextOf_list_end hh (((h2.extBut O.extBut D.i2z).extBut J.extBut D.i12.symm).extBut b3.extBut D.TOi2.symm) (((a0.extBut O.extBut D.l2z).extBut J.extBut D.l2i1).extBut b3.extBut D.l2TO) hy fun e4 e b4 ⟨oe,ho,hc⟩=>?_)
   have z4:IsZ e4 zo ti to .ellipsis f1:=b4 _ _ D.i2z.symm (b3.extBut _ _ D.TOz.symm (J.extBut _ _ D.i1z.symm z1))
   have ne:e≠zo:=fun z=>by subst z;rw [z4] at ho;cases ho;simp at hc
   exact wpAny_setField_rec z4 (by simp) fun e5 _ b5=>q e5 e (fun c o U n2 n3 n4 x=>b5.extBut _ _ U (b4 _ _ n4 (b3.extBut _ _ n2 (J.extBut _ _ n3 (O.extBut _ _ U x))))) ⟨oe,b5.extBut _ _ ne ho,hc⟩
 .intro hp g1 a1 Y
  simp only [yCB,if_false]
  simp only [<- Array.forIn_toList,List.forIn_cons,yCI]
  refine wpAny_bind (wpAny_bind (wpAny_bind (wpAny_holding ?_)))
  show wpAny _ _ (Builtin.SmallTypes.nextOf (.ref i1) >>= fun v=>pure (some v)) _ _ _
  cases hx:xs[k]? with
  | none=>
   exact wpAny_bind (wpAny_nextOf_list_end hh (h1.extBut Y.extBut D.i1z) (L.extBut Y.extBut D.l1z) hx fun e2 e J Z=>q e2 e (fun c o U _ n3 _ x=>J _ _ n3 (Y.extBut _ _ U x)) Z)
  | some x=>
   have hy:ys[k]?=none:=he.resolve_left (by rw [hx];simp)
   refine wpAny_bind (wpAny_nextOf_list_item (h1.extBut Y.extBut D.i1z) (L.extBut Y.extBut D.l1z) hx fun e2 t2 J=>wpAny_pure (wpAny_pure ?_))
   replace J:Heap.SameBut i1 hp e2:=J
   refine wpAny_bind (wpAny_bind (wpAny_holding ?_))
   show wpAny _ _ (Builtin.SmallTypes.nextOf (.ref i2) >>= fun v=>pure (some v)) _ _ _
   exact wpAny_bind (wpAny_nextOf_list_end hh ((h2.extBut Y.extBut D.i2z).extBut J.extBut D.i12.symm) ((a0.extBut Y.extBut D.l2z).extBut J.extBut D.l2i1) hy fun e4 e b4 Z=>q e4 e (fun c o U _ n3 n4 x=>b4 _ _ n4 (J.extBut _ _ n3 (Y.extBut _ _ U x))) Z)
theorem zipG_next {i1 i2 z l2:Addr} {k:Nat} {xs ys:Array Value} {x y c0 c1:Value} {Q:Option Value->Shared->Prop} (D:ZipApart zo ti to i1 i2 z l2)
  (Z:IsZ s.heap zo ti to f0 f1) (hf:F0 f0) (qT:IsPair s.heap ti (.ref i1) (.ref i2)) (qO:IsPair s.heap to c0 c1)
  (h1:s.heap.IsListIter i1 z k) (h2:s.heap.IsListIter i2 l2 k) (J:s.heap.IsList z xs) (L:s.heap.IsList l2 ys) (hx:xs[k]?=some x) (hy:ys[k]?=some y)
  (q:∀ (hp:Heap) (p:Addr) (g0 g1 O U:Value),IsZ hp zo ti to g0 g1->F0 g0->IsPair hp to O U->hp.IsListIter i1 z (k+1)->hp.IsListIter i2 l2 (k+1)->IsPair hp p x y->p=s.heap.objs.size->(∀ c o,c≠zo->c≠to->c≠i1->c≠i2->s.heap.get? c=some o->hp.get? c=some o)->Q (some (.ref p)) { s with heap:=hp }) :
  wpAny (model prog w) A (pyNext (.ref zo)) Q E s:=by
 have Y:s.TypeIs (.ref zo) "zip":=⟨_,Z,rfl⟩
 unfold pyNext
 exact wpAny_bind (wpAny_attempt (wpAny_callSpecial?_slot (name:=Str.ofString "__next__") Y F.slot_zip_next (wpAny_call_entry F.slot_zip_next Y F.entry_zip_next (zipG_item D Z hf qT qO h1 h2 J L hx hy fun hp p g0 g1 O U a1 a2 a3 a4 a5 a6 a7 a8=>wpAny_pure (q hp p g0 g1 O U a1 a2 a3 a4 a5 a6 a7 a8)) (F.args_zip_next_1 _))))
theorem zipG_stop {i1 i2 J l2:Addr} {k:Nat} {xs ys:Array Value} {c0 c1:Value} {Q:Option Value->Shared->Prop} (hh:A.handled=none) (D:ZipApart zo ti to i1 i2 J l2)
  (Y:IsZ s.heap zo ti to f0 f1) (hf:F0 f0) (qT:IsPair s.heap ti (.ref i1) (.ref i2)) (qO:IsPair s.heap to c0 c1)
  (h1:s.heap.IsListIter i1 J k) (h2:s.heap.IsListIter i2 l2 k) (z:s.heap.IsList J xs) (L:s.heap.IsList l2 ys) (Z:xs[k]?=none∨ys[k]?=none)
  (q:∀ O:Heap,(∀ c o,c≠zo->c≠to->c≠i1->c≠i2->s.heap.get? c=some o->O.get? c=some o)->Q none { s with heap:=O }):wpAny (model prog w) A (pyNext (.ref zo)) Q E s:=by
 have U:s.TypeIs (.ref zo) "zip":=⟨_,Y,rfl⟩
 unfold pyNext
 refine wpAny_bind (wpAny_attempt (wpAny_callSpecial?_slot (name:=Str.ofString "__next__") U F.slot_zip_next (wpAny_call_entry F.slot_zip_next U F.entry_zip_next (zipG_end hh D Y hf qT qO h1 h2 z L Z fun O e hk ⟨o,ho,hc⟩=>?_) (F.args_zip_next_1 _))))
 exact wpAny_bind (wpAny_isInstance (T:="StopIteration") (b:=true) ⟨o,ho,hc⟩ isSubtype_stop (wpAny_pure (q _ hk)))
theorem zipG_iter {Q:Value->Shared->Prop} (J:IsZ s.heap zo ti to f0 f1) (h:Q (.ref zo) s):wpAny (model prog w) A (pyIter (.ref zo)) Q E s:=by
 have z:s.TypeIs (.ref zo) "zip":=⟨_,J,rfl⟩
 refine wpAny_pyIter_slot z F.slot_zip_iter (wpAny_call_entry F.slot_zip_iter z F.entry_zip_iter ?_ (F.args_zip_iter_1 _))
 show wpAny _ _ (ret (.ref zo)) _ _ s
 exact wpAny_pure ⟨_,rfl,"zip",_,z,F.slot_zip_next.lookup,h⟩
end
end PySem
namespace L2
open PySem PySem.Spec PyProof.Rows
theorem turn_zipN {P:Program} {w:World} {K:W.Frag} {x:Str} {tpos:Pos} (a b z TI TO i1 i2:Addr) (D:ZipApart z TI TO i1 i2 a b):Turn P w K (.Name x tpos) (Itz K a b) [z,TI,TO,i1,i2] z (fun i h=>(∃ f0 f1,IsZ h z TI TO f0 f1 /\ F0 f0) /\ IsPair h TI (.ref i1) (.ref i2) /\ (∃ u v,IsPair h TO u v) /\ h.IsListIter i1 a i /\ h.IsListIter i2 b i) where
 mem:=by simp
 obj:=fun i h st c hc=>by
  obtain ⟨⟨f0,f1,O,_⟩,J,⟨u,v,L⟩,⟨o1,e1,c1,d1⟩,⟨o2,e2,c2,d2⟩⟩:=st
  have a0:c=z∨c=TI∨c=TO∨c=i1∨c=i2:=by simpa using hc
  rcases a0 with rfl | rfl | rfl | rfl | rfl
  .exact ⟨_,O,fun v z=>by cases z⟩
  .exact ⟨_,J,fun v z=>by cases z⟩
  .exact ⟨_,L,fun v z=>by cases z⟩
  .exact ⟨o1,e1,fun v z=>by rw [d1] at z;cases z⟩
  .exact ⟨o2,e2,fun v z=>by rw [d2] at z;cases z⟩
 keep:=fun i h h' st k=>by
  obtain ⟨⟨f0,f1,O,Z⟩,J,⟨u,v,L⟩,h1,h2⟩:=st
  exact ⟨⟨f0,f1,k z (by simp) _ O,Z⟩,k TI (by simp) _ J,⟨u,v,k TO (by simp) _ L⟩,h1.at fun o q=>k i1 (by simp) o q,h2.at fun o q=>k i2 (by simp) o q⟩
 item:=by
  intro X hP hw hK hc i pins s σ H E I Z st hg
  subst hP hw hK
  obtain ⟨xs,x,ys,y,hq,hx,U,hy⟩:=hg
  obtain ⟨its,rv,p,ad⟩:=I.list hq
  obtain ⟨u,hu,ru⟩:=rv.get hx
  obtain ⟨its',Y,p',a8⟩:=I.list U
  obtain ⟨u',aa,ac⟩:=Y.get hy
  obtain ⟨⟨f0,f1,O,hF⟩,J,⟨ua,ub,L⟩,h1,h2⟩:=st
  refine zipG_next D O hF J L h1 h2 p.isList p'.isList (x:=u) (y:=u') (by simpa using hu) (by simpa using aa) fun hp pa g0 g1 d0 d1 a1 a2 a3 a4 a5 a6 a7 hk=>⟨_,rfl,?_⟩
  subst a7
  show wpAny _ _ (pure ()) _ _ _
  refine wpAny_pure ?_
  have a9:H s.heap.objs.size=none:=I.hok.fresh (yAA _)
  refine ⟨.ref s.heap.objs.size,upd H s.heap.objs.size (.tup [x,y]),I.turn2 (ch:=[z,TI,TO,i1,i2]) (t':=s.toks) Z (fun c ob hc q=>?_) (yAA _) ?_,rfl,⟨_,x,y,a9,fun zs O=>by rw [I.list_inj O hq];exact hx,fun zs O=>by rw [I.list_inj O U];exact hy,rfl,rfl⟩,⟨⟨g0,g1,a1,a2⟩,hk _ _ D.TIz D.TITO D.TIi1 D.TIi2 J,⟨_,_,a3⟩,a4,a5⟩,fun c hc=>?_⟩
  .exact hk c ob (fun e=>hc (by simp [e])) (fun e=>hc (by simp [e])) (fun e=>hc (by simp [e])) (fun e=>hc (by simp [e])) q
  .exact ⟨ZAW (show 2 <= 1000 by decide),[u,u'],.cons ru (.cons ac .nil),_,a6,rfl,0,rfl⟩
  .have hn:=(Z c hc).1
   have a0:c=z∨c=TI∨c=TO∨c=i1∨c=i2:=by simpa using hc
   obtain ⟨o1,g1,_⟩:=h1
   obtain ⟨o2,g2,_⟩:=h2
   have ae:c < s.heap.objs.size:=by
    rcases a0 with rfl | rfl | rfl | rfl | rfl
    .exact Heap.lt_size O
    .exact Heap.lt_size J
    .exact Heap.lt_size L
    .exact Heap.lt_size g1
    .exact Heap.lt_size g2
   rw [ZAG (yAE ae)];exact hn
 done:=by
  intro X hP hw hK hc i pins s σ H E I Z st hg
  subst hP hw hK
  obtain ⟨xs,ys,hq,U,hx⟩:=hg
  obtain ⟨its,rv,p,ad⟩:=I.list hq
  obtain ⟨its',Y,p',a8⟩:=I.list U
  obtain ⟨⟨f0,f1,O,hF⟩,J,⟨ua,ub,L⟩,h1,h2⟩:=st
  have hl:=rv.length
  have af:=Y.length
  refine zipG_stop (I.ok.hd hc) D O hF J L h1 h2 p.isList p'.isList (hx.imp (fun z=>by rw [List.getElem?_toArray];exact yBA (by omega)) (fun z=>by rw [List.getElem?_toArray];exact yBA (by omega))) fun h' eb=>⟨rfl,?_⟩
  have tr:∀ c u,H c=some u->c∉[z,TI,TO,i1,i2]:=fun c u e q=>by rw [(Z c q).1] at e;cases e
  have k:∀ c ob,c∉[z,TI,TO,i1,i2]->s.heap.get? c=some ob->h'.get? c=some ob:=fun c ob n q=>eb c ob (fun e=>n (by simp [e])) (fun e=>n (by simp [e])) (fun e=>n (by simp [e])) (fun e=>n (by simp [e])) q
  refine I.call (g':=s.gens) (t':=s.toks) (d':=s.drawn) (ch:=[z,TI,TO,i1,i2]) ⟨fun b ob e n _ hx=>k b ob hx e,fun b ob e n _ hx=>⟨ob.slots,k b ob hx e⟩,fun b ob e n _=>n,fun b ob e hx=>⟨ob,k b ob hx e⟩,fun b xs e=>e,fun b ob u e=>e,fun b qs e=>⟨#[],by rw [e];simp⟩⟩ (fun b u e=>?_) I.bare fun b hb=>?_
  .refine (I.hok b u e).stay (fun c v hc q=>k c v ?_ q) (fun c q=>q) fun c xs q=>q
   rcases hc with z | z
   .rw [z];exact tr b u e
   .exact tr c _ z
  .obtain ⟨a1,a2,a3,a4,a5,a6⟩:=Z b hb
   exact ⟨a4,a2,a5,a6⟩
 self:=fun _ _ _ _ _ st h=>let ⟨⟨_,_,O,_⟩,_⟩:=st;zipG_iter O h
section
variable {X:Cx}
theorem pi_zipN {x:Str} {tpos:Pos} {l m:Expr} {ta:TA} {p pos:Pos} (hg:Gl X "zip") (hm:X.mg "zip"=none) (ha:PA X [l,m] ta)
  (he:starEach [l,m] X.env=(false,eval l X.env)::starEach [m] X.env:=by rfl) (Y:(backTo pos (starEach [m] X.env)).any (·.1)=false:=by rfl) :
  PI X (.Name x tpos) (.Call (.Name "zip" p) [l,m] [] pos) (iZip X.K ta):=by
 intro pins s σ H R I h
 refine Call_ (ZCJ I hg hm PyProof.Rows.boot_zip (PyProof.Rows.callWith_type1 (thn (ha pos pins s σ H _ I h) fun us s1 zz=>?_) he Y))
 obtain ⟨vs,H1,O,r1,q1⟩:=zz
 obtain ⟨a,b,e,⟨xs,hq⟩,⟨ys,Z⟩,q⟩:=q1
 subst e
 obtain ⟨u,u',rfl,ru,a1⟩:=ZDV r1
 cases ru
 cases a1
 obtain ⟨its,rv,pl,hz⟩:=O.list hq
 obtain ⟨its',a2,L,a3⟩:=O.list Z
 have U:a < s1.heap.objs.size:=by obtain ⟨o,ho,_⟩:=pl.isList;exact Heap.lt_size ho
 have z:b < s1.heap.objs.size:=by obtain ⟨o,ho,_⟩:=L.isList;exact Heap.lt_size ho
 have D:ZipApart (s1.heap.objs.size+4) (s1.heap.objs.size+2) (s1.heap.objs.size+3) s1.heap.objs.size (s1.heap.objs.size+1) a b:=by
  generalize s1.heap.objs.size=n at U z ⊢
  have h1:LT.lt (α:=Nat) a n:=U
  have h2:LT.lt (α:=Nat) b n:=z
  constructor <;> (refine zneN ?_;omega)
 refine call_zip_2 pl.isList L.isList fun h' z1 z2 z3 z4 z5 z6 hk=>wpAny_pyIter_zip z1 ?_
 have I2:Inv X pins σ H1 { s1 with heap:=h' }:=O.kept (t':=s1.toks) hk
 refine ⟨s1.heap.objs.size+4,_,_,Itz X.K a b,H1,rfl,I2,turn_zipN a b _ _ _ _ _ D,⟨⟨_,_,z1,.inl rfl⟩,z2,⟨_,_,z3⟩,z4,z5⟩,fun c hc=>?_,q⟩
 have a0:c=s1.heap.objs.size+4∨c=s1.heap.objs.size+2∨c=s1.heap.objs.size+3∨c=s1.heap.objs.size∨c=s1.heap.objs.size+1:=by simpa using hc
 have J:s1.heap.objs.size <= c:=by
  rcases a0 with rfl | rfl | rfl | rfl | rfl
  .exact yBW _ _
  .exact yBW _ _
  .exact yBW _ _
  .exact yAA _
  .exact yBW _ _
 exact O.fpOk J (O.hok.fresh J)
theorem call_maxT (hc:X.calm=true):ZBd X (.builtin "max") (fun xs H Q=>∃ (p:Addr) (ns:List Int),xs=[.ref p] /\ SqT X.K H p (ns.map V.int) /\ ns≠[] /\ ∀ M,M∈ns->(∀ a∈ns,a <= M)->Q (.int M) H):=by
 intro pins s σ H xs us Q I r h
 obtain ⟨p,ns,rfl,hq,U,q⟩:=h
 obtain ⟨u,rfl,rx⟩:=ZCU r
 cases rx
 obtain ⟨its,rv,pl,hz⟩:=I.tuple hq
 have hi:=ZBE rv
 obtain ⟨xs,e⟩:=hi.allInts.items
 have J:ns=xs.toList.map (·.1):=by rw [<- hi.numsOf,<- nums_intItems,<- e]
 obtain ⟨o,Z,L,n,hd⟩:=pl
 rw [e] at hd
 have hl:s.heap.IsTuple p (intItems xs):=⟨o,Z,L,n,hd⟩
 have O:p < s.heap.objs.size:=Heap.lt_size Z
 have a0:0 < xs.size:=by
  rcases Nat.eq_zero_or_pos xs.size with z | z
  .rw [J,Array.eq_empty_of_size_eq_zero z] at U;exact absurd rfl U
  .exact z
 refine call_max_walk (wpAny_pyIter_tuple hl ?_)
 refine ⟨_,[_,p],[_],_,_,_,_,rfl,Walks.tuple (A:=X.A.in1) (I.ok.hd hc) _ p (yAE O) (intItems xs),⟨⟨_,Heap.get?_push_size _ rfl,rfl,rfl⟩,⟨o,Heap.get?_push_of_some _ Z,L,n,hd⟩⟩,fun c hc=>?_,by simpa [intItems] using a0,CmpOf.ints_gt (numAt xs) (fun _ _=>intItems_at),fun v h' tk hP hk=>?_⟩
 .show c < (s.heap.push _).objs.size
  rw [Heap.size_push]
  rcases yAG.mp hc with rfl | hc
  .exact yBQ _
  .rw [yAP.mp hc];exact Nat.lt_succ_of_lt O
 .have k:∀ c o,s.heap.get? c=some o->h'.get? c=some o:=fun c o e=>by
   refine hk c o (fun hm=>?_) (Heap.get?_push_of_some _ e)
   exact absurd (Heap.lt_size e) (by rw [yAP.mp hm];exact yBG _)
  have Y:(intItems xs)[argBest (fun i j=>decide (numAt xs i > numAt xs j)) (xs.size-1)]?=some v:=by simpa [intItems] using hP
  obtain ⟨t,rfl⟩:=intItems_at Y
  obtain ⟨g1,g2⟩:=argBest_gt (numAt xs) (xs.size-1)
  refine ⟨.int _,H,I.kept k,⟨_,rfl⟩,q _ ?_ fun a ha=>?_⟩
  .rw [J,numAt_eq];exact getD_mem (by rw [yAB,yAI];omega)
  .rw [J] at ha
   obtain ⟨j,hj,rfl⟩:=mem_getD ha
   rw [yAB,yAI] at hj
   rw [<- numAt_eq];exact g2 j (by omega)
theorem call_minT (hc:X.calm=true):ZBd X (.builtin "min") (fun xs H Q=>∃ (p:Addr) (ns:List Int),xs=[.ref p] /\ SqT X.K H p (ns.map V.int) /\ ns≠[] /\ ∀ M,M∈ns->(∀ a∈ns,M <= a)->Q (.int M) H):=by
 intro pins s σ H xs us Q I r h
 obtain ⟨p,ns,rfl,hq,U,q⟩:=h
 obtain ⟨u,rfl,rx⟩:=ZCU r
 cases rx
 obtain ⟨its,rv,pl,hz⟩:=I.tuple hq
 have hi:=ZBE rv
 obtain ⟨xs,e⟩:=hi.allInts.items
 have J:ns=xs.toList.map (·.1):=by rw [<- hi.numsOf,<- nums_intItems,<- e]
 obtain ⟨o,Z,L,n,hd⟩:=pl
 rw [e] at hd
 have hl:s.heap.IsTuple p (intItems xs):=⟨o,Z,L,n,hd⟩
 have O:p < s.heap.objs.size:=Heap.lt_size Z
 have a0:0 < xs.size:=by
  rcases Nat.eq_zero_or_pos xs.size with z | z
  .rw [J,Array.eq_empty_of_size_eq_zero z] at U;exact absurd rfl U
  .exact z
 refine call_min_walk (wpAny_pyIter_tuple hl ?_)
 refine ⟨_,[_,p],[_],_,_,_,_,rfl,Walks.tuple (A:=X.A.in1) (I.ok.hd hc) _ p (yAE O) (intItems xs),⟨⟨_,Heap.get?_push_size _ rfl,rfl,rfl⟩,⟨o,Heap.get?_push_of_some _ Z,L,n,hd⟩⟩,fun c hc=>?_,by simpa [intItems] using a0,CmpOf.ints_lt (numAt xs) (fun _ _=>intItems_at),fun v h' tk hP hk=>?_⟩
 .show c < (s.heap.push _).objs.size
  rw [Heap.size_push]
  rcases yAG.mp hc with rfl | hc
  .exact yBQ _
  .rw [yAP.mp hc];exact Nat.lt_succ_of_lt O
 .have k:∀ c o,s.heap.get? c=some o->h'.get? c=some o:=fun c o e=>by
   refine hk c o (fun hm=>?_) (Heap.get?_push_of_some _ e)
   exact absurd (Heap.lt_size e) (by rw [yAP.mp hm];exact yBG _)
  have Y:(intItems xs)[argBest (fun i j=>decide (numAt xs i < numAt xs j)) (xs.size-1)]?=some v:=by simpa [intItems] using hP
  obtain ⟨t,rfl⟩:=intItems_at Y
  obtain ⟨g1,g2⟩:=argBest_lt (numAt xs) (xs.size-1)
  refine ⟨.int _,H,I.kept k,⟨_,rfl⟩,q _ ?_ fun a ha=>?_⟩
  .rw [J,numAt_eq];exact getD_mem (by rw [yAB,yAI];omega)
  .rw [J] at ha
   obtain ⟨j,hj,rfl⟩:=mem_getD ha
   rw [yAB,yAI] at hj
   rw [<- numAt_eq];exact g2 j (by omega)
theorem call_maxTK (K:W.Frag) (hc:X.calm=true) (h:X.K=K:=by rfl):ZBd X (.builtin "max") (fun xs H Q=>∃ (p:Addr) (ns:List Int),xs=[.ref p] /\ SqT K H p (ns.map V.int) /\ ns≠[] /\ ∀ M,M∈ns->(∀ a∈ns,a <= M)->Q (.int M) H):=h ▸ call_maxT hc
theorem call_minTK (K:W.Frag) (hc:X.calm=true) (h:X.K=K:=by rfl):ZBd X (.builtin "min") (fun xs H Q=>∃ (p:Addr) (ns:List Int),xs=[.ref p] /\ SqT K H p (ns.map V.int) /\ ns≠[] /\ ∀ M,M∈ns->(∀ a∈ns,M <= a)->Q (.int M) H):=h ▸ call_minT hc
end
section
variable {K:W.Frag} {a b:Addr} {xs ys:List V} {g:TG} {σ:St} {H:Hp} {tt:TT} {te:TE} {Q:VK} {σ0:St}
noncomputable def compZ (K:W.Frag) (g:TG) (tt:TT) (te:TE) (σ0:St) (Q:VK) (x y:V) (H1:Hp):Prop:=∃ a b,[x,y]=[.ref a,.ref b] /\ (∃ xs,SqL K H1 a xs) /\ (∃ xs,SqL K H1 b xs) /\ ∃ W:Nat->Nat->List V->St->Hp->Prop,(∃ m,W 0 m [] σ0 H1) /\ ∀ i m zs σ H,W i m zs σ H ->
 ((Itz K a b).stop i H /\ zs.length <= sizeLine /\ ∀ p,H p=none->Q (.ref p) (upd H p (.lst zs))) ∨
 ((Itz K a b).go i H /\ zs.length < sizeLine /\ ∀ x H',(Itz K a b).yld i H x H'->g x σ H' fun σ2 H2=>tt σ2 H2 fun b H3=>if b=true then te σ2 H3 fun y H4=>∃ m',m' < m /\ W (i+1) m' (zs++[y]) σ2 H4 else ∃ m',m' < m /\ W (i+1) m' zs σ2 H3)
theorem tCompZ_eq {k:Nat} {js:List Nat} {t u:TE}:ZDq k js (iZip K (ZBx t (ZBx u tNil))) g tt te σ H Q=t σ H (fun x H1=>u σ H1 fun y H2=>compZ K g tt te (up k js σ) Q x y H2):=rfl
theorem compZ_of (h:SqL K H a xs) (h':SqL K H b ys) (hz:xs.length <= 1000) (P:Nat->List V->St->Hp->Prop) (U:P 0 [] σ0 H) (hl:∀ i zs σ H,i <= min xs.length ys.length->P i zs σ H->SqL K H a xs /\ SqL K H b ys /\ zs.length <= i)
  (Y:∀ (i:Nat) zs x y σ H p,i < min xs.length ys.length->xs[i]?=some x->ys[i]?=some y->P i zs σ H->H p=none->g (.ref p) σ (upd H p (.tup [x,y])) fun z H2=>tt z H2 fun b H3=>if b=true then te z H3 fun y H4=>Nxt P (min xs.length ys.length) i (zs++[y]) z H4 else Nxt P (min xs.length ys.length) i zs z H3)
  (Z:∀ zs σ H,P (min xs.length ys.length) zs σ H->∀ p,H p=none->Q (.ref p) (upd H p (.lst zs))):compZ K g tt te σ0 Q (.ref a) (.ref b) H:=by
 have a0:=ZAW hz
 refine ⟨a,b,rfl,⟨xs,h⟩,⟨ys,h'⟩,fun i m zs σ H=>m=min xs.length ys.length-i /\ i <= min xs.length ys.length /\ P i zs σ H,⟨min xs.length ys.length,by simp,yAD _,U⟩,?_⟩
 rintro i m zs σ H ⟨rfl,hi,p⟩
 obtain ⟨q,J,ly⟩:=hl i zs σ H hi p
 by_cases hlt:i < min xs.length ys.length
 .refine .inr ⟨⟨xs,xs[i],ys,ys[i],q,yAH (by omega),J,yAH (by omega)⟩,by omega,fun x H' y=>?_⟩
  obtain ⟨L,x',y',hn,O,y2,rfl,rfl⟩:=y
  exact Y i zs x' y' σ _ L hlt (O xs q) (y2 ys J) p hn
 .have e:i=min xs.length ys.length:=by omega
  subst e
  exact .inl ⟨⟨xs,ys,q,J,by omega⟩,by omega,Z zs σ H p⟩
end
noncomputable def rDGet2:V->List V->Hp->VK->Prop:=fun x vs H Q=>∃ a y z kvs k,x=.ref a /\ vs=[y,z] /\ Rd H a (.dK kvs) /\ y=kV k /\ Q ((valV kvs k).getD z) H
theorem mt_dget2 {X:Cx}:MtR X "dict.get" rDGet2:=by
 intro pins s σ H x vs v us Q I U Y h
 obtain ⟨a,y,z,kvs,k,rfl,rfl,e,Z,q⟩:=h
 cases U
 obtain ⟨u,u2,rfl,L,rz⟩:=ZDV Y
 subst Z
 obtain ⟨_,O,vs,J,dd⟩:=ZE6 I.hok e
 refine call_meetsIn PySem.F.slot_dict_get dd.typeIs PySem.F.entry_dict_get (PySem.F.args_dict_get_3 _ _ _) (meets_dict_get_default (ZAZ X.prog X.w) a (ZEv L) O _) ⟨_,dd.mapOf,?_⟩
 exact ⟨_,H,I.tok _,(J.val k).getD rz,q⟩
theorem kV_rel {P:Program} {w:World} {k:Key} {u:Value} (h:(ZAZ P w).is k u=true):RelV (kV k) u:=by
 rw [mixKind_is] at h
 rcases ZAi h with ⟨i,t,rfl,rfl⟩ | ⟨x,t,rfl,rfl⟩
 .exact ⟨t,rfl⟩
 .exact ⟨t,rfl⟩
theorem KV.at {κ:Type} {kvs:List (κ×V)} {vs:List (κ×Value)} (r:KV kvs vs) {i:Nat} {k:κ} {x:V} (h:kvs[i]?=some (k,x)):∃ u,vs[i]?=some (k,u) /\ RelV x u:=by
 unfold KV at r
 induction r generalizing i with
 | nil=>simp at h
 | @cons p q ps qs hh t ih=>
  cases i with
  | zero=>
   simp only [List.getElem?_cons_zero] at h ⊢
   cases h
   obtain ⟨h1,h2⟩:=hh
   exact ⟨q.2,by rw [show q=(q.1,q.2) from rfl,<- h1],h2⟩
  | succ i=>
   simp only [List.getElem?_cons_succ] at h ⊢
   exact ih h
theorem entry_itemiter_iter:entryFor table "dict_itemiterator.__iter__"=some Builtin.«dict_keyiterator.__iter__» :=
 entryFor_alias (id':="dict_keyiterator.__iter__") (by kernel_rfl) rfl (by decide +kernel) (by kernel_rfl)
theorem wpAny_pyIter_itemiter {prog:Program} {w:World} {A:Around} {E:Value->Shared->Prop} {s:Shared} {it d:Addr} {i n ep:Nat} {ok ov:Value} {Q:Value->Shared->Prop} (J:IsItemIter s.heap it d i n ep ok ov) (h:Q (.ref it) s):wpAny (model prog w) A (pyIter (.ref it)) Q E s:=by
 have z:s.TypeIs (.ref it) "dict_itemiterator":=⟨_,J,rfl⟩
 refine wpAny_pyIter_slot z PySem.F.slot_dict_itemiterator_iter (wpAny_call_entry PySem.F.slot_dict_itemiterator_iter z entry_itemiter_iter ?_ (PySem.F.args_dict_itemiterator_iter_1 _))
 show wpAny _ _ (ret (.ref it)) _ _ s
 exact wpAny_pure ⟨_,rfl,"dict_itemiterator",_,z,PySem.F.slot_dict_itemiterator_next.lookup,h⟩
noncomputable def Iti (d:Addr) (ob:Obj) (kvs:List (Key×V)):It :=
 ⟨fun i H=>H d=some (.frz ob (.dK kvs)) /\ i < kvs.length,fun i H v H'=>∃ p k x,H p=none /\ kvs[i]?=some (k,x) /\ H'=upd H p (.tup [kV k,x]) /\ v=.ref p,fun i H=>H d=some (.frz ob (.dK kvs)) /\ kvs.length <= i⟩
theorem frz_at {P:Program} {w:World} {H:Hp} {h:Heap} {d:Addr} {ob:Obj} {es:Array DictEntry} {ep:Nat} {kvs:List (Key×V)} (U:HOk P w H h) (e:H d=some (.frz ob (.dK kvs))) (J:ob.data=.dict es ep):∃ vs,KV kvs vs /\ h.DictAt (ZAZ P w) d vs ep:=by
 obtain ⟨h1,_,_,vs,z,o,Y,Z,h2,h3,L,O⟩:=(show ObjOk P w H h d (.frz ob (.dK kvs)) from U d _ e)
 rw [h1] at h2
 cases h2
 rw [J] at L
 cases L
 exact ⟨vs,z,_,_,h1,h3,J,O⟩
theorem turn_items {P:Program} {w:World} {K:W.Frag} {a4:List Expr} {x1} {tpos:Pos} (d it:Addr) (ob:Obj) (kvs:List (Key×V)) {es:Array DictEntry} {ep:Nat} (he:ob.data=.dict es ep) :
  Turn P w K (.Tuple a4 x1 tpos) (Iti d ob kvs) [it] it (fun i h=>∃ ok ov,IsItemIter h it d i kvs.length ep ok ov) where
 mem:=by simp
 obj:=fun i h st b Y=>by
  obtain ⟨ok,ov,e⟩:=st
  rw [yAP.mp Y]
  exact ⟨_,e,fun v z=>by cases z⟩
 keep:=fun i h h' st k=>let ⟨ok,ov,e⟩:=st;⟨ok,ov,k it (by simp) _ e⟩
 item:=by
  intro X hP hw hK hc i pins s σ H E I hf st hg
  subst hP hw hK
  obtain ⟨hd,hi⟩:=hg
  obtain ⟨ok,ov,U⟩:=st
  obtain ⟨vs,O,Z⟩:=frz_at I.hok hd he
  obtain ⟨⟨k,x⟩,hx⟩:∃ kx,kvs[i]?=some kx:=⟨_,yAH hi⟩
  obtain ⟨u,hu,ru⟩:=O.at hx
  have hl:=O.length
  have J:IsItemIter s.heap it d i vs.length ep ok ov:=by rw [<- hl];exact U
  refine wpAny_pyNext_items_item J Z hu fun a0 h1 a5 a8 a9 ac a6=>⟨_,rfl,?_⟩
  refine wpAny_letOwnedTupleGo_items a8 fun h2 a7 L=>?_
  replace L:Heap.SameBut it h1 h2:=L
  have a2:it < s.heap.objs.size:=Heap.lt_size U
  have aa:h2.get? s.heap.objs.size=some { cls:=.type "tuple",data:=.seq #[a0,u] }:=(L.2 _ (yBN a2)).trans a9
  have a1:H s.heap.objs.size=none:=I.hok.fresh (yAA _)
  refine ⟨.ref s.heap.objs.size,upd H s.heap.objs.size (.tup [kV k,x]),I.turn2 (ch:=[it]) (t':=s.toks) hf (fun b o Y q=>?_) (yAA _) ?_,rfl,⟨_,k,x,a1,hx,rfl,rfl⟩,⟨a0,u,?_⟩,fun b Y=>?_⟩
  .have a3:b≠it:=fun z=>Y (by simp [z])
   exact (L.2 b a3).trans (a6 b o a3 q)
  .exact ⟨ZAW (show 2 <= 1000 by decide),[a0,u],.cons (kV_rel a5) (.cons ru .nil),_,aa,rfl,0,rfl⟩
  .rw [hl];exact a7
  .rw [yAP.mp Y,ZAG (yAE a2)]
   exact (hf it (by simp)).1
 done:=by
  intro X hP hw hK hc i pins s σ H E I hf st hg
  subst hP hw hK
  obtain ⟨hd,hi⟩:=hg
  obtain ⟨ok,ov,U⟩:=st
  obtain ⟨vs,O,Z⟩:=frz_at I.hok hd he
  have hl:=O.length
  obtain ⟨f0,f1,f2,f3,f4,f5⟩:=hf it (by simp)
  have J:IsItemIter s.heap it d i vs.length ep ok ov:=by rw [<- hl];exact U
  exact wpAny_pyNext_items_end (I.ok.hd hc) J Z (yBA (by omega)) fun h' eb=>⟨rfl,I.turned (t':=s.toks) (fun b o Y e=>eb b o Y e) f0 f1 f3 f4 f5⟩
 self:=fun _ _ _ _ _ st h=>let ⟨_,_,e⟩:=st;wpAny_pyIter_itemiter e h
noncomputable def iItems (to:TE):TI:=fun σ H R=>to σ H fun x H1=>∃ d kvs,x=.ref d /\ H1 d=some (.dK kvs) /\ ∀ ob,R (Iti d ob kvs) (upd H1 d (.frz ob (.dK kvs)))
theorem pi_items {X:Cx} {Y:List Expr} {x1} {tpos apos cpos:Pos} {o:Expr} {to:TE} (ho:PE X o to) (z:attributeBase o "items" X.env (eval o X.env)=eval o X.env:=by rfl) (L:(apos.endLine == cpos.line)=true:=by rfl) :
  PI X (.Tuple Y x1 tpos) (.Call (.Attribute o "items" apos) [] [] cpos) (iItems to):=by
 intro pins s σ H R I h
 refine wpAny_Call_method0_late z L (thn (ho pins s σ H _ I h) fun v s1 zz=>?_)
 obtain ⟨x,H1,Z,r1,d,kvs,ex,ed,q⟩:=zz
 subst ex
 obtain rfl:v=Value.ref d:=r1
 obtain ⟨hz,hd,vs,O,dd⟩:=dk_of Z.hok ed
 obtain ⟨h1,h2⟩:=ZEe (T:="dict") (x:=.ref d) Z rfl (.inr (.inr (.inl ⟨rfl,.inl ⟨kvs,ed⟩⟩)))
 refine ⟨"dict","dict.items",PySem.F.plainAttrs_dict,PySem.F.slot_dict_items,PySem.F.type_dict_items,h1,h2,?_⟩
 refine method_meetsIn PySem.F.slot_dict_items PySem.F.entry_dict_items rfl (PySem.evalArgs_none ⟨rfl,dd.typeIs,PySem.F.args_dict_items_1 _,_,meets_dict_items (ZAZ X.prog X.w) d hd,⟨vs,dd⟩,?_⟩)
 obtain ⟨ob,es,ep,g1,g2,g3,g4⟩:=id dd
 have kp:∀ b u,s1.heap.get? b=some u->(s1.heap.push { cls:=.type "dict_items",data:=.fields #[.ref d] }).get? b=some u:=fun b u q=>Heap.get?_push_of_some _ q
 have a0:(s1.heap.push { cls:=.type "dict_items",data:=.fields #[.ref d] }).DictAt (ZAZ X.prog X.w) d vs ep:=⟨ob,es,kp _ _ g1,g2,g3,g4⟩
 refine wpAny_pyIter_items (knd:=ZAZ X.prog X.w) ⟨_,Heap.get?_push_size _ rfl,rfl,rfl⟩ a0 ?_
 have hsz:s1.heap.objs.size <= (s1.heap.push { cls:=.type "dict_items",data:=.fields #[.ref d] }).objs.size:=by rw [Heap.size_push];exact yAY _
 generalize s1.heap.push { cls:=.type "dict_items",data:=.fields #[.ref d] }=h2' at kp hsz ⊢
 have hl:=O.length
 have J:∀ b u,s1.heap.get? b=some u->(h2'.push { cls:=.type "dict_itemiterator",data:=.fields #[.none,.bool false,.ref d,.int 0 0,.int vs.length 0,.int ep 0,.none,.none] }).get? b=some u:=fun b u q=>Heap.get?_push_of_some _ (kp b u q)
 have U:IsItemIter (h2'.push { cls:=.type "dict_itemiterator",data:=.fields #[.none,.bool false,.ref d,.int 0 0,.int vs.length 0,.int ep 0,.none,.none] }) h2'.objs.size d 0 vs.length ep .none .none:=Heap.get?_push_size _ rfl
 generalize h2'.push { cls:=.type "dict_itemiterator",data:=.fields #[.none,.bool false,.ref d,.int 0 0,.int vs.length 0,.int ep 0,.none,.none] }=h3 at J U ⊢
 have I2:Inv X pins σ H1 { s1 with heap:=h3 }:=Z.kept (t':=s1.toks) J
 have e1:h3.get? d=some ob:=J _ _ g1
 have I3:=I2.write (x:=d) (e:=d) (o:=.frz ob (.dK kvs)) (h':=h3) (t':=s1.toks) (by rw [ed];exact True.intro) (.inl rfl) (fun b u _ h=>h) ⟨_,e1⟩ ⟨e1,hz,hd,vs,O,ob,es,ep,e1,g2,g3,g4⟩
 have a1:d < s1.heap.objs.size:=Heap.lt_size g1
 refine ⟨h2'.objs.size,[h2'.objs.size],_,Iti d ob kvs,upd H1 d (.frz ob (.dK kvs)),rfl,I3,turn_items d _ ob kvs g3,⟨.none,.none,by rw [hl];exact U⟩,fun b hb=>?_,q ob⟩
 rw [yAP.mp hb]
 obtain ⟨f0,f1,f2,f3,f4,f5⟩:=Z.fpOk hsz (Z.hok.fresh hsz)
 exact ⟨by rw [ZAG (yBN (yAQ a1 hsz))];exact f0,f1,f2,f3,f4,f5⟩
section
variable {g:TG} {tb:TS} {D:Ends} {σ:St} {H:Hp} {d:Addr} {kvs:List (Key×V)}
noncomputable def forI (g:TG) (tb:TS) (D:Ends) (σ:St) (x:V) (H1:Hp):Prop:=∃ d kvs,x=.ref d /\ H1 d=some (.dK kvs) /\ ∀ ob,∃ W:Nat->Nat->St->Hp->Prop,(∃ m,W 0 m σ (upd H1 d (.frz ob (.dK kvs)))) /\ ∀ i m σ H,W i m σ H ->
 ((Iti d ob kvs).stop i H /\ D.nx σ H)∨((Iti d ob kvs).go i H /\ ∃ N:St->Hp->Prop,(∀ σ' H',N σ' H'->∃ m',m' < m /\ W (i+1) m' σ' H') /\ ∀ x H',(Iti d ob kvs).yld i H x H'->g x σ H' fun σ2 H2=>tb { D with nx:=N,ct:=N,bk:=D.nx } σ2 H2)
theorem tForI_eq {t:TE}:tFor (iItems t) g tb D σ H=t σ H (fun x H1=>forI g tb D σ x H1):=rfl
theorem forI_of (h:H d=some (.dK kvs)) (z:Obj->Nat->St->Hp->Prop) (O:∀ ob,z ob 0 σ (upd H d (.frz ob (.dK kvs)))) (hl:∀ ob i σ H,i <= kvs.length->z ob i σ H->H d=some (.frz ob (.dK kvs)))
  (U:∀ ob (i:Nat) k x σ H p,kvs[i]?=some (k,x)->z ob i σ H->H p=none->g (.ref p) σ (upd H p (.tup [kV k,x])) fun J H2=>tb { D with nx:=z ob (i+1),ct:=z ob (i+1),bk:=D.nx } J H2) (Y:∀ ob σ H,z ob kvs.length σ H->D.nx σ H):forI g tb D σ (.ref d) H:=by
 refine ⟨d,kvs,rfl,h,fun ob=>⟨fun i m σ H=>m=kvs.length-i /\ i <= kvs.length /\ z ob i σ H,⟨kvs.length,by simp,yAD _,O ob⟩,?_⟩⟩
 rintro i m σ H ⟨rfl,hi,p⟩
 have q:=hl ob i σ H hi p
 by_cases hlt:i < kvs.length
 .refine .inr ⟨⟨q,hlt⟩,z ob (i+1),fun a0 H' p'=>⟨kvs.length-(i+1),by omega,rfl,hlt,p'⟩,fun x H' y=>?_⟩
  obtain ⟨L,k,Z,hn,y,rfl,rfl⟩:=y
  exact U ob i k Z σ _ L y p hn
 .have e:i=kvs.length:=by omega
  subst e
  exact .inl ⟨⟨q,yAA _⟩,Y ob σ H p⟩
end
end L2
namespace PySem
open Sem (wp)
theorem ZBa (o : Obj) (f) : (o.mapFields f).dict = o.dict := by
  unfold Obj.mapFields
  split <;> rfl
structure Kpo (o o' : Obj) : Prop where
  fr : o'.isFreed = o.isFreed
  di : o'.dict = o.dict
theorem Kpo.refl (o : Obj) : Kpo o o := ⟨rfl, rfl⟩
theorem Kpo.set (i : Nat) (v : Value) (o : Obj) : Kpo o (o.mapFields (·.setIfInBounds i v)) := by
  unfold Obj.mapFields
  split
  · exact ⟨rfl, rfl⟩
  · exact .refl _
def Kph (h h' : Heap) : Prop := ∀ b o, h.get? b = some o → ∃ u, h'.get? b = some u ∧ Kpo o u
theorem Kph.trans {h h' k : Heap} (x : Kph h h') (y : Kph h' k) : Kph h k := fun b o e => by
  obtain ⟨u, e1, q1⟩ := x b o e
  obtain ⟨w, e2, q2⟩ := y b u e1
  exact ⟨w, e2, q2.fr.trans q1.fr, q2.di.trans q1.di⟩
theorem Kph.upd (h : Heap) (a : Addr) {f : Obj → Obj} (hf : ∀ o, Kpo o (f o)) : Kph h (h.update a f) := fun b o e => by
  by_cases q : a = b
  · subst q
    exact ⟨_, Heap.get?_update_self f e ((hf o).fr.trans (Heap.get?_some_iff.mp e).2), hf o⟩
  · exact ⟨o, (Heap.get?_update_other h f q).trans e, .refl o⟩
inductive Tame {α : Type} : Sem α → Prop
  | pure (a) : Tame (.pure a)
  | no (w) : Tame (.unsupported w)
  | load {a p k} : (∀ o, Tame (k o)) → Tame (.load a p k)
  | upd {a p f k} : (∀ o, Kpo o (f o)) → Tame (k ()) → Tame (.update a p f k)
  | new {o k} : (∀ a, Tame (k a)) → Tame (.alloc o k)
  | stack {k} : (∀ l, Tame (k l)) → Tame (.stack k)
section
variable {α β : Type} {M : Model} {Γ : Ctx} {A : Around} {E : Value → Shared → Prop} {s : Shared}
theorem Tame.wp {t : Sem α} (T : Tame t) {Q : α → Pos → Shared → Prop} {E : Value → Pos → Shared → Prop} {p : Pos} : ∀ {s : Shared}, wp M Γ t Q E p s → wp M Γ t (fun a p z => Q a p z ∧ Kph s.heap z.heap) E p s := by
  have go : ∀ {t : Sem α} {s s1 : Shared}, Kph s.heap s1.heap → (∀ {s : Shared}, Sem.wp M Γ t Q E p s → Sem.wp M Γ t (fun a p z => Q a p z ∧ Kph s.heap z.heap) E p s) → Sem.wp M Γ t Q E p s1 → Sem.wp M Γ t (fun a p z => Q a p z ∧ Kph s.heap z.heap) E p s1 :=
    fun k ih h => Sem.wp_mono M Γ _ (fun _ _ _ z => ⟨z.1, k.trans z.2⟩) (fun _ _ _ z => z) _ _ (ih h)
  induction T with
  | pure => exact fun h => ⟨h, fun b o e => ⟨o, e, .refl o⟩⟩
  | no => exact id
  | load _ ih => exact fun ⟨o, e, h⟩ => ⟨o, e, ih o h⟩
  | upd f _ ih => exact fun ⟨e, h⟩ => ⟨e, go (Kph.upd _ _ f) ih h⟩
  | @new o k _ ih => exact fun {s} h => go (t := k s.heap.objs.size) (s1 := { s with heap := s.heap.push o }) (fun b u e => ⟨u, Heap.get?_push_of_some _ e, .refl u⟩) (ih _) h
  | stack _ ih => exact fun h => ih _ h
theorem Tame.any {t : Sem α} (T : Tame t) {Q : α → Shared → Prop} (h : wpAny M A t Q E s) : wpAny M A t (fun a z => Q a z ∧ Kph s.heap z.heap) E s := fun Γ p hΓ => T.wp (h Γ p hΓ)
theorem Tame.bind {m : Sem α} {f : α → Sem β} (x : Tame m) (y : ∀ a, Tame (f a)) : Tame (m >>= f) := by
  show Tame (m.bind f)
  induction x with
  | pure a => exact y a
  | no w => exact .no w
  | load _ ih => exact .load ih
  | upd h _ ih => exact .upd h ih
  | new _ ih => exact .new ih
  | stack _ ih => exact .stack ih
theorem Tame.ite {c : Prop} [Decidable c] {x y : Sem α} (hx : Tame x) (hy : Tame y) : Tame (if c then x else y) := by split <;> assumption
theorem tame_field (v : Value) (i : Nat) : Tame (field v i) := by
  refine .bind (m := fieldsOf v) ?_ fun a => ?_
  · unfold fieldsOf
    split
    · refine .bind (.load fun o => .pure o) fun o => ?_
      split
      · exact .pure _
      · exact .no _
    · exact .no _
  · split
    · exact .pure _
    · exact .no _
theorem tame_setField (i : Nat) (v x : Value) : Tame (setField v i x) := by
  unfold setField
  split
  · unfold updateField
    refine .bind (.load fun o => .pure o) fun o => ?_
    split
    · exact .ite (.upd (Kpo.set i x) (.pure _)) (.no _)
    · exact .no _
  · exact .no _
theorem tame_ready (l : List Env) : Tame (readyFrames l) := by
  induction l with
  | nil => exact .pure _
  | cons env r ih =>
    unfold readyFrames
    split
    next f hf =>
      refine .bind (.load fun o => .pure o) fun o => .ite (.pure _) (.bind ?_ fun b => .bind ?_ fun c => .bind (.upd (fun o => ⟨by cases o with | mk a b d c => cases d <;> rfl, rfl⟩) (.pure _)) fun _ => ih)
      · unfold behindIsImport
        exact .ite (.pure _) (.ite (.pure _) (.bind (tame_field _ _) fun _ => .pure _))
      · unfold keptBack
        split
        · exact .ite (.pure _) (.bind (.bind (.stack fun l => .pure l) fun _ => .pure _) fun _ => .pure _)
        · exact .pure _
    · exact .no _
theorem tame_note (e : Value) (env : Env) : Tame (noteFrame e env) := by
  unfold noteFrame
  split
  next f hf =>
    have rest : ∀ head b, Tame (do setField e 1 (← EntryCells.newEntry head (← frameOf env) .none (rawInt f) .none (← entryPlaceOf f b))) := fun head b => by
      refine .bind ?_ fun a => .bind ?_ fun pl => .bind ?_ fun n => tame_setField _ _ _
      · unfold frameOf
        refine .bind (.bind (.stack fun l => .pure l) fun _ => .pure _) fun l => .bind ?_ fun o => ?_
        · unfold frameObject
          split
          · exact .pure _
          · exact .bind (tame_ready _) fun _ => .pure _
        · split
          · exact .pure _
          · exact .no _
      · unfold entryPlaceOf
        refine .bind (.stack fun l => .pure l) fun l => ?_
        split <;> exact .pure _
      · unfold EntryCells.newEntry newFields newObj
        exact .ite (.bind (.no _) fun _ => .bind (.new fun a => .pure a) fun a => .pure _) (.bind (.new fun a => .pure a) fun a => .pure _)
    refine .bind (tame_field _ _) fun head => .ite (.bind (tame_field _ _) fun y => .ite (.pure _) (.bind (tame_setField _ _ _) fun _ => rest _ _)) (rest _ _)
  · exact .no _
theorem tame_flight (e : Value) (o : Option Addr) : Tame (setFlight e o) := .bind (tame_field _ _) fun _ => .ite (tame_setField _ _ _) (.pure _)
theorem tame_leaving (env : Env) (e : Value) : Tame (leaving env e) := .bind (tame_note _ _) fun _ => tame_flight _ _
def Heap.Dx (h : Heap) (e : Addr) (d : Option Addr) : Prop := ∃ o, h.get? e = some o ∧ o.dict = d
theorem Heap.Dx.kept {h h' : Heap} {e : Addr} {d : Option Addr} (x : h.Dx e d) (k : Kph h h') : h'.Dx e d := by
  obtain ⟨o, h1, h3⟩ := x
  obtain ⟨u, h5, q⟩ := k e o h1
  exact ⟨u, h5, q.di.trans h3⟩
def Heap.TracedAtD (h base : Heap) (e : Addr) (cls : Value) (a0 : Value × Option Addr) (fl : Value) : Prop := h.TracedAtW base e cls a0.1 fl ∧ h.Dx e a0.2
abbrev Heap.TracedD (h base : Heap) (e : Addr) (cls : Value) (a0 : Value × Option Addr) : Prop := h.TracedAtD base e cls a0 .none
abbrev Heap.FlyD (base : Heap) (l : List Env) (e : Addr) (cls : Value) (a0 : Value × Option Addr) (fl : Value) (h : Heap) : Prop := base.StaysIn h ∧ base.get? e = none ∧ h.FunFrames base l ∧ h.TracedAtD base e cls a0 fl
abbrev Heap.FlyingD (base : Heap) (l : List Env) (e : Addr) (cls : Value) (a0 : Value × Option Addr) (h : Heap) : Prop := Heap.FlyD base l e cls a0 .none h
abbrev Heap.HeldD (base : Heap) (l : List Env) (e : Addr) (cls : Value) (a0 : Value × Option Addr) (L : Addr) (h : Heap) : Prop := Heap.FlyD base l e cls a0 (rawInt L) h
theorem Heap.FlyingD.thereD {base h : Heap} {l : List Env} {e : Addr} {cls : Value} {a0 : Value × Option Addr} (x : Heap.FlyingD base l e cls a0 h) : ∃ ob, h.get? e = some ob ∧ ob.cls = cls ∧ ob.dict = a0.2 ∧ ∃ vs, ob.data = .fields vs := by
  obtain ⟨_, _, _, ⟨oe, vs, _, _, _, he, hc, hd, _⟩, o, h1, h2⟩ := x
  rw [he] at h1
  cases h1
  exact ⟨oe, he, hc.1, h2, vs, hd⟩
theorem Heap.FlyingD.there {base h : Heap} {l : List Env} {e : Addr} {cls : Value} {a0 : Value × Option Addr} (x : Heap.FlyingD base l e cls a0 h) : ∃ ob, h.get? e = some ob ∧ ob.cls = cls :=
  let ⟨ob, h1, h2, _⟩ := Heap.FlyingD.thereD x
  ⟨ob, h1, h2⟩
variable {base : Heap} {env : Env} {l outer : List Env} {L e : Addr} {cls : Value} {a0 : Value × Option Addr} {Q : Unit → Shared → Prop}
theorem Tame.go {t : Sem Unit} (T : Tame t) {P : Heap → Prop} (w : wpAny M A t (fun _ z => ∃ h', z = { s with heap := h' } ∧ P h') E s) (hQ : ∀ h', P h' → Kph s.heap h' → Q () { s with heap := h' }) : wpAny M A t Q E s :=
  wpAny_mono (T.any w) (fun _ _ z => by
    obtain ⟨⟨h', rfl, p⟩, k⟩ := z
    exact hQ h' p k) fun _ _ z => z
theorem wpAny_leaves_onD (hfr : A.frames = some (env :: outer)) (hf : env.frame = some L) (x : Heap.FlyingD base (env :: outer) e cls a0 s.heap) (hQ : ∀ h', Heap.FlyingD base outer e cls a0 h' → s.heap.UpToSlots h' → Q () { s with heap := h' }) : wpAny M A (leaving env (.ref e)) Q E s := by
  obtain ⟨f1, f2, f3, f4, d⟩ := x
  refine (tame_leaving _ _).go (P := fun h' => Heap.FlyingW base outer e cls a0.1 h' ∧ s.heap.UpToSlots h') (wpAny_leaves_onW hfr hf ⟨f1, f2, f3, f4⟩ fun h' y u => ⟨h', rfl, y, u⟩) fun h' ⟨⟨y1, y2, y3, y4⟩, u⟩ k => hQ h' ⟨y1, y2, y3, y4, d.kept k⟩ u
theorem wpAny_looks_onD (hfr : A.frames = some (env :: outer)) (hf : env.frame = some L) (x : Heap.FlyingD base (env :: outer) e cls a0 s.heap) (hQ : ∀ h', Heap.HeldD base (env :: outer) e cls a0 L h' → s.heap.UpToSlots h' → Q () { s with heap := h' }) : wpAny M A (noteFrame (.ref e) env) Q E s := by
  obtain ⟨f1, f2, f3, f4, d⟩ := x
  refine (tame_note _ _).go (P := fun h' => Heap.HeldW base (env :: outer) e cls a0.1 L h' ∧ s.heap.UpToSlots h') (wpAny_looks_onW hfr hf ⟨f1, f2, f3, f4⟩ fun h' y u => ⟨h', rfl, y, u⟩) fun h' ⟨⟨y1, y2, y3, y4⟩, u⟩ k => hQ h' ⟨y1, y2, y3, y4, d.kept k⟩ u
theorem wpAny_noteFrame_againD (hf : env.frame = some L) (x : s.heap.TracedAtD base e cls a0 (rawInt L)) (h : Q () s) : wpAny M A (noteFrame (.ref e) env) Q E s := wpAny_noteFrame_againW hf x.1 h
theorem flightD_ {fl : Value} (o : Option Addr) (f1 : base.StaysIn s.heap) (f3 : s.heap.FunFrames base l) (f4 : s.heap.TracedAtD base e cls a0 fl)
    (hQ : ∀ h', base.StaysIn h' → h'.FunFrames base l → h'.TracedAtD base e cls a0 (o.elim .none fun f => rawInt f) → (∀ b o, s.heap.get? b = some o → (∀ vs, o.data ≠ .fields vs) → h'.get? b = some o) → Q () { s with heap := h' }) : wpAny M A (setFlight (.ref e) o) Q E s := by
  obtain ⟨⟨oe, vs, T, oT, ts, he, hc, hd, h1, hnT, hTe, hT, hdT, h3⟩, d⟩ := f4
  refine (tame_flight _ _).go (P := fun h' => h' = s.heap.update T (Obj.mapFields (·.setIfInBounds 3 (o.elim .none fun f => rawInt f)))) ?_ fun h' z k => ?_
  · refine wpAny_bind (wpAny_field he hd h1 ?_)
    show wpAny M A (setField (.ref T) 3 _) _ E s
    exact wpAny_setField hT hdT (Array.getElem?_eq_some_iff.mp h3).1 ⟨_, rfl, rfl⟩
  · subst z
    have ot : ∀ b u, s.heap.get? b = some u → b ≠ T → (s.heap.update T (Obj.mapFields (·.setIfInBounds 3 (o.elim .none fun f => rawInt f)))).get? b = some u := fun b u h n => (Heap.get?_update_other _ _ (Ne.symm n)).trans h
    have nt : ∀ b u, s.heap.get? b = some u → (∀ vs, u.data ≠ .fields vs) → b ≠ T := fun b u h n z => by
      subst z
      rw [hT] at h
      cases h
      exact n ts hdT
    exact hQ _ (fun b u h => ot b u (f1 b u h) (fun z => by subst z; rw [hnT] at h; cases h)) (f3.of_keeps fun b u h n => ⟨u, ot b u h (nt b u h n), rfl⟩)
      ⟨⟨oe, vs, T, _, _, ot e oe he (Ne.symm hTe), hc, hd, h1, hnT, hTe, Heap.get?_update_self _ hT (Obj.isFreed_of_fields (Obj.data_mapFields hdT _)), Obj.data_mapFields hdT _, by
        have := (Array.getElem?_eq_some_iff.mp h3).1
        simp [this]⟩, d.kept k⟩ fun b u h n => ot b u h (nt b u h n)
theorem wpAny_landsD (hh : Heap.HeldD base l e cls a0 L s.heap) (hQ : ∀ h', Heap.FlyingD base l e cls a0 h' → s.heap.UpToSlots h' → Q () { s with heap := h' }) : wpAny M A (setFlight (.ref e) none) Q E s :=
  flightD_ none hh.1 hh.2.2.1 hh.2.2.2 fun h' k1 k2 k3 k4 => hQ h' ⟨k1, hh.2.1, k2, k3⟩ fun b o y n => ⟨o.slots, k4 b o y n⟩
theorem LANDS2_ (hh : Heap.FlyingD base l e cls a0 s.heap) (hQ : ∀ h', Heap.FlyingD base l e cls a0 h' → s.heap.UpToSlots h' → Q () { s with heap := h' }) : wpAny M A (setFlight (.ref e) none) Q E s :=
  flightD_ none hh.1 hh.2.2.1 hh.2.2.2 fun h' k1 k2 k3 k4 => hQ h' ⟨k1, hh.2.1, k2, k3⟩ fun b o y n => ⟨o.slots, k4 b o y n⟩
theorem wpAny_setFlight_someD {fl : Value} (hkb : base.StaysIn s.heap) (hl : s.heap.FunFrames base l) (ht : s.heap.TracedAtD base e cls a0 fl)
    (h : ∀ h', base.StaysIn h' → h'.FunFrames base l → h'.TracedAtD base e cls a0 (rawInt L) → (∀ b o, s.heap.get? b = some o → (∀ vs, o.data ≠ .fields vs) → h'.get? b = some o) → Q () { s with heap := h' }) : wpAny M A (setFlight (.ref e) (some L)) Q E s := flightD_ (some L) hkb hl ht h
theorem wpAny_leaving_firstD {oe : Obj} {vs : Array Value} (hfr : A.frames = some (env :: outer)) (hl : s.heap.FunFrames base (env :: outer)) (hf : env.frame = some L) (he : s.heap.get? e = some oe) (hkb : base.StaysIn s.heap) (hen : base.get? e = none) (hd : oe.data = .fields vs) (h1 : vs[1]? = some .none)
    (h0 : vs[0]? = some a0.1 ∧ oe.dict = a0.2) (hQ : ∀ h', (base.StaysIn h' ∧ h'.FunFrames base (env :: outer) ∧ h'.TracedD base e oe.cls a0 ∧ s.heap.UpToSlots h') → Q () { s with heap := h' }) : wpAny M A (leaving env (.ref e)) Q E s :=
  (tame_leaving _ _).go (P := fun h' => Heap.LeftW base (env :: outer) e oe.cls a0.1 s.heap h') (wpAny_leaving_firstW hfr hl hf he hkb hen hd h1 h0.1 fun h' y => ⟨h', rfl, y⟩) fun h' ⟨y1, y2, y3, y4⟩ k => hQ h' ⟨y1, y2, ⟨y3, Heap.Dx.kept ⟨oe, he, h0.2⟩ k⟩, y4⟩
theorem wpAny_looks_firstD {oe : Obj} {vs : Array Value} (hfr : A.frames = some (env :: outer)) (hl : s.heap.FunFrames base (env :: outer)) (hf : env.frame = some L) (he : s.heap.get? e = some oe) (hkb : base.StaysIn s.heap) (hen : base.get? e = none) (hd : oe.data = .fields vs) (h1 : vs[1]? = some .none)
    (h0 : vs[0]? = some a0.1 ∧ oe.dict = a0.2) (hQ : ∀ h', Heap.HeldD base (env :: outer) e oe.cls a0 L h' → s.heap.UpToSlots h' → Q () { s with heap := h' }) : wpAny M A (noteFrame (.ref e) env) Q E s := by
  refine (tame_note _ _).go (P := fun h' => Heap.NotedW base (env :: outer) e oe.cls a0.1 (rawInt L) s.heap h') ?_ fun h' ⟨y1, y2, y3, y4⟩ k => hQ h' ⟨y1, hen, y2, y3, Heap.Dx.kept ⟨oe, he, h0.2⟩ k⟩ y4
  unfold noteFrame
  rw [hf]
  exact wpAny_bind (wpAny_field he hd h1 (wpAny_entryW hfr hl hf he hkb hen hd (Array.getElem?_eq_some_iff.mp h1).1 h0.1 fun h' y => ⟨h', rfl, y⟩))
end
end PySem
namespace L2
open PySem PySem.Spec PyProof.Rows
noncomputable def Fly (l:List Env) (H:Hp) (h0:Heap) (e:Addr) (cls:Value) (dd:Option Addr) (h:Heap):Prop :=
 ∃ B a0,Heap.FlyingD B l e cls (a0,dd) h /\ H e=none /\ h0.get? e=none /\ ∀ b o,h.get? b=some o->b∉frs l->(H b≠none∨∃ o0,h0.get? b=some o0)->B.get? b=some o
noncomputable def CXE (P:Program) (w:World):CXT:=fun outer H s E e s'=>
 ∃ ea cls dd H',e=.ref ea /\ s'.os=s.os /\ AllBare s'.gens /\ Un (frs outer) [] H H' s.heap s'.heap /\ HOk P w H' s'.heap /\ Fly outer H' s.heap ea cls dd s'.heap /\ E cls dd H'
section
variable {P:Program} {w:World} {l:List Env} {H H':Hp} {h h1 h2 B base:Heap}
theorem Un.fly (u:Un (frs l) [] H H' h h1) (Y:∀ b o,h1.get? b=some o->b∉frs l->(H' b≠none∨∃ o0,h.get? b=some o0)->B.get? b=some o) (st:B.StaysIn h2) (up:h1.UpToSlots h2) (Z:h1.FunFrames base l):Un (frs l) [] H H' h h2 where
 keep b o e n hb hx:=st b o (Y b o (u.keep b o e n hb hx) hb (.inr ⟨o,e⟩))
 slot b o e n hb hx:=by
  obtain ⟨sl,z⟩:=u.slot b o e n hb hx
  obtain ⟨_,o',L,O⟩:=Z.mem hb
  rw [z] at L
  cases L
  obtain ⟨U,e2⟩:=up b _ z O
  exact ⟨U,e2⟩
 free:=u.free
 there b o e hx:=by
  obtain ⟨o',z⟩:=u.there b o e hx
  by_cases hb:b∈frs l
  .obtain ⟨_,o2,J,O⟩:=Z.mem hb
   rw [z] at J
   cases J
   obtain ⟨sl,e2⟩:=up b _ z O
   exact ⟨_,e2⟩
  .exact ⟨o',st b o' (Y b o' z hb (.inr ⟨o,e⟩))⟩
 tups:=u.tups
 frzs:=u.frzs
 tbls:=u.tbls
theorem HOk.fly (x:HOk P w H' h1) (J:∀ b o,h1.get? b=some o->b∉frs l->(H' b≠none∨∃ L,h.get? b=some L)->B.get? b=some o) (st:B.StaysIn h2) (hn:∀ b∈frs l,H' b=none):HOk P w H' h2:=fun a o e=>by
 have k:∀ b o,H' b=some o->b∉frs l:=fun b o z m=>by rw [hn b m] at z;cases z
 refine (x a o e).stay (fun b v hc q=>?_) (fun _ q=>q) fun _ _ q=>q
 rcases hc with z | z
 .exact st b v (J b v q (by rw [z];exact k _ _ e) (.inl (by rw [z,e];exact fun y=>nomatch y)))
 .exact st b v (J b v q (k _ _ z) (.inl (by rw [z];exact fun y=>nomatch y)))
theorem Inv.stkFree2 {X:Cx} {pins:List (Addr×Obj)} {σ:St} {s:Shared} (I:Inv X pins σ H s) (u:Un (frs X.stack) [] H H' s.heap h1):∀ b∈frs X.stack,H' b=none:=fun b z=>by
 obtain ⟨_,o,J,_⟩:=I.stack.mem z
 exact u.free b o J (I.stkFree b z) List.not_mem_nil
end
section
variable {P:Program} {w:World} {K:W.Frag} {mg:Str->Option Value} {base:Heap} {N:List Str} {qual:Str} {scope:Scope} {f:Addr} {cd:Value} {A:Around} {outer:List Env} {s:Shared} {H:Hp} {E:XK}
theorem ZE0 {pins:List (Addr×Obj)} {σ:St} {H1 H':Hp} {s1 s2:Shared} {hm h' B B':Heap} {ea:Addr} {cls a0:Value} {dd:Option Addr} (I:Inv (cxOf (CXE P w) P w K mg base N qual scope f cd A outer s H E) pins σ H1 s1)
  (un:Un (frs (cxOf (CXE P w) P w K mg base N qual scope f cd A outer s H E).stack) [] H1 H' s1.heap hm) (O:HOk P w H' hm)
  (hB:∀ b o,hm.get? b=some o->b∉frs (cxOf (CXE P w) P w K mg base N qual scope f cd A outer s H E).stack->(H' b≠none∨∃ U,s1.heap.get? b=some U)->B.get? b=some o)
  (ff:hm.FunFrames B' (cxOf (CXE P w) P w K mg base N qual scope f cd A outer s H E).stack) (up:hm.UpToSlots h') (fl:Heap.FlyingD B outer ea cls (a0,dd) h') (a2:H' ea=none) (Z:s1.heap.get? ea=none) (os:s2.os=s1.os) (L:AllBare s2.gens) (hE:E cls dd H') :
  CXE P w outer H s E (.ref ea) { s2 with heap:=h' }:=by
 have fr:=I.stkFree2 un
 have a4:=un.fly hB fl.1 up ff
 have J:=O.fly hB fl.1 fr
 have I2:=I.call' (s':={ s2 with heap:=h' }) os a4 J L fun b z=>nomatch z
 have a1:∀ b o,s.heap.get? b=some o->∃ o1,s1.heap.get? b=some o1:=fun b o q=>I.base.there b o q (fun z=>nomatch z)
 refine ⟨ea,cls,dd,H',rfl,I2.os,L,I2.base,J,⟨B,a0,fl,a2,?_,fun b o ho hb Y=>?_⟩,hE⟩
 .cases q:s.heap.get? ea with
  | none=>rfl
  | some o=>
   obtain ⟨o1,h1⟩:=a1 ea o q
   rw [Z] at h1;cases h1
 .have a3:b∉frs (cxOf (CXE P w) P w K mg base N qual scope f cd A outer s H E).stack:=fun m=>by
   rcases yAG.mp (I2.stkSub b m) with z | z
   .rcases Y with y | ⟨U,y⟩
    .exact y (by rw [z];exact I2.free)
    .exact absurd (yAQ (Heap.lt_size y) I.ok.above) (by rw [z];exact yBG _)
   .exact hb z
  have:∃ o1,hm.get? b=some o1 /\ (H' b≠none∨∃ U,s1.heap.get? b=some U):=by
   rcases Y with y | ⟨U,y⟩
   .obtain ⟨u,hu⟩:=Option.ne_none_iff_exists'.mp y
    have:=(O b u hu).lt
    cases z:hm.get? b with
    | some o1=>exact ⟨o1,rfl,.inl y⟩
    | none=>
     exfalso
     have st2:=O b u hu
     cases u with
     | lst xs=>obtain ⟨_,_,_,_,e⟩:=st2;rw [z] at e;cases e
     | tup xs=>obtain ⟨_,_,_,ob,e,_⟩:=st2;rw [z] at e;cases e
     | dK kvs=>obtain ⟨_,_,_,_,ob,es,ep,e,_⟩:=st2;rw [z] at e;cases e
     | dT kvs=>obtain ⟨_,_,_,_,ob,es,ep,e,_⟩:=st2;rw [z] at e;cases e
     | set S n=>obtain ⟨ob,es,ep,t,e,_⟩:=st2;rw [z] at e;cases e
     | ins C dx fs=>obtain ⟨_,_,_,e,_⟩:=st2;rw [z] at e;cases e
     | own y=>obtain ⟨_,e⟩:=st2;rw [z] at e;cases e
     | xd fs=>obtain ⟨_,⟨_,_,_,e,_⟩,_⟩:=st2;rw [z] at e;cases e
     | rng lo hi=>obtain ⟨_,_,_,e⟩:=st2;rw [z] at e;cases e
     | frz ob u=>obtain ⟨e,_⟩:=st2;rw [z] at e;cases e
     | tbl ps=>have e:hm.get? b=some _:=st2;rw [z] at e;cases e
     | met f y=>have e:hm.get? b=some _:=st2;rw [z] at e;cases e
     | ext φ=>obtain ⟨_,⟨_,e⟩,_⟩:=st2;rw [z] at e;cases e
   .obtain ⟨o1,h1⟩:=a1 b U y
    obtain ⟨o2,h2⟩:=un.there b o1 h1 (fun z=>nomatch z)
    exact ⟨o2,h2,.inr ⟨o1,h1⟩⟩
  obtain ⟨o1,q1,q2⟩:=this
  have q3:=hB b o1 q1 a3 q2
  have q4:=fl.1 b o1 q3
  rw [ho] at q4
  cases q4
  exact q3
theorem raisedD {pins:List (Addr×Obj)} {σ:St} {H1 H2:Hp} {s1 s2:Shared} {ea:Addr} {oe:Obj} {vs:Array Value} {cls a0:Value} {dd:Option Addr} (I:Inv (cxOf (CXE P w) P w K mg base N qual scope f cd A outer s H E) pins σ H1 s1)
  (un:Un (frs (cxOf (CXE P w) P w K mg base N qual scope f cd A outer s H E).stack) [] H1 H2 s1.heap s2.heap) (U:HOk P w H2 s2.heap) (os:s2.os=s1.os) (J:AllBare s2.gens) (L:s1.heap.get? ea=none) (O:H2 ea=none)
  (Y:s2.heap.get? ea=some oe) (hc:oe.cls=cls) (hd:oe.dict=dd) (hv:oe.data=.fields vs) (h1:vs[1]?=some .none) (h0:vs[0]?=some a0) (hE:E cls dd H2) :
  (cxOf (CXE P w) P w K mg base N qual scope f cd A outer s H E).xe (.ref ea) s2:=by
 have I2:=I.call' (s':=s2) os un U J fun b z=>nomatch z
 have a1:∀ env∈(cxOf (CXE P w) P w K mg base N qual scope f cd A outer s H E).stack,∀ b,env.frame=some b->b∈ea::frs (cxOf (CXE P w) P w K mg base N qual scope f cd A outer s H E).stack:=fun env Y b hb=>yAL _ (List.mem_filterMap.mpr ⟨env,Y,hb⟩)
 subst hc
 have eh:∀ b∈ea::frs (cxOf (CXE P w) P w K mg base N qual scope f cd A outer s H E).stack,(PySem.W.hideAll s2.heap (ea::frs (cxOf (CXE P w) P w K mg base N qual scope f cd A outer s H E).stack)).get? b=none:=fun b hb=>by
  exact PySem.W.hideAll_none _ hb
 refine wpAny_leaving_firstD (a0:=(a0,dd)) (base:=PySem.W.hideAll s2.heap (ea::frs (cxOf (CXE P w) P w K mg base N qual scope f cd A outer s H E).stack)) I.ok.frames (PySem.W.funFrames_hide I2.stack a1) rfl Y (fun b o q=>PySem.W.of_hideAll _ q) (eh ea yAJ) hv h1 ⟨h0,hd⟩ fun h' hL=>?_
 obtain ⟨k1,⟨_,_,k2⟩,k3,k4⟩:=hL
 refine ZE0 (s2:=s2) (B:=PySem.W.hideAll s2.heap (ea::frs (cxOf (CXE P w) P w K mg base N qual scope f cd A outer s H E).stack)) I un U (fun b o q nb Z=>PySem.W.hideAll_get _ q fun z=>?_) I2.stack k4 ⟨k1,eh ea yAJ,k2,k3⟩ O L os J hE
 rcases yAG.mp z with z | z
 .subst z
  rcases Z with y | ⟨o0,y⟩
  .exact y O
  .rw [L] at y;cases y
 .exact nb z
end
open PySem PySem.Spec PySem.W PySem.Calls PyProof.Rows Builtin.Getset_descriptor Builtin.ObjectAttr
structure ExcC (K:W.Frag) (C:Addr):Prop where
 ga:W.findIn K (.ref C) "__getattribute__"=some (some (.builtin "BaseException.__getattribute__"))
 gt:W.findIn K (.ref C) "__getattr__"=some none
 ca:W.findIn K (.ref C) "__class__"=some (some (.builtin "object.__class__"))
 sg:PySem.W.specialIn K (.builtin "object.__class__") "__get__"=some (some (.builtin "getset_descriptor.__get__"))
 tk:PySem.W.takesIn K (.builtin "object.__class__")=some true
 mo:PySem.W.mroIn K C (.type "object")=some true
 mb:PySem.W.mroIn K C (.type "BaseException")=some true
section
variable {prog:Program} {w:World} {A:Around} {E:Value->Shared->Prop} {K:W.Frag} {a C:Addr} {o:Obj} {h:Heap} {g:Array GenState} {d:Drawn} {t:Nat} {os:OsState}
theorem ZEU {M:Model} (hx:h.get? a=some o) (hc:o.cls=.ref C):Looks M h (typeOf (.ref a)) (.ref C):=hc ▸ (Looks.ld hx).andThen .now
theorem exc_get {R:Result->Shared->Prop} (X:K.In h) (F:ExcC K C) (hx:h.get? a=some o) (hc:o.cls=.ref C) (z:R (.ok (.ret (.ref C))) ⟨h,g,d,t,os⟩) :
  codeAny (model prog w) A (.call (.builtin "getset_descriptor.__get__") ⟨[.builtin "object.__class__",.ref a,.ref C],[]⟩) R ⟨h,g,d,t,os⟩:=by
 have L:=ZEU (M:=model prog w) hx hc
 have J:=looks_mroIn (M:=model prog w) X F.mo
 refine codeAny_call_builtin KF.slot_gs.plain KF.entry_gs (KF.slot_gs.check _ _ _ _ _ _ _ _ KF.type_class (KF.args_gs _ _ _) ?_)
 simp only [Builtin.«getset_descriptor.__get__»,descrGet]
 rw [dga_obj]
 refine wpAny_bind (wpAny_pure ?_)
 simp only [descrGetter,descrCheckInstance,descrNameAndClass,isInstance,KF.owner_class]
 repeat lk
 refine ⟨Code.quiet_builtin _ (by decide +kernel),codeAny_builtin KF.entry_class ?_⟩
 simp only [Builtin.«object.__class__»,shownTypeOf]
 repeat lk
 exact z
theorem exc_ga_check {M:Model} {z:Value} {Q:Unit->Shared->Prop} (X:K.In h) (F:ExcC K C) (hx:h.get? a=some o) (hc:o.cls=.ref C) (J:Q () ⟨h,g,d,t,os⟩) :
  wpAny M A (checkBuiltinCall "BaseException.__getattribute__" ⟨[.ref a,z],[]⟩) Q E ⟨h,g,d,t,os⟩:=by
 have O:=ZEU (M:=M) hx hc
 have L:=looks_mroIn (M:=M) X F.mb
 have k1:builtinKind "BaseException.__getattribute__"=some .slot:=by decide +kernel
 have k2:splitId "BaseException.__getattribute__"=some ("BaseException","__getattribute__"):=by decide +kernel
 have k3:=PySem.F.args_bexc_ga (.ref a) z
 simp only [checkBuiltinCall,k1,k2]
 refine wpAny_bind ?_
 unfold isInstance
 repeat lk
 exact J
theorem exc_class {Q:Option Value->Shared->Prop} (X:K.In h) (F:ExcC K C) (hx:h.get? a=some o) (hc:o.cls=.ref C) (hq:Q (some (.ref C)) ⟨h,g,d,t+1,os⟩) :
  wpAny (model prog w) A (getAttr? (.ref a) "__class__") Q E ⟨h,g,d,t,os⟩:=by
 have z:=ZEU (M:=model prog w) hx hc
 have Y:=looks_findIn (M:=model prog w) X F.ga
 have O:=looks_findIn (M:=model prog w) X F.gt
 have J:=looks_findIn (M:=model prog w) X F.ca
 have L:=looks_specialIn (M:=model prog w) X F.sg
 have Z:=looks_takesIn (M:=model prog w) X F.tk
 have U:=PySem.F.attr_ValueError.ga.bind (.ref a)
 simp only [getAttr?,getAttrBy?,getAttrBy]
 refine wpAny_bind (wpAny_mkText (wpAny_bind (wpAny_attempt (wpAny_holding (wpAny_bind (z.at (wpAny_bind (Y.at ?_))))))))
 show wpAny _ _ (getAttrByItsOwn _ _ _ _ _ _) _ _ _
 unfold getAttrByItsOwn
 refine wpAny_bind ?_
 show wpAny _ _ (typeLookup (.ref C) "__getattr__") _ _ _
 refine O.at (wpAny_bind (wpAny_attempt (wpAny_holding ?_)))
 show wpAny _ _ (boundAndCalled _ _ _) _ _ _
 unfold boundAndCalled
 rw [U]
 refine wpAny_bind (wpAny_pure (wpAny_call (codeAny_call_builtin PySem.F.attr_ValueError.ga.plain PySem.F.entry_bexc_ga (exc_ga_check X F hx hc ?_))))
 unfold Builtin.«object.__getattribute__»
 refine wpAny_bind (wpAny_pure (wpAny_bind (wpAny_pure (wpAny_bind (z.at (wpAny_bind ?_))))))
 unfold find
 refine wpAny_bind (J.at (wpAny_bind ?_))
 show wpAny _ _ (specialOf (.builtin "object.__class__") "__get__") _ _ _
 refine L.at (wpAny_bind ?_)
 unfold dataDescriptor?
 refine wpAny_bind (Z.at ?_)
 rw [if_pos rfl]
 refine wpAny_pure (wpAny_bind (wpAny_rule (wpAny_pure ?_)))
 show wpAny _ _ (holding [_] (call (.builtin "getset_descriptor.__get__") [.builtin "object.__class__",.ref a,.ref C]) >>= ret) _ _ _
 refine wpAny_bind (wpAny_holding (wpAny_call (exc_get X F hx hc ?_)))
 exact wpAny_pure (handed_on rfl (wpAny_pure hq))
theorem kitx_exc {D:Addr} (F:ExcC K D) (hdct:hasDictIn K D=true):KitX K (.ref a) (.ref D) (fun h=>∃ o,h.get? a=some o /\ o.cls=.ref D) where
 ty:=fun _ _ _ ⟨_,h1,h2⟩=>ZEU h1 h2
 it:=fun _ _ X _=>by
  obtain ⟨O,J,_⟩:=any_some hdct
  unfold clsIn at J
  split at J
  .rename_i z
   intro Y Z E1 s1 k1 U
   simp only [isType,loadHead]
   exact wpAny_bind (wpAny_loadPart (k1 _ _ (X _ _ z)) (wpAny_pure U))
  .cases J
 ne:=fun h tp dd its n sl X L=>by
  obtain ⟨O,J,_⟩:=any_some hdct
  refine Bool.eq_false_iff.mpr fun q=>?_
  cases Value.ref.inj (beq_iff_eq.mp q)
  unfold clsIn at J
  split at J
  .rename_i z
   have y:=(X _ _ z).symm.trans L
   cases y
  .cases J
 ca:=fun {_ _ _ _ _ s} X ⟨_,h1,h2⟩ k=>by
  obtain ⟨hh,g,d,t,os⟩:=s
  exact exc_class X F h1 h2 k
end
noncomputable def excO (a:Addr) (cls:Value) (dd:Option Addr):HO:=.ext fun h=>∃ o,h.get? a=some o /\ o.cls=cls /\ o.dict=dd /\ ∃ vs,o.data=.fields vs
section
variable {X:Cx}
theorem call_isExc:ZBd X (.builtin "isinstance") (fun xs H Q=>∃ a C c b dd,xs=[.ref a,c] /\ ZDL c=true /\ H a=some (excO a (.ref C) dd) /\ ExcC X.K C /\ PySem.W.hasDictIn X.K C=true /\ PySem.W.kitOne X.K (.ref C) (cval c)=some b /\ Q (.bl b) H):=by
 intro pins s σ H xs us Q I r h
 obtain ⟨a,C,c,b,dd,rfl,hc,ha,F,O,e,q⟩:=h
 obtain ⟨u,w',rfl,Y,L⟩:=ZDV r
 have e2:w'=cval c:=by
  cases c <;> first | (cases hc;done) | exact L
 subst e2
 cases (show u=Value.ref a from Y)
 obtain ⟨⟨o,U,J,_⟩,_,_⟩:=(show ObjOk X.prog X.w H s.heap a (excO a (.ref C) dd) from I.hok a _ ha)
 have z:∃ o,s.heap.get? a=some o /\ o.cls=.ref C:=⟨o,U,J⟩
 exact kia_one (kitx_exc F O) I.kIn z e (fun z=>nomatch z) fun tk=>⟨.bl b,H,I.tok tk,rfl,q⟩
end
open PySem PySem.Spec PySem.W PySem.Calls PyProof.Rows
theorem boot_ValueError:bootBuiltins "ValueError"=some (.type "ValueError"):=by decide +kernel
theorem ZBb {X:Cx} (K:W.Frag) (h:X.K=K:=by rfl):ZBd X (.builtin "isinstance") (fun xs H Q=>∃ a C c b dd,xs=[.ref a,c] /\ ZDL c=true /\ H a=some (excO a (.ref C) dd) /\ ExcC K C /\ PySem.W.hasDictIn K C=true /\ PySem.W.kitOne K (.ref C) (cval c)=some b /\ Q (.bl b) H):=h ▸ call_isExc
section
variable {X:Cx}
end
abbrev bmV:List Value:=[.type "ValueError",.type "Exception",.type "BaseException",.type "object"]
noncomputable def tRaise (E:XK) (C:Addr):TS:=fun _ _ H=>E (.ref C) none H
section
variable {P:Program} {w:World} {K:W.Frag} {mg:Str->Option Value} {base:Heap} {N:List Str} {qual:Str} {scope:Scope} {f:Addr} {cd:Value} {A:Around} {outer:List Env} {s:Shared} {H:Hp} {E:XK}
theorem Fun.okX {x:Str} {st:Stmt} {fd:FuncData} {ps:List Str} {k:Nat} {sp:Sp} (F:Fun K x qual st f fd) (S:FnScope N ps (ZAB st)) (len:∀ vs H Q E,sp vs H Q E->vs.length=ps.length)
  (J:∀ (z:Value) (A:Around) (outer:List Env) (s:Shared) (H:Hp) (vs:List V) (Q:VK) (E:XK),Room k (A.deeper (envOfC qual (ZAB st) s.heap.objs.size f z))->sp vs H Q E ->
   ∃ t,PSs (cxOf (CXE P w) P w K mg base N qual (ZAB st) f z A outer s H E) (ZAM st) t /\ t { nx:=fun _ H'=>Q .non H',rt:=Q } (start N vs) H):FnOk P w K mg base (CXE P w) (k+1) f fd ps sp:=by
 obtain ⟨oc,od,kV,Z,pm,an,z,ct,Y,rfl,lk,O⟩:=F.ex
 exact ZFO lk O S len fun A outer s H vs Q E U L=>J z A outer s H vs Q E U L
end
theorem PS.nox {X:Cx} {st:Stmt} {t:TS} (h:PS X.nox st t):PS X st t:=fun pins s σ H D I hw=>
 wpAny_mono (h pins s σ H D (I.wish _) hw) (fun _ _ q=>q.unwish) fun _ _ z=>False.elim z
noncomputable def PassesS (CX:CXT) (X:Cx) (E:St->XK):Prop:=∀ (pins:List (Addr×Obj)) (σ:St) (H:Hp) (s:Shared) (e:Value) (s':Shared),Inv X pins σ H s->CX X.stack H s (E σ) e s'->X.xe e s'
noncomputable def ZEk (sp:Sp) (dvs:List V) (E:St->XK) (t:TA):TE:=fun σ H Q=>t σ H fun vs H1=>sp (vs++dvs) H1 Q (E σ)
section
variable {X:Cx} {CX:CXT} {k:Nat} {f:Addr} {fd:FuncData} {ps:List Str} {sp:Sp} {dvs:List V} {ds:List Value} {E:St->XK} {x:Str} {p pos:Pos} {e:Expr} {es:List Expr} {t:TA}
theorem run_fnS {pins:List (Addr×Obj)} {σ:St} {H:Hp} {s:Shared} {Q:VK} {E:XK} {us:List Value} {vs:List V} (F:FnOk X.prog X.w X.K X.mg X.base CX k f fd ps sp) (L:Room k X.A) (O:Binds X.K fd ps ds) (U:Vals dvs ds) (hx:∀ e s',CX X.stack H s E e s'->X.xe e s')
  (I:Inv X pins σ H s) (r:Vals vs us) (h:sp (vs++dvs) H Q E):wpAny (model X.prog X.w) X.A (call (.ref f) us) (EP X pins σ Q) X.xe s:=by
 have J:Vals (vs++dvs) (us++ds):=r.append U
 have hl:(us++ds).length=ps.length:=by rw [<- J.length];exact F.len _ _ _ _ h
 refine wpAny_call (codeAny_mono (F.run X.A X.stack s H ⟨us,[]⟩ (us++ds) (vs++dvs) Q E L I.env0 (O s us I.kIn hl) J h) fun r s' z=>?_)
 cases r with
 | error e=>exact hx e s' z
 | ok fl=>
  cases fl with
  | ret u=>exact I.after z
  | next=>exact False.elim z
  | brk=>exact False.elim z
  | cont=>exact False.elim z
theorem pe_fnS (F:Fn X.prog X.w X.K X.mg X.base CX x k ps sp) (U:Room k X.A) (hg:Gl X x) (hx:PassesS CX X E)
  (ha:PA X (e::es) t) (O:(x == ("__debug__":Str))=false:=by decide) (Y:starEach (e::es) X.env=(false,eval e X.env)::starEach es X.env:=by rfl) (J:(backTo pos (starEach es X.env)).any (·.1)=false:=by rfl) :
  PE X (.Call (.Name x p) (e::es) [] pos) (ZEk sp [] E t):=by
 obtain ⟨f,fd,h1,h2,h3,Z⟩:=F.ex
 intro pins s σ H Q I h
 refine wpAny_Call_Name_kw (ZCP I hg Z ?_ O)
 refine PySem.W.callWith_K (h₀:=X.base) I.ok.mod.kin h3 (thn (ha pos pins s σ H _ I h) fun us s1 ⟨vs,H1,L,r,q⟩=>⟨L.kIn,?_⟩) Y J
 exact run_fnS h1 U h2 .nil (fun e s' z=>hx pins σ H1 s1 e s' L z) L r q
end
noncomputable abbrev Cx.tries (X:Cx) (pn:List (Addr×Obj)) (xe:Value->Shared->Prop):Cx:={ X with pn:=pn,xe:=xe }
noncomputable abbrev Cx.handles (X:Cx) (e:Addr):Cx:={ X with A:=X.A.mark (some (.ref e)),calm:=false,xe:=fun _ _=>False }
section
variable {X:Cx} {pins pins':List (Addr×Obj)} {σ:St} {H:Hp} {s:Shared} {xe:Value->Shared->Prop} {e:Addr}
theorem Inv.toTry (I:Inv X pins σ H s):Inv (X.tries (X.pn++pins) xe) [] σ H s :=
 ⟨⟨I.ok.mod,I.ok.kind,I.ok.glob,I.ok.blt,I.ok.above,I.ok.inj,I.ok.has,I.ok.cab,I.ok.hd,I.ok.frames,I.ok.stk,I.ok.exf,I.ok.bs,I.ok.bsz,I.ok.noex,I.ok.exfs,I.ok.funs,I.ok.frf⟩,I.os,I.bare,I.base,I.loc,I.cell,I.free,I.freeC,fun p z=>I.pin p (by simpa using z),I.hok,I.len⟩
theorem Inv.ofTry (I:Inv (X.tries (X.pn++pins) xe) pins' σ H s):Inv X pins σ H s :=
 ⟨⟨I.ok.mod,I.ok.kind,I.ok.glob,I.ok.blt,I.ok.above,I.ok.inj,I.ok.has,I.ok.cab,I.ok.hd,I.ok.frames,I.ok.stk,I.ok.exf,I.ok.bs,I.ok.bsz,I.ok.noex,I.ok.exfs,I.ok.funs,I.ok.frf⟩,I.os,I.bare,I.base,I.loc,I.cell,I.free,I.freeC,fun p z=>I.pin p (yBX _ z),I.hok,I.len⟩
theorem Inv.toH (I:Inv X pins σ H s) (e:Addr):Inv (X.handles e) pins σ H s :=
 ⟨⟨I.ok.mod,I.ok.kind,I.ok.glob,I.ok.blt,I.ok.above,I.ok.inj,I.ok.has,I.ok.cab,(fun z=>nomatch z),I.ok.frames,I.ok.stk,I.ok.exf,I.ok.bs,I.ok.bsz,I.ok.noex,I.ok.exfs,I.ok.funs,I.ok.frf⟩,I.os,I.bare,I.base,I.loc,I.cell,I.free,I.freeC,I.pin,I.hok,I.len⟩
theorem Inv.ofH (I:Inv (X.handles e) pins σ H s) (ok:X.Ok):Inv X pins σ H s:=⟨ok,I.os,I.bare,I.base,I.loc,I.cell,I.free,I.freeC,I.pin,I.hok,I.len⟩
theorem SP.ofTry {D:Ends} {f:Flow} (h:SP (X.tries (X.pn++pins) xe) pins' D f s):SP X pins D f s:=by
 cases f with
 | next=>obtain ⟨z,H',I,q⟩:=h;exact ⟨z,H',I.ofTry,q⟩
 | brk=>obtain ⟨z,H',I,q⟩:=h;exact ⟨z,H',I.ofTry,q⟩
 | cont=>obtain ⟨z,H',I,q⟩:=h;exact ⟨z,H',I.ofTry,q⟩
 | ret u=>obtain ⟨v,z,H',I,r,q⟩:=h;exact ⟨v,z,H',I.ofTry,r,q⟩
theorem Inv.track {o:HO} (I:Inv X pins σ H s) (U:X.s₀.heap.get? e=none) (hL:e≠X.env.locals) (L:∀ x c,X.env.cells.lookup x=some c->c≠e) (hp:∀ p∈X.pn++pins,p.1≠e) (hn:H e=none) (new:ObjOk X.prog X.w (upd H e o) s.heap e o):Inv X pins σ (upd H e o) s:=by
 have k:∀ b u,H b=some u->upd H e o b=some u:=fun b u q=>by rw [ZAG (ZAF q hn)];exact q
 refine ⟨I.ok,I.os,I.bare,⟨I.base.keep,I.base.slot,fun b ob q n hx=>?_,I.base.there,fun b xs q=>k _ _ (I.base.tups b xs q),fun b ob u q=>k _ _ (I.base.frzs b ob u q),fun b ps q=>?_⟩,I.loc,I.cell,?_,fun x c q=>?_,fun p J=>?_,fun b u q=>?_,I.len⟩
 .rw [ZAG (fun z=>by rw [z,U] at q;cases q)]
  exact I.base.free b ob q n hx
 .obtain ⟨m,hm⟩:=I.base.tbls b ps q
  exact ⟨m,k _ _ hm⟩
 .rw [ZAG (Ne.symm hL)];exact I.free
 .rw [ZAG (L x c q)];exact I.freeC x c q
 .obtain ⟨q1,O,q3,Y,Z⟩:=I.pin p J
  exact ⟨q1,by rw [ZAG (hp p J)];exact O,q3,Y,Z⟩
 .by_cases z:b=e
  .subst z
   rw [ZAD] at q
   cases q
   exact new
  .rw [ZAG z] at q
   exact (I.hok b u q).stay (fun _ _ _ y=>y) (fun c y=>k _ _ y) fun c xs y=>k _ _ y
theorem Inv.gone {i t':Nat} {x:Str} {m:Str->Option Value} {v:Option Value} {h':Heap} (I:Inv X pins σ H s) (hN:X.N.Nodup) (hi:X.N[i]?=some x) (hn:s.heap.Ns X.env.locals m) (a2:h'.Ns X.env.locals (fun y=>if y=x then v else m y)) (J:Heap.SameBut X.env.locals s.heap h') :
  Inv X pins (σ.set i none) H { s with heap:=h',toks:=t' }:=by
 obtain ⟨m0,a0,hl⟩:=I.loc
 obtain ⟨oL,_,_,a7,_⟩:=id hn
 have hm:m0=m:=by
  obtain ⟨o1,a5,a8,a1,a3,_,Z⟩:=a0
  obtain ⟨o2,a6,a9,Y,U,_,a4⟩:=hn
  rw [a1] at Y
  cases Y
  rw [a3] at U
  cases U
  funext y
  rw [<- Z y,<- a4 y]
 subst hm
 have nL:∀ b ob,X.s₀.heap.get? b=some ob->b≠X.env.locals:=fun b ob q=>yAE (yAQ (Heap.lt_size q) I.ok.above)
 refine ⟨I.ok,I.os,I.bare,⟨fun b o q n hb hx=>(J.2 b (nL b o q)).trans (I.base.keep b o q n hb hx),fun b o q n hb hx=>?_,I.base.free,fun b o q hx=>?_,I.base.tups,I.base.frzs,I.base.tbls⟩,⟨_,a2,fun j y v' O L q3=>?_⟩,fun y c q=>?_,I.free,I.freeC,fun p hp=>?_,fun b u q=>?_,by simpa using I.len⟩
 .obtain ⟨sl,O⟩:=I.base.slot b o q n hb hx
  exact ⟨sl,(J.2 b (nL b o q)).trans O⟩
 .obtain ⟨o',O⟩:=I.base.there b o q hx
  exact ⟨o',(J.2 b (nL b o q)).trans O⟩
 .by_cases hj:j=i
  .subst hj
   by_cases hlen:j < σ.length
   .rw [List.getElem?_set_self hlen] at L;cases L
   .rw [yBA (by rw [List.length_set];omega)] at L;cases L
  .rw [List.getElem?_set_ne (Ne.symm hj)] at L
   obtain ⟨u',r',q⟩:=hl j y v' O L q3
   refine ⟨u',r',?_⟩
   rcases q with ⟨k,q⟩ | ⟨k,c,q,z⟩
   .have:y≠x:=fun z=>hj (ZDg hN O (z ▸ hi))
    exact .inl ⟨k,by simp [this,q]⟩
   .exact .inr ⟨k,c,q,z.sameBut J (I.cne y c q)⟩
 .obtain ⟨w',z⟩:=I.cell y c q
  exact ⟨w',z.sameBut J (I.cne y c q)⟩
 .obtain ⟨q,n,ne,nf,d⟩:=I.pin p hp
  exact ⟨(J.2 p.1 ne).trans q,n,ne,nf,d⟩
 .refine (I.hok b u q).stay (fun c w' hc z=>(J.2 c ?_).trans z) (fun _ z=>z) fun _ _ z=>z
  rintro rfl
  rcases hc with y | y
  .rw [<- y,I.free] at q;cases q
  .rw [I.free] at y;cases y
end
noncomputable def Ehit (K:W.Frag) (HC:Addr) (i:Nat) (ts:TS) (D:Ends):St->XK:=fun σ cls dd H'=>exmOne K cls (.ref HC)=some true /\ ∀ ea,H' ea=none ->
 ts { nx:=fun σ' H''=>D.nx (σ'.set i none) H'',rt:=D.rt,bk:=fun σ' H''=>D.bk (σ'.set i none) H'',ct:=fun σ' H''=>D.ct (σ'.set i none) H'' } (σ.set i (some (.ref ea))) (upd H' ea (excO ea cls dd))
noncomputable def tTry (K:W.Frag) (HC:Addr) (i:Nat) (tb:(St->XK)->TS) (ts:TS):TS:=fun D σ H=>tb (Ehit K HC i ts D) D σ H
theorem ps_try {X:Cx} {body Z:List Stmt} {a3:Stmt} {x n:Str} {i:Nat} {HC:Addr} {np ag pos:Pos} {tb:(St->XK)->TS} {ts:TS} (ah:X.stack=X.env::X.outer /\ X.env.frame=some X.env.locals) (ap:X.ex=[]) (hg:Gl X x) (hm:X.mg x=some (.ref HC))
  (hN:X.N.Nodup) (hi:X.N[i]?=some n) (hl:X.env.scope.names.lookup n=some .local)
  (hb:∀ (pn:List (Addr×Obj)) (xe:Value->Shared->Prop) (E:St->XK),PassesS (CXE X.prog X.w) (X.tries pn xe) E->PSs (X.tries pn xe) body (tb E)) (hs:∀ e,PSs (X.handles e) (a3::Z) ts) (aq:(x == ("__debug__":Str))=false:=by decide) :
  PS X (.Try body [.ExceptHandler (some (.Name x np)) (some n) (a3::Z) ag] [] [] pos) (tTry X.K HC i tb ts):=by
 intro pins s σ H D I hw
 refine wpAny_Try_except ?_
 refine wpAny_mono (hb (X.pn++pins) _ (Ehit X.K HC i ts D) ?_ [] s σ H D I.toTry hw) (fun f s1 q=>?_) fun e s1 q=>q
 .intro pins' ae H1 s1 e s2 I1 hc
  obtain ⟨ea,cls,dd,H',rfl,os,aa,un,al,⟨B,a0,fl,a2,Y,hB⟩,aj,hE⟩:=hc
  have J:Inv X pins ae H1 s1:=I1.ofTry
  obtain ⟨e1,e2⟩:=ah
  have un:Un (frs X.stack) [] H1 H' s1.heap s2.heap:=un
  have fr:=J.stkFree2 un
  have af:X.A.frames=some (X.env::X.outer):=by rw [<- e1];exact J.ok.frames
  have fl:Heap.FlyingD B (X.env::X.outer) ea cls (a0,dd) s2.heap:=by rw [<- e1];exact fl
  have ff:s2.heap.FunFrames B X.stack:=by rw [e1];exact fl.2.2.1
  have nx:∀ h5,Heap.FlyingD B (X.env::X.outer) ea cls (a0,dd) h5->s2.heap.UpToSlots h5->Inv X pins ae H' { s2 with heap:=h5 }:=fun h5 f5 u5=>J.call' os (un.fly hB f5.1 u5 ff) (al.fly hB f5.1 fr) aa fun b z=>nomatch z
  refine wpAny_looks_onD af e2 fl fun h3 a9 a8=>?_
  refine wpAny_landsD a9 fun h4 a5 a7=>?_
  have I4:=nx h4 a5 (a8.trans a7)
  obtain ⟨ob,ak,ao⟩:=a5.there
  refine wpAny_handleBy_cons (codeAny_handlers_test ?_) (by intro q;cases q)
  refine ZCP (X:=X.handles ea) (I4.toH ea) hg hm ?_ aq
  refine (exm_one I4.kIn (ao ▸ (Looks.ld ak).andThen .now) aj).here ?_
  refine codeAny_handlers_suite_as ?_
  refine PySem.LANDS2_ a5 fun h6 ad an=>?_
  have I6:=nx h6 ad ((a8.trans a7).trans an)
  obtain ⟨ob6,ac,a6,ai⟩:=ad.thereD
  refine store_ok2 I6 hN hi (.inl hl) (show RelV (.ref ea) (.ref ea) from rfl) (fun s7 I7 am=>?_) (.inr hl)
  have nL:ea≠X.env.locals:=fun z=>by
   obtain ⟨m,⟨o,_,_,ho,_⟩,_⟩:=J.loc
   rw [<- z,Y] at ho;cases ho
  have nC:∀ x c,X.env.cells.lookup x=some c->c≠ea:=fun x c q z=>by
   obtain ⟨v,o,ho,_⟩:=J.cell x c q
   rw [z,Y] at ho;cases ho
  have a1:s7.heap.get? ea=some ob6:=by
   obtain ⟨a,sb,z⟩:=am
   refine (sb.2 ea ?_).trans ac
   rcases z with z | z
   .rw [z];exact nL
   .exact Ne.symm (nC _ _ z)
  have I8:=(I7.track (e:=ea) (o:=excO ea cls dd) (by
   cases q:X.s₀.heap.get? ea with
   | none=>rfl
   | some o=>
    obtain ⟨o1,z⟩:=J.base.there ea o q (by rw [ap];exact List.not_mem_nil)
    rw [Y] at z;cases z) nL nC (fun p hp z=>by
   have:=(J.pin p hp).1
   rw [z,Y] at this;cases this) a2 ⟨⟨ob6,a1,a6,ai⟩,⟨ob6,a1⟩,fun g1 g2 ⟨o,z1,z2⟩ k=>⟨o,k o z1,z2⟩⟩).toH ea
  refine wpAny_mono (hs ea pins s7 _ _ _ I8 (hE ea a2)) (fun f s8 q8=>?_) fun _ _ z=>z.elim
  have kd:(X.env.scope.kind == .class || (X.env.scope.kind == .module && X.env.locals != X.env.globals))=false:=by rw [J.ok.kind];rfl
  cases f with
  | next=>
   obtain ⟨a4,H'',L,q⟩:=q8
   have L:=L.ofH J.ok
   obtain ⟨m,hn,_⟩:=L.loc
   exact wpAny_nameGoes_keeps hl hn kd fun h9 v O U=>⟨_,_,L.gone hN hi hn O U,q⟩
  | brk=>
   obtain ⟨a4,H'',L,q⟩:=q8
   have L:=L.ofH J.ok
   obtain ⟨m,hn,_⟩:=L.loc
   exact wpAny_nameGoes_keeps hl hn kd fun h9 v O U=>⟨_,_,L.gone hN hi hn O U,q⟩
  | cont=>
   obtain ⟨a4,H'',L,q⟩:=q8
   have L:=L.ofH J.ok
   obtain ⟨m,hn,_⟩:=L.loc
   exact wpAny_nameGoes_keeps hl hn kd fun h9 v O U=>⟨_,_,L.gone hN hi hn O U,q⟩
  | ret u=>
   obtain ⟨v',a4,H'',L,r,q⟩:=q8
   have L:=L.ofH J.ok
   obtain ⟨m,hn,_⟩:=L.loc
   exact wpAny_nameGoes_keeps hl hn kd fun h9 v O U=>⟨_,_,_,L.gone hN hi hn O U,r,q⟩
 .have q':SP X pins D f s1:=q.ofTry
  cases f with
  | next=>exact wpAny_execs_nil q'
  | brk=>exact q'
  | cont=>exact q'
  | ret u=>exact q'
open PySem PySem.Spec PySem.W PySem.Calls PyProof.Rows Builtin.Getset_descriptor Builtin.ObjectAttr
section
variable {prog:Program} {w:World} {A:Around} {E:Value->Shared->Prop} {K:W.Frag} {a C:Addr} {o:Obj} {h:Heap} {g:Array GenState} {d:Drawn} {t:Nat} {os:OsState}
theorem exc_value {name:Str} {v:Value} {L:Option Obj} {z:Bool} {Q:Value->Shared->Prop} (X:K.In h) (F:ExcC K C) (I:PySem.W.InstAt h a o C L) (hf:findObj K C L name=some (.value v)) (hv:handedIn v=true) (hq:Q v ⟨h,g,d,t+1,os⟩) :
  wpAny (model prog w) A (getAttr (.ref a) name z) Q E ⟨h,g,d,t,os⟩:=by
 have O:=I.type (M:=model prog w)
 have y1:=looks_findIn (M:=model prog w) X F.ga
 have Y:=looks_findIn (M:=model prog w) X F.gt
 have U:=looks_find (M:=model prog w) X I hf
 have Z:=PySem.F.attr_ValueError.ga.bind (.ref a)
 have J:(z && onTheHeap (Value.builtin "BaseException.__getattribute__"))=false:=by cases z <;> rfl
 simp only [getAttr,getAttrBy]
 refine wpAny_bind (wpAny_mkText (wpAny_holding (wpAny_bind (O.at (wpAny_bind (y1.at ?_))))))
 show wpAny _ _ (getAttrByItsOwn _ _ _ _ _ _) _ _ _
 unfold getAttrByItsOwn
 refine wpAny_bind ?_
 show wpAny _ _ (typeLookup (.ref C) "__getattr__") _ _ _
 refine Y.at (wpAny_bind (wpAny_attempt (wpAny_holding ?_)))
 unfold callGetattribute
 rw [J]
 show wpAny _ _ (boundAndCalled _ _ _) _ _ _
 unfold boundAndCalled
 rw [Z]
 refine wpAny_bind (wpAny_pure (wpAny_call (codeAny_call_builtin PySem.F.attr_ValueError.ga.plain PySem.F.entry_bexc_ga (exc_ga_check X F I.at_ I.cls ?_))))
 unfold Builtin.«object.__getattribute__»
 refine wpAny_bind (wpAny_pure (wpAny_bind (wpAny_pure (wpAny_bind (O.at (wpAny_bind (U.at ?_)))))))
 refine wpAny_pure ?_
 show wpAny _ _ (handedOut v) _ _ _
 rw [handedOut_of hv]
 exact wpAny_pure hq
end
open PySem PySem.Spec PySem.W PySem.Calls PyProof.Rows
section
variable {prog:Program} {w:World} {A:Around} {E:Value->Shared->Prop} {h:Heap} {g:Array GenState} {d:Drawn} {t:Nat} {os:OsState}
variable {nm q:Str} {C N:Addr} {bs bm bmB:List Value} {hdct:Bool} {sn:List Str} {sub:List Value} {ab:Bool} {col:Option Bool} {dd:Option Addr} {k0 k1 k2 k3 k5:Option Value} {B Bn newId nid initId inN:String} {bmN:List Value}
theorem type_call_initU (Fn:ExcBaseFacts Bn newId inN bmN) (a0:bmB.contains (.type Bn)=true) (F:ExcBaseFacts B nid initId bmB) (T:OwnTail h bmB bm) {mN:Str->Option Value} {rest:List Value} {fI:Addr} {oI:Obj} {Q:Fin->Shared->Prop}
  (U:h.get? C=some (excClassObj nm q C N bs bm hdct sn sub ab col dd k0 k1 k2 k3 k5 newId)) (hn:h.Ns N mN) (hi:mN "__init__"=some (.ref fI)) (a3:h.get? fI=some oI) (a2:oI.cls=.type "function")
  (hq:∀ h' e,Heap.MadeExcOf h h' e (.ref C) rest->e=h.objs.size+1->wpAny (model prog w) A (call (.ref fI) (.ref e::rest)) (fun r s'=>r=.none /\ Q (.done (.ret (.ref e))) s') E ⟨h',g,d,t,os⟩) (hrest:rest.length <= sizeLine:=by size_fits) :
  wpAny (model prog w) A (Builtin.«type.__call__» ⟨.ref C::rest,[]⟩) Q E ⟨h,g,d,t,os⟩:=by
 repeat (first | with_reducible refine wpAny_loadPart_at U ?_ | with_reducible refine wpAny_madeBy_exc U ?_ | wp_step)
 refine codeAny_call_builtin_code (Code.quiet_builtin _ Fn.quiet) (wpAny_check_new_subU Fn a0 T U ?_)
 refine codeAny_exc_new_subU Fn a0 F T U ?_ hrest
 show wpAny _ _ _ _ _ _
 have Z:∀ b o,h.get? b=some o->((h.push { cls:=.type "tuple",data:=.seq rest.toArray }).push { cls:=.ref C,data:=.fields #[.ref h.objs.size,.none,.none,.none,.bool false,.none] }).get? b=some o:=fun b o e=>Heap.get?_push_of_some _ (Heap.get?_push_of_some _ e)
 have z:=Z _ _ U
 have J:=Z _ _ a3
 have O:=hn.keeps Z
 have L:((h.push { cls:=.type "tuple",data:=.seq rest.toArray }).push
   { cls:=.ref C,data:=.fields #[.ref h.objs.size,.none,.none,.none,.bool false,.none] }).get? (h.objs.size+1)=some
   { cls:=.ref C,data:=.fields #[.ref h.objs.size,.none,.none,.none,.bool false,.none] }:=by heap_get
 have a1:(Value.ref C::bm).contains (.ref C)=true:=by simp
 have Y:=T.keeps Z
 unfold isInstance
 repeat (first | with_reducible refine wpAny_loadPart_at L ?_ | (with_reducible refine wpAny_isSubtype_exc z ?_;rw [a1]) | wp_step)
 show wpAny _ _ (typeLookup (.ref C) _) _ _ _
 refine wpAny_typeLookup_tail z O Y F.mroIs F.init.lookup ?_
 rw [hi]
 refine wpAny_holding (wpAny_bind ?_)
 unfold bindSpecial
 refine wpAny_bind (wpAny_typeOf (T:="function") ⟨_,J,a2⟩ ?_)
 rw [if_pos (by decide)]
 refine wpAny_pure (wpAny_bind (wpAny_mono (hq _ (h.objs.size+1) ⟨Z,Heap.get?_none_of_le (yAY _),h.objs.size,L,Heap.get?_none_of_le (yAA _),?_⟩ rfl) (fun r s' hr=>?_) fun _ _ x=>x))
 .exact Heap.get?_push_of_some _ (Heap.get?_push_at rfl rfl)
 .obtain ⟨rfl,hQ⟩:=hr
  wp_walk
  exact hQ
theorem call_exc_initU (Fn:ExcBaseFacts Bn newId inN bmN) (L:bmB.contains (.type Bn)=true) (F:ExcBaseFacts B nid initId bmB) (T:OwnTail h bmB bm) {U:Str->Option Value} {rest:List Value} {fI:Addr} {Y:Obj} {Q:Value->Shared->Prop}
  (z:h.get? C=some (excClassObj nm q C N bs bm hdct sn sub ab col dd k0 k1 k2 k3 k5 newId)) (hn:h.Ns N U) (hi:U "__init__"=some (.ref fI)) (O:h.get? fI=some Y) (J:Y.cls=.type "function")
  (hq:∀ h' e,Heap.MadeExcOf h h' e (.ref C) rest->e=h.objs.size+1->wpAny (model prog w) (A.under (.builtin "type.__call__" ⟨.ref C::rest,[]⟩)) (call (.ref fI) (.ref e::rest)) (fun r s'=>r=.none /\ Q (.ref e) s') E ⟨h',g,d,t,os⟩) (hrest:rest.length <= sizeLine:=by size_fits) :
  wpAny (model prog w) A (call (.ref C) rest) Q E ⟨h,g,d,t,os⟩:=by
 have f1:=tc_lookup
 have f2:=tc_bind (.ref C)
 have hT:(⟨h,g,d,t,os⟩:Shared).TypeIs (.ref C) "type":=⟨_,z,rfl⟩
 refine wpAny_call (codeAny_of_tree ?_)
 show wpAny _ _ (callAny (.ref C) _) _ _ _
 repeat (any_goals (first | assumption | with_reducible refine wpAny_loadPart_at z ?_ | wp_step))
 refine ⟨rfl,?_⟩
 refine codeAny_call_builtin_at (Code.quiet_builtin _ (by decide +kernel)) entry_typeCall (wpAny_check_type_call_sub z (type_call_initU (hrest:=hrest) Fn L F T z hn hi O J fun h' e hm Z=>?_))
 exact hq h' e hm Z
end
section
variable {M:Model} {A:Around} {E:Value->Shared->Prop} {env:Env}
variable {nm q:Str} {C N:Addr} {bs bm:List Value} {hdct:Bool} {sn:List Str} {sub:List Value} {ab:Bool} {col:Option Bool} {dd:Option Addr} {k0 k1 k2 k3 k5:Option Value} {newId:String}
theorem raiseStmt_madeD {s:Shared} {x:Sem Value} {Q:Flow->Shared->Prop} (z:bm.contains (.type "BaseException")=true) (hh:A.handled=none)
  (h:wpAny M A x (fun v s₁=>∃ e oe vs,v=.ref e /\ s₁.heap.get? C=some (excClassObj nm q C N bs bm hdct sn sub ab col dd k0 k1 k2 k3 k5 newId) /\
   s₁.heap.get? e=some oe /\ oe.cls=.ref C /\ oe.data=.fields vs /\ vs[1]?=some .none /\ E (.ref e) s₁) E s) :
  wpAny M A (raiseStmt env (some x) none) Q E s:=by
 have J:(Value.ref C::bm).contains (.type "BaseException")=true:=by rw [List.contains_cons,z,Bool.or_true]
 unfold raiseStmt
 refine wpAny_bind (wpAny_mono h (fun v s₁ h₁=>?_) fun _ _ x=>x)
 obtain ⟨e,oe,vs,rfl,L,U,hc,O,h1,Z⟩:=h₁
 obtain ⟨oc,od,a0,Y⟩:=oe
 dsimp only at hc O
 subst hc O
 obtain ⟨hp,g,d,tk,os⟩:=s₁
 repeat (first | with_reducible refine wpAny_loadPart_at U ?_ | with_reducible refine wpAny_loadPart_at L ?_ | (with_reducible refine wpAny_isSubtype_exc L ?_;rw [J]) | wp_step)
 rw [h1]
 exact wpAny_pure (by rw [if_neg (by decide)];exact wpAny_pure (wpAny_raiseNew_none hh Z))
end
noncomputable def ZCo (K:W.Frag) (C fI:Addr) (bmB:List Value) (newId:String):Bool:=match K.lookup C with
 | none=>false
 | some o=>match o.data with
  | .cls cd=>o.cls == .type "type" && cd.mro.head? == some (.ref C) && o.slots.size == 6 && o.slots[4]? == some (some (.builtin newId)) && !cd.hasDel && tailIn K bmB cd.mro.tail && nsOkIn K cd.ns && nsIn K cd.ns "__init__" == some (some (.ref fI))
  | _=>false
theorem ns_some_of {K:W.Frag} {h:Heap} {N:Addr} {mg:Str->Option Value} {n:Str} {v:Value} (X:K.In h) (G:h.Ns N mg) (e:W.nsIn K N n=some (some v)):mg n=some v:=by
 obtain ⟨o,es,ep,z,J,_,L⟩:=G
 unfold nsIn at e
 split at e
 .rename_i hl
  rw [X _ _ hl] at z
  cases z
  cases J
  split at e
  .rename_i y he
   rw [<- L]
   unfold nsFind findBy
   rw [<- Array.find?_toList,he]
   exact (Option.some.inj e)
  .split at e <;> cases e
 .cases e
theorem six_of {α:Type} {l:List α} {x:α} (h:l.length=6) (e:l[4]?=some x):∃ k0 k1 k2 k3 k5,l=[k0,k1,k2,k3,x,k5]:=by
 rcases l with _ | ⟨k0,_ | ⟨k1,_ | ⟨k2,_ | ⟨k3,_ | ⟨J,_ | ⟨k5,_ | ⟨z,l⟩⟩⟩⟩⟩⟩⟩
 case cons.cons.cons.cons.cons.cons.nil=>cases e;exact ⟨_,_,_,_,_,rfl⟩
 all_goals simp at h
theorem ZDl {K:W.Frag} {h:Heap} {C fI:Addr} {bmB:List Value} {newId:String} (X:K.In h) (q:ZCo K C fI bmB newId=true):∃ bm N nm J bs hdct sn sub ab col dd k0 k1 k2 k3 k5 Y,
  h.get? C=some (excClassObj nm J C N bs bm hdct sn sub ab col dd k0 k1 k2 k3 k5 newId) /\ h.Ns N Y /\ Y "__init__"=some (.ref fI) /\ OwnTail h bmB bm /\ K.lookup C=some (excClassObj nm J C N bs bm hdct sn sub ab col dd k0 k1 k2 k3 k5 newId):=by
 unfold ZCo at q
 cases ho:K.lookup C with
 | none=>rw [ho] at q;cases q
 | some o=>
  rw [ho] at q
  obtain ⟨oc,dd,dt,⟨sl⟩⟩:=o
  cases dt with
  | cls cd=>
   simp only [Bool.and_eq_true,beq_iff_eq,Bool.not_eq_true'] at q
   obtain ⟨⟨⟨⟨⟨⟨⟨U,L⟩,y2⟩,y7⟩,O⟩,y4⟩,y5⟩,Z⟩:=q
   obtain ⟨nm,bs,z,ns,J,hd,sn,sub,ab,col,a0⟩:=cd
   dsimp only at U L O y4 y5 Z
   subst U O
   obtain ⟨bm,rfl⟩:∃ bm,z=.ref C::bm:=by
    cases z with
    | nil=>cases L
    | cons m bm=>cases L;exact ⟨bm,rfl⟩
   obtain ⟨k0,k1,k2,k3,k5,rfl⟩:∃ k0 k1 k2 k3 k5,sl=[k0,k1,k2,k3,some (.builtin newId),k5]:=six_of (by simpa using y2) (by simpa using y7)
   have G:h.Ns ns (h.nsMap ns):=.of_isNs (isNs_of_in X y5)
   exact ⟨bm,ns,nm,J,bs,hd,sn,sub,ab,col,dd,k0,k1,k2,k3,k5,_,X _ _ ho,G,ns_some_of X G Z,tail_of_in X y4,rfl⟩
  | _=>cases q
open PySem PySem.Spec PySem.W PySem.Calls PyProof.Rows Builtin.Getset_descriptor Builtin.ObjectAttr
noncomputable def excM (a:Addr) (cls:Value) (dd:Option Addr):HO:=.ext fun h=>∃ o,h.get? a=some o /\ o.cls=cls /\ o.dict=dd /\ ∃ vs,o.data=.fields vs /\ vs[1]?=some .none /\ ∃ a0,vs[0]?=some a0
theorem ZEK {P:Program} {w:World} {H:Hp} {h:Heap} {a:Addr} {cls:Value} {dd:Option Addr} {o:Obj} {vs:Array Value} {a0:Value} (e:h.get? a=some o) (J:o.cls=cls) (e2:o.dict=dd) (e3:o.data=.fields vs) (e4:vs[1]?=some .none) (e5:vs[0]?=some a0):ObjOk P w H h a (excM a cls dd) :=
 ⟨⟨o,e,J,e2,vs,e3,e4,a0,e5⟩,⟨o,e⟩,fun h1 h2 ⟨o,L,z⟩ k=>⟨o,k o L,z⟩⟩
theorem ZCb {P:Program} {w:World} {H:Hp} {h:Heap} {a:Addr} {cls:Value} {dd:Option Addr} (x:HOk P w H h) (e:H a=some (excM a cls dd)):∃ o vs a0,h.get? a=some o /\ o.cls=cls /\ o.dict=dd /\ o.data=.fields vs /\ vs[1]?=some .none /\ vs[0]?=some a0 :=
 let ⟨⟨o,e1,e2,e3,vs,e4,e5,a0,e6⟩,_⟩:=x a _ e;⟨o,vs,a0,e1,e2,e3,e4,e5,e6⟩
theorem upd_self {H:Hp} {a:Addr} {o:HO} (h:H a=some o):upd H a o=H:=funext fun b=>by
 by_cases z:b=a
 .rw [z,ZAD,h]
 .rw [ZAG z]
section
variable {X:Cx}
theorem call_verr (fI:Addr):ZBd X (.builtin "ValueError.__init__") (fun xs H Q=>∃ e C dd v,xs=[.ref e,v] /\ H e=some (excM e (.ref C) dd) /\ ZCo X.K C fI bmV "ValueError.__new__"=true /\ Q .non H):=by
 intro pins s σ H xs us Q I r h
 obtain ⟨e,C,dd,v,rfl,Z,hm,q⟩:=h
 obtain ⟨u,w',rfl,r1,r2⟩:=ZDV r
 cases (show u=Value.ref e from r1)
 obtain ⟨o,vs,a0,z1,z2,z3,U,z5,Y⟩:=ZCb I.hok Z
 have F:=PySem.F.excBase_ValueError
 obtain ⟨bm,N',nm,qn,bs,hdct,sn,sub,ab,col,d0,k0,k1,k2,k3,k5,mN,hC,hN,a2,T,a4⟩:=ZDl I.kIn hm
 obtain ⟨z,g,d,t,os⟩:=s
 refine wpAny_call (codeAny_call_builtin F.init.plain F.initEntry (wpAny_check_init_subU F T hC z1 z2 ?_))
 show wpAny _ _ (do Builtin.BaseException.bexcPut (.ref e) 0 (<- newTuple [w']);ret .none) _ _ _
 refine wpAny_bind (wpAny_newTuple ?_ (by rw [sizeLine_eq];simp))
 have L:(z.push { cls:=.type "tuple",data:=.seq [w'].toArray }).get? e=some o:=Heap.get?_push_of_some _ z1
 have hsz:0 < vs.size:=by
  cases hv:vs.size with
  | zero=>rw [Array.getElem?_eq_none (by omega)] at Y;cases Y
  | succ n=>omega
 unfold Builtin.BaseException.bexcPut
 refine wpAny_bind (wpAny_bind (wpAny_field L U Y (wpAny_bind (wpAny_setField L U hsz ?_))))
 have h2:((z.push { cls:=.type "tuple",data:=.seq [w'].toArray }).update e (Obj.mapFields (·.setIfInBounds 0 (.ref z.objs.size)))).get? e=some (o.mapFields (·.setIfInBounds 0 (.ref z.objs.size))) :=
  Heap.get?_update_self _ L (by obtain ⟨oc,od,a3,a1⟩:=o;cases U;rfl)
 have O:∀ tk,EP X pins σ Q .none ⟨(z.push { cls:=.type "tuple",data:=.seq [w'].toArray }).update e (Obj.mapFields (·.setIfInBounds 0 (.ref z.objs.size))),g,d,tk,os⟩:=fun tk=>by
  refine ⟨.non,H,?_,rfl,q⟩
  have J:=I.write (x:=e) (e:=e) (o:=excM e (.ref C) dd) (t':=tk) (h':=(z.push { cls:=.type "tuple",data:=.seq [w'].toArray }).update e (Obj.mapFields (·.setIfInBounds 0 (.ref z.objs.size)))) (by rw [Z];exact True.intro) (.inl rfl)
   (fun b u hb q=>(Heap.get?_update_ne _ _ _ _ hb).trans (Heap.get?_push_of_some _ q)) ⟨_,h2⟩ (ZEK (vs:=vs.setIfInBounds 0 (.ref z.objs.size)) (a0:=.ref z.objs.size) h2 (by rw [Obj.cls_mapFields];exact z2) (by rw [ZBa];exact z3) (Obj.data_mapFields U _) (by rw [Array.getElem?_setIfInBounds_ne (by decide)];exact z5) (by rw [Array.getElem?_setIfInBounds_self_of_lt hsz]))
  rw [upd_self Z] at J
  exact J
 cases a0 with
 | ref b=>exact wpAny_letGo (wpAny_pure (O t))
 | _=>exact wpAny_pure (wpAny_pure (O t))
end
section
variable {X:Cx} {x name:Str} {C:Addr} {np apos pos:Pos} {e:Expr} {es:List Expr} {t:TA} {r:List V->Hp->VK->Prop} {id:String}
theorem pe_clsB {pl:Sem Bool} (hc:ZBd X (.builtin id) r) (hg:Gl X x) (hm:X.mg x=some (.ref C)) (z:specialIn X.K (.ref C) "__getattribute__"=some (some (.builtin "type.__getattribute__"))) (U:readsIn X.K C (.type "type")=true)
  (Z:findCls X.K (.ref C) (.type "type") name=some (.val (.builtin id))) (hid:handedIn (.builtin id)=true) (ha:PA X (e::es) t) (L:(x == ("__debug__":Str))=false:=by decide)
  (Y:starEach (e::es) X.env=(false,eval e X.env)::starEach es X.env:=by rfl) (J:(backTo pos (starEach es X.env)).any (·.1)=false:=by rfl)
  (O:eval (.Call (.Attribute (.Name x np) name apos) (e::es) [] pos) X.env=(do
   let ov <- eval (.Name x np) X.env
   standAt apos.atName
   let (f,first) <- holding [ov] (getMethod ov name pl)
   callWith pos f first (backTo pos (starEach (e::es) X.env)) (backToKw pos (keywordEach [] X.env))):=by rfl):PE X (.Call (.Attribute (.Name x np) name apos) (e::es) [] pos) (tCB r t):=by
 intro pins s σ H Q I h
 refine PySem.W.methodCall_KW (pl:=pl) (ZCP I hg hm ?_ L) O
 refine method_cls I.kIn z (cls_value I.kIn U Z hid ?_)
 exact PyProof.Rows.callWith_builtin1 (thn (ha pos pins _ σ H _ (I.tok _) h) fun us s1 ⟨vs,H1,I1,r1,q1⟩=>hc pins s1 σ H1 vs us Q I1 r1 q1) Y J
end
noncomputable def tFS (te:TE):TE:=fun σ H Q=>te σ H fun x H1=>∃ i:Int,x=.int i /\ i.natAbs.log2 < 1920 /\ ∀ y,Q (.str y) H1
section
variable {X:Cx} {v c1 c2:Expr} {s1 s2:Str} {te:TE} {p pos:Pos}
theorem pe_fs2 (h1:PE X c1 (tC (.str s1))) (hv:PE X v te) (h2:PE X c2 (tC (.str s2))) (hl:s1.length <= 1000:=by decide) (a0:s2.length <= 1000:=by decide):PE X (.JoinedStr [c1,.FormattedValue v (-1) none p,c2] pos) (tFS te):=by
 intro pins s σ H Q I h
 refine JoinedStr_many (joinParts_cons (thn (h1 pins s σ H (fun x H1=>x=.str s1 /\ H1=H) I ⟨rfl,rfl⟩) fun u U z=>?_))
 obtain ⟨y,H1,I1,J,L,e2⟩:=z
 subst L e2
 obtain ⟨tk,rfl⟩:=(show ∃ t,u=Value.str s1 t from J)
 refine ⟨by rw [strLen_append,sizeLine_eq];show 0+s1.length <= _;omega,joinParts_cons (FormattedValue_plain (thn (hv pins U σ H1 _ I1 h) fun u2 st2 z=>?_))⟩
 obtain ⟨y,H2,Z,J,i,L,hi,q⟩:=z
 subst L
 obtain ⟨a1,rfl⟩:=(show ∃ t,u2=Value.int i t from J)
 refine formatField_int_small hi ?_
 have hz:=int_text_length_le (k:=1920) (by decide) hi
 refine ⟨by rw [strLen_append,strLen_append,PySem.ofString_length,sizeLine_eq];show 0+s1.length+_ <= _;omega,?_⟩
 refine joinParts_cons (thn (h2 pins _ σ H2 (fun x H1=>x=.str s2 /\ H1=H2) (Z.tok _) ⟨rfl,rfl⟩) fun u st3 z=>?_)
 obtain ⟨y,H3,I3,J,L,e2⟩:=z
 subst L e2
 obtain ⟨Y,rfl⟩:=(show ∃ t,u=Value.str s2 t from J)
 have O:(Str.empty++s1++Str.ofString (toString i)++s2).length <= sizeLine:=by rw [strLen_append,strLen_append,strLen_append,PySem.ofString_length,sizeLine_eq];show 0+s1.length+_+_ <= _;omega
 exact ⟨O,joinParts_nil ⟨.str _,_,I3.tok _,⟨_,rfl⟩,q _⟩ O⟩
end
noncomputable def ZCs:List Value->Bool
 | .ref c::r=>ZCs r
 | l=>l == bmV
theorem over_pass (self:Value):∀ {l:List Value},ZCs l=true->refuseLoop self "__setattr__" l=pure ()
 | .ref c::r,e=>by rw [refuseLoop_ref];exact over_pass self e
 | [],e=>by cases (beq_iff_eq.mp (show ([] == bmV)=true from e))
 | .type n::r,e=>by rw [show (Value.type n::r)=bmV from beq_iff_eq.mp e];exact PySem.F.store_ValueError.passes self
 | .none::r,e=>by cases (beq_iff_eq.mp (show (Value.none::r == bmV)=true from e))
 | .bool b::r,e=>by cases (beq_iff_eq.mp (show (Value.bool b::r == bmV)=true from e))
 | .int i t::r,e=>by cases (beq_iff_eq.mp (show (Value.int i t::r == bmV)=true from e))
 | .float b t::r,e=>by cases (beq_iff_eq.mp (show (Value.float b t::r == bmV)=true from e))
 | .str x t::r,e=>by cases (beq_iff_eq.mp (show (Value.str x t::r == bmV)=true from e))
 | .bytes x t::r,e=>by cases (beq_iff_eq.mp (show (Value.bytes x t::r == bmV)=true from e))
 | .ellipsis::r,e=>by cases (beq_iff_eq.mp (show (Value.ellipsis::r == bmV)=true from e))
 | .notImplemented::r,e=>by cases (beq_iff_eq.mp (show (Value.notImplemented::r == bmV)=true from e))
 | .builtin n::r,e=>by cases (beq_iff_eq.mp (show (Value.builtin n::r == bmV)=true from e))
theorem ZDf:∀ {l:List Value},ZCs l=true->l.contains (.type "object")=true /\ l.isEmpty=false
 | .ref c::r,e=>⟨by rw [List.contains_cons,(ZDf (l:=r) e).1,Bool.or_true],rfl⟩
 | [],e=>by cases (beq_iff_eq.mp (show ([] == bmV)=true from e))
 | .type n::r,e=>by rw [show (Value.type n::r)=bmV from beq_iff_eq.mp e];exact ⟨by decide,rfl⟩
 | .none::r,e=>by cases (beq_iff_eq.mp (show (Value.none::r == bmV)=true from e))
 | .bool b::r,e=>by cases (beq_iff_eq.mp (show (Value.bool b::r == bmV)=true from e))
 | .int i t::r,e=>by cases (beq_iff_eq.mp (show (Value.int i t::r == bmV)=true from e))
 | .float b t::r,e=>by cases (beq_iff_eq.mp (show (Value.float b t::r == bmV)=true from e))
 | .str x t::r,e=>by cases (beq_iff_eq.mp (show (Value.str x t::r == bmV)=true from e))
 | .bytes x t::r,e=>by cases (beq_iff_eq.mp (show (Value.bytes x t::r == bmV)=true from e))
 | .ellipsis::r,e=>by cases (beq_iff_eq.mp (show (Value.ellipsis::r == bmV)=true from e))
 | .notImplemented::r,e=>by cases (beq_iff_eq.mp (show (Value.notImplemented::r == bmV)=true from e))
 | .builtin n::r,e=>by cases (beq_iff_eq.mp (show (Value.builtin n::r == bmV)=true from e))
noncomputable def ZEJ (K:Frag) (C:Addr):Bool:=(clsIn K C).any fun cd=>ZCs cd.mro
section
variable {prog:Program} {w:World} {A:Around} {R:Result->Shared->Prop} {s:Shared} {K:Frag} {x C:Addr}
theorem osa_openX {ox:Obj} {Z:Option Obj} {name:Str} {tk:Tok} {v:Value} {r:Option Value} (X:K.In s.heap) (I:InstAt s.heap x ox C Z) (hp:ZEJ K C=true) (Y:takerIn K C name=some r)
  (h:∀ b,wpAny (model prog w) A.in1 (match r with | some a=>setByDescriptor a (.ref x) v | none=>storeInOwnDict (.ref x) (.ref C) (.str name tk) name v b)
   (fun L s'=>match L with | Fin.done f=>R (.ok f) s' | Fin.again c'=>c'.quiet=true /\ codeAny (model prog w) A c' R s') (fun e s'=>R (.error e) s') s) :
  codeAny (model prog w) A (.call (.builtin "object.__setattr__") ⟨[.ref x,.str name tk,v],[]⟩) R s:=by
 have J:=PySem.F.store_object
 obtain ⟨cd,hc,O⟩:=any_some hp
 have ne:cd.mro.isEmpty=false:=(ZDf O).2
 have sub:Looks (model prog w) s.heap (isInstance (.ref x) (.type "object")) true:=I.type.andThen (looks_mroIn X (by unfold mroIn;rw [hc,Option.bind_some,if_neg (by rw [ne];decide),(ZDf O).1]))
 refine codeAny_call_builtin J.slot.plain J.entry (@check_slot (model prog w) _ _ s "object.__setattr__" "object" "__setattr__" (.ref x) [.str name tk,v] [] _ J.kind J.split sub (J.args (.ref x) (.str name tk) v) ?_)
 obtain ⟨z,ha,U⟩:=Option.bind_eq_some_iff.mp Y
 have hm:Looks (model prog w) s.heap (mroOf (.ref C)) cd.mro:=(looks_clsIn X hc).andThen .now
 have L3:Looks (model prog w) s.heap (storeTaker? z) r:=by
  cases z with
  | none=>cases U;exact .now
  | some a=>
   obtain ⟨b,hb,rfl⟩:=yBO.mp U
   refine (looks_takesIn X hb).andThen ?_
   cases b <;> exact .now
 rw [osa_eq,refuse_eq]
 refine wpAny_bind (wpAny_bind (I.type.here (wpAny_bind (hm.here ?_))))
 rw [over_pass _ O]
 refine wpAny_pure (wpAny_bind (I.type.here (wpAny_bind ((looks_findIn X ha).here (wpAny_bind (L3.here ?_))))))
 exact h _
end
noncomputable def xdM (d:Addr) (fs:List (Str×V)):HO:=.ext fun h=>∃ mA,h.Ns1 d mA /\ ∀ f,RelO (fs.lookup f) (mA f)
theorem xdM_ok {P:Program} {w:World} {H:Hp} {h:Heap} {d:Addr} {fs:List (Str×V)} {mA:Str->Option Value} (n:h.Ns1 d mA) (r:∀ f,RelO (fs.lookup f) (mA f)):ObjOk P w H h d (xdM d fs) :=
 ⟨⟨mA,n,r⟩,let ⟨o,_,_,e,_⟩:=n;⟨o,e⟩,fun h1 h2 ⟨mA,⟨o,es,ep,e,c⟩,r⟩ k=>⟨mA,⟨o,es,ep,k _ e,c⟩,r⟩⟩
structure XCls (K:Frag) (C:Addr):Prop where
 hd:hasDictIn K C=true
 ov:ZEJ K C=true
 sa:findIn K (.ref C) "__setattr__"=some (some (.builtin "object.__setattr__"))
section
variable {X:Cx} {pins:List (Addr×Obj)} {σ:St} {H:Hp} {s:Shared} {A:Around} {E:Value->Shared->Prop} {a C:Addr} {f:Str}
theorem excset0 {y:V} {u:Value} {Q:Unit->Shared->Prop} (I:Inv X pins σ H s) (e:H a=some (excM a (.ref C) none)) (c:XCls X.K C) (n:NoAttr X.K C f) (ry:RelV y u)
  (h:∀ d s',H d=none->d≠a->Inv X pins σ (upd (upd H d (xdM d [(f,y)])) a (excM a (.ref C) (some d))) s'->Q () s'):wpAny (model X.prog X.w) A (setAttr (.ref a) f u) Q E s:=by
 obtain ⟨o,vs,a0,O,z2,z3,z4,z5,z6⟩:=ZCb I.hok e
 have J:InstAt s.heap a o C none:=⟨O,z2,by unfold notCls;rw [z4],by rw [z3];trivial⟩
 refine set_plain I.kIn J c.sa (osa_openX (s:={ s with toks:=s.toks+1 }) (r:=none) I.kIn J c.ov n.taker fun b=>?_)
 obtain ⟨cd,hc,a7⟩:=any_some c.hd
 obtain ⟨oc,od,ae,U⟩:=o
 dsimp only at z2 z3 z4
 subst z2 z3 z4
 refine wpAny_bind (wpAny_pure (wpAny_bind (wpAny_bind (wpAny_loadPart (s:={ s with toks:=s.toks+1 }) O (wpAny_bind (Looks.here (s:={ s with toks:=s.toks+1 }) (looks_clsIn I.kIn hc) ?_))))))
 rw [a7]
 have z:a≠s.heap.objs.size:=yAE (Heap.lt_size O)
 have Z:(s.heap.push { cls:=.type "dict",data:=.dict #[] }).get? a=some ⟨.ref C,none,.fields vs,U⟩:=Heap.get?_push_of_some _ O
 rw [if_neg (by decide)]
 show wpAny _ _ (do
  let d <- alloc { cls:=Value.type "dict",data:=Data.dict #[] }
  update a fun o=>{ cls:=o.cls,dict:=some d,data:=o.data,slots:=o.slots }
  dictMade (.ref C) a d) _ _ _
 refine wpAny_bind (wpAny_alloc' ?_)
 refine wpAny_bind (wpAny_update' Z ?_)
 refine wpAny_pure ?_
 have ac:((s.heap.push { cls:=.type "dict",data:=.dict #[] }).update a fun o=>{ cls:=o.cls,dict:=some s.heap.objs.size,data:=o.data,slots:=o.slots }).get? s.heap.objs.size=some { cls:=.type "dict",data:=.dict #[] } :=
  (Heap.get?_update_ne _ _ _ _ (Ne.symm z)).trans (Heap.get?_push_at rfl rfl)
 have a8:((s.heap.push { cls:=.type "dict",data:=.dict #[] }).update a fun o=>{ cls:=o.cls,dict:=some s.heap.objs.size,data:=o.data,slots:=o.slots }).Ns s.heap.objs.size (fun _=>none) :=
  ⟨_,#[],_,ac,rfl,fun e he=>absurd he (by simp),fun _=>rfl⟩
 have a6:((s.heap.push { cls:=.type "dict",data:=.dict #[] }).update a fun o=>{ cls:=o.cls,dict:=some s.heap.objs.size,data:=o.data,slots:=o.slots }).get? a=some ⟨.ref C,some s.heap.objs.size,.fields vs,U⟩:=Heap.get?_update_self _ Z rfl
 show wpAny _ _ (storeInDict s.heap.objs.size (.str f s.toks) f u) _ _ _
 unfold storeInDict newKeyGuard
 refine wpAny_bind (wpAny_pure (wpAny_bind (wpAny_nsSet1 (Heap.Ns1.of_empty a8) fun h' a1 hs=>?_)))
 obtain ⟨oD,ad,af,a2,aa,a3⟩:=a1.count (Within.cons f u Within.nil)
 refine wpAny_bind (wpAny_lookBehind a2 (by rw [aa];exact pastItsLine_dict (yAF a3 (by rw [yAK,yBL,sizeLine_eq];omega))) ?_)
 refine wpAny_pure ?_
 have a9:H s.heap.objs.size=none:=I.hok.fresh (yAA _)
 have Y:∀ b ob,b≠a->s.heap.get? b=some ob->h'.get? b=some ob:=fun b ob L q=>(hs.2 b (yAE (Heap.lt_size q))).trans ((Heap.get?_update_ne _ _ _ _ L).trans (Heap.get?_push_of_some _ q))
 have a4:h'.get? a=some ⟨.ref C,some s.heap.objs.size,.fields vs,U⟩:=(hs.2 a z).trans a6
 have a5:∀ g,RelO ([(f,y)].lookup g) (if g=f then some u else none):=fun g=>by
  by_cases q:g=f
  .rw [if_pos q,q,List.lookup_cons_self];exact ry
  .rw [if_neg q,yBV,show (g == f)=false from by simpa using q];trivial
 have J1:=I.write (x:=a) (e:=a) (o:=excM a (.ref C) (some s.heap.objs.size)) (t':=s.toks+1+1) (h':=(s.heap.update a fun o=>{ cls:=o.cls,dict:=some s.heap.objs.size,data:=o.data,slots:=o.slots })) (by rw [e];exact True.intro) (.inl rfl)
  (fun b ob L q=>(Heap.get?_update_ne _ _ _ _ L).trans q) ⟨_,Heap.get?_update_self _ O rfl⟩ (ZEK (Heap.get?_update_self _ O rfl) rfl rfl rfl z5 z6)
 have hsz:(s.heap.update a fun o=>{ cls:=o.cls,dict:=some s.heap.objs.size,data:=o.data,slots:=o.slots }).objs.size=s.heap.objs.size:=Heap.size_update ..
 have J2:=J1.laid (a:=s.heap.objs.size) (o:=xdM s.heap.objs.size [(f,y)]) (t':=s.toks+1+1) (h':=h') (fun b ob q=>?_) (by rw [show ({ s with heap:=(s.heap.update a fun o=>{ cls:=o.cls,dict:=some s.heap.objs.size,data:=o.data,slots:=o.slots }),toks:=s.toks+1+1 }:Shared).heap.objs.size=_ from hsz];exact yAA _) (xdM_ok a1 a5)
 .have:=h s.heap.objs.size _ a9 (Ne.symm z) (by
   have e2:upd (upd H s.heap.objs.size (xdM s.heap.objs.size [(f,y)])) a (excM a (.ref C) (some s.heap.objs.size))=upd (upd H a (excM a (.ref C) (some s.heap.objs.size))) s.heap.objs.size (xdM s.heap.objs.size [(f,y)]):=funext fun b=>by
    by_cases q1:b=a
    .rw [q1,ZAD,ZAG z,ZAD]
    .rw [ZAG q1]
     by_cases q2:b=s.heap.objs.size
     .rw [q2,ZAD,ZAD]
     .rw [ZAG q2,ZAG q2,ZAG q1]
   rw [e2]
   exact J2)
  exact this
 .by_cases L:b=a
  .rw [L] at q ⊢
   rw [Heap.get?_update_self _ O rfl] at q
   rw [a4,<- q]
  .exact Y b ob L ((Heap.get?_update_ne _ _ _ _ L).symm.trans q)
theorem excset1 {y:V} {u:Value} {Q:Unit->Shared->Prop} {d:Addr} {fs:List (Str×V)} (I:Inv X pins σ H s) (e:H a=some (excM a (.ref C) (some d))) (a5:d≠a) (ed:H d=some (xdM d fs)) (hl:fs.length < 1000) (c:XCls X.K C) (n:NoAttr X.K C f) (ry:RelV y u)
  (h:∀ s',Inv X pins σ (upd H d (xdM d (putF f y fs))) s'->Q () s'):wpAny (model X.prog X.w) A (setAttr (.ref a) f u) Q E s:=by
 obtain ⟨o,vs,a0,z1,Z,z3,z4,z5,z6⟩:=ZCb I.hok e
 obtain ⟨⟨mA,L,r⟩,_,_⟩:=(show ObjOk X.prog X.w H s.heap d (xdM d fs) from I.hok d _ ed)
 obtain ⟨od,a2,a7⟩:=ZC7 L
 have J:InstAt s.heap a o C (some od):=⟨z1,Z,by unfold notCls;rw [z4],by rw [z3];exact a2⟩
 refine set_plain I.kIn J c.sa (osa_openX (s:={ s with toks:=s.toks+1 }) (r:=none) I.kIn J c.ov n.taker fun b=>?_)
 obtain ⟨cd,hc,a1⟩:=any_some c.hd
 obtain ⟨oc,a4,a9,a8⟩:=o
 dsimp only at Z z3 z4
 subst Z z3 z4
 refine wpAny_bind (wpAny_pure (wpAny_bind (wpAny_bind (wpAny_loadPart (s:={ s with toks:=s.toks+1 }) z1 (wpAny_bind (Looks.here (s:={ s with toks:=s.toks+1 }) (looks_clsIn I.kIn hc) ?_))))))
 rw [a1,if_neg (by decide)]
 refine wpAny_pure (a:=some d) (wpAny_bind (wpAny_pure (wpAny_bind ?_)))
 refine wpAny_nsSet1 (s:={ s with toks:=s.toks+1 }) L fun h' O Y=>?_
 have hw:Within mA (fs.map (·.1)):=fun g hg=>by
  have:=r g
  cases hg2:fs.lookup g with
  | none=>rw [hg2] at this;cases hm:mA g with
   | none=>exact absurd hm hg
   | some u=>rw [hm] at this;exact this.elim
  | some v=>exact yBJ.mpr ⟨(g,v),PySem.mem_of_lookup hg2,rfl⟩
 obtain ⟨oD,a6,aa,z,a3,U⟩:=O.count (PySem.Within.cons f u hw)
 refine wpAny_bind (wpAny_lookBehind z (by rw [a3];exact pastItsLine_dict (yAF U (by rw [yAK,yAB,sizeLine_eq];omega))) ?_)
 refine wpAny_pure (h _ ?_)
 exact I.write (x:=d) (e:=d) (o:=xdM d (putF f y fs)) (t':=s.toks+1+1) (h':=h') (by rw [ed];exact True.intro) (.inl rfl) (fun b ob hb q=>(Y.2 b hb).trans q) ⟨oD,z⟩ (xdM_ok O fun g=>by
  rw [ZAd]
  by_cases q:g=f
  .rw [if_pos q,if_pos q];exact ry
  .rw [if_neg q,if_neg q];exact r g)
end
noncomputable def ZFF (K:Frag) (ta tv:TE) (f:Str):TS:=fun D σ H=>tv σ H fun y H1=>ta σ H1 fun x H2=>∃ a C dd,x=.ref a /\ H2 a=some (excM a (.ref C) dd) /\ XCls K C /\ NoAttr K C f /\
 ((dd=none /\ ∀ d,H2 d=none->d≠a->D.nx σ (upd (upd H2 d (xdM d [(f,y)])) a (excM a (.ref C) (some d))))∨∃ d fs,dd=some d /\ d≠a /\ H2 d=some (xdM d fs) /\ fs.length < 1000 /\ D.nx σ (upd H2 d (xdM d (putF f y fs))))
theorem ps_xfld {X:Cx} {o value:Expr} {f:Str} {pos pos':Pos} {ta tv:TE} (ha:PE X o ta) (hv:PE X value tv) (hs:swapsWith value (some (.Attribute o f pos')) pos.line X.env=pure false):PS X (.Assign [.Attribute o f pos'] value pos) (ZFF X.K ta tv f):=by
 intro pins s σ H D I h
 refine plainObj_wpAny_Assign_Attribute (thn (hv pins s σ H _ I h) fun u s1 ⟨y,H1,I1,O,q⟩=>thn (ha pins s1 σ H1 _ I1 q) fun ov s2 Y=>?_) hs
 obtain ⟨x,H2,U,rx,a,C,dd,ex,ea,c,n,J⟩:=Y
 subst ex
 obtain rfl:ov=Value.ref a:=rx
 rcases J with ⟨rfl,J⟩ | ⟨d,fs,rfl,z,ed,hl,J⟩
 .exact excset0 U ea c n O fun d Z hd z L=>⟨σ,_,L,J d hd z⟩
 .exact excset1 U ea z ed hl c n O fun Z L=>⟨σ,_,L,J⟩
structure XMk (K:Frag) (C f:Addr):Prop where
 ii:ZCo K C f bmV "ValueError.__new__"=true
 fn:isFn K (.ref f)=true
 kp:keepIn K (.ref C)=true
section
variable {X:Cx} {CX:CXT} {k:Nat} {f C:Addr} {fd:FuncData} {ps:List Str} {sp:Sp} {x:Str} {p pos:Pos} {e:Expr} {es:List Expr} {t:TA} {E:XK}
theorem run_xmake {pins:List (Addr×Obj)} {σ:St} {H:Hp} {s:Shared} {Q:VK} {R:Value->Shared->Prop} {us:List Value} {vs:List V} (M:XMk X.K C f) (F:FnOk X.prog X.w X.K X.mg X.base CX k f fd ps sp) (hr:Room (k+1) X.A) (hb:Binds X.K fd ps [])
  (hx:ZBh CX X E) (I:Inv X pins σ H s) (r:Vals vs us) (hz:us.length <= sizeLine)
  (h:∀ x,H x=none->sp (.ref x::vs) (upd H x (excM x (.ref C) none)) (fun v H2=>v=.non /\ Q (.ref x) H2) E)
  (a1:∀ a H2 s2,s.heap.get? a=none->H a=none->Un (frs X.stack) [] H H2 s.heap s2.heap->HOk X.prog X.w H2 s2.heap->s2.os=s.os->AllBare s2.gens->Q (.ref a) H2->R (.ref a) s2) :
  wpAny (model X.prog X.w) X.A (call (.ref C) us) R X.xe s:=by
 obtain ⟨bm,N',nm,qn,bs,hdct,sn,sub,ab,col,d0,k0,k1,k2,k3,k5,mN,hC,hN,U,T,a5⟩:=ZDl I.kIn M.ii
 obtain ⟨Y,a2,a4⟩:∃ Y,s.heap.get? f=some Y /\ Y.cls=.type "function":=by
  have ht:=beq_iff_eq.mp M.fn
  unfold typeIn at ht
  obtain ⟨o,h1,h2⟩:=yBO.mp ht
  exact ⟨o,I.kIn _ _ h1,h2⟩
 obtain ⟨h0,g,d,tk,os⟩:=s
 refine call_exc_initU (hrest:=hz) PySem.F.excBase_ValueError PySem.F.excBase_ValueError.hasB PySem.F.excBase_ValueError T hC hN U a2 a4 fun h' a hm ha=>?_
 obtain ⟨t0,a3,_⟩:=hm.there
 have J:h0.objs.size <= a:=by rw [ha];exact yAY _
 have L:H a=none:=I.hok.fresh J
 have Z:=I.laid (a:=a) (o:=excM a (.ref C) none) (h':=h') (t':=tk) hm.keeps J (ZEK a3 rfl rfl rfl rfl rfl)
 have hq:=h a L
 have r2:Vals (V.ref a::vs) (Value.ref a::us):=.cons rfl r
 have hl:(Value.ref a::us).length=ps.length:=by rw [<- r2.length];exact F.len _ _ _ _ hq
 have O:=hb ⟨h',g,d,tk,os⟩ (Value.ref a::us) Z.kIn (by rw [yBD];exact hl)
 rw [yBD] at O
 refine wpAny_call (codeAny_mono (F.run _ X.stack ⟨h',g,d,tk,os⟩ _ ⟨Value.ref a::us,[]⟩ (Value.ref a::us) _ _ E (hr.make C us []) (Z.env0.make C us []) O r2 hq) fun r s' z=>?_)
 cases r with
 | error e=>exact hx pins σ _ _ e s' Z z
 | ok fl=>
  cases fl with
  | ret u=>
   obtain ⟨v,H2,ho,a0,un,hok,rv,ev,q3⟩:=z
   subst ev
   exact ⟨rv,a1 a H2 s' hm.new L (Un.trans (Un.laid hm.keeps J L) un) hok ho a0 q3⟩
  | next=>exact False.elim z
  | brk=>exact False.elim z
  | cont=>exact False.elim z
noncomputable def tXMk (C:Addr) (sp:Sp) (E:XK) (t:TA):TE:=fun σ H Q=>t σ H fun vs H1=>vs.length <= 1000 /\ ∀ x,H1 x=none->sp (.ref x::vs) (upd H1 x (excM x (.ref C) none)) (fun v H2=>v=.non /\ Q (.ref x) H2) E
end
noncomputable def forget (H:Hp) (a:Addr):Hp:=fun b=>if b=a then none else H b
theorem ZAx {H:Hp} {a b:Addr} (h:b≠a):forget H a b=H b:=if_neg h
theorem forget_same {H:Hp} {a:Addr}:forget H a a=none:=if_pos rfl
theorem Un.forget {fs:List Addr} {H H2:Hp} {h h2:Heap} {a:Addr} (u:Un fs [] H H2 h h2) (hn:h.get? a=none) (J:H a=none):Un fs [] H (L2.forget H2 a) h h2 where
 keep:=u.keep
 slot:=u.slot
 free:=fun b o q n hx=>by
  rw [ZAx (fun z=>by rw [z,hn] at q;cases q)]
  exact u.free b o q n hx
 there:=u.there
 tups:=fun b xs q=>by rw [ZAx (ZAF q J)];exact u.tups b xs q
 frzs:=fun b o xs q=>by rw [ZAx (ZAF q J)];exact u.frzs b o xs q
 tbls:=fun b ps q=>by
  obtain ⟨m,hm⟩:=u.tbls b ps q
  exact ⟨m,by rw [ZAx (ZAF q J)];exact hm⟩
theorem HOk.forget {P:Program} {w:World} {H:Hp} {h:Heap} {a:Addr} {φ:Heap->Prop} (x:HOk P w H h) (ha:H a=some (.ext φ)):HOk P w (L2.forget H a) h:=fun b o q=>by
 by_cases z:b=a
 .rw [z,forget_same] at q;cases q
 .rw [ZAx z] at q
  refine (x b o q).stay (fun _ _ _ y=>y) (fun c y=>?_) fun c xs y=>?_
  .rw [ZAx (fun z=>by rw [z,ha] at y;cases y)];exact y
  .rw [ZAx (fun z=>by rw [z,ha] at y;cases y)];exact y
noncomputable def ZD1 (E:XK) (C:Addr) (sp:Sp) (t:TA):TS:=fun _ σ H=>t σ H fun vs H1=>vs.length <= 1000 /\ ∀ x,H1 x=none->sp (.ref x::vs) (upd H1 x (excM x (.ref C) none)) (fun v H2=>v=.non /\ ∃ dd,H2 x=some (excM x (.ref C) dd) /\ E (.ref C) dd (forget H2 x)) E0
section
variable {P:Program} {w:World} {K:W.Frag} {mg:Str->Option Value} {base:Heap} {N:List Str} {qual:Str} {scope:Scope} {f:Addr} {cd:Value} {A:Around} {outer:List Env} {s:Shared} {H:Hp} {E:XK}
variable {CX:CXT} {k:Nat} {fI C:Addr} {fd:FuncData} {ps:List Str} {sp:Sp} {x:Str} {np cpos pos:Pos} {e:Expr} {es:List Expr} {t:TA}
end
section
variable {X:Cx}
end
section
variable {X:Cx}
end
section
variable {X:Cx}
end
open PySem PySem.Spec PySem.W PySem.Calls PyProof.Rows Builtin.Getset_descriptor Builtin.ObjectAttr
structure XKl (P:Program) (w:World) (K:W.Frag) (mg:Str->Option Value) (base:Heap) (CX:CXT) (x:Str) (C:Addr) (k:Nat) (ps:List Str) (sp:Sp):Prop where
 mgC:mg x=some (.ref C)
 ex:∃ f fd,FnOk P w K mg base CX k f fd ps sp /\ Binds K fd ps [] /\ XMk K C f
structure XBase (K:W.Frag) (C:Addr):Prop where
 gs:specialIn K (.ref C) "__getattribute__"=some (some (.builtin "type.__getattribute__"))
 rd:readsIn K C (.type "type")=true
 fc:findCls K (.ref C) (.type "type") "__init__"=some (.val (.builtin "ValueError.__init__"))
section
variable {X:Cx} {CX:CXT} {k:Nat} {ps:List Str} {sp:Sp} {E:XK} {x m:Str} {C:Addr} {p np pos apos:Pos} {e o:Expr} {es:List Expr} {ta:TE} {t:TA}
theorem call_verrK:ZBd X (.builtin "ValueError.__init__") (fun xs H Q=>∃ e C dd v,xs=[.ref e,v] /\ H e=some (excM e (.ref C) dd) /\ (∃ fI,ZCo X.K C fI bmV "ValueError.__new__"=true) /\ Q .non H):=by
 intro pins s σ H xs us Q I r h
 obtain ⟨e,C,dd,v,h1,h2,⟨fI,h3⟩,q⟩:=h
 exact call_verr fI pins s σ H xs us Q I r ⟨e,C,dd,v,h1,h2,h3,q⟩
theorem pe_clsV {pl:Sem Bool} (B:XBase X.K C) (hm:X.mg x=some (.ref C)) (U:Gl X x) (ha:PA X (e::es) t) (z:(x == ("__debug__":Str))=false:=by decide)
  (O:starEach (e::es) X.env=(false,eval e X.env)::starEach es X.env:=by rfl) (J:(backTo pos (starEach es X.env)).any (·.1)=false:=by rfl)
  (L:eval (.Call (.Attribute (.Name x np) "__init__" apos) (e::es) [] pos) X.env=(do
   let ov <- eval (.Name x np) X.env
   standAt apos.atName
   let (f,first) <- holding [ov] (getMethod ov "__init__" pl)
   callWith pos f first (backTo pos (starEach (e::es) X.env)) (backToKw pos (keywordEach [] X.env))):=by rfl) :
  PE X (.Call (.Attribute (.Name x np) "__init__" apos) (e::es) [] pos) (tCB (fun xs H Q=>∃ e C dd v,xs=[.ref e,v] /\ H e=some (excM e (.ref C) dd) /\ (∃ fI,ZCo X.K C fI bmV "ValueError.__new__"=true) /\ Q .non H) t) :=
 pe_clsB (pl:=pl) call_verrK U hm B.gs B.rd B.fc (by decide +kernel) ha z O J L
end
section
variable {P:Program} {w:World} {K:W.Frag} {mg:Str->Option Value} {base:Heap} {N:List Str} {qual:Str} {scope:Scope} {f:Addr} {cd:Value} {A:Around} {outer:List Env} {s:Shared} {H:Hp} {E:XK}
variable {CX:CXT} {k:Nat} {C:Addr} {ps:List Str} {sp:Sp} {x:Str} {np cpos pos:Pos} {e:Expr} {es:List Expr} {t:TA}
end
noncomputable def tMethS (C:Addr) (m:Str) (sp:Sp) (E:St->XK) (ta:TE) (t:TA):TE:=fun σ H Q=>ta σ H fun x H1=>∃ a dx fs,x=.ref a /\ H1 a=some (.ins C dx fs) /\ fs.lookup m=none /\ t σ H1 fun vs H2=>sp (x::vs) H2 Q (E σ)
section
variable {X:Cx} {CX:CXT} {k:Nat} {ps:List Str} {sp:Sp} {E:St->XK} {x m:Str} {C:Addr} {p pos apos:Pos} {e o:Expr} {es:List Expr} {ta:TE} {t:TA}
end
section
variable {P:Program} {w:World} {K:W.Frag} {mg:Str->Option Value} {base:Heap} {N ps:List Str} {qual:Str} {scope:Scope} {f:Addr} {cd:Value} {A:Around} {outer:List Env} {s s1:Shared} {H:Hp} {E:XK} {us:List Value} {vs:List V}
end
section
variable {X:Cx} {k:Nat} {ps:List Str} {sp:Sp} {x:Str} {p pos:Pos} {e:Expr} {es:List Expr} {t:TA}
end
noncomputable def ZEN (K:W.Frag) (ta:TE) (f:Str):TE:=fun σ H Q=>ta σ H fun x H1=>∃ a C d fs v,x=.ref a /\ (H1 a=some (excO a (.ref C) (some d))∨H1 a=some (excM a (.ref C) (some d))) /\ H1 d=some (xdM d fs) /\ ExcC K C /\ PySem.W.hasDictIn K C=true /\ W.findIn K (.ref C) f=some none /\ fs.lookup f=some v /\ Q v H1
theorem pe_xfldM {X:Cx} {e:Expr} {f:Str} {pos:Pos} {ta:TE} (he:PE X e ta) (hb:attributeBase e f X.env (eval e X.env)=eval e X.env):PE X (.Attribute e f pos) (ZEN X.K ta f):=by
 intro pins s σ H Q I h
 refine attr_of hb (thn (he pins s σ H _ I h) fun u s1 zz=>?_)
 obtain ⟨x,H1,U,rx,a,C,d,fs,v,ex,ea,ed,F,hd,hn,l,q⟩:=zz
 subst ex
 obtain rfl:u=Value.ref a:=rx
 obtain ⟨o,Y,z,L,vs,O⟩:∃ o,s1.heap.get? a=some o /\ o.cls=.ref C /\ o.dict=some d /\ ∃ vs,o.data=.fields vs:=by
  rcases ea with ea | ea
  .obtain ⟨⟨o,Y,z,L,vs,O⟩,_,_⟩:=(show ObjOk X.prog X.w H1 s1.heap a (excO a (.ref C) (some d)) from U.hok a _ ea)
   exact ⟨o,Y,z,L,vs,O⟩
  .obtain ⟨o,vs,a0,Y,z,L,O,_⟩:=ZCb U.hok ea
   exact ⟨o,Y,z,L,vs,O⟩
 obtain ⟨⟨mA,Z,r⟩,_,_⟩:=(show ObjOk X.prog X.w H1 s1.heap d (xdM d fs) from U.hok d _ ed)
 obtain ⟨od,a1,hl⟩:=ZC7 Z
 obtain ⟨u',hu,ru⟩:=RelO.some_of (v:=v) (o:=mA f) (by rw [<- l];exact r f)
 have J:PySem.W.InstAt s1.heap a o C (some od):=⟨Y,z,by unfold notCls;rw [O],by rw [L];exact a1⟩
 obtain ⟨hh,g,dd,t,os⟩:=s1
 exact exc_value U.kIn F J (PySem.W.findObj_own hd hn rfl (by rw [hl,hu])) (handed_of ru) ⟨v,H1,U.tok _,ru,q⟩
theorem ZA5 {X:Cx} {e:Expr} {f:Str} {pos:Pos} {ta:TE} (K:W.Frag) (J:PE X e ta) (z:attributeBase e f X.env (eval e X.env)=eval e X.env) (h:X.K=K:=by rfl):PE X (.Attribute e f pos) (ZEN K ta f):=h ▸ pe_xfldM J z
end L2
namespace PySem
section
variable {M:Model} {A:Around} {E:Value->Shared->Prop} {s:Shared}
end
end PySem
namespace L2
open PySem PySem.Spec PySem.W PySem.Calls PyProof.Rows
theorem ObjOk.ex {P:Program} {w:World} {H:Hp} {h:Heap} {a:Addr} {o:HO} (x:ObjOk P w H h a o):∃ ob,h.get? a=some ob:=by
 cases o with
 | lst xs=>obtain ⟨_,_,_,_,e⟩:=x;exact ⟨_,e⟩
 | tup xs=>obtain ⟨_,_,_,ob,e,_⟩:=x;exact ⟨_,e⟩
 | dK kvs=>obtain ⟨_,_,_,_,ob,es,ep,e,_⟩:=x;exact ⟨_,e⟩
 | dT kvs=>obtain ⟨_,_,_,_,ob,es,ep,e,_⟩:=x;exact ⟨_,e⟩
 | set S n=>obtain ⟨ob,es,ep,t,e,_⟩:=x;exact ⟨_,e⟩
 | ins C dx fs=>obtain ⟨_,_,_,e,_⟩:=x;exact ⟨_,e⟩
 | own y=>obtain ⟨_,e⟩:=x;exact ⟨_,e⟩
 | xd fs=>obtain ⟨_,⟨_,_,_,e,_⟩,_⟩:=x;exact ⟨_,e⟩
 | rng lo hi=>obtain ⟨_,_,_,e⟩:=x;exact ⟨_,e⟩
 | frz ob u=>obtain ⟨e,_⟩:=x;exact ⟨_,e⟩
 | tbl ps=>exact ⟨_,(show h.get? a=some _ from x)⟩
 | met f y=>exact ⟨_,(show h.get? a=some _ from x)⟩
 | ext φ=>obtain ⟨_,⟨_,e⟩,_⟩:=x;exact ⟨_,e⟩
noncomputable def XF (X:Cx) (E:XK):Value->Shared->Prop:=fun e s'=>∃ (pins:List (Addr×Obj)) (σ:St) (H1:Hp) (s1:Shared) (ea:Addr) (cls:Value) (dd:Option Addr) (H':Hp) (B:Heap) (a0:Value) (fl:Value),
 e=.ref ea /\ Inv X pins σ H1 s1 /\ s'.os=s1.os /\ AllBare s'.gens /\ Un (frs X.stack) [] H1 H' s1.heap s'.heap /\ HOk X.prog X.w H' s'.heap /\ H' ea=none /\ s1.heap.get? ea=none /\
 (fl=.none∨fl=rawInt X.env.locals) /\ B.StaysIn s'.heap /\ B.get? ea=none /\ s'.heap.FunFrames B X.stack /\ s'.heap.TracedAtD B ea cls (a0,dd) fl /\
 (∀ b o,s'.heap.get? b=some o->b∉frs X.stack->(H' b≠none∨∃ o0,s1.heap.get? b=some o0)->B.get? b=some o) /\ E cls dd H'
section
variable {X:Cx} {E:XK}
theorem XF.next {pins:List (Addr×Obj)} {σ:St} {H1 H':Hp} {s1 s':Shared} {h2:Heap} {ea:Addr} {cls:Value} {dd:Option Addr} {B:Heap} {a0 fl:Value} (I:Inv X pins σ H1 s1) (os:s'.os=s1.os) (J:AllBare s'.gens) (un:Un (frs X.stack) [] H1 H' s1.heap s'.heap) (Y:HOk X.prog X.w H' s'.heap) (U:H' ea=none) (O:s1.heap.get? ea=none)
  (ff:s'.heap.FunFrames B X.stack) (Z:∀ b o,s'.heap.get? b=some o->b∉frs X.stack->(H' b≠none∨∃ o0,s1.heap.get? b=some o0)->B.get? b=some o) (hE:E cls dd H') (a1:fl=.none∨fl=rawInt X.env.locals)
  (up:s'.heap.UpToSlots h2) (k1:B.StaysIn h2) (k2:B.get? ea=none) (k3:h2.FunFrames B X.stack) (k4:h2.TracedAtD B ea cls (a0,dd) fl):XF X E (.ref ea) { s' with heap:=h2 }:=by
 refine ⟨pins,σ,H1,s1,ea,cls,dd,H',B,a0,fl,rfl,I,os,J,un.fly Z k1 up ff,Y.fly Z k1 (I.stkFree2 un),U,O,a1,k1,k2,k3,k4,fun b o ho nb L=>?_,hE⟩
 have:∃ o1,s'.heap.get? b=some o1:=by
  rcases L with y | ⟨o0,y⟩
  .obtain ⟨u,hu⟩:=Option.ne_none_iff_exists'.mp y
   exact (Y b u hu).ex
  .exact un.there b o0 y (fun z=>nomatch z)
 obtain ⟨o1,h1⟩:=this
 have h3:=Z b o1 h1 nb L
 have h4:=k1 b o1 h3
 rw [ho] at h4
 cases h4
 exact h3
theorem passO (z:X.stack=X.env::X.outer /\ X.env.frame=some X.env.locals):PassesOwn (model X.prog X.w) X.A X.env (XF X E):=by
 intro e s' hx
 obtain ⟨pins,σ,H1,s1,ea,cls,dd,H',B,a0,fl,rfl,I,os,J,un,a3,O,L,a1,f1,f2,f3,Z,hB,hE⟩:=hx
 have af:X.A.frames=some (X.env::X.outer):=by rw [<- z.1];exact I.ok.frames
 have back:∀ h2,s'.heap.UpToSlots h2->B.StaysIn h2->h2.FunFrames B X.stack->h2.TracedAtD B ea cls (a0,dd) (rawInt X.env.locals)->cameBackBy (model X.prog X.w) X.A X.env (XF X E) (.ref ea) { s' with heap:=h2 }:=fun h2 up k1 k3 U=>by
  obtain ⟨⟨oe,vs,T,oT,ts,he,a4,hd,h1,a6,a5,hT,a7,h3⟩,_⟩:=id U
  show wpAny _ _ (do
   if (<- field (.ref ea) 1) == .none then unsupported "frame.own-activation:exception-without-traceback"
   setFlight (.ref ea) X.env.frame) _ _ _
  refine wpAny_bind (wpAny_field he hd h1 ?_)
  rw [if_neg (show ¬ ((Value.ref T == Value.none)=true) from by simp),z.2]
  refine wpAny_setFlight_someD k1 k3 U fun hh m1 m2 m3 m4=>?_
  have a2:s'.heap.UpToSlots hh:=up.trans fun b o Y hn=>⟨o.slots,m4 b o Y hn⟩
  have:=XF.next (s':=s') (h2:=hh) I os J un a3 O L f3 hB hE (.inr rfl) a2 m1 f2 m2 m3
  exact this
 rcases a1 with rfl | rfl
 .have ff:Heap.FlyingD B (X.env::X.outer) ea cls (a0,dd) s'.heap:=⟨f1,f2,by rw [<- z.1];exact f3,Z⟩
  refine wpAny_looks_onD af z.2 ff fun h2 hH up=>?_
  obtain ⟨k1,_,k3,U⟩:=hH
  exact back h2 up k1 (by rw [z.1];exact k3) U
 .refine wpAny_noteFrame_againD z.2 Z ?_
  exact back s'.heap (fun b o Y hn=>⟨o.slots,Y⟩) f1 f3 Z
end
section
variable {P:Program} {w:World} {K:W.Frag} {mg:Str->Option Value} {base:Heap} {N:List Str} {qual:Str} {scope:Scope} {f:Addr} {cd:Value} {A:Around} {outer:List Env} {s:Shared} {H:Hp} {E:XK}
theorem XF.xe {e:Value} {s':Shared} (hx:XF (cxOf (CXE P w) P w K mg base N qual scope f cd A outer s H E) E e s'):(cxOf (CXE P w) P w K mg base N qual scope f cd A outer s H E).xe e s':=by
 obtain ⟨pins,σ,H1,s1,ea,cls,dd,H',B,a0,fl,rfl,I,os,z,un,Y,O,J,U,f1,f2,Z,f4,hB,hE⟩:=hx
 rcases U with rfl | rfl
 .exact wpAny_leaves_onD (base:=B) I.ok.frames rfl ⟨f1,f2,Z,f4⟩ fun h' fl' up=>ZE0 I un Y hB Z up fl' O J os z hE
 .show wpAny _ _ (leaving _ _) _ _ _
  unfold leaving
  refine wpAny_bind (wpAny_noteFrame_againD rfl f4 ?_)
  refine wpAny_landsD (L:=(cxOf (CXE P w) P w K mg base N qual scope f cd A outer s H E).env.locals) ⟨f1,f2,Z,f4⟩ fun h' U up=>?_
  obtain ⟨k1,k2,⟨_,_,k3⟩,k4⟩:=U
  exact ZE0 I un Y hB Z up ⟨k1,k2,k3,k4⟩ O J os z hE
end
noncomputable def Ehit0 (K:W.Frag) (HC:Addr) (ts:TS) (D:Ends):St->XK:=fun σ cls dd H'=>exmOne K cls (.ref HC)=some true /\ ts D σ H'
noncomputable def tTry0 (K:W.Frag) (HC:Addr) (tb:(St->XK)->TS) (ts:TS):TS:=fun D σ H=>tb (Ehit0 K HC ts D) D σ H
section
variable {X:Cx} {CX:CXT} {k:Nat} {ps:List Str} {sp:Sp} {E:St->XK} {m:Str} {C:Addr} {pos apos:Pos} {o:Expr} {ta:TE}
end
end L2
namespace PySem
section
variable {M:Model} {A:Around} {E:Value->Shared->Prop} {s:Shared}
end
end PySem
namespace L2
open PySem PySem.Spec PySem.W PySem.Calls PyProof.Rows
noncomputable def XN (X:Cx) (E:XK):Value->Shared->Prop:=fun e s'=>∃ (pins:List (Addr×Obj)) (σ:St) (H1:Hp) (s1:Shared) (ea:Addr) (oe:Obj) (vs:Array Value) (a0:Value) (H':Hp),
 e=.ref ea /\ Inv X pins σ H1 s1 /\ s'.os=s1.os /\ AllBare s'.gens /\ Un (frs X.stack) [] H1 H' s1.heap s'.heap /\ HOk X.prog X.w H' s'.heap /\ H' ea=none /\ s1.heap.get? ea=none /\
 s'.heap.get? ea=some oe /\ oe.data=.fields vs /\ vs[1]?=some .none /\ vs[0]?=some a0 /\ E oe.cls oe.dict H'
noncomputable def XG (X:Cx) (E:XK):Value->Shared->Prop:=fun e s'=>XF X E e s'∨XN X E e s'
section
variable {X:Cx} {E:XK}
theorem passOG (J:X.stack=X.env::X.outer /\ X.env.frame=some X.env.locals):PassesOwn (model X.prog X.w) X.A X.env (XG X E):=by
 intro e s' hx
 have wk:∀ e s',cameBackBy (model X.prog X.w) X.A X.env (XF X E) e s'->cameBackBy (model X.prog X.w) X.A X.env (XG X E) e s':=fun e s' h=>
  wpAny_mono h (fun _ _ z=>.inl z) fun _ _ z=>.inl z
 rcases hx with hx | hx
 .exact wpAny_mono (passO J e s' hx) (fun _ s2 z=>wk _ _ z) fun _ _ z=>wk _ _ z
 obtain ⟨pins,σ,H1,s1,ea,oe,vs,a0,H',rfl,I,os,L,un,Z,U,O,he,hv,h1,h0,hE⟩:=hx
 have af:X.A.frames=some (X.env::X.outer):=by rw [<- J.1];exact I.ok.frames
 have I2:=I.call' (s':=s') os un Z L fun b z=>nomatch z
 have a5:∀ env∈X.stack,∀ b,env.frame=some b->b∈ea::frs X.stack:=fun env he b Y=>yAL _ (List.mem_filterMap.mpr ⟨env,he,Y⟩)
 have eh:∀ b∈ea::frs X.stack,(PySem.W.hideAll s'.heap (ea::frs X.stack)).get? b=none:=fun b Y=>PySem.W.hideAll_none _ Y
 have ff:=PySem.W.funFrames_hide I2.stack a5
 have hB:∀ b o,s'.heap.get? b=some o->b∉frs X.stack->(H' b≠none∨∃ o0,s1.heap.get? b=some o0)->(PySem.W.hideAll s'.heap (ea::frs X.stack)).get? b=some o:=fun b o q nb a3=>PySem.W.hideAll_get _ q fun z=>by
  rcases yAG.mp z with z | z
  .subst z
   rcases a3 with y | ⟨o0,y⟩
   .exact y U
   .rw [O] at y;cases y
  .exact nb z
 refine wpAny_looks_firstD (a0:=(a0,oe.dict)) (base:=PySem.W.hideAll s'.heap (ea::frs X.stack)) af (by rw [<- J.1];exact ff) J.2 he (fun b o q=>PySem.W.of_hideAll _ q) (eh ea yAJ) hv h1 ⟨h0,rfl⟩ fun h2 hH up=>?_
 obtain ⟨k1,k2,k3,k4⟩:=hH
 refine wk _ _ ?_
 obtain ⟨⟨ac,aa,T,oT,ts,a6,a2,a1,a4,ad,a9,hT,ae,h3⟩,_⟩:=id k4
 show wpAny _ _ (do
  if (<- field (.ref ea) 1) == .none then unsupported "frame.own-activation:exception-without-traceback"
  setFlight (.ref ea) X.env.frame) _ _ _
 refine wpAny_bind (wpAny_field a6 a1 a4 ?_)
 rw [if_neg (show ¬ ((Value.ref T == Value.none)=true) from by simp),J.2]
 have a7:h2.FunFrames (PySem.W.hideAll s'.heap (ea::frs X.stack)) X.stack:=by
  have z:=k3
  rw [<- J.1] at z
  exact z
 refine wpAny_setFlight_someD k1 a7 k4 fun hh m1 m2 m3 m4=>?_
 have a8:s'.heap.UpToSlots hh:=up.trans fun b o Y hn=>⟨o.slots,m4 b o Y hn⟩
 exact XF.next (s':=s') (h2:=hh) I os L un Z U O ff hB hE (.inr rfl) a8 m1 k2 m2 m3
end
section
variable {P:Program} {w:World} {K:W.Frag} {mg:Str->Option Value} {base:Heap} {N:List Str} {qual:Str} {scope:Scope} {f:Addr} {cd:Value} {A:Around} {outer:List Env} {s:Shared} {H:Hp} {E:XK}
theorem XG.xe {e:Value} {s':Shared} (hx:XG (cxOf (CXE P w) P w K mg base N qual scope f cd A outer s H E) E e s'):(cxOf (CXE P w) P w K mg base N qual scope f cd A outer s H E).xe e s':=by
 rcases hx with hx | hx
 .exact hx.xe
 obtain ⟨pins,σ,H1,s1,ea,oe,vs,a0,H',rfl,I,os,z,un,O,L,J,U,hv,h1,Y,Z⟩:=hx
 exact raisedD I un O os z J L U rfl rfl hv h1 Y Z
theorem PS.inG {st:Stmt} {t:TS} (h:PS ((cxOf (CXE P w) P w K mg base N qual scope f cd A outer s H E).wish (XG (cxOf (CXE P w) P w K mg base N qual scope f cd A outer s H E) E)) st t):PS (cxOf (CXE P w) P w K mg base N qual scope f cd A outer s H E) st t:=fun pins s1 σ H1 D I hw=>
 wpAny_mono (h pins s1 σ H1 D (I.wish _) hw) (fun _ _ q=>q.unwish) fun _ _ z=>z.xe
end
section
variable {X:Cx} {E:XK} {CX:CXT} {k:Nat} {C:Addr} {ps:List Str} {sp:Sp} {x:Str} {np cpos pos:Pos} {e:Expr} {es:List Expr} {t:TA}
theorem ps_raiseG (F:XKl X.prog X.w X.K X.mg X.base CX x C k ps sp) (hr:Room (k+1) X.A) (hc:X.calm=true) (hg:Gl X x) (hx:ZBh CX (X.wish (XG X E)) E0)
  (ha:PA (X.wish (XG X E)) (e::es) t) (a2:(x == ("__debug__":Str))=false:=by decide) (he:starEach (e::es) X.env=(false,eval e X.env)::starEach es X.env:=by rfl) (Z:(backTo cpos (starEach es X.env)).any (·.1)=false:=by rfl) :
  PS (X.wish (XG X E)) (.Raise (some (.Call (.Name x np) (e::es) [] cpos)) none pos) (ZD1 E C sp t):=by
 obtain ⟨fI,fd,F,hb,M⟩:=F.ex
 rename_i F0
 intro pins s1 σ H1 D I h
 obtain ⟨bm,N',nm,qn,bs,hdct,sn,sub,ab,col,d0,k0,k1,k2,k3,k5,mN,hC,hN,a3,T,a1⟩:=ZDl I.kIn M.ii
 rw [arm_exec_Raise]
 simp only [evalOpt,Option.map]
 refine wpAny_bind (wpAny_standAt (raiseStmt_madeD (C:=C) (nm:=nm) (q:=qn) (N:=N') (bs:=bs) (bm:=bm) (hdct:=hdct) (sn:=sn) (sub:=sub) (ab:=ab) (col:=col) (dd:=d0) (k0:=k0) (k1:=k1) (k2:=k2) (k3:=k3) (k5:=k5) (newId:="ValueError.__new__") (T.hasType PySem.F.excBase_ValueError.hasBase) (I.ok.hd hc) ?_))
 refine wpAny_bind (wpAny_Call_Name_kw (ZCP (X:=X.wish (XG X E)) I hg F0.mgC ?_ a2))
 refine PySem.W.callWith_K (h₀:=X.base) I.ok.mod.kin M.kp (thn (ha cpos pins s1 σ H1 _ I h) fun us s2 zz=>?_) he Z
 obtain ⟨vs,H2,Y,r,hl,q⟩:=zz
 refine ⟨Y.kIn,?_⟩
 refine run_xmake (X:=X.wish (XG X E)) (us:=us) (Q:=fun v H3=>match v with | .ref x=>∃ dd,H3 x=some (excM x (.ref C) dd) /\ E (.ref C) dd (forget H3 x) | _=>False) M F hr hb hx Y r (by rw [<- r.length,sizeLine_eq];omega) q fun a H3 s3 hn hH un J ho L q2=>?_
 obtain ⟨dd,U,hE⟩:=q2
 obtain ⟨o,O,a0,z1,z2,z3,z4,z5,z6⟩:=ZCb J U
 have I3:=Y.call' (s':=s3) ho un J L fun b z=>nomatch z
 refine wpAny_bind (wpAny_standAt (wpAny_pure ?_))
 refine ⟨a,o,O,rfl,I3.kIn _ _ a1,z1,z2,z4,z5,?_⟩
 exact .inr ⟨pins,σ,H2,s2,a,o,O,a0,_,rfl,Y.unwish,ho,L,un.forget hn hH,J.forget U,forget_same,hn,z1,z4,z5,z6,by rw [z2,z3];exact hE⟩
end
end L2
namespace Pap
noncomputable def IsP (p:List Nat):Prop:=p.Perm (List.range p.length)
noncomputable def at' (p:List Nat) (i:Nat):Nat:=p.getD i 0
noncomputable def bk (p:List Nat):List Nat:=(List.range p.length).map fun v=>p.idxOf v
theorem at_lt {p:List Nat} {i:Nat} (h:i < p.length):p[i]?=some (at' p i):=by
 unfold at';rw [yCJ,yAH h];rfl
theorem ZEM {p:List Nat} {i:Nat} (h:i < p.length):at' p i=p[i]:=by
 unfold at';rw [yCJ,yAH h];rfl
theorem IsP.lt {p:List Nat} (h:IsP p) {x:Nat} (hx:x∈p):x < p.length:=yBM.mp (h.mem_iff.mp hx)
theorem IsP.mem {p:List Nat} (h:IsP p) {x:Nat} (hx:x < p.length):x∈p:=h.mem_iff.mpr (yBM.mpr hx)
theorem IsP.nd {p:List Nat} (h:IsP p):p.Nodup:=h.nodup_iff.mpr List.nodup_range
theorem IsP.at_mem {p:List Nat} {i:Nat} (h:i < p.length):at' p i∈p:=by rw [ZEM h];exact List.getElem_mem h
theorem IsP.at_lt {p:List Nat} (z:IsP p) {i:Nat} (h:i < p.length):at' p i < p.length:=z.lt (IsP.at_mem h)
theorem of_nd {p:List Nat} (nd:p.Nodup) (h:∀ x,x∈p↔x < p.length):IsP p:=(List.perm_ext_iff_of_nodup nd List.nodup_range).mpr fun a=>(h a).trans yBM.symm
theorem idx_lt {p:List Nat} (h:IsP p) {v:Nat} (z:v < p.length):p.idxOf v < p.length:=List.idxOf_lt_length_iff.mpr (h.mem z)
theorem at_idx {p:List Nat} (h:IsP p) {v:Nat} (z:v < p.length):at' p (p.idxOf v)=v:=by rw [ZEM (idx_lt h z)];exact List.getElem_idxOf _
theorem idx_at {p:List Nat} (h:IsP p) {i:Nat} (hi:i < p.length):p.idxOf (at' p i)=i:=by rw [ZEM hi];exact h.nd.idxOf_getElem i hi
theorem bk_len (p:List Nat):(bk p).length=p.length:=by unfold bk;rw [yAB,yBS]
theorem bk_at {p:List Nat} {v:Nat} (z:v < p.length):at' (bk p) v=p.idxOf v:=by
 unfold bk
 rw [ZEM (by rw [yAB,yBS];exact z),List.getElem_map,List.getElem_range]
theorem ext {p q:List Nat} (hl:p.length=q.length) (h:∀ i,i < p.length->at' p i=at' q i):p=q:=by
 refine yCK fun i=>?_
 by_cases hi:i < p.length
 .rw [Pap.at_lt hi,Pap.at_lt (hl ▸ hi),h i hi]
 .rw [yBA (by omega),yBA (by omega)]
theorem IsP.sorted {p:List Nat} (z:IsP p) {ms:List Int} (h:ms.Perm (p.map fun x:Nat=>(x:Int))) (J:ms.Pairwise (· <= ·)):ms=(List.range p.length).map fun x:Nat=>(x:Int):=by
 refine List.Perm.eq_of_pairwise (le:=(· <= ·)) (fun a b _ _ h1 h2=>Int.le_antisymm h1 h2) J ?_ (h.trans (z.map _))
 rw [List.pairwise_map]
 exact List.Pairwise.imp (fun h=>by omega) List.pairwise_le_range
noncomputable def spots (p:List Nat) (i:Nat):List Nat:=(List.range p.length).map fun v=>if v∈p.take i then p.idxOf v else v
theorem spots_len (p:List Nat) (i:Nat):(spots p i).length=p.length:=by unfold spots;rw [yAB,yBS]
theorem spots_zero (p:List Nat):spots p 0=List.range p.length:=by
 unfold spots
 rw [List.take_zero]
 refine (List.map_congr_left (g:=id) fun x _=>?_).trans (List.map_id _)
 rw [if_neg (by simp)];rfl
theorem spots_end {p:List Nat} (z:IsP p):spots p p.length=bk p:=by
 unfold spots bk
 refine List.map_congr_left fun x hx=>?_
 rw [List.take_length,if_pos (z.mem (yBM.mp hx))]
theorem spots_step {p:List Nat} (L:IsP p) {i:Nat} (hi:i < p.length):(spots p i).set (at' p i) i=spots p (i+1):=by
 refine ext (by rw [List.length_set,spots_len,spots_len]) fun v J=>?_
 rw [List.length_set,spots_len] at J
 have get:∀ j,at' (spots p j) v=if v∈p.take j then p.idxOf v else v:=fun j=>by
  rw [ZEM (by rw [spots_len];exact J)]
  unfold spots
  rw [List.getElem_map,List.getElem_range]
 rw [get,ZEM (by rw [List.length_set,spots_len];exact J),List.getElem_set]
 have tk:p.take (i+1)=p.take i++[at' p i]:=by rw [List.take_succ,Pap.at_lt hi];rfl
 split
 .rename_i e
  rw [tk,if_pos (by rw [<- e];simp),<- e,idx_at L hi]
 .rename_i e
  have h1:=get i
  rw [ZEM (by rw [spots_len];exact J)] at h1
  rw [h1,tk]
  by_cases q:v∈p.take i
  .rw [if_pos q,if_pos (yBX _ q)]
  .rw [if_neg q,if_neg]
   intro z
   rcases yBB.mp z with z | z
   .exact q z
   .exact e (yAP.mp z).symm
end Pap
namespace L2
open PySem
theorem tVar_1 {v:V} {a0:Option V} {σ:St} {H:Hp} {Q:VK}:tVar 1 (a0::some v::σ) H Q=Q v H:=by
 simp only [ZAf,ZAa]
theorem tVar_2 {v:V} {a0 z:Option V} {σ:St} {H:Hp} {Q:VK}:tVar 2 (a0::z::some v::σ) H Q=Q v H:=by
 simp only [ZAf,ZAa]
theorem tVar_3 {v:V} {a0 z J:Option V} {σ:St} {H:Hp} {Q:VK}:tVar 3 (a0::z::J::some v::σ) H Q=Q v H:=by
 simp only [ZAf,ZAa]
theorem tVar_4 {v:V} {a0 z J L:Option V} {σ:St} {H:Hp} {Q:VK}:tVar 4 (a0::z::J::L::some v::σ) H Q=Q v H:=by
 simp only [ZAf,ZAa]
theorem tVar_5 {v:V} {a0 z J L O:Option V} {σ:St} {H:Hp} {Q:VK}:tVar 5 (a0::z::J::L::O::some v::σ) H Q=Q v H:=by
 simp only [ZAf,ZAa]
theorem tVar_6 {v:V} {a0 z J L U O:Option V} {σ:St} {H:Hp} {Q:VK}:tVar 6 (a0::z::J::L::U::O::some v::σ) H Q=Q v H:=by
 simp only [ZAf,ZAa]
theorem tVar_7 {v:V} {a0 J L O Y U z:Option V} {σ:St} {H:Hp} {Q:VK}:tVar 7 (a0::J::L::O::Y::U::z::some v::σ) H Q=Q v H:=by
 simp only [ZAf,ZAa]
theorem tVar_8 {v:V} {a0 J L U Z Y z O:Option V} {σ:St} {H:Hp} {Q:VK}:tVar 8 (a0::J::L::U::Z::Y::z::O::some v::σ) H Q=Q v H:=by
 simp only [ZAf,ZAa]
theorem tVar_9 {v:V} {a0 L O Y a4 Z z U J:Option V} {σ:St} {H:Hp} {Q:VK}:tVar 9 (a0::L::O::Y::a4::Z::z::U::J::some v::σ) H Q=Q v H:=by
 simp only [ZAf,ZAa]
theorem tVar_10 {v:V} {a0 O U Z a4 a5 z Y L J:Option V} {σ:St} {H:Hp} {Q:VK}:tVar 10 (a0::O::U::Z::a4::a5::z::Y::L::J::some v::σ) H Q=Q v H:=by
 simp only [ZAf,ZAa]
theorem tVar_11 {v:V} {a0 U Y a3 a4 a5 J Z O L z:Option V} {σ:St} {H:Hp} {Q:VK}:tVar 11 (a0::U::Y::a3::a4::a5::J::Z::O::L::z::some v::σ) H Q=Q v H:=by
 simp only [ZAf,ZAa]
theorem tVar_12 {v:V} {a0 Y Z a3 a4 a5 L a7 U O z J:Option V} {σ:St} {H:Hp} {Q:VK}:tVar 12 (a0::Y::Z::a3::a4::a5::L::a7::U::O::z::J::some v::σ) H Q=Q v H:=by
 simp only [ZAf,ZAa]
theorem tVar_13 {v:V} {a0 Z a2 a3 a4 a5 O a7 Y U z L J:Option V} {σ:St} {H:Hp} {Q:VK}:tVar 13 (a0::Z::a2::a3::a4::a5::O::a7::Y::U::z::L::J::some v::σ) H Q=Q v H:=by
 simp only [ZAf,ZAa]
theorem tVar_14 {v:V} {a0 a1 a2 a3 a4 a5 U a7 Z Y z L J O:Option V} {σ:St} {H:Hp} {Q:VK}:tVar 14 (a0::a1::a2::a3::a4::a5::U::a7::Z::Y::z::L::J::O::some v::σ) H Q=Q v H:=by
 simp only [ZAf,ZAa]
theorem tVar_15 {v:V} {a0 a1 a2 Z a4 a5 a6 a7 a8 Y J L z O U:Option V} {σ:St} {H:Hp} {Q:VK}:tVar 15 (a0::a1::a2::Z::a4::a5::a6::a7::a8::Y::J::L::z::O::U::some v::σ) H Q=Q v H:=by
 simp only [ZAf,ZAa]
theorem tVar_16 {v:V} {a0 a1 a2 a3 a4 a5 a6 a7 a8 Z J O z U Y L:Option V} {σ:St} {H:Hp} {Q:VK}:tVar 16 (a0::a1::a2::a3::a4::a5::a6::a7::a8::Z::J::O::z::U::Y::L::some v::σ) H Q=Q v H:=by
 simp only [ZAf,ZAa]
theorem tVar_17 {v:V} {a0 a1 a2 a3 a4 a5 a6 a7 a8 a9 L U J Y Z O z:Option V} {σ:St} {H:Hp} {Q:VK}:tVar 17 (a0::a1::a2::a3::a4::a5::a6::a7::a8::a9::L::U::J::Y::Z::O::z::some v::σ) H Q=Q v H:=by
 simp only [ZAf,ZAa]
theorem tVar_18 {v:V} {a0 a1 a2 a3 a4 a5 a6 a7 a8 a9 O Y L Z aa U z J:Option V} {σ:St} {H:Hp} {Q:VK}:tVar 18 (a0::a1::a2::a3::a4::a5::a6::a7::a8::a9::O::Y::L::Z::aa::U::z::J::some v::σ) H Q=Q v H:=by
 simp only [ZAf,ZAa]
theorem tVar_19 {v:V} {a0 a1 a2 a3 a4 a5 a6 a7 a8 a9 U Z L aa ac Y z J O:Option V} {σ:St} {H:Hp} {Q:VK}:tVar 19 (a0::a1::a2::a3::a4::a5::a6::a7::a8::a9::U::Z::L::aa::ac::Y::z::J::O::some v::σ) H Q=Q v H:=by
 simp only [ZAf,ZAa]
theorem tVar_20 {v:V} {a0 a1 a2 a3 a4 a5 a6 a7 a8 a9 Y aa L ac ad Z z J O U:Option V} {σ:St} {H:Hp} {Q:VK}:tVar 20 (a0::a1::a2::a3::a4::a5::a6::a7::a8::a9::Y::aa::L::ac::ad::Z::z::J::O::U::some v::σ) H Q=Q v H:=by
 simp only [ZAf,ZAa]
theorem tVar_21 {v:V} {a0 a1 a2 a3 a4 a5 a6 a7 a8 a9 Z ac L ad ae aa z J O Y U:Option V} {σ:St} {H:Hp} {Q:VK}:tVar 21 (a0::a1::a2::a3::a4::a5::a6::a7::a8::a9::Z::ac::L::ad::ae::aa::z::J::O::Y::U::some v::σ) H Q=Q v H:=by
 simp only [ZAf,ZAa]
theorem tVar_22 {v:V} {a0 a1 a2 a3 a4 a5 a6 a7 a8 a9 aa ad O ae af ac z J U Z Y L:Option V} {σ:St} {H:Hp} {Q:VK}:tVar 22 (a0::a1::a2::a3::a4::a5::a6::a7::a8::a9::aa::ad::O::ae::af::ac::z::J::U::Z::Y::L::some v::σ) H Q=Q v H:=by
 simp only [ZAf,ZAa]
theorem tVar_23 {v:V} {a0 a1 a2 a3 a4 a5 a6 a7 a8 a9 ac ae U af ag ad z J Y aa Z L O:Option V} {σ:St} {H:Hp} {Q:VK}:tVar 23 (a0::a1::a2::a3::a4::a5::a6::a7::a8::a9::ac::ae::U::af::ag::ad::z::J::Y::aa::Z::L::O::some v::σ) H Q=Q v H:=by
 simp only [ZAf,ZAa]
theorem tVar_24 {v:V} {a0 a1 a2 a3 a4 a5 a6 a7 a8 a9 ac af U ag ah ae z J Y aa Z L O ad:Option V} {σ:St} {H:Hp} {Q:VK}:tVar 24 (a0::a1::a2::a3::a4::a5::a6::a7::a8::a9::ac::af::U::ag::ah::ae::z::J::Y::aa::Z::L::O::ad::some v::σ) H Q=Q v H:=by
 simp only [ZAf,ZAa]
theorem tVar_25 {v:V} {a0 a1 a2 a3 a4 a5 a6 a7 a8 a9 ad ag U ah ai af z J Y ac aa L O ae Z:Option V} {σ:St} {H:Hp} {Q:VK}:tVar 25 (a0::a1::a2::a3::a4::a5::a6::a7::a8::a9::ad::ag::U::ah::ai::af::z::J::Y::ac::aa::L::O::ae::Z::some v::σ) H Q=Q v H:=by
 simp only [ZAf,ZAa]
theorem tVar_26 {v:V} {a0 a1 a2 a3 a4 a5 a6 a7 a8 a9 ad ah U ai aj ag z J Y ac aa L O af Z ae:Option V} {σ:St} {H:Hp} {Q:VK}:tVar 26 (a0::a1::a2::a3::a4::a5::a6::a7::a8::a9::ad::ah::U::ai::aj::ag::z::J::Y::ac::aa::L::O::af::Z::ae::some v::σ) H Q=Q v H:=by
 simp only [ZAf,ZAa]
theorem tVar_27 {v:V} {a0 a1 a2 a3 a4 a5 a6 a7 a8 a9 ae ai U aj ak ah z J Y ad ac L O ag aa af Z:Option V} {σ:St} {H:Hp} {Q:VK}:tVar 27 (a0::a1::a2::a3::a4::a5::a6::a7::a8::a9::ae::ai::U::aj::ak::ah::z::J::Y::ad::ac::L::O::ag::aa::af::Z::some v::σ) H Q=Q v H:=by
 simp only [ZAf,ZAa]
theorem tVar_28 {v:V} {a0 a1 a2 a3 a4 a5 a6 a7 a8 a9 ae aj U ak al ai z J Y ad ac L O ag aa af Z ah:Option V} {σ:St} {H:Hp} {Q:VK}:tVar 28 (a0::a1::a2::a3::a4::a5::a6::a7::a8::a9::ae::aj::U::ak::al::ai::z::J::Y::ad::ac::L::O::ag::aa::af::Z::ah::some v::σ) H Q=Q v H:=by
 simp only [ZAf,ZAa]
theorem tVar_29 {v:V} {a0 a1 a2 a3 a4 a5 a6 a7 a8 a9 af ak Y al am aj z J Z ae ad L U ah ac ag aa ai O:Option V} {σ:St} {H:Hp} {Q:VK}:tVar 29 (a0::a1::a2::a3::a4::a5::a6::a7::a8::a9::af::ak::Y::al::am::aj::z::J::Z::ae::ad::L::U::ah::ac::ag::aa::ai::O::some v::σ) H Q=Q v H:=by
 simp only [ZAf,ZAa]
theorem tVar_30 {v:V} {a0 a1 a2 a3 a4 a5 a6 a7 a8 a9 af al Y am an ak z J Z ae ad L U ai ac ah aa aj O ag:Option V} {σ:St} {H:Hp} {Q:VK}:tVar 30 (a0::a1::a2::a3::a4::a5::a6::a7::a8::a9::af::al::Y::am::an::ak::z::J::Z::ae::ad::L::U::ai::ac::ah::aa::aj::O::ag::some v::σ) H Q=Q v H:=by
 simp only [ZAf,ZAa]
open PySem
noncomputable def Cut (t:TS):TS:=t
theorem ZAq {X:Cx} {rest:List Stmt} {u:TS} (h:PSs X rest u):PSs X rest (Cut u):=h
theorem ZA7 {u:TS} {D:Ends} {σ:St} {H:Hp} (h:u D σ H):Cut u D σ H:=h
theorem us0 {l:List Value} (h:l.length=0):l=[]:=List.length_eq_zero_iff.mp h
theorem us1 {l:List Value} (h:l.length=1):∃ a0,l=[a0]:=by
 cases l with
 | nil=>cases h
 | cons a l=>
  obtain rfl:=us0 (l:=l) (Nat.succ.inj h)
  exact ⟨a,rfl⟩
theorem us2 {l:List Value} (h:l.length=2):∃ a0 z,l=[a0,z]:=by
 cases l with
 | nil=>cases h
 | cons a l=>
  obtain ⟨b0,rfl⟩:=us1 (l:=l) (Nat.succ.inj h)
  exact ⟨a,b0,rfl⟩
theorem us3 {l:List Value} (h:l.length=3):∃ a0 J L,l=[a0,J,L]:=by
 cases l with
 | nil=>cases h
 | cons a l=>
  obtain ⟨b0,z,rfl⟩:=us2 (l:=l) (Nat.succ.inj h)
  exact ⟨a,b0,z,rfl⟩
theorem us4 {l:List Value} (h:l.length=4):∃ a0 J L O,l=[a0,J,L,O]:=by
 cases l with
 | nil=>cases h
 | cons a l=>
  obtain ⟨b0,z,U,rfl⟩:=us3 (l:=l) (Nat.succ.inj h)
  exact ⟨a,b0,z,U,rfl⟩
end L2
namespace Law
open PySem L2
local macro_rules | `(tactic| walk_at "o")=>`(tactic| first | exact Or.inl rfl | exact Or.inr rfl)
set_option hygiene false in
local macro_rules | `(tactic| walk_at "rd")=>`(tactic| ((try dsimp only [cx_K,ZEh,ZEi,ZD3,tDIn,tDGet,ZFG,tChain,tForZ_eq,ZE8,tCompR2_eq,sFldAug_eq,cx_cloK,ZEj,ZCV,tForE_eq,tCompE_eq,ZFC,tAug_eq,ipI_int,gSub,gCons_eq,gNil_eq,tSeq,tIfS,ZE7,tB,tOr,tAnd,tNot,tOp,tUn,tC,ZAa,tTry,ZEk,tRaise,tMethS,ZD1,tXMk,tFS,ZFF,ZEN,tTry0,tForI_eq,tCompZ_eq,tBreak,tPar,tVar_1,tVar_2,tVar_3,tVar_4,tVar_5,tVar_6,tVar_7,tVar_8,tVar_9,tVar_10,tVar_11,tVar_12,tVar_13,tVar_14,tVar_15,tVar_16,tVar_17,tVar_18,tVar_19,tVar_20,tVar_21,tVar_22,tVar_23,tVar_24,tVar_25,tVar_26,tVar_27,tVar_28,tVar_29,tVar_30,rI0_int,rI_int,rU_int,rEq_int,rNe_int,rEq_bl,rNe_bl,rEq_str,rNe_str,ex_bl,ex_int,tAsg,ZEH,tRet,tRetN,ZFD,ZFB,ZEf,ZFE,tOrV,ZFA,tIf,List.set_cons_zero,List.set_cons_succ,ZE4,ZEX,ZBx,tNil,List.cons_append,List.nil_append,yBD,tCB,tFld_eq,sFld_eq,tForL_eq,tForR1_eq,tForR2_eq,tCompL_eq,tCompR1_eq,tYes,tBM,tBM0,tLst,tTup,ZEg,true_and,tSl,ZE9,ZD2,decide_eq_true_eq,Bool.not_eq_true',decide_eq_false_iff_not,L2.start,yAU,List.map_nil,yAK,yBL,Nat.reduceAdd,Nat.reduceSub,yCG,yBU,List.replicate_zero,List.replicate_succ,if_true,if_false,yCB,Bool.true_eq_false,Bool.not_true,Bool.not_false]);(try simp only [cx_K,ZEh,ZEi,ZD3,tDIn,tDGet,ZFG,tChain,tForZ_eq,ZE8,tCompR2_eq,sFldAug_eq,cx_cloK,ZEj,ZCV,tForE_eq,tCompE_eq,ZFC,tAug_eq,ipI_int,gSub,gCons_eq,gNil_eq,tSeq,tIfS,ZE7,tB,tOr,tAnd,tNot,tOp,tUn,tC,ZAa,tTry,ZEk,tRaise,tMethS,ZD1,tXMk,tFS,ZFF,ZEN,tTry0,tForI_eq,tCompZ_eq,tBreak,tPar,tVar_1,tVar_2,tVar_3,tVar_4,tVar_5,tVar_6,tVar_7,tVar_8,tVar_9,tVar_10,tVar_11,tVar_12,tVar_13,tVar_14,tVar_15,tVar_16,tVar_17,tVar_18,tVar_19,tVar_20,tVar_21,tVar_22,tVar_23,tVar_24,tVar_25,tVar_26,tVar_27,tVar_28,tVar_29,tVar_30,rI0_int,rI_int,rU_int,rEq_int,rNe_int,rEq_bl,rNe_bl,rEq_str,rNe_str,ex_bl,ex_int,tAsg,ZEH,tRet,tRetN,ZFD,ZFB,ZEf,ZFE,tOrV,ZFA,tIf,List.set_cons_zero,List.set_cons_succ,ZE4,ZEX,ZBx,tNil,List.cons_append,List.nil_append,yBD,tCB,tFld_eq,sFld_eq,tForL_eq,tForR1_eq,tForR2_eq,tCompL_eq,tCompR1_eq,tYes,tBM,tBM0,tLst,tTup,ZEg,true_and,tSl,ZE9,ZD2,decide_eq_true_eq,Bool.not_eq_true',decide_eq_false_iff_not,L2.start,yAU,List.map_nil,yAK,yBL,Nat.reduceAdd,Nat.reduceSub,yCG,yBU,List.replicate_zero,List.replicate_succ,if_true,if_false,yCB,Bool.true_eq_false,Bool.not_true,Bool.not_false])))
local macro_rules | `(tactic| walk_at "up")=>`(tactic| first | assumption | (refine Same.get (by assumption) ?_;walk_at "up"))
local macro_rules | `(tactic| walk_at "lk")=>`(tactic| ((repeat (first | rw [lkc,if_pos rfl] | rw [lkc,if_neg (by decide +kernel)]));first | done | rfl))
noncomputable def top (i:Nat):Stmt:=PySem.Challenge.pw_sorthall_k38_whole_reach.main.body.getD i (.Pass ⟨0,0,0,0⟩)
noncomputable abbrev ZAt:Stmt:=ZCQ (top 5) 0
noncomputable abbrev ZBi:Stmt:=top 8
noncomputable abbrev ZBW:Stmt:=top 10
noncomputable abbrev ZA0:Stmt:=ZCQ (top 12) 0
noncomputable abbrev ZAz:Stmt:=ZCQ (top 12) 1
noncomputable abbrev ZAu:Stmt:=ZCQ (top 12) 2
noncomputable abbrev ZAk:Stmt:=ZCQ (top 12) 3
noncomputable abbrev ZBT:Stmt:=top 14
noncomputable abbrev ZBB:Stmt:=top 15
noncomputable abbrev ZBU:Stmt:=top 16
noncomputable abbrev ZAs:Stmt:=top 17
noncomputable abbrev ZDP:Stmt:=top 18
noncomputable abbrev ZCD:Stmt:=top 19
noncomputable abbrev ZCj:Stmt:=top 20
noncomputable abbrev ZAg:Stmt:=ZCQ (top 23) 0
noncomputable abbrev ZAY:Stmt:=ZCQ (top 23) 1
noncomputable abbrev ZBk:Stmt:=top 25
noncomputable abbrev ZCB:Stmt:=top 26
noncomputable abbrev ZB9:Stmt:=top 27
noncomputable abbrev ZCC:Stmt:=top 28
noncomputable abbrev ZCA:Stmt:=top 29
noncomputable abbrev ZDO:Stmt:=top 30
noncomputable abbrev ZCi:Stmt:=top 31
noncomputable abbrev ZBn:Stmt:=top 32
noncomputable abbrev ZBV:Stmt:=top 33
noncomputable abbrev ZCk:Stmt:=top 34
noncomputable abbrev ZBj:Stmt:=top 35
noncomputable abbrev ZDN:Stmt:=top 36
noncomputable abbrev ZEZ:Stmt:=top 37
noncomputable abbrev ZEY:Stmt:=top 38
noncomputable abbrev ZB8:Stmt:=top 39
noncomputable abbrev ZDd:Stmt:=top 40
theorem sc_TooFar_init:FnScope ["self","place","others"] ["self","place","others"] (ZAB ZAt):=⟨rfl,rfl,rfl,by decide +kernel,rfl,by decide +kernel,by decide +kernel⟩
theorem sc_spot_of:FnScope ["asker","order","place","low","high","middle"] ["asker","order","place"] (ZAB ZBi):=⟨rfl,rfl,rfl,by decide +kernel,rfl,by decide +kernel,by decide +kernel⟩
theorem sc_by_reach:FnScope ["asker","reach","order","place","start"] ["asker","reach"] (ZAB ZBW):=⟨rfl,rfl,rfl,by decide +kernel,rfl,by decide +kernel,by decide +kernel⟩
theorem sc_Asker_init:FnScope ["self","row","rule","most"] ["self","row","rule","most"] (ZAB ZA0):=⟨rfl,rfl,rfl,by decide +kernel,rfl,by decide +kernel,by decide +kernel⟩
theorem sc_Asker_many:FnScope ["self"] ["self"] (ZAB ZAz):=⟨rfl,rfl,rfl,by decide +kernel,rfl,by decide +kernel,by decide +kernel⟩
theorem sc_Asker_ahead:FnScope ["self","p","q","later","earlier","said"] ["self","p","q"] (ZAB ZAu):=⟨rfl,rfl,rfl,by decide +kernel,rfl,by decide +kernel,by decide +kernel⟩
theorem sc_Asker_answers:FnScope ["self"] ["self"] (ZAB ZAk):=⟨rfl,rfl,rfl,by decide +kernel,rfl,by decide +kernel,by decide +kernel⟩
theorem sc_straight:FnScope ["many"] ["many"] (ZAB ZBT):=⟨rfl,rfl,rfl,by decide +kernel,rfl,by decide +kernel,by decide +kernel⟩
theorem sc_is_number:FnScope ["some"] ["some"] (ZAB ZBB):=⟨rfl,rfl,rfl,by decide +kernel,rfl,by decide +kernel,by decide +kernel⟩
theorem sc_is_paper:FnScope ["some"] ["some"] (ZAB ZBU):=⟨rfl,rfl,rfl,by decide +kernel,rfl,by decide +kernel,by decide +kernel⟩
theorem sc_check_paper:FnScope ["some","many"] ["some","many"] (ZAB ZAs):=⟨rfl,rfl,rfl,by decide +kernel,rfl,by decide +kernel,by decide +kernel⟩
theorem sc_back:FnScope ["paper","spots","spot","place"] ["paper"] (ZAB ZDP):=⟨rfl,rfl,rfl,by decide +kernel,rfl,by decide +kernel,by decide +kernel⟩
theorem sc_agrees:FnScope ["paper","answers","spots"] ["paper","answers"] (ZAB ZCD):=⟨rfl,rfl,rfl,by decide +kernel,rfl,by decide +kernel,by decide +kernel⟩
theorem sc_shows:FnScope ["paper","answers","asked"] ["paper","answers"] (ZAB ZCj):=⟨rfl,rfl,rfl,by decide +kernel,rfl,by decide +kernel,by decide +kernel⟩
theorem sc_AskedRule_init:FnScope ["self","teller"] ["self","teller"] (ZAB ZAg):=⟨rfl,rfl,rfl,by decide +kernel,rfl,by decide +kernel,by decide +kernel⟩
theorem sc_AskedRule_before:FnScope ["self","x","y","teller"] ["self","x","y"] (ZAB ZAY):=⟨rfl,rfl,rfl,by decide +kernel,rfl,by decide +kernel,by decide +kernel⟩
theorem sc_cell_at:FnScope ["_law_script","_law_k"] ["_law_script","_law_k"] (ZAB ZBk):=⟨rfl,rfl,rfl,by decide +kernel,rfl,by decide +kernel,by decide +kernel⟩
theorem sc_digits:FnScope ["_law_script","_law_k","_law_base","_law_spare_ones","_law_found","_law_cell","_law_turn"] ["_law_script","_law_k","_law_base"] (ZAB ZCB):=⟨rfl,rfl,rfl,by decide +kernel,rfl,by decide +kernel,by decide +kernel⟩
theorem sc_stream:FnScope ["_law_cell","_law_many","_law_found","_law_number","_law_k"] ["_law_cell","_law_many"] (ZAB ZB9):=⟨rfl,rfl,rfl,by decide +kernel,rfl,by decide +kernel,by decide +kernel⟩
theorem sc_blocks:FnScope ["_law_keys_here","_law_cell","_law_row","_law_number","_law_part"] ["_law_keys_here","_law_cell"] (ZAB ZCC):=⟨rfl,rfl,rfl,by decide +kernel,rfl,by decide +kernel,by decide +kernel⟩
theorem sc_nearly:FnScope ["_law_keys_here","_law_cell","_law_row","_law_number","_law_at","_law_key"] ["_law_keys_here","_law_cell"] (ZAB ZCA):=⟨rfl,rfl,rfl,by decide +kernel,rfl,by decide +kernel,by decide +kernel⟩
theorem sc_keys:FnScope ["_law_script","_law_most","_law_mode","_law_mix","_law_width","_law_keys_here","_law_way"] ["_law_script","_law_most"] (ZAB ZDO):=⟨rfl,rfl,rfl,by decide +kernel,rfl,by decide +kernel,by decide +kernel⟩
theorem sc_whole:FnScope ["_law_found"] ["_law_found"] (ZAB ZCi):=⟨rfl,rfl,rfl,by decide +kernel,rfl,by decide +kernel,by decide +kernel⟩
theorem sc_teller:FnScope ["_law_log","_law_teller_here"] ["_law_log"] (ZAB ZBn):=⟨rfl,rfl,rfl,by decide +kernel,rfl,by decide +kernel,by decide +kernel⟩
theorem sc_in_order:FnScope ["_law_order","_law_keys_here","_law_many","_law_place","_law_p","_law_q"] ["_law_order","_law_keys_here","_law_many"] (ZAB ZBV):=⟨rfl,rfl,rfl,by decide +kernel,rfl,by decide +kernel,by decide +kernel⟩
theorem sc_shown:FnScope ["_law_order","_law_log","_law_met","_law_later","_law_earlier","_law_said","_law_p","_law_q"] ["_law_order","_law_log"] (ZAB ZCk):=⟨rfl,rfl,rfl,by decide +kernel,rfl,by decide +kernel,by decide +kernel⟩
theorem sc_crossed:FnScope ["_law_keys_here","_law_counts","_law_place"] ["_law_keys_here"] (ZAB ZBj):=⟨rfl,rfl,rfl,by decide +kernel,rfl,by decide +kernel,by decide +kernel⟩
theorem sc_told:FnScope ["_law_asker","_law_reach","_law_told_here","_law_e"] ["_law_asker","_law_reach"] (ZAB ZDN):=⟨rfl,rfl,rfl,by decide +kernel,rfl,by decide +kernel,by decide +kernel⟩
theorem sc_far:FnScope ["_law_e","_law_counts","_law_keys_here","_law_reach","_law_last","_law_other"] ["_law_e","_law_counts","_law_keys_here","_law_reach"] (ZAB ZEZ):=⟨rfl,rfl,rfl,by decide +kernel,rfl,by decide +kernel,by decide +kernel⟩
theorem sc_few:FnScope ["_law_log","_law_reach","_law_most","_law_counts","_law_later","_law_earlier","_law_said","_law_place","_law_many"] ["_law_log","_law_reach","_law_most"] (ZAB ZEY):=⟨rfl,rfl,rfl,by decide +kernel,rfl,by decide +kernel,by decide +kernel⟩
theorem sc_walked:FnScope ["_law_log","_law_many","_law_reach","_law_order","_law_at","_law_place","_law_low","_law_high","_law_middle"] ["_law_log","_law_many","_law_reach"] (ZAB ZB8):=⟨rfl,rfl,rfl,by decide +kernel,rfl,by decide +kernel,by decide +kernel⟩
theorem sc_law:FnScope ["_law_script","_law_keys_here","_law_reach","_law_log","_law_asker","_law_counts","_law_enough","_law_ahead_of","_law_word","_law_told_here","_law_left","_law_order"] ["_law_script"] (ZAB ZDd):=⟨rfl,rfl,rfl,by decide +kernel,rfl,by decide +kernel,by decide +kernel⟩
noncomputable abbrev ZAN:Stmt:=inBody ZBn 0
theorem csc_teller:CloScope ["_law_x","_law_y","_law_said","_law_log"] ["_law_x","_law_y"] ["_law_log"] (ZAB ZAN):=⟨rfl,rfl,rfl,by decide +kernel,rfl,rfl,by decide,by decide +kernel,by decide +kernel,by decide +kernel,fun x h=>(show ∀ y∈(ZAB ZAN).names,y.2=.free->y.1∈(["_law_log"]:List Str) by decide +kernel) _ (PySem.mem_of_lookup h) rfl⟩
structure Bt (K:W.Frag) (mg:Str->Option Value) (C_Asker C_AskedRule C_HallError C_NoPaper C_NoPlace C_TooFar C_Spent:Addr):Prop where
 b_len:mg "len"=none
 b_range:mg "range"=none
 b_list:mg "list"=none
 b_isinstance:mg "isinstance"=none
 b_bool:mg "bool"=none
 b_int:mg "int"=none
 b_max:mg "max"=none
 b_min:mg "min"=none
 b_sum:mg "sum"=none
 b_all:mg "all"=none
 b_sorted:mg "sorted"=none
 b_reversed:mg "reversed"=none
 b_enumerate:mg "enumerate"=none
 b_zip:mg "zip"=none
 b_dict:mg "dict"=none
 b_ValueError:mg "ValueError"=none
 m_Asker:mg "Asker"=some (.ref C_Asker)
 cl_Asker:Cls K C_Asker
 n_Asker_row:NoAttr K C_Asker "row"
 n_Asker_rule:NoAttr K C_Asker "rule"
 n_Asker_most:NoAttr K C_Asker "most"
 n_Asker_asked:NoAttr K C_Asker "asked"
 n_Asker_told:NoAttr K C_Asker "told"
 m_AskedRule:mg "AskedRule"=some (.ref C_AskedRule)
 cl_AskedRule:Cls K C_AskedRule
 n_AskedRule_teller:NoAttr K C_AskedRule "teller"
 m_HallError:mg "HallError"=some (.ref C_HallError)
 m_NoPaper:mg "NoPaper"=some (.ref C_NoPaper)
 m_NoPlace:mg "NoPlace"=some (.ref C_NoPlace)
 m_TooFar:mg "TooFar"=some (.ref C_TooFar)
 m_Spent:mg "Spent"=some (.ref C_Spent)
 xc_TooFar:ExcC K C_TooFar
 xk_TooFar:XCls K C_TooFar
 xi_TooFar:∃ fI,ZCo K C_TooFar fI bmV "ValueError.__new__"=true
 xm_TooFar_HallError:PySem.W.exmOne K (.ref C_TooFar) (.ref C_HallError)=some true
 n_TooFar_place:NoAttr K C_TooFar "place"
 n_TooFar_others:NoAttr K C_TooFar "others"
 xb_HallError:XBase K C_HallError
 kit_int_bool:PySem.W.kitOne K (.type "int") (.type "bool")=some false
 kit_TooFar_TooFar:PySem.W.kitOne K (.ref C_TooFar) (.ref C_TooFar)=some true
 kit_TooFar_ValueError:PySem.W.kitOne K (.ref C_TooFar) (.type "ValueError")=some true
 kit_TooFar_NoPaper:PySem.W.kitOne K (.ref C_TooFar) (.ref C_NoPaper)=some false
 kit_TooFar_NoPlace:PySem.W.kitOne K (.ref C_TooFar) (.ref C_NoPlace)=some false
 kit_TooFar_Spent:PySem.W.kitOne K (.ref C_TooFar) (.ref C_Spent)=some false
noncomputable def cellOf (ns:List Int) (k:Int):Int:=if k < (ns.length:Int) then (ns[k.toNat]?).getD 0 else 0
noncomputable def ZDr (K:W.Frag):Sp:=fun vs H Q _=>∃ (a:Addr) (ns:List Int) (k:Int),vs=[.ref a,.int k] /\ SqL K H a (ns.map V.int) /\ 0 <= k /\ Q (.int (cellOf ns k)) H
noncomputable def ZB6:Sp:=fun vs H Q _=>∃ (c m:Int),vs=[.int c,.int m] /\ 0 <= m /\ m <= 900 /\ ∀ l H' (zs:List Int),Same H H'->H l=none->H' l=some (.lst (zs.map V.int))->(zs.length:Int)=m->(∀ z∈zs,0 <= z /\ z < 2 ^ 31)->Q (.ref l) H'
noncomputable def ZBm:Sp:=fun vs H Q _=>∃ (a:Addr) (ks:List Int) (c:Int),vs=[.ref a,.int c] /\ H a=some (.lst (ks.map V.int)) /\ ks.length <= 63 /\ ∀ l H' (zs:List Int),Same H H'->H l=none->H' l=some (.lst (zs.map V.int))->zs.length <= 63->Q (.ref l) H'
noncomputable def ZEn (K:W.Frag):Sp:=fun vs H Q _=>∃ (a:Addr) (ns:List Int),vs=[.ref a,.int 60] /\ SqL K H a (ns.map V.int) /\ ns.length <= 63 /\ ∀ l H' (zs:List Int),Same H H'->H l=none->H' l=some (.lst (zs.map V.int))->zs.length <= 119->Q (.ref l) H'
noncomputable def ZDb (K:W.Frag):Sp:=fun vs H Q _=>∃ (a:Addr) (ns:List Int) (k b:Int),vs=[.ref a,.int k,.int b] /\ SqL K H a (ns.map V.int) /\ ns.length <= 63 /\ 0 <= k /\ 0 < b /\ b <= 1000 /\ ∀ l H' (zs:List Int),Same H H'->H l=none->H' l=some (.lst (zs.map V.int))->zs.length=120->(∀ z∈zs,0 <= z /\ z < b)->Q (.ref l) H'
theorem ZDM {n:Nat} (h:n <= 90000):n < sizeLine:=Nat.lt_of_le_of_lt h (by decide)
noncomputable abbrev fA (rl ru:Addr) (m:V) (n:Int) (tl:Addr):List (Str×V):=[("told",.ref tl),("asked",.int n),("most",m),("rule",.ref ru),("row",.ref rl)]
noncomputable abbrev fR (g:Addr):List (Str×V):=[("teller",.ref g)]
noncomputable def ZCM (CA:Addr):Sp:=fun vs H Q _=>∃ (x dx r:Addr) (ru:Addr) (m:V) (xs:List V),vs=[.ref x,.ref r,.ref ru,m] /\ H x=some (.ins CA dx []) /\ H r=some (.lst xs) /\
 ∀ rl tl H',(∀ b o,b≠x->H b=some o->H' b=some o)->H rl=none->H tl=none->rl≠tl->Ins H' x CA (fA rl ru m 0 tl)->H' rl=some (.lst xs)->H' tl=some (.lst [])->Q .non H'
noncomputable def ZEl (CA:Addr):Sp:=fun vs H Q _=>∃ (a rl ru tl:Addr) (m:V) (n:Int) (xs:List V),vs=[.ref a] /\ Ins H a CA (fA rl ru m n tl) /\ H rl=some (.lst xs) /\ Q (.int xs.length) H
noncomputable def ZC0 (CA:Addr):Sp:=fun vs H Q _=>∃ (a rl ru tl:Addr) (m:V) (n:Int) (ts:List V),vs=[.ref a] /\ Ins H a CA (fA rl ru m n tl) /\ H tl=some (.lst ts) /\ ∀ l H',Same H H'->H l=none->H' l=some (.lst ts)->Q (.ref l) H'
noncomputable def ZCg (CR:Addr):Sp:=fun vs H Q _=>∃ (x dx g:Addr),vs=[.ref x,.ref g] /\ H x=some (.ins CR dx []) /\ ∀ H',(∀ b o,b≠x->H b=some o->H' b=some o)->Ins H' x CR (fR g)->Q .non H'
noncomputable def ZCr (CR:Addr) (r:V->List V->Hp->VK->Prop):Sp:=fun vs H Q _=>∃ (ru g:Addr) (x y:V),vs=[.ref ru,x,y] /\ Ins H ru CR (fR g) /\ (∃ o,H g=some (FZ o) /\ ∃ fd,o.data=.func fd) /\ r (.ref g) [x,y] H Q
noncomputable def ZC1 (CA CR:Addr) (r:V->List V->Hp->VK->Prop):Sp:=fun vs H Q _=>∃ (a rl ru tl:Addr) (n p q:Int) (xs ts:List V) (x y:V),vs=[.ref a,.int p,.int q] /\ Ins H a CA (fA rl ru .non n tl) /\ H rl=some (.lst xs) /\ p≠q /\ 0 <= p /\ 0 <= q /\
 xs[(max p q).toNat]?=some x /\ xs[(min p q).toNat]?=some y /\ ZCr CR r [.ref ru,x,y] H (fun v H1=>∃ b,v=.bl b /\ Ins H1 a CA (fA rl ru .non n tl) /\ H1 tl=some (.lst ts) /\ ts.length <= 90000 /\
  ∀ t H2,H1 t=none->Ins H2 a CA (fA rl ru .non (n+1) tl)->H2 tl=some (.lst (ts++[.ref t]))->H2 t=some (.tup [.int (max p q),.int (min p q),.bl b])->(∀ c,c≠a->c≠tl->c≠t->H2 c=H1 c)->Q (.bl (if q < p then b else !b)) H2) E0
theorem fA_canon {rl ru tl:Addr} {m:V} {n:Int}:∀ f,(putF "told" (.ref tl) (putF "asked" (.int n) (putF "most" m (putF "rule" (.ref ru) (putF "row" (.ref rl) []))))).lookup f=(fA rl ru m n tl).lookup f:=fun f=>by
 simp only [ZAd,lkc]
theorem fA_asked {rl ru tl:Addr} {m:V} {n k:Int}:∀ f,(putF "asked" (.int k) (fA rl ru m n tl)).lookup f=(fA rl ru m k tl).lookup f:=fun f=>by
 rw [ZAd]
 by_cases h:f=("asked":Str)
 .subst h
  rw [if_pos rfl]
  exact (show List.lookup _ (fA rl ru m k tl)=some (.int k) by walk_at "lk").symm
 .simp only [lkc,h,if_false]
noncomputable def kat (ks:List Int) (p:Nat):Int:=(ks[p]?).getD 0
structure Told (H:Hp) (ks:List Int) (pr:List (Nat×Nat)) (ts:List V):Prop where
 len:ts.length=pr.length
 get:∀ (j p q:Nat),pr[j]?=some (p,q)->∃ t,ts[j]?=some (V.ref t) /\ H t=some (.tup [.int p,.int q,.bl (decide (kat ks p < kat ks q))])
theorem Told.keep {H H':Hp} {ks:List Int} {pr:List (Nat×Nat)} {ts:List V} (e:∀ t x,H t=some (.tup x)->H' t=some (.tup x)) (h:Told H ks pr ts):Told H' ks pr ts :=
 ⟨h.len,fun j p q z=>let ⟨t,a,b⟩:=h.get j p q z;⟨t,a,e _ _ b⟩⟩
theorem Told.snoc {H:Hp} {ks:List Int} {pr:List (Nat×Nat)} {ts:List V} {p q:Nat} {t:Addr} (h:Told H ks pr ts) (L:H t=some (.tup [.int p,.int q,.bl (decide (kat ks p < kat ks q))])):Told H ks (pr++[(p,q)]) (ts++[.ref t]):=by
 refine ⟨by rw [yAC,yAC,h.len];rfl,fun j p' O z=>?_⟩
 by_cases hl:j < pr.length
 .rw [yAZ hl] at z
  obtain ⟨t',a,b⟩:=h.get j p' O z
  exact ⟨t',by rw [yAZ (by rw [h.len];exact hl)];exact a,b⟩
 .have e:=(yAM.mp z).1
  rw [yAC] at e
  have J:j=pr.length:=by have:([(p,q)]:List (Nat×Nat)).length=1:=rfl;omega
  subst J
  rw [yAX (yAA _),yBU] at z
  cases z
  exact ⟨t,by rw [<- h.len,yAX (yAA _),yBU];rfl,L⟩
theorem ins_fr {H H':Hp} {S:List Addr} {a C:Addr} {fl:List (Str×V)} (e:Fr S H H') (n:a∉S) (h:Ins H a C fl):Ins H' a C fl:=let ⟨dx,fs,h1,h2,h3⟩:=h.ex;⟨dx,fs,e _ _ n h1,h2,h3⟩
noncomputable def tdD (ks:List Int) (c:Nat×Nat):PyData:=.tuple [.int c.1,.int c.2,.bool (decide (kat ks c.1 < kat ks c.2))]
theorem Told.dp {K:W.Frag} {H:Hp} {ks:List Int}:∀ {pr:List (Nat×Nat)} {ts:List V},Told H ks pr ts->DpAll K H (pr.map (tdD ks)) ts
 | [],ts,h=>by
  have:ts=[]:=List.length_eq_zero_iff.mp h.len
  subst this
  exact .nil
 | c::r,[],h=>by have:=h.len;cases this
 | (p,q)::r,v::ts,h=>by
  obtain ⟨t,a,b⟩:=h.get 0 p q rfl
  have J:v=.ref t:=Option.some.inj a
  subst J
  refine .cons (ZB3 (SqT.of b) (.cons (ZA2 _) (.two (ZA2 _) (dp_bl _)))) (Told.dp ⟨by have:=h.len;simpa using this,fun j p' L O=>?_⟩)
  obtain ⟨t',z,b'⟩:=h.get (j+1) p' L (by simpa using O)
  exact ⟨t',by simpa using z,b'⟩
theorem td_lay (ks:List Int):∀ pr:List (Nat×Nat),PyData.canLayAll0 (pr.map (tdD ks))=true
 | []=>by unfold PyData.canLayAll0 List.map;rfl
 | c::r=>by
  rw [yAU]
  unfold PyData.canLayAll0
  rw [td_lay ks r]
  unfold tdD PyData.canLay0 PyData.canLayAll0 PyData.canLayAll0 PyData.canLayAll0 PyData.canLayAll0 PyData.canLay0
  rfl
theorem td_dep (ks:List Int):∀ pr:List (Nat×Nat),PyData.depthAll (pr.map (tdD ks)) <= 1
 | []=>by unfold List.map PyData.depthAll;decide
 | c::r=>by
  rw [yAU]
  unfold PyData.depthAll
  have h1:=td_dep ks r
  have h2:(tdD ks c).depth <= 1:=by unfold tdD PyData.depth PyData.depthAll PyData.depthAll PyData.depthAll PyData.depthAll PyData.depth;decide
  omega
theorem Told.append {H:Hp} {ks:List Int} {pr pr':List (Nat×Nat)} {ts z:List V} (h:Told H ks pr ts) (h':Told H ks pr' z):Told H ks (pr++pr') (ts++z):=by
 refine ⟨by rw [yAC,yAC,h.len,h'.len],fun j p q J=>?_⟩
 by_cases hl:j < pr.length
 .rw [yAZ hl] at J
  rw [yAZ (by rw [h.len];exact hl)]
  exact h.get j p q J
 .rw [yAX (by omega)] at J
  rw [yAX (by rw [h.len];omega),h.len]
  exact h'.get _ p q J
noncomputable def rTL (iname iq:Str) (ip:Arguments) (ib:List Stmt) (isc:Scope):V->List V->Hp->VK->Prop:=fun f vs H Q=>∃ (g x y lg:Addr) (k k' i j:Int) (ws:List V),f=.ref g /\ vs=[.ref x,.ref y] /\ Clo H g iname iq ip ib isc ["_law_log"] [.ref lg] /\ H x=some (.tup [.int k,.int i]) /\ H y=some (.tup [.int k',.int j]) /\ H lg=some (.lst ws) /\ ws.length <= 90000 /\
 ∀ t,H t=none->Q (.bl (decide (k < k'))) (upd (upd H t (.tup [.int i,.int j,.bl (decide (k < k'))])) lg (.lst (ws++[.ref t])))
theorem rT_mono {iname iq:Str} {ip:Arguments} {ib:List Stmt} {isc:Scope} {f:V} {vs:List V} {H:Hp} {Q Q':VK} (m:∀ v H,Q v H->Q' v H) (h:rTL iname iq ip ib isc f vs H Q):rTL iname iq ip ib isc f vs H Q' :=
 let ⟨g,x,y,lg,k,k',i,j,ws,e1,e2,h1,h2,h3,h4,h5,q⟩:=h;⟨g,x,y,lg,k,k',i,j,ws,e1,e2,h1,h2,h3,h4,h5,fun t z=>m _ _ (q t z)⟩
noncomputable abbrev ZBX:V->List V->Hp->VK->Prop:=rTL "_law_teller_here" "_law_teller.<locals>._law_teller_here" (ZAO ZAN) (ZAM ZAN) (ZAB ZAN)
structure RowC where
 v:List V
 c:Nat
structure Lgd (H:Hp) (ks:List Int) (c:Nat) (pr:List (Nat×Nat)) (ws:List V):Prop where
 hc:c <= pr.length
 prs:Told H ks (pr.drop c) ws
theorem Lgd.keep {H H':Hp} {ks:List Int} {c:Nat} {pr:List (Nat×Nat)} {ts:List V} (e:∀ t x,H t=some (.tup x)->H' t=some (.tup x)) (h:Lgd H ks c pr ts):Lgd H' ks c pr ts:=⟨h.hc,h.prs.keep e⟩
theorem Lgd.snoc {H:Hp} {ks:List Int} {c:Nat} {pr:List (Nat×Nat)} {ts:List V} {p q:Nat} {t:Addr} (h:Lgd H ks c pr ts) (z:H t=some (.tup [.int p,.int q,.bl (decide (kat ks p < kat ks q))])):Lgd H ks c (pr++[(p,q)]) (ts++[.ref t]) :=
 ⟨by rw [yAC];have:=h.hc;omega,by rw [List.drop_append_of_le_length h.hc];exact h.prs.snoc z⟩
theorem Lgd.len {H:Hp} {ks:List Int} {c:Nat} {pr:List (Nat×Nat)} {ts:List V} (h:Lgd H ks c pr ts):ts.length <= pr.length:=by rw [h.prs.len,yAR];omega
structure SitL (CA CR:Addr) (H:Hp) (ks:List Int) (xs:RowC) (a rl ru tl g lg:Addr) (pr:List (Nat×Nat)):Prop where
 ha:Ins H a CA (fA rl ru .non pr.length tl)
 hrl:H rl=some (.lst xs.v)
 hru:Ins H ru CR (fR g)
 clo:Clo H g "_law_teller_here" "_law_teller.<locals>._law_teller_here" (ZAO ZAN) (ZAM ZAN) (ZAB ZAN) ["_law_log"] [.ref lg]
 len:xs.v.length=ks.length
 row:∀ (i:Nat) k,ks[i]?=some k->∃ r,xs.v[i]?=some (V.ref r) /\ H r=some (.tup [.int k,.int i])
 hlg:∃ ws,H lg=some (.lst ws) /\ Lgd H ks xs.c pr ws
 htl:∃ ts,H tl=some (.lst ts) /\ Told H ks pr ts
 ne:lg≠tl /\ rl∉[a,lg,tl] /\ ru≠a
section
variable {CA CR:Addr} {H H':Hp} {ks:List Int} {xs:RowC} {a rl ru tl g lg:Addr} {pr:List (Nat×Nat)}
theorem SitL.tupS (h:SitL CA CR H ks xs a rl ru tl g lg pr) {b:Addr} {o:HO} (J:H b=some o) (L:∀ x,o≠.lst x) (O:∀ C d f,o≠.ins C d f):b∉[a,lg,tl]:=by
 obtain ⟨ws,hlg,_⟩:=h.hlg
 obtain ⟨ts,htl,_⟩:=h.htl
 intro z
 rcases yAG.mp z with z | z
 .exact h.ha.ne J O z
 rcases yAG.mp z with z | z
 .rw [z,hlg] at J;exact L _ (Option.some.inj J).symm
 .rw [yAP.mp z,htl] at J;exact L _ (Option.some.inj J).symm
theorem SitL.ruS (h:SitL CA CR H ks xs a rl ru tl g lg pr):ru∉[a,lg,tl]:=by
 obtain ⟨ws,hlg,_⟩:=h.hlg
 obtain ⟨ts,htl,_⟩:=h.htl
 obtain ⟨L,f1,J,_⟩:=h.hru.ex
 intro z
 rcases yAG.mp z with z | z
 .exact h.ne.2.2 z
 rcases yAG.mp z with z | z
 .rw [z,hlg] at J;cases J
 .rw [yAP.mp z,htl] at J;cases J
theorem SitL.keep (h:SitL CA CR H ks xs a rl ru tl g lg pr) (e:Fr [a,lg,tl] H H') {pr':List (Nat×Nat)} {L J:List V} (h1:Ins H' a CA (fA rl ru .non pr'.length tl)) (h2:H' tl=some (.lst L)) (h3:Told H' ks pr' L) (Z:H' lg=some (.lst J)) (Y:Lgd H' ks xs.c pr' J):SitL CA CR H' ks xs a rl ru tl g lg pr' where
 ha:=h1
 hrl:=e _ _ h.ne.2.1 h.hrl
 hru:=ins_fr e h.ruS h.hru
 clo:=h.clo.mono fun b o O=>e _ _ (h.tupS O (fun _ z=>by cases z) (fun _ _ _ z=>by cases z)) O
 len:=h.len
 row:=fun i k U=>let ⟨r,a1,a2⟩:=h.row i k U;⟨r,a1,e _ _ (h.tupS a2 (fun _ z=>by cases z) (fun _ _ _ z=>by cases z)) a2⟩
 hlg:=⟨_,Z,Y⟩
 htl:=⟨_,h2,h3⟩
 ne:=h.ne
theorem SitL.mono (h:SitL CA CR H ks xs a rl ru tl g lg pr) (e:Same H H'):SitL CA CR H' ks xs a rl ru tl g lg pr :=
 let ⟨_,h2,h3⟩:=h.htl;let ⟨_,h4,h5⟩:=h.hlg;h.keep e.fr (h.ha.mono e) (e _ _ h2) (h3.keep fun _ _ z=>e _ _ z) (e _ _ h4) (h5.keep fun _ _ z=>e _ _ z)
theorem SitL.ahead (h:SitL CA CR H ks xs a rl ru tl g lg pr) {p q:Nat} (aj:p≠q) (hp:p < ks.length) (hq:q < ks.length) (ai:pr.length <= 80000) {Q:VK}
  (a9:∀ H',Fr [a,lg,tl] H H'->SitL CA CR H' ks xs a rl ru tl g lg (pr++[(max p q,min p q)])->Q (.bl (if q < p then decide (kat ks p < kat ks q) else !decide (kat ks q < kat ks p))) H'):ZC1 CA CR ZBX [.ref a,.int p,.int q] H Q E0:=by
 obtain ⟨ws,hlg,a7⟩:=h.hlg
 obtain ⟨ts,htl,a4⟩:=h.htl
 have a5:max p q < ks.length:=by omega
 have a2:min p q < ks.length:=by omega
 obtain ⟨x,hx,tx⟩:=h.row (max p q) _ (yAH a5)
 obtain ⟨y,hy,ty⟩:=h.row (min p q) _ (yAH a2)
 have ae:(max (p:Int) q).toNat=max p q:=by omega
 have ah:(min (p:Int) q).toNat=min p q:=by omega
 have kx:ks[max p q]=kat ks (max p q):=by unfold kat;rw [yAH a5];rfl
 have ac:ks[min p q]=kat ks (min p q):=by unfold kat;rw [yAH a2];rfl
 refine ⟨a,rl,ru,tl,pr.length,p,q,xs.v,ts,.ref x,.ref y,rfl,h.ha,h.hrl,by omega,by omega,by omega,by rw [ae];exact hx,by rw [ah];exact hy,?_⟩
 obtain ⟨cl,C⟩:=h.clo
 obtain ⟨d1,d2,d3,d4,ho,_⟩:=C.obj
 refine ⟨ru,g,.ref x,.ref y,rfl,h.hru,⟨_,ho,_,rfl⟩,?_⟩
 rw [kx] at tx
 rw [ac] at ty
 refine ⟨g,x,y,lg,_,_,_,_,ws,rfl,rfl,h.clo,tx,ty,hlg,by have:=a7.len;omega,fun t ht=>?_⟩
 have a0:t≠a:=h.ha.neN ht
 have O:lg≠t:=ZAF hlg ht
 have a3:tl≠t:=ZAF htl ht
 have L:lg≠tl:=h.ne.1
 have a6:lg≠a:=h.ha.ne hlg fun _ _ _ z=>by cases z
 refine ⟨_,rfl,h.ha.keep (by rw [ZAG (Ne.symm a6),ZAG (Ne.symm a0)]),by rw [ZAG (Ne.symm L),ZAG a3];exact htl,by rw [a4.len];omega,fun t2 H2 J ad a1 aa k2=>?_⟩
 have af:t2≠lg:=fun z=>by rw [z,ZAD] at J;cases J
 have a8:t2≠t:=fun z=>by rw [z,ZAG (Ne.symm O),ZAD] at J;cases J
 have fr:Fr [a,lg,tl] H H2:=fun b o n Z=>by
  have m1:b≠a:=fun z=>n (by rw [z];exact yAJ)
  have m2:b≠lg:=fun z=>n (by rw [z];exact yAL _ yAJ)
  have m3:b≠tl:=fun z=>n (by rw [z];exact yAL _ (yAL _ yAJ))
  have e1:(upd (upd H t (.tup [.int ((max p q:Nat):Int),.int ((min p q:Nat):Int),.bl (decide (kat ks (max p q) < kat ks (min p q)))])) lg (.lst (ws++[.ref t]))) b=some o:=by rw [ZAG m2,ZAG (ZAF Z ht)];exact Z
  rw [k2 b m1 m3 (ZAF e1 J)]
  exact e1
 have tk:∀ b x,H b=some (.tup x)->H2 b=some (.tup x):=fun b x Z=>fr _ _ (h.tupS Z (fun _ z=>by cases z) (fun _ _ _ z=>by cases z)) Z
 have Y:H2 lg=some (.lst (ws++[.ref t])):=by rw [k2 lg a6 L (Ne.symm af),ZAD]
 have ag:H2 t=some (.tup [.int ((max p q:Nat):Int),.int ((min p q:Nat):Int),.bl (decide (kat ks (max p q) < kat ks (min p q)))]):=by rw [k2 t a0 (Ne.symm a3) (Ne.symm a8),ZAG (Ne.symm O),ZAD]
 have U:H2 t2=some (.tup [.int ((max p q:Nat):Int),.int ((min p q:Nat):Int),.bl (decide (kat ks (max p q) < kat ks (min p q)))]):=by
  rw [show (((max p q:Nat):Int))=max (p:Int) q by omega,show (((min p q:Nat):Int))=min (p:Int) q by omega]
  exact aa
 have st:=h.keep fr (pr':=pr++[(max p q,min p q)]) (by rw [yAC];exact ad) a1 ((a4.keep tk).snoc U) Y ((a7.keep tk).snoc ag)
 have g':=a9 H2 fr st
 by_cases hlt:q < p
 .rw [if_pos hlt] at g'
  rw [if_pos (by omega),show max p q=p by omega,show min p q=q by omega]
  exact g'
 .rw [if_neg hlt] at g'
  rw [if_neg (by omega),show max p q=q by omega,show min p q=p by omega]
  exact g'
end
noncomputable def ZDX:Sp:=fun vs H Q _=>∃ i:Int,vs=[.int i] /\ Q (.bl true) H
noncomputable abbrev nL (l:List Nat):List V:=l.map fun (x:Nat)=>V.int (x:Int)
theorem ZC5 (l:List Nat):nL l=(l.map fun (x:Nat)=>(x:Int)).map V.int:=by rw [List.map_map];rfl
noncomputable def lx (ks:List Int) (x y:Nat):Prop:=kat ks x < kat ks y∨(kat ks x=kat ks y /\ x < y)
inductive Halv (ks:List Int) (os:List Nat) (pl:Nat):Nat->Nat->Nat->List (Nat×Nat)->Prop
 | done {low high:Nat}:¬ low < high->Halv ks os pl low high low []
 | less {low high r o:Nat} {l:List (Nat×Nat)}:low < high->os[(low+high) / 2]?=some o->kat ks pl < kat ks o->Halv ks os pl low ((low+high) / 2) r l->Halv ks os pl low high r ((pl,o)::l)
 | more {low high r o:Nat} {l:List (Nat×Nat)}:low < high->os[(low+high) / 2]?=some o->¬ kat ks pl < kat ks o->Halv ks os pl ((low+high) / 2+1) high r l->Halv ks os pl low high r ((pl,o)::l)
theorem Halv.bounds {ks:List Int} {os:List Nat} {pl low high r:Nat} {l:List (Nat×Nat)} (h:Halv ks os pl low high r l):low <= high->low <= r /\ r <= high:=by
 induction h with
 | done n=>intro h;omega
 | less a _ _ _ ih=>intro _;have:=ih (by omega);omega
 | more a _ _ _ ih=>intro _;have:=ih (by omega);omega
theorem Halv.len {ks:List Int} {os:List Nat} {pl low high r:Nat} {l:List (Nat×Nat)} (h:Halv ks os pl low high r l):l.length <= high-low:=by
 induction h with
 | done n=>simp
 | less a _ _ _ ih=>rw [yAK];omega
 | more a _ _ _ ih=>rw [yAK];omega
theorem Halv.asked {ks:List Int} {os:List Nat} {pl low high r:Nat} {l:List (Nat×Nat)} (h:Halv ks os pl low high r l):low <= high ->
  (∀ x,low < r->os[r-1]?=some x->(pl,x)∈l) /\ (∀ x,r < high->os[r]?=some x->(pl,x)∈l):=by
 induction h with
 | done n=>intro h;exact ⟨fun x z=>by omega,fun x z=>by omega⟩
 | @less low high r o l a b c d ih=>
  intro _
  have J:=d.bounds (by omega)
  obtain ⟨i1,i2⟩:=ih (by omega)
  refine ⟨fun x z e=>yAL _ (i1 x z e),fun x z e=>?_⟩
  by_cases hr:r < (low+high) / 2
  .exact yAL _ (i2 x hr e)
  .have:r=(low+high) / 2:=by omega
   rw [this,b] at e
   cases e
   exact yAJ
 | @more low high r o l a b c d ih=>
  intro _
  have J:=d.bounds (by omega)
  obtain ⟨i1,i2⟩:=ih (by omega)
  refine ⟨fun x z e=>?_,fun x z e=>yAL _ (i2 x z e)⟩
  by_cases hr:(low+high) / 2+1 < r
  .exact yAL _ (i1 x hr e)
  .have:r-1=(low+high) / 2:=by omega
   rw [this,b] at e
   cases e
   exact yAJ
theorem Halv.each {ks:List Int} {os:List Nat} {pl low high r:Nat} {l:List (Nat×Nat)} (h:Halv ks os pl low high r l):∀ c∈l,c.1=pl /\ c.2∈os:=by
 induction h with
 | done n=>intro c h;cases h
 | less a b _ _ ih=>
  intro c h
  rcases yAG.mp h with z | z
  .rw [z];exact ⟨rfl,yAO b⟩
  .exact ih c z
 | more a b _ _ ih=>
  intro c h
  rcases yAG.mp h with z | z
  .rw [z];exact ⟨rfl,yAO b⟩
  .exact ih c z
theorem ZDs {ks:List Int} {os:List Nat} (h:os.Pairwise (lx ks)) {i j x y:Nat} (z:i < j) (hx:os[i]?=some x) (J:os[j]?=some y):lx ks x y:=by
 obtain ⟨h1,L⟩:=yAM.mp hx
 obtain ⟨h2,e2⟩:=yAM.mp J
 have:=List.pairwise_iff_getElem.mp h i j h1 h2 z
 rw [L,e2] at this
 exact this
theorem Halv.spot {ks:List Int} {os:List Nat} {pl low high r:Nat} {l:List (Nat×Nat)} (L:os.Pairwise (lx ks)) (h:Halv ks os pl low high r l):low <= high ->
  (∀ i x,low <= i->i < r->os[i]?=some x->¬ kat ks pl < kat ks x) /\ (∀ i x,r <= i->i < high->os[i]?=some x->kat ks pl < kat ks x):=by
 induction h with
 | done n=>intro h;exact ⟨fun i x J z=>by omega,fun i x J z=>by omega⟩
 | @less low high r o l a b c d ih=>
  intro _
  have O:=d.bounds (by omega)
  obtain ⟨i1,i2⟩:=ih (by omega)
  refine ⟨i1,fun i x J z e=>?_⟩
  by_cases hr:i < (low+high) / 2
  .exact i2 i x J hr e
  .by_cases hi:i=(low+high) / 2
   .rw [hi,b] at e;cases e;exact c
   .have:=ZDs L (show (low+high) / 2 < i by omega) b e
    unfold lx at this
    omega
 | @more low high r o l a b c d ih=>
  intro _
  have O:=d.bounds (by omega)
  obtain ⟨i1,i2⟩:=ih (by omega)
  refine ⟨fun i x J z e=>?_,i2⟩
  by_cases hr:(low+high) / 2 < i
  .exact i1 i x hr z e
  .by_cases hi:i=(low+high) / 2
   .rw [hi,b] at e;cases e;exact c
   .have:=ZDs L (show i < (low+high) / 2 by omega) e b
    unfold lx at this
    omega
noncomputable def insN (os:List Nat) (r pl:Nat):List Nat:=os.take r++pl::os.drop r
theorem ZDj {os:List Nat} {r pl:Nat}:(insN os r pl).length=os.length+1:=by
 unfold insN
 rw [yAC,yAK,yAS,yAR]
 omega
theorem insN_mem {os:List Nat} {r pl x:Nat}:x∈insN os r pl↔x=pl∨x∈os:=by
 unfold insN
 rw [yBB,yAG]
 have:x∈os↔x∈os.take r∨x∈os.drop r:=by rw [<- yBB,yBR]
 rw [this]
 exact ⟨fun h=>h.elim (fun z=>.inr (.inl z)) (fun z=>z.elim .inl fun z=>.inr (.inr z)),fun h=>h.elim (fun z=>.inr (.inl z)) fun z=>z.elim .inl fun z=>.inr (.inr z)⟩
noncomputable def Adj (os:List Nat) (pr:List (Nat×Nat)):Prop:=∀ (i x y:Nat),os[i]?=some x->os[i+1]?=some y->(max x y,min x y)∈pr
theorem insN_get {os:List Nat} {r pl i:Nat} (z:r <= os.length):(insN os r pl)[i]?=if i < r then os[i]? else if i=r then some pl else os[i-1]?:=by
 unfold insN
 by_cases h:i < r
 .rw [if_pos h,yAZ (by rw [yAS];omega),yBY h]
 .rw [if_neg h,yAX (by rw [yAS];omega),yAS,yCM z]
  by_cases e:i=r
  .rw [if_pos e,e,yBU];rfl
  .rw [if_neg e,show i-r=(i-r-1)+1 by omega,List.getElem?_cons_succ,yBH]
   congr 1
   omega
structure OrdN (ks:List Int) (first place:Nat) (os:List Nat):Prop where
 len:os.length=place-first
 mem:∀ x,x∈os↔first <= x /\ x < place
 srt:os.Pairwise (lx ks)
theorem ZDE (xs:List V):cutV xs (some 1) none=xs.drop 1:=by
 unfold cutV
 rw [HT.sIx_none,show (some (1:Int))=some ((1:Nat):Int) from rfl,HT.sIx_nat]
 cases xs with
 | nil=>rfl
 | cons x r=>
  rw [show min 1 (x::r).length=1 by rw [yAK];omega]
  exact yCD (by rw [yAR];exact yAA _)
noncomputable def ZCz:Sp:=fun vs H Q _=>∃ (ol ky:Addr) (os:List Nat) (ks:List Int),vs=[.ref ol,.ref ky,.int os.length] /\ H ol=some (.lst (nL os)) /\ H ky=some (.lst (ks.map V.int)) /\ (∀ x∈os,x < ks.length) /\ (∀ (i x y:Nat),os[i]?=some x->os[i+1]?=some y->HT.lexLt [kat ks x,(x:Int)] [kat ks y,(y:Int)]=true) /\ ∀ H',Same H H'->Q (.bl true) H'
theorem sqL_fr {K:W.Frag} {H H':Hp} {S:List Addr} {a:Addr} {xs:List V} (e:Fr S H H') (n:∀ o,(∀ t,o≠.tbl t)->H a=some o->a∉S) (h:SqL K H a xs):SqL K H' a xs:=by
 rcases h with (h | ⟨o,h⟩) | h
 .exact .inl (.inl (e _ _ (n _ (fun _ z=>by cases z) h) h))
 .exact .inl (.inr ⟨o,e _ _ (n _ (fun _ z=>by cases z) h) h⟩)
 .exact .inr h
theorem ZEB {a lg tl b:Addr} (L:b≠a) (J:b≠lg) (O:b≠tl):b∉[a,lg,tl]:=fun z=>by
 rcases yAG.mp z with z | z
 .exact L z
 rcases yAG.mp z with z | z
 .exact J z
 .exact O (yAP.mp z)
noncomputable def ZDa (CA CR:Addr):Sp:=fun vs H Q _=>∃ (ks:List Int) (xs:RowC) (a rl ru tl g lg ol:Addr) (pr:List (Nat×Nat)) (os:List Nat) (pl:Nat),vs=[.ref a,.ref ol,.int pl] /\ SitL CA CR H ks xs a rl ru tl g lg pr /\ H ol=some (.lst (nL os)) /\ ol∉[a,lg,tl] /\ os.length <= 500 /\ (∀ x∈os,x < pl) /\ pl < ks.length /\ pr.length <= 70000 /\
 ∀ H' r l,Fr [a,lg,tl] H H'->Halv ks os pl 0 os.length r l->SitL CA CR H' ks xs a rl ru tl g lg (pr++l)->Q (.int (r:Nat)) H'
theorem ZDG {os:List Nat} {m o:Nat} (h:os[m]?=some o):atI (nL os) (m:Int)=some (.int o):=ZAl (by omega) (by rw [Int.toNat_natCast,yAT,h];rfl)
theorem SitL.upd {CA CR:Addr} {H:Hp} {ks:List Int} {xs:RowC} {a rl ru tl g lg:Addr} {pr:List (Nat×Nat)} (h:SitL CA CR H ks xs a rl ru tl g lg pr) {l:Addr} {us J:List V} (hl:H l=some (.lst us)) (n:rl≠l /\ lg≠l /\ tl≠l):SitL CA CR (upd H l (.lst J)) ks xs a rl ru tl g lg pr:=by
 have k:∀ t o,H t=some o->(∀ x,o≠.lst x)->L2.upd H l (.lst J) t=some o:=fun t o z no=>by
  rw [ZAG (fun e=>by rw [e,hl] at z;exact no _ (Option.some.inj z).symm)];exact z
 have U:l≠a:=h.ha.ne hl fun _ _ _ z=>by cases z
 refine ⟨h.ha.keep (ZAG (Ne.symm U)),by rw [ZAG n.1];exact h.hrl,?_,?_,h.len,fun i c Z=>?_,?_,?_,h.ne⟩
 .obtain ⟨d1,f1,e1,e2,e3⟩:=h.hru.ex
  exact ⟨d1,f1,k _ _ e1 (fun _ z=>by cases z),e2,e3⟩
 .exact h.clo.mono fun b o Y=>k _ _ Y (fun _ z=>by cases z)
 .obtain ⟨r,O,L⟩:=h.row i c Z
  exact ⟨r,O,k _ _ L (fun _ z=>by cases z)⟩
 .obtain ⟨ts,O,L⟩:=h.hlg
  exact ⟨ts,by rw [ZAG n.2.1];exact O,L.keep fun t x z=>k _ _ z (fun _ z=>by cases z)⟩
 .obtain ⟨ts,O,L⟩:=h.htl
  exact ⟨ts,by rw [ZAG n.2.2];exact O,L.keep fun t x z=>k _ _ z (fun _ z=>by cases z)⟩
theorem insV_nL {os:List Nat} {r pl:Nat} (h:r <= os.length):insV (nL os) (r:Int) (.int pl)=nL (insN os r pl):=by
 unfold insV insN nL
 dsimp only
 rw [if_neg (by omega),Int.toNat_natCast,yAB,yCM h,yBI,yAU,List.map_take,List.map_drop]
theorem Halv.bits {ks:List Int} {os:List Nat} {pl low high r:Nat} {l:List (Nat×Nat)} (h:Halv ks os pl low high r l):∀ n,l.length=n+1->2 ^ n <= high-low:=by
 have two:∀ n k m:Nat,2 ^ n <= k->2 * k <= m->2 ^ (n+1) <= m:=fun n k m h1 h2=>by rw [Nat.pow_succ];omega
 induction h with
 | done n=>intro n z;simp at z
 | @less low high r o l a b c d ih=>
  intro n z
  rw [yAK] at z
  cases n with
  | zero=>show 1 <= _;omega
  | succ n=>exact two n _ _ (ih n (by omega)) (by omega)
 | @more low high r o l a b c d ih=>
  intro n z
  rw [yAK] at z
  cases n with
  | zero=>show 1 <= _;omega
  | succ n=>exact two n _ _ (ih n (by omega)) (by omega)
noncomputable abbrev bln (k:Nat):Nat:=Builtin.Int.intBits (k:Int)
theorem Halv.few {ks:List Int} {os:List Nat} {pl r:Nat} {l:List (Nat×Nat)} (h:Halv ks os pl 0 os.length r l):l.length <= bln os.length:=by
 cases e:l.length with
 | zero=>exact yAD _
 | succ n=>
  have J:=h.bits n e
  rcases Nat.lt_or_ge n (bln os.length) with z | z
  .exact z
  .have:=(ZDp (n:=(os.length:Int)) (k:=n) (by omega)).mp z
   have e2:((2 ^ n:Nat):Int)=(2:Int) ^ n:=by push_cast;rfl
   omega
noncomputable def ZD5:Sp:=fun vs H Q _=>∃ (ol lg:Addr) (os:List Nat) (ks:List Int) (pr:List (Nat×Nat)) (ws:List V),vs=[.ref ol,.ref lg] /\ H ol=some (.lst (nL os)) /\ H lg=some (.lst ws) /\ Told H ks pr ws /\ (∀ c∈pr,c.2 < c.1) /\ Adj os pr /\ pr.length <= 80000 /\ ∀ H',Same H H'->Q (.bl true) H'
noncomputable abbrev kP (p q:Nat):List Key:=[Sum.inl (p:Int),Sum.inl (q:Int)]
noncomputable abbrev NL (gs:List Nat):List V:=(gs.map fun g:Nat=>(g:Int)).map V.int
theorem ZBc (gs:List Nat):(NL gs).length=gs.length:=by simp
theorem ZFR {p:List Nat} {i:Nat} (h:i < p.length):(NL p)[i]?=some (.int (Pap.at' p i)):=by
 rw [yAT,yAT,Pap.at_lt h];rfl
theorem ZEV {p:List Nat} {i:Nat} {v:V} (h:(NL p)[i]?=some v):i < p.length /\ v=.int (Pap.at' p i):=by
 have hi:i < p.length:=by have:=(yAM.mp h).1;rwa [ZBc] at this
 rw [ZFR hi] at h
 exact ⟨hi,(Option.some.inj h).symm⟩
theorem NL_ix {p:List Nat} {i:Nat} {k:Int} (h:i < p.length) (e:k=i):atI (NL p) k=some (.int (Pap.at' p i)):=by
 subst e
 exact ZAl (by omega) (by rw [Int.toNat_natCast];exact ZFR h)
theorem rints_range (n:Nat):(ZDH 0 n).map V.int=NL (List.range n):=by
 unfold ZDH
 simp
noncomputable def ZB7:Sp:=fun vs H Q _=>∃ n:Nat,vs=[.int n] /\ n <= 1000 /\ ∀ l H',Same H H'->H l=none->H' l=some (.lst (NL (List.range n)))->Q (.ref l) H'
noncomputable def ZCh:Sp:=fun vs H Q _=>∃ i:Int,vs=[.int i] /\ Q (.bl true) H
noncomputable def ZCy:Sp:=fun vs H Q _=>∃ (a:Addr) (p:List Nat),vs=[.ref a] /\ H a=some (.lst (NL p)) /\ Pap.IsP p /\ p.length <= 200 /\ ∀ H',Same H H'->Q (.bl true) H'
noncomputable def ZBy:Sp:=fun vs H Q _=>∃ (a:Addr) (p:List Nat),vs=[.ref a,.int p.length] /\ H a=some (.lst (NL p)) /\ Pap.IsP p /\ p.length <= 200 /\ ∀ H',Same H H'->Q .non H'
noncomputable def ZEo:Sp:=fun vs H Q _=>∃ (a:Addr) (p:List Nat),vs=[.ref a] /\ H a=some (.lst (NL p)) /\ Pap.IsP p /\ p.length <= 200 /\ ∀ l H',Same H H'->H l=none->H' l=some (.lst (NL (Pap.bk p)))->Q (.ref l) H'
theorem all_true (n:Nat):(List.replicate n true).all id=true:=by
 induction n with
 | zero=>rfl
 | succ n ih=>rw [List.replicate_succ,List.all_cons,ih];rfl
theorem eq_rep {ys:List V} {n:Nat} {v:V} (hl:ys.length=n) (h:∀ (j:Nat) y,ys[j]?=some y->y=v):ys=List.replicate n v:=by
 subst hl
 refine yCK fun j=>?_
 by_cases hj:j < ys.length
 .rw [yAH hj,List.getElem?_replicate,if_pos hj,h j _ (yAH hj)]
 .rw [yBA (by omega),yBA (by rw [yCC];omega)]
structure Ans (H:Hp) (cs:List (Nat×Nat×Bool)) (ws:List V):Prop where
 len:ws.length=cs.length
 get:∀ (j p q:Nat) (b:Bool),cs[j]?=some (p,q,b)->∃ t,ws[j]?=some (V.ref t) /\ H t=some (.tup [.int p,.int q,.bl b])
theorem Ans.keep {H H':Hp} {cs:List (Nat×Nat×Bool)} {ws:List V} (h:Ans H cs ws) (e:Same H H'):Ans H' cs ws :=
 ⟨h.len,fun j p q b z=>let ⟨t,a,c⟩:=h.get j p q b z;⟨t,a,e _ _ c⟩⟩
theorem compL_big {K:W.Frag} {a:Addr} {xs:List V} {g:TG} {tt:TT} {te:TE} {Q:VK} {σ0:St} {H:Hp} (h:SqL K H a xs) (U:xs.length <= 90000) (P:Nat->List V->St->Hp->Prop) (J:P 0 [] σ0 H) (hl:∀ i ys σ H,i <= xs.length->P i ys σ H->SqL K H a xs /\ ys.length <= i)
  (L:∀ i ys x σ H,i < xs.length->xs[i]?=some x->P i ys σ H->g x σ H fun z H2=>tt z H2 fun b H3=>if b=true then te z H3 fun y H4=>Nxt P xs.length i (ys++[y]) z H4 else Nxt P xs.length i ys z H3)
  (O:∀ ys σ H,P xs.length ys σ H->∀ p,H p=none->Q (.ref p) (upd H p (.lst ys))):ZE1 K g tt te σ0 Q (.ref a) H:=⟨a,rfl,⟨xs,h⟩,comp_list P J hl (yBP (ZDM U)) L O⟩
noncomputable def agB (p:List Nat) (cs:List (Nat×Nat×Bool)):Bool:=cs.all fun c=>decide (Pap.at' (Pap.bk p) c.1 < Pap.at' (Pap.bk p) c.2.1) == c.2.2
noncomputable abbrev kP2 (p q:Nat):List Key:=[Sum.inl (p:Int),Sum.inl (q:Int)]
noncomputable def askB (cs:List (Nat×Nat×Bool)) (p q:Nat):Bool:=cs.any fun c=>decide (kP2 c.1 c.2.1=kP2 (max p q) (min p q))
noncomputable def shB (p:List Nat) (cs:List (Nat×Nat×Bool)):Bool:=((List.range (p.length-1)).map fun i=>askB cs (Pap.at' p i) (Pap.at' p (i+1))).all id
theorem valV_putAll (k:List Key):∀ (ps:List PQ) (m:List (List Key×V)),(valV (ZBu m ps) k).isSome=((valV m k).isSome || ps.any fun q=>decide (q.2.2.1=k))
 | [],m=>by rw [show ZBu m []=m from rfl];simp
 | q::r,m=>by
  rw [show ZBu m (q::r)=ZBu (putK m q.2.2.1 q.2.2.2) r from rfl,valV_putAll k r,ZDW,List.any_cons]
  by_cases e:q.2.2.1=k
  .rw [if_pos e.symm,decide_eq_true e];simp
  .rw [if_neg (fun z=>e z.symm),decide_eq_false e];simp
theorem said_b (a b:Nat) (c:Bool):decide (decide ((a:Int) < b)=c)=(decide (a < b) == c):=by
 have e:decide ((a:Int) < b)=decide (a < b):=by rw [decide_eq_decide];omega
 rw [e]
 cases decide (a < b) <;> cases c <;> rfl
noncomputable def ZDc:Sp:=fun vs H Q _=>∃ (a w:Addr) (p:List Nat) (cs:List (Nat×Nat×Bool)) (ws:List V),vs=[.ref a,.ref w] /\ H a=some (.lst (NL p)) /\ Pap.IsP p /\ p.length <= 200 /\ H w=some (.lst ws) /\ Ans H cs ws /\ (∀ c∈cs,c.1 < p.length /\ c.2.1 < p.length) /\ cs.length <= 20000 /\ ∀ H',Same H H'->Q (.bl (agB p cs)) H'
noncomputable def ZD4:Sp:=fun vs H Q _=>∃ (a w:Addr) (p:List Nat) (cs:List (Nat×Nat×Bool)) (ws:List V),vs=[.ref a,.ref w] /\ H a=some (.lst (NL p)) /\ Pap.IsP p /\ p.length <= 200 /\ H w=some (.lst ws) /\ Ans H cs ws /\ (∀ c∈cs,c.1 < p.length /\ c.2.1 < p.length) /\ cs.length <= 20000 /\ ∀ H',Same H H'->Q (.bl (agB p cs && shB p cs)) H'
theorem take_snoc {α:Type} {l:List α} {i:Nat} {x:α} (h:l[i]?=some x):l.take (i+1)=l.take i++[x]:=by
 rw [List.take_add_one,h];rfl
theorem lx_lex {ks:List Int} {x y:Nat} (h:lx ks x y):HT.lexLt [kat ks x,(x:Int)] [kat ks y,(y:Int)]=true:=by
 unfold HT.lexLt
 by_cases e:kat ks x=kat ks y
 .rw [if_pos e]
  unfold HT.lexLt
  rw [if_neg (by unfold lx at h;omega)]
  exact decide_eq_true (by unfold lx at h;omega)
 .rw [if_neg e]
  exact decide_eq_true (by unfold lx at h;omega)
theorem OrdN.lex {ks:List Int} {first j:Nat} {os:List Nat} (o:OrdN ks first j os):∀ (i x y:Nat),os[i]?=some x->os[i+1]?=some y->HT.lexLt [kat ks x,(x:Int)] [kat ks y,(y:Int)]=true:=fun _ _ _ hx z=>lx_lex (ZDs o.srt (yBQ _) hx z)
noncomputable def ZEp (ks:List Int) (c:Nat×Nat):Nat×Nat×Bool:=(c.1,c.2,decide (kat ks c.1 < kat ks c.2))
theorem Told.ans {H:Hp} {ks:List Int} {pr:List (Nat×Nat)} {ws:List V} (h:Told H ks pr ws):Ans H (pr.map (ZEp ks)) ws:=by
 refine ⟨by rw [yAB];exact h.len,fun j p q b z=>?_⟩
 rw [yAT] at z
 obtain ⟨⟨p',J⟩,hc,e⟩:=yBO.mp z
 cases e
 exact h.get j p' J hc
theorem OrdN.isP {ks:List Int} {n:Nat} {os:List Nat} (o:OrdN ks 0 n os):Pap.IsP os:=by
 have hl:os.length=n:=by rw [o.len];omega
 refine Pap.of_nd (o.srt.imp fun {x y} h e=>by subst e;unfold lx at h;omega) fun x=>?_
 rw [o.mem,hl];omega
theorem OrdN.idx {ks:List Int} {n:Nat} {os:List Nat} (o:OrdN ks 0 n os) {x y:Nat} (hx:x < n) (z:y < n) (h:os.idxOf x < os.idxOf y):lx ks x y:=by
 have hl:os.length=n:=by rw [o.len];omega
 have p:=o.isP
 have h1:=Pap.idx_lt p (v:=x) (by omega)
 have h2:=Pap.idx_lt p (v:=y) (by omega)
 have g:=List.pairwise_iff_getElem.mp o.srt _ _ h1 h2 h
 rw [List.getElem_idxOf,List.getElem_idxOf] at g
 exact g
theorem ag_true {ks:List Int} {n:Nat} {os:List Nat} {l:List (Nat×Nat)} (o:OrdN ks 0 n os) (hl:∀ c∈l,c.2 < c.1) (J:∀ c∈l,c.1 < n):agB os (l.map (ZEp ks))=true:=by
 have L:os.length=n:=by rw [o.len];omega
 unfold agB
 rw [List.all_map,List.all_eq_true]
 intro c hc
 have h1:=hl c hc
 have h2:=J c hc
 show (decide (Pap.at' (Pap.bk os) c.1 < Pap.at' (Pap.bk os) c.2) == decide (kat ks c.1 < kat ks c.2))=true
 rw [Pap.bk_at (by omega),Pap.bk_at (by omega),beq_iff_eq,decide_eq_decide]
 constructor
 .intro h
  have:=o.idx (by omega) (by omega) h
  unfold lx at this
  omega
 .intro h
  rcases Nat.lt_trichotomy (os.idxOf c.1) (os.idxOf c.2) with z | z | z
  .exact z
  .have O:=Pap.at_idx o.isP (v:=c.1) (by omega)
   have e2:=Pap.at_idx o.isP (v:=c.2) (by omega)
   rw [z,e2] at O
   omega
  .have:=o.idx (by omega) (by omega) z
   unfold lx at this
   omega
theorem sh_true {ks:List Int} {os:List Nat} {l:List (Nat×Nat)} (h:Adj os l):shB os (l.map (ZEp ks))=true:=by
 unfold shB
 rw [List.all_map,List.all_eq_true]
 intro i hi
 have z:=yBM.mp hi
 have hx:=Pap.at_lt (p:=os) (i:=i) (by omega)
 have J:=Pap.at_lt (p:=os) (i:=i+1) (by omega)
 show askB (l.map (ZEp ks)) (Pap.at' os i) (Pap.at' os (i+1))=true
 unfold askB
 rw [List.any_map,List.any_eq_true]
 exact ⟨_,h i _ _ hx J,decide_eq_true rfl⟩
theorem NL_nL (l:List Nat):NL l=nL l:=by rw [ZC5]
inductive Rch (ks:List Int) (R:Nat):List Nat->Nat->Nat->List Nat->Bool->List (Nat×Nat)->Prop
 | done {os:List Nat} {p e:Nat}:¬ p < e->Rch ks R os p e os true []
 | far {os:List Nat} {p e x:Nat}:p < e->R < os.length->os[os.length-R-1]?=some x->kat ks p < kat ks x->Rch ks R os p e os false [(p,x)]
 | step {os os':List Nat} {p e r:Nat} {b:Bool} {f l l':List (Nat×Nat)}:p < e->(∀ x,R < os.length->os[os.length-R-1]?=some x->¬ kat ks p < kat ks x /\ f=[(p,x)])->(¬ R < os.length->f=[]) ->
   Halv ks (os.drop (os.length-R)) p 0 (os.drop (os.length-R)).length r l->Rch ks R (insN os (os.length-R+r) p) (p+1) e os' b l'->Rch ks R os p e os' b (f++(l++l'))
theorem insN_srt {ks:List Int} {os:List Nat} {pl t:Nat} (Y:os.Pairwise (lx ks)) (U:∀ x∈os,x < pl) (h1:∀ i x,i < t->os[i]?=some x->¬ kat ks pl < kat ks x) (h2:∀ i x,t <= i->os[i]?=some x->kat ks pl < kat ks x):(insN os t pl).Pairwise (lx ks):=by
 have L:(os.take t++os.drop t).Pairwise (lx ks):=by rw [yBR];exact Y
 obtain ⟨p1,p2,p3⟩:=List.pairwise_append.mp L
 have ha:∀ x∈os.take t,lx ks x pl:=fun x hx=>by
  obtain ⟨i,hi⟩:=yBK hx
  have J:i < t:=by
   have:=(yAM.mp hi).1
   rw [yAS] at this
   omega
  rw [yBY J] at hi
  have z1:=h1 i x J hi
  have z2:=U x (yAO hi)
  unfold lx
  omega
 have Z:∀ y∈os.drop t,lx ks pl y:=fun y O=>by
  obtain ⟨i,hi⟩:=yBK O
  rw [yBH] at hi
  exact .inl (h2 (t+i) y (by omega) hi)
 unfold insN
 refine List.pairwise_append.mpr ⟨p1,List.pairwise_cons.mpr ⟨Z,p2⟩,fun x hx y O=>?_⟩
 rcases yAG.mp O with z | z
 .rw [z];exact ha x hx
 .exact p3 x hx y z
structure Rst (ks:List Int) (R:Nat) (os:List Nat) (p r:Nat) (f l:List (Nat×Nat)):Prop where
 bd:r <= (os.drop (os.length-R)).length
 lo:∀ i x,i < os.length-R+r->os[i]?=some x->¬ kat ks p < kat ks x
 hi:∀ i x,os.length-R+r <= i->os[i]?=some x->kat ks p < kat ks x
theorem Rst.of {ks:List Int} {R:Nat} {os:List Nat} {p r:Nat} {f l:List (Nat×Nat)} (Y:os.Pairwise (lx ks)) (h1:∀ x,R < os.length->os[os.length-R-1]?=some x->¬ kat ks p < kat ks x /\ f=[(p,x)]) (hh:Halv ks (os.drop (os.length-R)) p 0 (os.drop (os.length-R)).length r l):Rst ks R os p r f l:=by
 have J:(os.drop (os.length-R)).Pairwise (lx ks):=Y.sublist (List.drop_sublist _ _)
 obtain ⟨s1,s2⟩:=hh.spot J (yAD _)
 have Z:=hh.bounds (yAD _)
 have U:(os.drop (os.length-R)).length=os.length-(os.length-R):=yAR
 refine ⟨Z.2,fun i x hi hx=>?_,fun i x hi hx=>?_⟩
 .by_cases z:i < os.length-R
  .have hR:R < os.length:=by omega
   obtain ⟨y,L⟩:∃ y,os[os.length-R-1]?=some y:=⟨_,yAH (by omega)⟩
   have O:=(h1 y hR L).1
   by_cases e:i=os.length-R-1
   .rw [e,L] at hx;cases hx;exact O
   .have:=ZDs Y (show i < os.length-R-1 by omega) hx L
    unfold lx at this
    omega
  .exact s1 (i-(os.length-R)) x (yAD _) (by omega) (by rw [yBH,show os.length-R+(i-(os.length-R))=i by omega];exact hx)
 .have a0:=(yAM.mp hx).1
  exact s2 (i-(os.length-R)) x (by omega) (by rw [U];omega) (by rw [yBH,show os.length-R+(i-(os.length-R))=i by omega];exact hx)
theorem OrdN.insR {ks:List Int} {R p r:Nat} {os:List Nat} {f l:List (Nat×Nat)} (o:OrdN ks 0 p os) (h:Rst ks R os p r f l):OrdN ks 0 (p+1) (insN os (os.length-R+r) p) :=
 ⟨by rw [ZDj,o.len];omega,fun x=>by rw [insN_mem,o.mem];omega,insN_srt o.srt (fun x hx=>((o.mem x).mp hx).2) h.lo h.hi⟩
noncomputable def crs (ks:List Int) (p:Nat):Nat:=((List.range p).filter fun q=>decide (kat ks p < kat ks q)).length
theorem crs_os {ks:List Int} {p:Nat} {os:List Nat} (o:OrdN ks 0 p os):crs ks p=(os.filter fun q=>decide (kat ks p < kat ks q)).length:=by
 have z:os.Perm (List.range p):=by
  refine (List.perm_ext_iff_of_nodup ?_ List.nodup_range).mpr fun x=>?_
  .exact o.srt.imp fun {x y} h e=>by subst e;unfold lx at h;omega
  .rw [o.mem,yBM];omega
 unfold crs
 exact ((z.filter _).length_eq).symm
theorem filter_all {α:Type} {f:α->Bool}:∀ {l:List α},(∀ x∈l,f x=true)->l.filter f=l:=fun h=>List.filter_eq_self.mpr h
theorem filter_no {α:Type} {f:α->Bool} {l:List α} (h:∀ x∈l,f x=false):l.filter f=[]:=List.filter_eq_nil_iff.mpr fun x hx=>by rw [h x hx];decide
theorem Rst.crs {ks:List Int} {R p r:Nat} {os:List Nat} {f l:List (Nat×Nat)} (o:OrdN ks 0 p os) (h:Rst ks R os p r f l):crs ks p <= R:=by
 rw [crs_os o]
 have e:os=os.take (os.length-R+r)++os.drop (os.length-R+r):=(yBR _ _).symm
 rw [e,List.filter_append,yAC,filter_no (l:=os.take (os.length-R+r)) fun x hx=>?_]
 .have h1:=List.length_filter_le (fun q=>decide (kat ks p < kat ks q)) (os.drop (os.length-R+r))
  rw [yAR] at h1
  rw [yBL]
  omega
 .obtain ⟨i,hi⟩:=yBK hx
  have z:=(yAM.mp hi).1
  rw [yAS] at z
  rw [yBY (by omega)] at hi
  exact decide_eq_false (h.lo i x (by omega) hi)
theorem far_crs {ks:List Int} {R p x:Nat} {os:List Nat} (o:OrdN ks 0 p os) (U:R < os.length) (hx:os[os.length-R-1]?=some x) (O:kat ks p < kat ks x):R < crs ks p /\ ∀ y∈os.drop (os.length-R-1),kat ks p < kat ks y:=by
 have J:∀ y∈os.drop (os.length-R-1),kat ks p < kat ks y:=fun y L=>by
  obtain ⟨i,hi⟩:=yBK L
  rw [yBH] at hi
  by_cases z:i=0
  .rw [z,Nat.add_zero,hx] at hi;cases hi;exact O
  .have:=ZDs o.srt (show os.length-R-1 < os.length-R-1+i by omega) hx hi
   unfold lx at this
   omega
 refine ⟨?_,J⟩
 rw [crs_os o]
 have e:os=os.take (os.length-R-1)++os.drop (os.length-R-1):=(yBR _ _).symm
 rw [e,List.filter_append,yAC,filter_all (l:=os.drop (os.length-R-1)) fun y L=>decide_eq_true (J y L),yAR]
 omega
theorem insR_adj {ks:List Int} {R p r:Nat} {os:List Nat} {f l pr:List (Nat×Nat)} (J:∀ x∈os,x < p) (h1:∀ x,R < os.length->os[os.length-R-1]?=some x->¬ kat ks p < kat ks x /\ f=[(p,x)]) (hh:Halv ks (os.drop (os.length-R)) p 0 (os.drop (os.length-R)).length r l) (ha:Adj os pr):Adj (insN os (os.length-R+r) p) (pr++(f++l)):=by
 have hb:=hh.bounds (yAD _)
 obtain ⟨Y,U⟩:=hh.asked (yAD _)
 have a0:(os.drop (os.length-R)).length=os.length-(os.length-R):=yAR
 have htl:os.length-R+r <= os.length:=by omega
 generalize ht:os.length-R+r=t at htl ⊢
 intro i x y hx z
 rw [insN_get htl] at hx z
 by_cases c1:i+1 < t
 .rw [if_pos (by omega)] at hx
  rw [if_pos c1] at z
  exact yBX _ (ha i x y hx z)
 rw [if_neg c1] at z
 by_cases c2:i+1=t
 .rw [if_pos (by omega)] at hx
  rw [if_pos c2] at z
  cases z
  have L:=J x (yAO hx)
  rw [show max x p=p by omega,show min x p=x by omega]
  refine yAW _ ?_
  by_cases hr:0 < r
  .exact yAW _ (Y x hr (by rw [yBH,show os.length-R+(r-1)=i by omega];exact hx))
  .have:=(h1 x (by omega) (by rw [show os.length-R-1=i by omega];exact hx)).2
   rw [this]
   exact yBX _ yAJ
 rw [if_neg c2] at z
 rw [if_neg (by omega)] at hx
 rw [show i+1-1=i by omega] at z
 by_cases c3:i=t
 .rw [if_pos c3] at hx
  cases hx
  have O:=J y (yAO z)
  rw [show max p y=p by omega,show min p y=y by omega]
  have Z:=(yAM.mp z).1
  exact yAW _ (yAW _ (U y (by omega) (by rw [yBH,show os.length-R+r=i by omega];exact z)))
 .rw [if_neg c3] at hx
  exact yBX _ (ha (i-1) x y hx (by rw [show i-1+1=i by omega];exact z))
noncomputable def cnt1 (l:List (Nat×Nat)) (k:Nat):Nat:=(l.filter fun c=>decide (c.1=k)).length
theorem ZCd (l m:List (Nat×Nat)) (k:Nat):cnt1 (l++m) k=cnt1 l k+cnt1 m k:=by unfold cnt1;rw [List.filter_append,yAC]
theorem ZEL (l:List (Nat×Nat)) (k:Nat):cnt1 l k <= l.length:=List.length_filter_le _ _
theorem ZDn {l:List (Nat×Nat)} {k:Nat} (h:∀ c∈l,c.1≠k):cnt1 l k=0:=by
 unfold cnt1
 rw [filter_no fun c hc=>decide_eq_false (h c hc)]
 rfl
theorem bln_mono {m n:Nat} (h:m <= n):bln m <= bln n:=by
 have h1:(n:Int) < 2 ^ bln n:=(ZDp (n:=(n:Int)) (k:=bln n) (by omega)).mp (yAA _)
 exact (ZDp (n:=(m:Int)) (k:=bln n) (by omega)).mpr (by omega)
structure RchAll (ks:List Int) (R e:Nat) (os':List Nat) (b:Bool) (l:List (Nat×Nat)) (pr:List (Nat×Nat)) (p:Nat):Prop where
 each:∀ c∈l,c.2 < c.1 /\ p <= c.1 /\ c.1 < e /\ c.1 <= os'.length
 few:∀ k,cnt1 l k <= 1+bln R
 tru:b=true->OrdN ks 0 (max p e) os' /\ Adj os' (pr++l) /\ ∀ q,p <= q->q < e->crs ks q <= R
 fls:b=false->p <= os'.length /\ os'.length < e /\ OrdN ks 0 os'.length os' /\ R < os'.length /\ R < crs ks os'.length /\ (∀ q,p <= q->q < os'.length->crs ks q <= R) /\ ∀ y∈os'.drop (os'.length-R-1),kat ks os'.length < kat ks y
theorem Rch.all {ks:List Int} {R p e:Nat} {os os':List Nat} {b:Bool} {l:List (Nat×Nat)} (h:Rch ks R os p e os' b l):∀ pr,OrdN ks 0 p os->Adj os pr->RchAll ks R e os' b l pr p /\ os.length <= os'.length:=by
 induction h with
 | @done os p e n=>
  intro pr o ha
  refine ⟨⟨fun c hc=>(nomatch hc),fun k=>by unfold cnt1;simp,fun _=>⟨by rw [show max p e=p by omega];exact o,by rw [yBD];exact ha,fun q h1 h2=>by omega⟩,fun z=>by cases z⟩,yAA _⟩
 | @far os p e x hp hR hx hk=>
  intro pr o ha
  have hl:os.length=p:=by rw [o.len];omega
  obtain ⟨f1,f2⟩:=far_crs o hR hx hk
  have Y:=((o.mem x).mp (yAO hx)).2
  refine ⟨⟨fun c hc=>?_,fun k=>yAF (ZEL _ _) (by simp),(fun z=>by cases z),fun _=>⟨by omega,by omega,by rw [hl];exact o,hR,by rw [hl];exact f1,fun q h1 h2=>by omega,by rw [hl] at f2 ⊢;exact f2⟩⟩,yAA _⟩
  rw [yAP.mp hc]
  exact ⟨Y,yAA _,hp,by omega⟩
 | @step os os' p e r b f l l' hp h1 h2 hh hr ih=>
  intro pr o ha
  have hl:os.length=p:=by rw [o.len];omega
  have J:∀ x∈os,x < p:=fun x hx=>((o.mem x).mp hx).2
  have Z:=Rst.of (f:=f) (l:=l) o.srt h1 hh
  obtain ⟨A,a0⟩:=ih (pr++(f++l)) (o.insR Z) (insR_adj J h1 hh ha)
  rw [ZDj] at a0
  have L:f.length <= 1 /\ ∀ c∈f,c.1=p /\ c.2 < p:=by
   by_cases z:R < os.length
   .obtain ⟨y,hy⟩:∃ y,os[os.length-R-1]?=some y:=⟨_,yAH (by omega)⟩
    rw [(h1 y z hy).2]
    refine ⟨by simp,fun c hc=>?_⟩
    rw [yAP.mp hc]
    exact ⟨rfl,J y (yAO hy)⟩
   .rw [h2 z]
    exact ⟨by simp,fun c hc=>(nomatch hc)⟩
  have O:∀ c∈l,c.1=p /\ c.2 < p:=fun c hc=>⟨(hh.each c hc).1,J _ (List.mem_of_mem_drop (hh.each c hc).2)⟩
  have a1:l.length <= bln R:=yAF hh.few (bln_mono (by rw [yAR];omega))
  refine ⟨⟨fun c hc=>?_,fun k=>?_,fun hb=>?_,fun hb=>?_⟩,by omega⟩
  .rcases yBB.mp hc with z | z
   .have:=L.2 c z
    exact ⟨by omega,by omega,by omega,by omega⟩
   rcases yBB.mp z with z | z
   .have:=O c z
    exact ⟨by omega,by omega,by omega,by omega⟩
   .have:=A.each c z
    exact ⟨this.1,by omega,this.2.2.1,this.2.2.2⟩
  .rw [ZCd,ZCd]
   by_cases hk:k=p
   .rw [ZDn (l:=l') fun c hc=>by have:=A.each c hc;omega]
    have:=ZEL f k
    have:=ZEL l k
    omega
   .rw [ZDn (l:=f) fun c hc=>by have:=L.2 c hc;omega,ZDn (l:=l) fun c hc=>by have:=O c hc;omega]
    have:=A.few k
    omega
  .obtain ⟨t1,U,t3⟩:=A.tru hb
   rw [show max (p+1) e=max p e by omega] at t1
   refine ⟨t1,by rw [show pr++(f++(l++l'))=pr++(f++l)++l' by simp only [yAV]];exact U,fun q z1 z2=>?_⟩
   by_cases hq:q=p
   .rw [hq];exact Z.crs o
   .exact t3 q (by omega) z2
  .obtain ⟨t1,U,t3,t4,t5,t6,t7⟩:=A.fls hb
   refine ⟨by omega,U,t3,t4,t5,fun q z1 z2=>?_,t7⟩
   by_cases hq:q=p
   .rw [hq];exact Z.crs o
   .exact t6 q (by omega) z2
theorem onceR {M:Hp->Prop} (P:Hp->List (Nat×Nat)->Prop) {G:Prop} (h:(∀ x f,P x f->M x)->G) (t:∀ x f,P x f->M x):G:=h t
theorem cutV_dr {xs:List V} {n:Nat} (h:n <= xs.length):cutV xs (some (n:Int)) none=xs.drop n:=by
 unfold cutV
 rw [HT.sIx_none,HT.sIx_nat,yCM h]
 exact yCD (by rw [yAR];exact yAA _)
theorem nL_drop (os:List Nat) (n:Nat):(nL os).drop n=nL (os.drop n):=by unfold nL;rw [List.map_drop]
theorem nats_of {ms:List Int} {os:List Nat} (h:ms.Perm (os.map fun x:Nat=>(x:Int))) (U:ms.Pairwise (· <= ·)) (nd:os.Nodup):∃ so:List Nat,ms=so.map (fun x:Nat=>(x:Int)) /\ so.Perm os /\ so.Pairwise (· < ·):=by
 have O:∀ x∈ms,0 <= x:=fun x hx=>by
  obtain ⟨y,_,rfl⟩:=yBJ.mp (h.mem_iff.mp hx)
  omega
 have L:(ms.map Int.toNat).Perm os:=by
  have:=h.map Int.toNat
  rw [List.map_map,show (Int.toNat ∘ fun x:Nat=>(x:Int))=id from funext fun x=>Int.toNat_natCast x,List.map_id] at this
  exact this
 refine ⟨ms.map Int.toNat,?_,L,?_⟩
 .rw [List.map_map]
  exact (List.map_id ms).symm.trans (List.map_congr_left fun x hx=>(Int.toNat_of_nonneg (O x hx)).symm)
 .have J:(ms.map Int.toNat).Nodup:=L.nodup_iff.mpr nd
  have z:(ms.map Int.toNat).Pairwise (· <= ·):=List.pairwise_map.mpr (U.imp fun {x y} h=>by omega)
  exact (z.and J).imp fun {x y} h=>by
   have h1:=h.1
   have h2:=h.2
   omega
theorem ZCa (f:Nat->Bool) (j:Nat):(List.range (j+1)).filter f=(List.range j).filter f++(if f j=true then [j] else []):=by
 rw [List.range_succ,List.filter_append]
 congr 1
 rw [List.filter_cons]
 split <;> rfl
theorem filt_first {f:Nat->Bool} {n m:Nat} (hm:m < n) (h1:f m=true) (h2:∀ q,q < m->f q=false):∃ r,(List.range n).filter f=m::r:=by
 have h:=List.head?_filter (p:=f) (l:=List.range n)
 rw [(List.find?_range_eq_some (p:=f) (n:=n) (i:=m)).mpr ⟨h1,yBM.mpr hm,fun j z=>by rw [h2 j z];rfl⟩] at h
 cases e:(List.range n).filter f with
 | nil=>rw [e] at h;cases h
 | cons x r=>rw [e] at h;cases h;exact ⟨r,rfl⟩
theorem ZD9 (l:List Nat) (j:Nat):nL l++[V.int j]=nL (l++[j]):=by unfold nL;rw [yBI];rfl
theorem onceW {M:Hp->Nat->Prop} (P:Hp->Nat->Prop) {G:Prop} (h:(∀ x n,P x n->M x n)->G) (t:∀ x n,P x n->M x n):G:=h t
theorem Rch.len {ks:List Int} {R p e:Nat} {os os':List Nat} {b:Bool} {l:List (Nat×Nat)} (h:Rch ks R os p e os' b l):l.length <= (e-p) * (1+bln R):=by
 induction h with
 | done n=>simp
 | @far os p e x hp hR hx hk=>
  rw [yBZ]
  have:1 * 1 <= (e-p) * (1+bln R):=Nat.mul_le_mul (by omega) (by omega)
  omega
 | @step os os' p e r b f l l' hp h1 h2 hh hr ih=>
  have hl:l.length <= bln R:=yAF hh.few (bln_mono (by rw [yAR];omega))
  have L:f.length <= 1:=by
   by_cases z:R < os.length
   .obtain ⟨y,J⟩:∃ y,os[os.length-R-1]?=some y:=⟨_,yAH (by omega)⟩
    rw [(h1 y z J).2];simp
   .rw [h2 z];simp
  rw [yAC,yAC,show e-p=(e-(p+1))+1 by omega,Nat.succ_mul]
  omega
theorem bln7 {R:Nat} (h:R <= 119):bln R <= 7:=by
 refine (ZDp (n:=(R:Int)) (k:=7) (by omega)).mpr ?_
 have:(2:Int) ^ 7=128:=by decide
 omega
theorem maxN (l:List Nat):∃ en:Nat,maxD 0 (l.map fun x:Nat=>(x:Int))=en /\ (∀ x∈l,x <= en) /\ (en=0∨en∈l):=by
 cases l with
 | nil=>exact ⟨0,rfl,fun x h=>(nomatch h),.inl rfl⟩
 | cons a r=>
  obtain ⟨h1,h2,h3⟩:=ZCX (r.map fun x:Nat=>(x:Int)) (a:Int)
  have J:maxD 0 ((a::r).map fun x:Nat=>(x:Int))=(r.map fun x:Nat=>(x:Int)).foldl (fun m y=>if m < y then y else m) (a:Int):=rfl
  rw [J]
  generalize (r.map fun x:Nat=>(x:Int)).foldl (fun m y=>if m < y then y else m) (a:Int)=z at h1 h2 h3
  refine ⟨z.toNat,by omega,fun x hx=>?_,.inr ?_⟩
  .rcases yAG.mp hx with w | w
   .omega
   .have:=h3 _ (yBJ.mpr ⟨x,w,rfl⟩)
    omega
  .rcases h1 with w | w
   .rw [w,Int.toNat_natCast];exact yAJ
   .obtain ⟨x,hx,e⟩:=yBJ.mp w
    rw [<- e,Int.toNat_natCast];exact yAL _ hx
theorem onceN {M:Nat->Prop} (P:Nat->Prop) {G:Prop} (h:(∀ x,P x->M x)->G) (t:∀ x,P x->M x):G:=h t
theorem SitL.clear {CA CR:Addr} {H:Hp} {ks:List Int} {xs:RowC} {a rl ru tl g lg:Addr} {pr:List (Nat×Nat)} (h:SitL CA CR H ks xs a rl ru tl g lg pr):SitL CA CR (L2.upd H lg (.lst [])) ks ⟨xs.v,pr.length⟩ a rl ru tl g lg pr:=by
 obtain ⟨ws,hl,_⟩:=h.hlg
 have k:∀ t o,H t=some o->(∀ x,o≠.lst x)->L2.upd H lg (.lst []) t=some o:=fun t o z no=>by
  rw [ZAG (fun e=>by rw [e,hl] at z;exact no _ (Option.some.inj z).symm)];exact z
 have J:lg≠a:=h.ha.ne hl fun _ _ _ z=>by cases z
 have U:rl≠lg:=fun z=>h.ne.2.1 (by rw [z];exact yAL _ yAJ)
 refine ⟨h.ha.keep (ZAG (Ne.symm J)),by rw [ZAG U];exact h.hrl,?_,?_,h.len,fun i c Z=>?_,⟨[],ZAD,yAA _,by rw [List.drop_length];exact ⟨rfl,fun j p q h=>by simp at h⟩⟩,?_,h.ne⟩
 .obtain ⟨d1,f1,e1,e2,e3⟩:=h.hru.ex
  exact ⟨d1,f1,k _ _ e1 (fun _ z=>by cases z),e2,e3⟩
 .exact h.clo.mono fun b o Y=>k _ _ Y (fun _ z=>by cases z)
 .obtain ⟨r,O,L⟩:=h.row i c Z
  exact ⟨r,O,k _ _ L (fun _ z=>by cases z)⟩
 .obtain ⟨ts,O,L⟩:=h.htl
  exact ⟨ts,by rw [ZAG (Ne.symm h.ne.1)];exact O,L.keep fun t x z=>k _ _ z (fun _ z=>by cases z)⟩
theorem onceS8 {M:Hp->St->Prop} (P:Hp->St->Prop) {G:Prop} (h:(∀ x s,P x s->M x s)->G) (t:∀ x s,P x s->M x s):G:=h t
structure Fin38 (CA CR:Addr) (X:Hp) (ks:List Int) (v:List V) (ak rl ru tl g lg ky al ol:Addr) (R:Nat) (os:List Nat) (l pr0:List (Nat×Nat)) (ts0:List V):Prop where
 st:SitL CA CR X ks ⟨v,pr0.length⟩ ak rl ru tl g lg (pr0++l)
 al:X al=some (.lst ts0)
 tl:Told X ks pr0 ts0
 ol:X ol=some (.lst (nL os))
 ky:X ky=some (.lst (ks.map V.int))
 rch:Rch ks R [] 0 ks.length os true l
 R1:R <= 119
 p1:pr0.length <= 8000
 p2:∀ c∈pr0,c.2 < c.1 /\ c.1 < ks.length
noncomputable abbrev fF (p:Int) (l:Addr):List (Str×V):=putF "others" (.ref l) [("place",.int p)]
noncomputable def ZDY (C:Addr):Sp:=fun vs H Q _=>∃ (e l:Addr) (p:Int) (xs:List V),vs=[.ref e,.int p,.ref l] /\ H e=some (excM e (.ref C) none) /\ p.natAbs.log2 < 1920 /\ H l=some (.lst xs) /\
 ∀ d l2 H',(∀ b o,b≠e->H b=some o->H' b=some o)->H' e=some (excM e (.ref C) (some d))->d≠e->l2≠e->H d=none->H l2=none->H' d=some (xdM d (fF p l2))->H' l2=some (.lst xs)->Q .non H'
noncomputable def ZCx (CA CR CT:Addr):Sp:=fun vs H Q E=>∃ (ks:List Int) (xs:RowC) (a rl ru tl g lg:Addr) (pr:List (Nat×Nat)) (R:Nat),vs=[.ref a,.int R] /\ SitL CA CR H ks xs a rl ru tl g lg pr /\ ks.length <= 119 /\ pr.length <= 25000 /\ R <= 200 /\
 (∀ ol H' os l,Fr [a,lg,tl] H H'->H ol=none->ol∉[a,lg,tl]->H' ol=some (.lst (nL os))->Rch ks R [] 0 ks.length os true l->SitL CA CR H' ks xs a rl ru tl g lg (pr++l)->Q (.ref ol) H') /\
 (∀ d l2 H' os so l,Fr [a,lg,tl] H H'->Rch ks R [] 0 ks.length os false l->SitL CA CR H' ks xs a rl ru tl g lg (pr++l)->H' d=some (xdM d (fF os.length l2))->H' l2=some (.lst (nL so))->so.Perm (os.drop (os.length-R-1))->so.Pairwise (· < ·)->E (.ref CT) (some d) H')
noncomputable def ZCL:Sp:=fun vs H Q _=>∃ (ky:Addr) (ks:List Int),vs=[.ref ky] /\ H ky=some (.lst (ks.map V.int)) /\ ks.length <= 119 /\ ∀ l H',Same H H'->H l=none->H' l=some (.lst (nL ((List.range ks.length).map (crs ks))))->Q (.ref l) H'
noncomputable def ZDZ (CA CR CT:Addr):Sp:=fun vs H Q _=>∃ (ks:List Int) (xs:RowC) (a rl ru tl g lg:Addr) (pr:List (Nat×Nat)) (R:Nat),vs=[.ref a,.int R] /\ SitL CA CR H ks xs a rl ru tl g lg pr /\ ks.length <= 119 /\ pr.length <= 25000 /\ R <= 200 /\
 (∀ t ol H' os l,Fr [a,lg,tl] H H'->H' t=some (.tup [.str "paper",.ref ol])->ol∉[a,lg,tl]->H' ol=some (.lst (nL os))->Rch ks R [] 0 ks.length os true l->SitL CA CR H' ks xs a rl ru tl g lg (pr++l)->Q (.ref t) H') /\
 (∀ t e d l2 H' os so l,Fr [a,lg,tl] H H'->H' t=some (.tup [.str "refused",.ref e])->H' e=some (excO e (.ref CT) (some d))->H' d=some (xdM d (fF os.length l2))->H' l2=some (.lst (nL so))->Rch ks R [] 0 ks.length os false l->SitL CA CR H' ks xs a rl ru tl g lg (pr++l)->so.Perm (os.drop (os.length-R-1))->so.Pairwise (· < ·)->Q (.ref t) H')
noncomputable def ZD7 (CT:Addr):Sp:=fun vs H Q _=>∃ (e d l2 cl ky:Addr) (ks:List Int) (R:Nat) (os so:List Nat),vs=[.ref e,.ref cl,.ref ky,.int R] /\ H e=some (excO e (.ref CT) (some d)) /\ H d=some (xdM d (fF os.length l2)) /\ H l2=some (.lst (nL so)) /\ H cl=some (.lst (nL ((List.range ks.length).map (crs ks)))) /\ H ky=some (.lst (ks.map V.int)) /\ ks.length <= 119 /\
 os.length < ks.length /\ R < os.length /\ R < crs ks os.length /\ (∀ q,q < os.length->crs ks q <= R) /\ (∀ y∈so,y < os.length /\ kat ks os.length < kat ks y) /\ so.length=R+1 /\ so.Pairwise (· < ·) /\ ∀ H',Same H H'->Q (.bl true) H'
theorem isX {R:Bool->Prop} {K:W.Frag} {H:Hp} {ea C:Addr} {c:V} {b:Bool} {dd:Option Addr} (h:H ea=some (excO ea (.ref C) dd)) (x:ExcC K C) (L:PySem.W.hasDictIn K C=true) (k:PySem.W.kitOne K (.ref C) (cval c)=some b) (hc:ZDL c=true) (q:R b) :
  ∃ a z c' b' J,[V.ref ea,c]=[.ref a,c'] /\ ZDL c'=true /\ H a=some (excO a (.ref z) J) /\ ExcC K z /\ PySem.W.hasDictIn K z=true /\ PySem.W.kitOne K (.ref z) (cval c')=some b' /\ R b':=⟨ea,C,c,b,dd,rfl,hc,h,x,L,k,q⟩
noncomputable def ZCf:Sp:=fun vs H Q _=>∃ (lg:Addr) (ks:List Int) (n R:Nat) (os:List Nat) (b:Bool) (l:List (Nat×Nat)) (ws:List V),vs=[.ref lg,.int n,.int R] /\ H lg=some (.lst ws) /\ Told H ks l ws /\ Rch ks R [] 0 n os b l /\ n <= 200 /\ ∀ t ol H',Same H H'->H' t=some (.tup [.int 0,.ref ol])->H' ol=some (.lst (nL os))->Q (.ref t) H'
noncomputable def ZD6:Sp:=fun vs H Q _=>∃ (lg:Addr) (ks:List Int) (R m:Nat) (pr:List (Nat×Nat)) (ws:List V),vs=[.ref lg,.int R,.int m] /\ H lg=some (.lst ws) /\ Told H ks pr ws /\ (∀ c∈pr,c.1 <= m) /\ (∀ k,cnt1 pr k <= 1+bln R) /\ pr.length <= 30000 /\ ∀ H',Same H H'->Q (.bl true) H'
section
variable {P:Program} {w:World} {K:W.Frag} {mg:Str->Option Value} {base:Heap} {C_Asker C_AskedRule C_HallError C_NoPaper C_NoPlace C_TooFar C_Spent:Addr} {cc_teller Pt_teller:Addr}
theorem ok_teller {f:Addr} {fd:FuncData} (F:Fun K "_law_teller" "_law_teller" ZBn f fd) (z:fd.code=.ref cc_teller) (C:PySem.W.CodeHd base cc_teller Pt_teller) (B:ZDy mg base):FnOk P w K mg base CX0 1 f fd ["_law_log"] (ZEO Pt_teller (ZEz ZAN) "_law_teller_here" "_law_teller.<locals>._law_teller_here" (ZAO ZAN) (ZAM ZAN) (ZAB ZAN) ["_law_log"] [0] 1) :=
 teller_ok F sc_teller z C B rfl (fun _ _=>rfl) rfl rfl (fun _ _=>rfl) rfl (by decide) (by decide) (by decide +kernel) (by decide +kernel) (by decide +kernel) (hix_of rfl) rfl
theorem clo_teller (T:Bt K mg C_Asker C_AskedRule C_HallError C_NoPaper C_NoPlace C_TooFar C_Spent):CloOk P w K mg base 1 (ZBX):=by
 refine clo_of (k:=0) (iname:="_law_teller_here") (iq:="_law_teller.<locals>._law_teller_here") (ip:=ZAO ZAN) (ib:=ZAM ZAN) (isc:=ZAB ZAN) csc_teller (fun f vs H Q h=>?_) (fun f vs H Q h=>?_) (fun cl a3 pm a2 c' us hl=>match us,hl with | [_,_],_=>rfl) (fun g cs cl cd A outer s H vs Q hr C h=>?_)
 .obtain ⟨g,x,y,lg,k,k2,i,j,ws,rfl,rfl,J,hx,hy,hlg,U,q⟩:=h
  exact ⟨_,_,rfl,J⟩
 .obtain ⟨g,x,y,lg,k,k2,i,j,ws,rfl,rfl,J,hx,hy,hlg,U,q⟩:=h
  rfl
 obtain ⟨g,x,y,lg,k,k2,i,j,ws,eg,rfl,J,hx,hy,hlg,U,q⟩:=h
 cases eg
 obtain ⟨a1,C2⟩:=J
 obtain rfl:=C.inj' C2
 refine ⟨_,(ZAC (ZAQ (i:=2) csc_teller.nd rfl (by walk_at "o") (ZC3 ZDw (ZA6 ZDS (pv 0) ZAJ (fun _ _=>rfl)) (ZA6 ZDS (pv 1) ZAJ (fun _ _=>rfl)) (ZAT _)))
  (ZAC (ZBL (ZDI PySem.F.plainAttrs_list PySem.F.slot_list_append PySem.F.type_list_append ZB2 (pv 3) (ZAA (ZA1 (ZAA (ZA6 ZDS (pv 0) ZAJ (fun _ _=>rfl)) (ZAA (ZA6 ZDS (pv 1) ZAJ (fun _ _=>rfl)) (ZAA (pv 2) ZAE)))) ZAE)))
  (ZAH (ZAS (pv 2))))),?_⟩
 walk_at "rd"
 have cells:=C.cells
 have O:hid cl H x=some (.tup [.int k,.int i]):=ZBq cells hx (by intro ob z;cases z)
 have Y:hid cl H y=some (.tup [.int k2,.int j]):=ZBq cells hy (by intro ob z;cases z)
 have L:hid cl H lg=some (.lst ws):=ZBq cells hlg (by intro ob z;cases z)
 refine ZCn (SqT.of O) (ZAl (by decide) rfl) (ZCn (SqT.of Y) (ZAl (by decide) rfl) ⟨_,_,rfl,rfl,.inl ⟨rfl,_,SqL.of L⟩,ZCn (SqT.of O) (ZAl (by decide) rfl) (ZCn (SqT.of Y) (ZAl (by decide) rfl) ⟨ZAW (by decide),fun t Z=>?_⟩)⟩)
 have a0:t≠lg:=fun z=>by rw [z,L] at Z;cases Z
 refine ⟨lg,ws,_,rfl,rfl,ZAL Z _ _ _ L,ZDM (by omega),fun hn=>?_⟩
 have nt:=hn.ne (b:=t) (by rw [ZAG a0,ZAD])
 have nl:=hn.ne (b:=lg) ZAD
 rw [back_upd nl,back_upd nt,back_hid]
 exact q t (hid_none cells Z nt)
theorem ok_TooFar_init {f:Addr} {fd:FuncData} (F:Fun K "__init__" "TooFar.__init__" ZAt f fd) (T:Bt K mg C_Asker C_AskedRule C_HallError C_NoPaper C_NoPlace C_TooFar C_Spent)
 :FnOk P w K mg base CX0 1 f fd ["self","place","others"] (ZDY C_TooFar):=by
 refine F.ok sc_TooFar_init (fun vs H Q E h=>?_) (fun a3 A outer s H vs Q E hr h=>?_)
 .obtain ⟨e,l,p,xs,rfl,Z,hp,hl,q⟩:=h
  rfl
 obtain ⟨e,l,p,xs,rfl,Z,hp,hl,q⟩:=h
 refine ⟨_,(ZAC (ZBL (pe_clsV T.xb_HallError T.m_HallError rfl (ZAA (pv 0) (ZAA (pe_fs2 ZC2 (pv 1) ZC2) ZAE))))
  (ZAC (ps_xfld (pv 0) (pv 1) rfl)
  (ZAH (ps_xfld (pv 0) (ZBJ ZBK rfl T.b_list PyProof.Rows.boot_list (ZAA (pv 2) ZAE)) rfl)))),?_⟩
 walk_at "rd"
 refine ⟨hp,fun y=>⟨e,_,none,_,rfl,Z,T.xi_TooFar,e,_,none,rfl,Z,T.xk_TooFar,T.n_TooFar_place,.inl ⟨rfl,fun d hd L=>?_⟩⟩⟩
 have a1:l≠e:=fun z=>by rw [z,Z] at hl;cases hl
 have a2:l≠d:=ZAF hl hd
 refine ⟨l,xs,rfl,.inl (SqL.of (by rw [ZAG a1,ZAG a2];exact hl)),fun l2 J=>?_⟩
 have O:l2≠e:=fun z=>by rw [z,ZAD] at J;cases J
 have U:l2≠d:=fun z=>by rw [z,ZAG L,ZAD] at J;cases J
 refine ⟨e,_,_,rfl,by rw [ZAG (Ne.symm O),ZAD],T.xk_TooFar,T.n_TooFar_others,.inr ⟨d,_,rfl,L,by rw [ZAG (Ne.symm U),ZAG L,ZAD],by rw [yBZ];decide,?_⟩⟩
 refine q d l2 _ (fun b o n h=>?_) (by rw [ZAG (Ne.symm L),ZAG (Ne.symm O),ZAD]) L O hd (by rw [ZAG O,ZAG U] at J;exact J) ZAD (by rw [ZAG U,ZAD])
 have Y:b≠d:=ZAF h hd
 have a0:b≠l2:=fun z=>by rw [<- z,ZAG n,ZAG Y,h] at J;cases J
 rw [ZAG Y,ZAG a0,ZAG n,ZAG Y]
 exact h
theorem ok_Asker_init {f:Addr} {fd:FuncData} {dv:List Value} (F:FunD K "__init__" "Asker.__init__" ZA0 f fd dv) (T:Bt K mg C_Asker C_AskedRule C_HallError C_NoPaper C_NoPlace C_TooFar C_Spent)
 :FnOk P w K mg base CX0 1 f fd ["self","row","rule","most"] (ZCM C_Asker):=by
 refine F.ok sc_Asker_init (fun vs H Q E h=>?_) (fun a0 A outer s H vs Q E hr h=>?_)
 .obtain ⟨x,dx,r,ru,m,xs,rfl,hx,J,q⟩:=h
  rfl
 obtain ⟨x,dx,r,ru,m,xs,rfl,hx,J,q⟩:=h
 refine ⟨_,(ZAC (ZDQ (pv 0) (ZBJ ZBK rfl T.b_list PyProof.Rows.boot_list (ZAA (pv 1) ZAE)) rfl)
  (ZAC (ZDQ (pv 0) (pv 2) rfl)
  (ZAC (ZDQ (pv 0) (pv 3) rfl)
  (ZAC (ZDQ (pv 0) ZAJ rfl)
  (ZAH (ZDQ (pv 0) (ZBv ZAE) rfl)))))),?_⟩
 walk_at "rd"
 refine ⟨r,xs,rfl,.inl (SqL.of J),fun rl hrl=>?_⟩
 have z:x≠rl:=ZAF hx hrl
 obtain ⟨H1,e1,s1,h1⟩:=newH hrl (.lst xs)
 rw [e1];clear e1
 refine setX (s1 _ _ hx) T.cl_Asker T.n_Asker_row (by decide) fun H2 x2 k2=>?_
 walk_at "rd"
 refine setX x2 T.cl_Asker T.n_Asker_rule putL1 fun H3 x3 k3=>?_
 walk_at "rd"
 refine setX x3 T.cl_Asker T.n_Asker_most putL2 fun H4 x4 Y=>?_
 walk_at "rd"
 refine setX x4 T.cl_Asker T.n_Asker_asked putL3 fun H5 x5 k5=>?_
 walk_at "rd"
 refine ⟨ZAW (by decide),fun tl htl=>?_⟩
 obtain ⟨H6,e6,U,h6⟩:=newH htl (.lst [])
 rw [e6];clear e6
 have L:x≠tl:=ZAF x5 htl
 refine setX (U _ _ x5) T.cl_Asker T.n_Asker_told putL4 fun H7 x7 O=>?_
 have up:∀ b o,b≠x->H b=some o->H5 b=some o:=fun b o n e=>by rw [k5 b n,Y b n,k3 b n,k2 b n];exact s1 b o e
 have Z:H5 rl=some (.lst xs):=by rw [k5 rl (Ne.symm z),Y rl (Ne.symm z),k3 rl (Ne.symm z),k2 rl (Ne.symm z)];exact h1
 refine q rl tl H7 (fun b o n e=>by rw [O b n];exact U _ _ (up b o n e)) hrl ?_ (ZAF Z htl) ((Ins.of x7 (yAF putL5 (by decide))).congr fA_canon) (by rw [O rl (Ne.symm z)];exact U _ _ Z) (by rw [O tl (Ne.symm L)];exact h6)
 cases e:H tl with
 | none=>rfl
 | some o=>rw [up tl o (Ne.symm L) e] at htl;cases htl
theorem ok_Asker_many {f:Addr} {fd:FuncData} (F:Fun K "many" "Asker.many" ZAz f fd) (T:Bt K mg C_Asker C_AskedRule C_HallError C_NoPaper C_NoPlace C_TooFar C_Spent)
 :FnOk P w K mg base CX0 1 f fd ["self"] (ZEl C_Asker):=by
 refine F.ok sc_Asker_many (fun vs H Q E h=>?_) (fun z A outer s H vs Q E J h=>?_)
 .obtain ⟨a,rl,ru,tl,m,n,xs,rfl,ha,hrl,q⟩:=h
  rfl
 obtain ⟨a,rl,ru,tl,m,n,xs,rfl,ha,hrl,q⟩:=h
 refine ⟨_,(ZAH (ZAS (ZAI ZAK rfl T.b_len PySem.boot_len (ZAA (ZCI (pv 0) rfl) ZAE)))),?_⟩
 walk_at "rd"
 refine ha.get T.cl_Asker T.n_Asker_row (by walk_at "lk") ⟨rl,xs,rfl,.inl (SqL.of hrl),q⟩
theorem ok_Asker_answers {f:Addr} {fd:FuncData} (F:Fun K "answers" "Asker.answers" ZAk f fd) (T:Bt K mg C_Asker C_AskedRule C_HallError C_NoPaper C_NoPlace C_TooFar C_Spent)
 :FnOk P w K mg base CX0 1 f fd ["self"] (ZC0 C_Asker):=by
 refine F.ok sc_Asker_answers (fun vs H Q E h=>?_) (fun z A outer s H vs Q E J h=>?_)
 .obtain ⟨a,rl,ru,tl,m,n,ts,rfl,ha,htl,q⟩:=h
  rfl
 obtain ⟨a,rl,ru,tl,m,n,ts,rfl,ha,htl,q⟩:=h
 refine ⟨_,(ZAH (ZAS (ZBJ ZBK rfl T.b_list PyProof.Rows.boot_list (ZAA (ZCI (pv 0) rfl) ZAE)))),?_⟩
 walk_at "rd"
 refine ha.get T.cl_Asker T.n_Asker_told (by walk_at "lk") ⟨tl,ts,rfl,.inl (SqL.of htl),fun l hl=>?_⟩
 exact q l _ (ZAL hl _) hl ZAD
theorem ok_AskedRule_init {f:Addr} {fd:FuncData} (F:Fun K "__init__" "AskedRule.__init__" ZAg f fd) (T:Bt K mg C_Asker C_AskedRule C_HallError C_NoPaper C_NoPlace C_TooFar C_Spent)
 :FnOk P w K mg base CX0 1 f fd ["self","teller"] (ZCg C_AskedRule):=by
 refine F.ok sc_AskedRule_init (fun vs H Q E h=>?_) (fun z A outer s H vs Q E L h=>?_)
 .obtain ⟨x,dx,g,rfl,hx,q⟩:=h
  rfl
 obtain ⟨x,dx,g,rfl,hx,q⟩:=h
 refine ⟨_,(ZAH (ZDQ (pv 0) (pv 1) rfl)),?_⟩
 walk_at "rd"
 refine setX hx T.cl_AskedRule T.n_AskedRule_teller (by decide) fun H2 J k2=>?_
 exact q H2 (fun b o n e=>by rw [k2 b n];exact e) ((Ins.of J (yAF putL1 (by decide))).congr fun f=>by simp only [ZAd,lkc])
theorem ok_AskedRule_before {f:Addr} {fd:FuncData} (F:Fun K "before" "AskedRule.before" ZAY f fd) (T:Bt K mg C_Asker C_AskedRule C_HallError C_NoPaper C_NoPlace C_TooFar C_Spent)
  (clo_teller:CloOk P w K mg base 1 (ZBX))
 :FnOk P w K mg base CX0 2 f fd ["self","x","y"] (ZCr C_AskedRule ZBX):=by
 refine F.ok sc_AskedRule_before (fun vs H Q E h=>?_) (fun O A outer s H vs Q E L h=>?_)
 .obtain ⟨ru,g,x,y,rfl,hru,⟨o,J,z⟩,q⟩:=h
  rfl
 obtain ⟨ru,g,x,y,rfl,hru,⟨o,J,z⟩,q⟩:=h
 refine ⟨_,(ZAC (ZAQ (i:=3) sc_AskedRule_before.nd rfl (by walk_at "o") (ZCI (pv 0) rfl))
  (ZAH (ZAS (pe_callV (clo_teller.at (L.mono (by decide))) (pv 3) (ZAA (pv 1) (ZAA (pv 2) ZAE)))))),?_⟩
 walk_at "rd"
 refine hru.get T.cl_AskedRule T.n_AskedRule_teller (by walk_at "lk") ⟨⟨g,o,rfl,J,z⟩,?_⟩
 exact q
theorem ok_Asker_ahead {f:Addr} {fd:FuncData} (F:Fun K "ahead" "Asker.ahead" ZAu f fd) (T:Bt K mg C_Asker C_AskedRule C_HallError C_NoPaper C_NoPlace C_TooFar C_Spent)
  (J:Mt P w K mg base CX0 C_AskedRule "before" 2 ["self","x","y"] (ZCr C_AskedRule ZBX))
 :FnOk P w K mg base CX0 3 f fd ["self","p","q"] (ZC1 C_Asker C_AskedRule ZBX):=by
 refine F.ok sc_Asker_ahead (fun vs H Q E h=>?_) (fun a8 A outer s H vs Q E hr h=>?_)
 .obtain ⟨a,rl,ru,tl,n,p,q,xs,ts,x,y,rfl,ha,hrl,a5,a7,a6,hx,hy,hb⟩:=h
  rfl
 obtain ⟨a,rl,ru,tl,n,p,q,xs,ts,x,y,rfl,ha,hrl,a5,a7,a6,hx,hy,hb⟩:=h
 refine ⟨_,(ZAC (ZAn (PW.pt (pw_and (ZAP op_notN (ZCI (pv 0) rfl) pe_non (ZAT _)) (pw_and1 (ZAP ZEb (ZCI (pv 0) rfl) (ZCI (pv 0) rfl) (ZAT _)))))
  (ZAH (ps_never)) ZAU)
  (ZAC (ZAQ (i:=3) sc_Asker_ahead.nd rfl (by walk_at "o") (ZAI (ZB5 rfl) rfl T.b_max PyProof.Rows.boot_max (ZAA (pv 1) (ZAA (pv 2) ZAE))))
  (ZAC (ZAQ (i:=4) sc_Asker_ahead.nd rfl (by walk_at "o") (ZAI (call_min2 rfl) rfl T.b_min PyProof.Rows.boot_min (ZAA (pv 1) (ZAA (pv 2) ZAE))))
  (ZAC (ZAQ (i:=5) sc_Asker_ahead.nd rfl (by walk_at "o") (ZFI J (hr.mono (by decide)) ZAc (ZCI (pv 0) rfl) (ZAA (ZA6 ZAo (ZCI (pv 0) rfl) (pv 3) (fun _ _=>rfl)) (ZAA (ZA6 ZAo (ZCI (pv 0) rfl) (pv 4) (fun _ _=>rfl)) ZAE))))
  (ZAC (ps_fldaug (pv 0) ZAJ in_add)
  (ZAC (ZBL (ZDI PySem.F.plainAttrs_list PySem.F.slot_list_append PySem.F.type_list_append ZB2 (ZCI (pv 0) rfl) (ZAA (ZA1 (ZAA (pv 3) (ZAA (pv 4) (ZAA (pv 5) ZAE)))) ZAE)))
  (ZAH (ZAS (pe_ifExp (ZAP ZC4 (pv 1) (pv 3) (ZAT _)) (pv 5) (ZEr (pv 5))))))))))),?_⟩
 walk_at "rd"
 obtain ⟨aa,g,x',y',e,hru,ho,a2⟩:=hb
 cases e
 refine ha.get T.cl_Asker T.n_Asker_most (by walk_at "lk") ?_
 rw [if_neg (by simp)]
 refine ⟨p,q,rfl,p,q,rfl,ha.get T.cl_Asker T.n_Asker_rule (by walk_at "lk") (hru.meth (by walk_at "lk") ?_)⟩
 rw [ZFJ,mn_eq]
 refine ha.get T.cl_Asker T.n_Asker_row (by walk_at "lk") (ZAh (SqL.of hrl) (ZAl (by omega) hx) ?_)
 refine ha.get T.cl_Asker T.n_Asker_row (by walk_at "lk") (ZAh (SqL.of hrl) (ZAl (by omega) hy) ?_)
 refine ⟨ru,g,x,y,rfl,hru,ho,rT_mono (fun v H1 h=>?_) a2⟩
 obtain ⟨b,rfl,a1,Y,a9,hq⟩:=h
 have a0:tl≠a:=a1.ne Y fun _ _ _ z=>by cases z
 refine a1.aug T.cl_Asker T.n_Asker_asked (by walk_at "lk") fun H2 a4 k2=>?_
 have L:=a4.congr fA_asked
 have O:H2 tl=some (.lst ts):=by rw [k2 tl a0];exact Y
 walk_at "rd"
 refine L.get T.cl_Asker T.n_Asker_told (by walk_at "lk") ?_
 walk_at "rd"
 refine ⟨.inl ⟨rfl,_,SqL.of O⟩,ZAW (by decide),fun t ht=>?_⟩
 have a3:t≠tl:=fun z=>by rw [z,O] at ht;cases ht
 have Z:t≠a:=L.neN ht
 refine ⟨tl,ts,_,rfl,rfl,ZAL ht _ _ _ O,ZDM (by omega),?_⟩
 have U:=hq t (upd (upd H2 t (.tup [.int (max p q),.int (min p q),.bl b])) tl (.lst (ts++[.ref t]))) (by rw [<- k2 t Z];exact ht) (L.keep (by rw [ZAG (Ne.symm a0),ZAG (Ne.symm Z)])) ZAD (by rw [ZAG a3,ZAD]) (fun c h1 h2 h3=>by rw [ZAG h2,ZAG h3,k2 c h1])
 by_cases hlt:q < p
 .rw [if_pos hlt] at U
  show (if _ then _ else _)
  rw [if_pos (by omega)]
  exact U
 .rw [if_neg hlt] at U
  show (if _ then _ else _)
  rw [if_neg (by omega)]
  exact U
theorem ok_spot_of {f:Addr} {fd:FuncData} (F:Fun K "spot_of" "spot_of" ZBi f fd) (T:Bt K mg C_Asker C_AskedRule C_HallError C_NoPaper C_NoPlace C_TooFar C_Spent)
  (J:Mt P w K mg base CX0 C_Asker "ahead" 3 ["self","p","q"] (ZC1 C_Asker C_AskedRule ZBX))
 :FnOk P w K mg base CX0 4 f fd ["asker","order","place"] (ZDa C_Asker C_AskedRule):=by
 refine F.ok sc_spot_of (fun vs H Q E h=>?_) (fun a6 A outer s H vs Q E hr h=>?_)
 .obtain ⟨ks,xs,a,rl,ru,tl,g,lg,ol,pr,os,pl,rfl,st,O,U,a1,L,Y,a0,q⟩:=h
  rfl
 obtain ⟨ks,xs,a,rl,ru,tl,g,lg,ol,pr,os,pl,rfl,st,O,U,a1,L,Y,a0,q⟩:=h
 refine ⟨_,(ZAC (ZAQ (i:=3) sc_spot_of.nd rfl (by walk_at "o") ZAJ)
  (ZAC (ZAQ (i:=4) sc_spot_of.nd rfl (by walk_at "o") (ZAI ZAK rfl T.b_len PySem.boot_len (ZAA (pv 1) ZAE)))
  (ZAC (ps_while PassesOwn.never (ZAP ZDw (pv 3) (pv 4) (ZAT _))
  (ZAC (ZAQ (i:=5) sc_spot_of.nd rfl (by walk_at "o") (ZAX ZBQ (ZAX ZBA (pv 3) (pv 4)) ZAJ))
  (ZAH (ZAn (ZAr (ZFI J (hr.mono (by decide)) ZAc (pv 0) (ZAA (ZA6 ZAo (pv 1) (pv 5) (fun _ _=>rfl)) (ZAA (pv 2) ZAE))))
  (ZAH (ZAQ (i:=3) sc_spot_of.nd rfl (by walk_at "o") (ZAX ZBA (pv 5) ZAJ)))
  (ZAH (ZAQ (i:=4) sc_spot_of.nd rfl (by walk_at "o") (pv 5)))))))
  (ZAH (ZAS (pv 3)))))),?_⟩
 walk_at "rd"
 refine ⟨ol,_,rfl,.inl (SqL.of O),?_⟩
 rw [yAB]
 refine while_of (fun m σ H'=>∃ (low high:Nat) (v5:Option V) (dn:List (Nat×Nat)),m=high-low /\ σ=[some (.ref a),some (.ref ol),some (.int pl),some (.int low),some (.int high),v5] /\ low <= high /\ high <= os.length /\ dn.length+(high-low) <= os.length /\ Fr [a,lg,tl] H H' /\ SitL C_Asker C_AskedRule H' ks xs a rl ru tl g lg (pr++dn) /\ ∀ r l,Halv ks os pl low high r l->Halv ks os pl 0 os.length r (dn++l)) ⟨_,0,os.length,_,[],rfl,rfl,yAD _,yAA _,by simp,.refl,by rw [yBD];exact st,fun r l h=>h⟩ ?_
 rintro m σ H' ⟨low,high,v5,dn,rfl,rfl,a3,a5,a4,fr,s,hh⟩
 walk_at "rd"
 by_cases hlt:low < high
 .rw [if_pos (by omega)]
  refine wBody_of ?_
  walk_at "rd"
  have hm:(low+high) / 2 < os.length:=by omega
  obtain ⟨o,Z⟩:∃ o,os[(low+high) / 2]?=some o:=⟨_,yAH hm⟩
  have a7:=L o (yAO Z)
  have a2:((low:Int)+high) / 2=((low+high) / 2:Nat):=by omega
  refine ⟨⟨by decide,by decide⟩,?_⟩
  rw [a2]
  refine s.ha.meth (by walk_at "lk") ?_
  refine ZAh (SqL.of (fr _ _ U O)) (ZDG Z) ?_
  refine s.ahead (p:=o) (q:=pl) (by omega) (by omega) Y (by rw [yAC];omega) fun H2 f2 s2=>?_
  rw [if_neg (by omega)]
  rw [show max o pl=pl by omega,show min o pl=o by omega,yAV] at s2
  refine ⟨_,rfl,?_⟩
  by_cases hd:kat ks pl < kat ks o
  .rw [decide_eq_true hd,if_neg (by decide)]
   exact ⟨(low+high) / 2-low,by omega,low,(low+high) / 2,_,dn++[(pl,o)],rfl,rfl,by omega,by omega,by rw [yAC,yBZ];omega,fr.trans f2,s2,fun r l h=>by rw [yAV];exact hh _ _ (.less hlt Z hd h)⟩
  .rw [decide_eq_false hd,if_pos (by decide)]
   exact ⟨high-((low+high) / 2+1),by omega,(low+high) / 2+1,high,_,dn++[(pl,o)],rfl,rfl,by omega,by omega,by rw [yAC,yBZ];omega,fr.trans f2,s2,fun r l h=>by rw [yAV];exact hh _ _ (.more hlt Z hd h)⟩
 .rw [if_neg (by omega)]
  walk_at "rd"
  have z:=hh low [] (.done hlt)
  rw [yBD] at z
  exact q H' low dn fr z s
theorem ok_by_reach {f:Addr} {fd:FuncData} (F:Fun K "by_reach" "by_reach" ZBW f fd) (T:Bt K mg C_Asker C_AskedRule C_HallError C_NoPaper C_NoPlace C_TooFar C_Spent)
  (Z:Fn P w K mg base CX0 "spot_of" 4 ["asker","order","place"] (ZDa C_Asker C_AskedRule))
  (O:Mt P w K mg base CX0 C_Asker "many" 1 ["self"] (ZEl C_Asker))
  (L:Mt P w K mg base CX0 C_Asker "ahead" 3 ["self","p","q"] (ZC1 C_Asker C_AskedRule ZBX))
  (a0:XKl P w K mg base CX0 "TooFar" C_TooFar 1 ["self","place","others"] (ZDY C_TooFar))
 :FnOk P w K mg base (CXE P w) 5 f fd ["asker","reach"] (ZCx C_Asker C_AskedRule C_TooFar):=by
 refine F.okX sc_by_reach (fun vs H Q E h=>?_) (fun av A outer s H vs Q E hr h=>?_)
 .obtain ⟨ks,xs,a,rl,ru,tl,g,lg,pr,R,rfl,st,hk,ag,hR,q1,q2⟩:=h
  rfl
 obtain ⟨ks,xs,a,rl,ru,tl,g,lg,pr,R,rfl,st,hk,ag,hR,q1,q2⟩:=h
 refine ⟨_,(ZAC (PS.nox (ZAQ (i:=2) sc_by_reach.nd rfl (by walk_at "o") (ZBv ZAE)))
  (ZAC (PS.inG (ZBR (passOG ⟨rfl,rfl⟩) rfl (ZBZ rfl T.b_range (ZAA (ZEs O (hr.mono (by decide)) ZAc (pv 0)) ZAE)) (ZAR (i:=3) sc_by_reach.nd rfl (by walk_at "o"))
  (ZAC (ZAQ (i:=4) sc_by_reach.nd rfl (by walk_at "o") (ZAI (ZB5 rfl) rfl T.b_max PyProof.Rows.boot_max (ZAA ZAJ (ZAA (ZAX ZBw (ZAI ZAK rfl T.b_len PySem.boot_len (ZAA (pv 2) ZAE)) (pv 1)) ZAE))))
  (ZAC (ZAn (PW.pt (pw_and (ZAP ZEa (pv 4) ZAJ (ZAT _)) (pw_and1 (ZBI (ZAr (ZFI L (hr.mono (by decide)) ZAc (pv 0) (ZAA (ZA6 ZAo (pv 2) (ZAX ZBw (pv 4) ZAJ) (fun _ _=>rfl)) (ZAA (pv 3) ZAE))))))))
  (ZAH (ps_raiseG a0 (hr.mono (by decide)) rfl rfl ZAc (ZAA (pv 3) (ZAA (ZAI call_sortedB rfl T.b_sorted PyProof.Rows.boot_sorted (ZAA (ZBG ZBz (pv 2) (ZBM (ZAX ZBw (pv 4) ZAJ)) ZB0) ZAE)) ZAE)))) ZAU)
  (ZAH (ZBL (ZDI PySem.F.plainAttrs_list PySem.F.slot_list_insert PySem.F.type_list_insert ZC6 (pv 2) (ZAA (ZAX ZBA (pv 4) (ZAp Z (hr.mono (by decide)) rfl ZAc (ZAA (pv 0) (ZAA (ZBG ZBz (pv 2) (ZBM (pv 4)) ZB0) (ZAA (pv 3) ZAE))))) (ZAA (pv 3) ZAE)))))))))
  (ZAH (PS.nox (ZAS (pv 2)))))),?_⟩
 walk_at "rd"
 refine ⟨yAD _,fun ol J=>?_⟩
 obtain ⟨H2,e2,s2,ai⟩:=newH J (.lst (nL []))
 rw [show (HO.lst ([]:List V))=.lst (nL []) from rfl,e2];clear e2
 have st2:=st.mono s2
 have a2:ol∉[a,lg,tl]:=by
  obtain ⟨ws,hlg,_⟩:=st.hlg
  obtain ⟨ts,htl,_⟩:=st.htl
  exact ZEB (st.ha.neN J) (Ne.symm (ZAF hlg J)) (Ne.symm (ZAF htl J))
 have aj:rl≠ol /\ lg≠ol /\ tl≠ol:=⟨ZAF st.hrl J,fun z=>a2 (by rw [<- z];exact yAL _ yAJ),fun z=>a2 (by rw [<- z];exact yAL _ (yAL _ yAJ))⟩
 refine st2.ha.meth (by walk_at "lk") ⟨a,rl,ru,tl,.non,_,xs.v,rfl,st2.ha,st2.hrl,?_⟩
 rw [st2.len]
 refine ZCZ (by omega) (ZDC (fun i σ H'=>∃ (v3 v4:Option V) (os:List Nat) (dn:List (Nat×Nat)),σ=[some (.ref a),some (.int R),some (.ref ol),v3,v4] /\ H' ol=some (.lst (nL os)) /\ OrdN ks 0 i os /\ dn.length <= i * 201 /\ Fr [a,lg,tl] H H' /\ SitL C_Asker C_AskedRule H' ks xs a rl ru tl g lg (pr++dn) /\ ∀ os' b l,Rch ks R os i ks.length os' b l->Rch ks R [] 0 ks.length os' b (dn++l)) ⟨_,_,[],[],rfl,ai,⟨rfl,fun x=>⟨fun z=>(by cases z),fun z=>by omega⟩,.nil⟩,yAD _,s2.fr,by rw [yBD];exact st2,fun os' b l h=>h⟩ ?_ ?_)
 .rintro i σ H' hi ⟨v3,v4,os,dn,rfl,U,ho,ad,fr,st',a1⟩
  have a7:i < ks.length:=by omega
  have aq:=ho.len
  rw [Int.zero_add]
  walk_at "rd"
  refine ⟨ol,_,rfl,.inl (SqL.of U),?_⟩
  walk_at "rd"
  rw [yAB]
  refine ⟨_,_,rfl,?_⟩
  rw [show (if ((os.length:Int)-(R:Int)) > 0 then ((os.length:Int)-(R:Int)) else 0)=((os.length-R:Nat):Int) by split <;> omega]
  apply onceR (fun H1 f=>Fr [a,lg,tl] H' H1 /\ SitL C_Asker C_AskedRule H1 ks xs a rl ru tl g lg (pr++dn++f) /\ f.length <= 1 /\ (∀ x,R < os.length->os[os.length-R-1]?=some x->¬ kat ks i < kat ks x /\ f=[(i,x)]) /\ (¬ R < os.length->f=[]))
  .intro a4
   by_cases hst:R < os.length
   .rw [if_pos (by omega)]
    obtain ⟨x,hx⟩:∃ x,os[os.length-R-1]?=some x:=⟨_,yAH (by omega)⟩
    have aw:=((ho.mem x).mp (yAO hx)).2
    refine st'.ha.meth (by walk_at "lk") ?_
    rw [show ((os.length-R:Nat):Int)-1=((os.length-R-1:Nat):Int) by omega]
    refine ZAh (SqL.of U) (ZDG hx) ?_
    refine st'.ahead (p:=x) (q:=i) (by omega) (by omega) a7 (by rw [yAC];omega) fun H1 f1 s1=>?_
    rw [if_neg (by omega)]
    rw [show max x i=i by omega,show min x i=x by omega] at s1
    refine ⟨_,rfl,?_⟩
    by_cases hd:kat ks i < kat ks x
    .rw [decide_eq_true hd,if_pos (by decide)]
     have Y:=f1 _ _ a2 U
     refine ZCl (SqL.of Y) fun sl a3=>?_
     rw [cutV_dr (by rw [yAB];omega),nL_drop]
     obtain ⟨H3,e3,s3,a5⟩:=newH a3 (.lst (nL (os.drop (os.length-R-1))))
     rw [e3];clear e3
     refine ⟨sl,(os.drop (os.length-R-1)).map fun (y:Nat)=>(y:Int),rfl,SqL.of (by rw [<- ZC5];exact a5),by rw [yAB,yAR];omega,fun l ms hl a8 ac=>?_⟩
     obtain ⟨so,rfl,hp,hs⟩:=nats_of a8 ac ((ho.srt.imp fun {x y} h e=>by subst e;unfold lx at h;omega:os.Nodup).sublist (List.drop_sublist _ _))
     rw [<- ZC5]
     obtain ⟨H4,e4,s4,ae⟩:=newH hl (.lst (nL so))
     rw [e4];clear e4
     refine ⟨by decide,fun ea a9=>?_⟩
     have ap:l≠ea:=ZAF ae a9
     refine ⟨ea,l,i,nL so,rfl,ZAD,?_,by rw [ZAG ap];exact ae,fun d l2 H6 k6 he al ak ad ar ah aa=>⟨rfl,some d,he,?_⟩⟩
     .rw [Int.natAbs_natCast]
      exact Nat.lt_of_le_of_lt (Nat.log2_le_self i) (by omega)
     have S1:Same H1 (forget H6 ea):=fun b o e=>by
      have e4:=s4 _ _ (s3 _ _ e)
      have nb:b≠ea:=ZAF e4 a9
      rw [ZAx nb]
      exact k6 b o nb (by rw [ZAG nb];exact e4)
     have am:i=os.length:=by omega
     have z:=a1 os false [(i,x)] (.far a7 hst hx hd)
     refine q2 d l2 _ os so _ (fr.trans (f1.trans S1.fr)) z ?_ ?_ (by rw [ZAx ak];exact aa) hp hs
     .rw [<- yAV]
      exact s1.mono S1
     .rw [ZAx al,<- am]
      exact ah
    .rw [decide_eq_false hd,if_neg (by decide)]
     exact a4 H1 [(i,x)] ⟨f1,s1,by simp,fun y _ hy=>by rw [hx] at hy;cases hy;exact ⟨hd,rfl⟩,fun z=>absurd hst z⟩
   .rw [if_neg (by omega)]
    exact a4 H' [] ⟨.refl,by rw [yBD];exact st',by simp,fun x z=>absurd z hst,fun _=>rfl⟩
  rintro H1 f ⟨f1,s1,au,c1,c2⟩
  have Y:=f1 _ _ a2 U
  refine ⟨.inl ⟨rfl,_,SqL.of Y⟩,ZCl (SqL.of Y) fun sl a3=>?_⟩
  rw [cutV_dr (by rw [yAB];omega),nL_drop]
  obtain ⟨H3,e3,s3,a5⟩:=newH a3 (.lst (nL (os.drop (os.length-R))))
  rw [e3];clear e3
  have st3:=s1.mono s3
  have ao:sl∉[a,lg,tl]:=by
   obtain ⟨ws,hlg,_⟩:=s1.hlg
   obtain ⟨ts,htl,_⟩:=s1.htl
   exact ZEB (s1.ha.neN a3) (Ne.symm (ZAF hlg a3)) (Ne.symm (ZAF htl a3))
  refine ⟨ks,xs,a,rl,ru,tl,g,lg,sl,_,os.drop (os.length-R),i,rfl,st3,a5,ao,by rw [yAR];omega,fun x hx=>((ho.mem x).mp (List.mem_of_mem_drop hx)).2,by omega,by rw [yAC,yAC];omega,fun H4 r l af hh st4=>?_⟩
  have an:=hh.bounds (yAD _)
  have ll:=hh.len
  rw [yAR] at an ll
  have a6:=af _ _ a2 (s3 _ _ Y)
  walk_at "rd"
  rw [show ((os.length-R:Nat):Int)+(r:Int)=((os.length-R+r:Nat):Int) by omega]
  refine ⟨ol,_,_,_,rfl,rfl,a6,ZBH (by rw [yAB];omega),by omega,?_⟩
  rw [insV_nL (by omega)]
  have rs:=Rst.of (f:=f) (l:=l) ho.srt c1 hh
  refine ⟨_,_,insN os (os.length-R+r) i,dn++(f++l),rfl,ZAD,ho.insR rs,by rw [yAC,yAC];omega,fun b o n h=>?_,?_,fun os' b l' hp=>?_⟩
  .rw [ZAG (ZAF h J)]
   exact af _ _ n (s3 _ _ (f1 _ _ n (fr _ _ n h)))
  .rw [show pr++(dn++(f++l))=pr++dn++f++l by simp only [yAV]]
   exact st4.upd a6 aj
  .rw [show dn++(f++l)++l'=dn++(f++(l++l')) by simp only [yAV]]
   exact a1 _ _ _ (.step a7 c1 c2 hh hp)
 rintro σ H' ⟨v3,v4,os,dn,rfl,U,ho,ad,fr,st',a1⟩
 walk_at "rd"
 have z:=a1 os true [] (.done (by omega))
 rw [yBD] at z
 exact q1 ol H' os dn fr J a2 U z st'
theorem ok_straight {f:Addr} {fd:FuncData} (F:Fun K "straight" "straight" ZBT f fd) (T:Bt K mg C_Asker C_AskedRule C_HallError C_NoPaper C_NoPlace C_TooFar C_Spent)
 :FnOk P w K mg base CX0 1 f fd ["many"] (ZB7):=by
 refine F.ok sc_straight (fun vs H Q E h=>?_) (fun J A outer s H vs Q E L h=>?_)
 .obtain ⟨n,rfl,hn,q⟩:=h
  rfl
 obtain ⟨n,rfl,hn,q⟩:=h
 refine ⟨_,(ZAH (ZAS (ZBJ (call_list_rng rfl) rfl T.b_list PyProof.Rows.boot_list (ZAA (ZBJ call_rng1 rfl T.b_range PyProof.Rows.boot_range (ZAA (pv 0) ZAE)) ZAE)))),?_⟩
 walk_at "rd"
 refine ⟨n,rfl,fun p z=>⟨p,0,n,rfl,ZAD,by omega,fun l hl=>?_⟩⟩
 exact q l _ ((ZAL z _).new hl) ((ZAL z _).free hl) (by rw [ZAD,rints_range])
theorem ok_is_number {f:Addr} {fd:FuncData} (F:Fun K "is_number" "is_number" ZBB f fd) (T:Bt K mg C_Asker C_AskedRule C_HallError C_NoPaper C_NoPlace C_TooFar C_Spent)
 :FnOk P w K mg base CX0 1 f fd ["some"] (ZCh):=by
 refine F.ok sc_is_number (fun vs H Q E h=>?_) (fun z A outer s H vs Q E J h=>?_)
 .obtain ⟨i,rfl,q⟩:=h
  rfl
 obtain ⟨i,rfl,q⟩:=h
 refine ⟨_,(ZAH (ZAS (pe_and (ZAI ZAy rfl T.b_isinstance PyProof.Rows.boot_isinstance (ZAA (pv 0) (ZAA (ZCm rfl T.b_int PyProof.Rows.boot_int) ZAE))) (pe_one (ZEr (ZAI ZAy rfl T.b_isinstance PyProof.Rows.boot_isinstance (ZAA (pv 0) (ZAA (ZCm rfl T.b_bool PyProof.Rows.boot_bool) ZAE)))))))),?_⟩
 walk_at "rd"
 refine inst_int ?_
 walk_at "rd"
 refine inst_int_bl T.kit_int_bool ?_
 walk_at "rd"
 exact q
theorem ok_is_paper {f:Addr} {fd:FuncData} (F:Fun K "is_paper" "is_paper" ZBU f fd) (T:Bt K mg C_Asker C_AskedRule C_HallError C_NoPaper C_NoPlace C_TooFar C_Spent)
  (J:Fn P w K mg base CX0 "straight" 1 ["many"] (ZB7))
  (z:Fn P w K mg base CX0 "is_number" 1 ["some"] (ZCh))
 :FnOk P w K mg base CX0 2 f fd ["some"] (ZCy):=by
 refine F.ok sc_is_paper (fun vs H Q E h=>?_) (fun a1 A outer s H vs Q E Y h=>?_)
 .obtain ⟨a,p,rfl,ha,hp,hl,q⟩:=h
  rfl
 obtain ⟨a,p,rfl,ha,hp,hl,q⟩:=h
 refine ⟨_,(ZAC (ZAn (PW.pt (ZBY (ZBI (ZAr (ZAI ZAy rfl T.b_isinstance PyProof.Rows.boot_isinstance (ZAA (pv 0) (ZAA (ZCm rfl T.b_list PyProof.Rows.boot_list) ZAE))))) (ZA8 (ZBI (ZAr (ZAI (ZDo rfl) rfl T.b_all PyProof.Rows.boot_all (ZAA (ZB1 rfl (k:=1) (js:=[]) (N':=["number"]) (by rfl) (ZBN (pv 0)) (fun _ _ _ _=>ZAR (i:=0) (show (["number"]:List Str).Nodup by decide +kernel) rfl (by walk_at "o")) (fun _ _ _ _=>ZBo) (fun _ _ _ _=>(ZAp z (Y.mono (by decide)) rfl ZAc (ZAA (pv 0) ZAE)))) ZAE)))))))
  (ZAH (ZAS ZBP)) ZAU)
  (ZAH (ZAS (ZC3 (op_eqD Y.units) (ZAI call_sortedB rfl T.b_sorted PyProof.Rows.boot_sorted (ZAA (pv 0) ZAE)) (ZAp J (Y.mono (by decide)) rfl ZAc (ZAA (ZAI ZAK rfl T.b_len PySem.boot_len (ZAA (pv 0) ZAE)) ZAE)) (ZAT _))))),?_⟩
 walk_at "rd"
 refine ZDh ha ?_
 walk_at "rd"
 refine compL_gen (SqL.of ha) (by rw [ZBc];omega) rfl (fun _ y _=>y=.bl true) (fun _ _ _ _ _ q=>q) (fun i x H' hx e Q' k=>?_) fun ys H' l U hR e hn=>?_
 .obtain ⟨_,rfl⟩:=ZEV hx
  walk_at "rd"
  exact ⟨_,rfl,k _ _ (.refl _) rfl⟩
 have a0:ys=(List.replicate p.length true).map V.bl:=by
  rw [List.map_replicate]
  refine eq_rep (by rw [U,ZBc]) fun j y hy=>?_
  have hj:j < ys.length:=(yAM.mp hy).1
  exact hR j _ y (ZFR (by rw [U,ZBc] at hj;exact hj)) hy
 refine ⟨l,List.replicate p.length true,rfl,SqL.of (by rw [ZAD,a0]),?_⟩
 rw [if_neg (by rw [all_true];simp)]
 have s1:=e.new (o:=.lst ys) hn
 refine ⟨a,p.map fun x:Nat=>(x:Int),rfl,SqL.of (s1 _ _ ha),by rw [yAB];omega,fun l2 ms Z L O=>?_⟩
 obtain rfl:=hp.sorted L O
 have s2:=s1.new (o:=.lst (NL (List.range p.length))) Z
 refine ⟨a,NL p,rfl,.inl (SqL.of (s2 _ _ ha)),?_⟩
 rw [ZBc]
 refine ⟨p.length,rfl,by omega,fun l3 H3 s3 a2 h3=>?_⟩
 refine eqD_of Enc.int.list (by decide) (ZDD (SqL.of (s3 _ _ ZAD))) (ZDD (SqL.of h3)) ?_
 rw [decide_eq_true rfl]
 exact q _ (s2.trans s3)
theorem ok_check_paper {f:Addr} {fd:FuncData} (F:Fun K "check_paper" "check_paper" ZAs f fd) (T:Bt K mg C_Asker C_AskedRule C_HallError C_NoPaper C_NoPlace C_TooFar C_Spent)
  (z:Fn P w K mg base CX0 "is_paper" 2 ["some"] (ZCy))
 :FnOk P w K mg base CX0 3 f fd ["some","many"] (ZBy):=by
 refine F.ok sc_check_paper (fun vs H Q E h=>?_) (fun O A outer s H vs Q E L h=>?_)
 .obtain ⟨a,p,rfl,ha,J,hl,q⟩:=h
  rfl
 obtain ⟨a,p,rfl,ha,J,hl,q⟩:=h
 refine ⟨_,(ZAH (ZAn (PW.pt (ZBY (ZBI (ZAr (ZAp z (L.mono (by decide)) rfl ZAc (ZAA (pv 0) ZAE)))) (ZA8 (ZAP ZDu (ZAI ZAK rfl T.b_len PySem.boot_len (ZAA (pv 0) ZAE)) (pv 1) (ZAT _)))))
  (ZAH (ps_never)) ZAU)),?_⟩
 walk_at "rd"
 refine ⟨a,p,rfl,ha,J,hl,fun H' s'=>⟨true,rfl,?_⟩⟩
 walk_at "rd"
 refine ⟨a,NL p,rfl,.inl (SqL.of (s' _ _ ha)),?_⟩
 rw [ZBc,if_neg (by simp)]
 exact q _ s'
theorem ok_back {f:Addr} {fd:FuncData} (F:Fun K "back" "back" ZDP f fd) (T:Bt K mg C_Asker C_AskedRule C_HallError C_NoPaper C_NoPlace C_TooFar C_Spent)
  (z:Fn P w K mg base CX0 "check_paper" 3 ["some","many"] (ZBy))
  (J:Fn P w K mg base CX0 "straight" 1 ["many"] (ZB7))
 :FnOk P w K mg base CX0 4 f fd ["paper"] (ZEo):=by
 refine F.ok sc_back (fun vs H Q E h=>?_) (fun a3 A outer s H vs Q E hr h=>?_)
 .obtain ⟨a,p,rfl,ha,L,hl,q⟩:=h
  rfl
 obtain ⟨a,p,rfl,ha,L,hl,q⟩:=h
 refine ⟨_,(ZAC (ZBL (ZAp z (hr.mono (by decide)) rfl ZAc (ZAA (pv 0) (ZAA (ZAI ZAK rfl T.b_len PySem.boot_len (ZAA (pv 0) ZAE)) ZAE))))
  (ZAC (ZAQ (i:=1) sc_back.nd rfl (by walk_at "o") (ZAp J (hr.mono (by decide)) rfl ZAc (ZAA (ZAI ZAK rfl T.b_len PySem.boot_len (ZAA (pv 0) ZAE)) ZAE)))
  (ZAC (ZBR PassesOwn.never rfl (pi_enum rfl T.b_enumerate (ZAA (pv 0) ZAE)) (ZCH (n:=2) rfl (ZAV (ZAR (i:=2) sc_back.nd rfl (by walk_at "o")) (ZAV (ZAR (i:=3) sc_back.nd rfl (by walk_at "o")) ZBO)))
  (ZAH (ZEQ (pv 2) (pg_sub (pv 1) (pv 3) set_list))))
  (ZAH (ZAS (pv 1)))))),?_⟩
 walk_at "rd"
 refine ⟨a,NL p,rfl,.inl (SqL.of ha),?_⟩
 rw [ZBc]
 refine ⟨a,p,rfl,ha,L,hl,fun H1 s1=>⟨a,NL p,rfl,.inl (SqL.of (s1 _ _ ha)),?_⟩⟩
 rw [ZBc]
 refine ⟨p.length,rfl,by omega,fun l H2 s2 O h2=>?_⟩
 have a0:a≠l:=ZAF (s1 _ _ ha) O
 have U:H l=none:=s1.free O
 refine forE_of (SqL.of (s2 _ _ (s1 _ _ ha))) (fun i σ H'=>∃ v2 v3,σ=[some (.ref a),some (.ref l),v2,v3] /\ H' a=some (.lst (NL p)) /\ H' l=some (.lst (NL (Pap.spots p i))) /\ Same H H') ⟨_,_,rfl,s2 _ _ (s1 _ _ ha),by rw [Pap.spots_zero];exact h2,s1.trans s2⟩ (fun i σ H' _ ⟨_,_,_,h,_⟩=>SqL.of h) ?_ ?_
 .rintro i x σ H' t hx ⟨v2,v3,rfl,h3,Y,h5⟩ Z
  obtain ⟨hi,rfl⟩:=ZEV hx
  refine ZBF (SqT.of ZAD) rfl ?_
  walk_at "rd"
  have a2:=(ZAL Z (.tup [.int i,.int (Pap.at' p i)])) _ _ h3
  have a1:=(ZAL Z (.tup [.int i,.int (Pap.at' p i)])) _ _ Y
  have a4:=L.at_lt hi
  refine ⟨l,_,_,_,rfl,rfl,a1,ixN_of (by omega) (by rw [ZBc,Pap.spots_len];omega),?_⟩
  refine ⟨_,_,rfl,by rw [ZAG a0];exact a2,?_,(h5.new Z).upd U⟩
  rw [ZAD,Int.toNat_natCast,<- Pap.spots_step L hi,NL,NL,List.map_set,List.map_set]
 .rintro σ H' ⟨v2,v3,rfl,h3,Y,h5⟩
  rw [ZBc,Pap.spots_end L] at Y
  walk_at "rd"
  exact q l _ h5 U Y
theorem ok_agrees {f:Addr} {fd:FuncData} (F:Fun K "agrees" "agrees" ZCD f fd) (T:Bt K mg C_Asker C_AskedRule C_HallError C_NoPaper C_NoPlace C_TooFar C_Spent)
  (z:Fn P w K mg base CX0 "back" 4 ["paper"] (ZEo))
 :FnOk P w K mg base CX0 5 f fd ["paper","answers"] (ZDc):=by
 refine F.ok sc_agrees (fun vs H Q E h=>?_) (fun a5 A outer s H vs Q E hr h=>?_)
 .obtain ⟨a,w,p,cs,ws,rfl,ha,hp,hl,hw,L,U,a1,q⟩:=h
  rfl
 obtain ⟨a,w,p,cs,ws,rfl,ha,hp,hl,hw,L,U,a1,q⟩:=h
 refine ⟨_,(ZAC (ZAQ (i:=2) sc_agrees.nd rfl (by walk_at "o") (ZAp z (hr.mono (by decide)) rfl ZAc (ZAA (pv 0) ZAE)))
  (ZAH (ZAS (ZAI (ZDo rfl) rfl T.b_all PyProof.Rows.boot_all (ZAA (ZB1 rfl (k:=3) (js:=[2]) (N':=["later","earlier","said","spots"]) (by rfl) (ZBN (pv 1)) (fun _ _ _ _=>ZD8 (n:=3) K rfl (ZAV (ZAR (i:=0) (show (["later","earlier","said","spots"]:List Str).Nodup by decide +kernel) rfl (by walk_at "o")) (ZAV (ZAR (i:=1) (show (["later","earlier","said","spots"]:List Str).Nodup by decide +kernel) rfl (by walk_at "o")) (ZAV (ZAR (i:=2) (show (["later","earlier","said","spots"]:List Str).Nodup by decide +kernel) rfl (by walk_at "o")) ZBO)))) (fun _ _ _ _=>ZBo) (fun _ _ _ _=>(ZC3 ZC4 (ZC3 ZDw (ZA6 (ZCY K) (pv 3) (pv 0) (fun _ _=>rfl)) (ZA6 (ZCY K) (pv 3) (pv 1) (fun _ _=>rfl)) (ZAT _)) (pv 2) (ZAT _)))) ZAE))))),?_⟩
 walk_at "rd"
 refine ⟨a,p,rfl,ha,hp,hl,fun sp H1 s1 a4 Y=>?_⟩
 have a2:=L.keep s1
 refine compL_big (SqL.of (s1 _ _ hw)) (by rw [L.len];omega) (fun i ys σ H'=>∃ v1 Z v3,σ=[v1,Z,v3,some (.ref sp)] /\ Same H1 H' /\ ys=((cs.take i).map fun c=>decide (Pap.at' (Pap.bk p) c.1 < Pap.at' (Pap.bk p) c.2.1) == c.2.2).map V.bl) ⟨_,_,_,rfl,.refl _,rfl⟩ (fun i ys σ H' hi ⟨_,_,_,_,e,e2⟩=>⟨SqL.of (e _ _ (s1 _ _ hw)),by rw [e2,yAB,yAB,yAS];omega⟩) ?_ ?_
 .rintro i ys x σ H' hi hx ⟨v1,Z,v3,rfl,s2,rfl⟩
  rw [L.len] at hi
  obtain ⟨⟨p1,q1,b1⟩,hc⟩:∃ c,cs[i]?=some c:=⟨_,yAH hi⟩
  obtain ⟨t,O,a0⟩:=a2.get i p1 q1 b1 hc
  rw [hx] at O
  cases O
  obtain ⟨b2,b3⟩:=U _ (yAO hc)
  refine ZBF (SqT.of (s2 _ _ a0)) rfl ?_
  walk_at "rd"
  have J:=s2 _ _ Y
  refine ZAh (SqL.of J) (NL_ix (by rw [Pap.bk_len];exact b2) rfl) (ZAh (SqL.of J) (NL_ix (by rw [Pap.bk_len];exact b3) rfl) ?_)
  walk_at "rd"
  refine Nxt.of (by rw [L.len];exact hi) ⟨_,_,_,rfl,s2,?_⟩
  rw [take_snoc hc,yBI,yBI,said_b (Pap.at' (Pap.bk p) p1) (Pap.at' (Pap.bk p) q1) b1]
  rfl
 rintro ys σ H2 ⟨v1,Z,v3,rfl,s2,rfl⟩ l a3
 refine ⟨l,_,rfl,SqL.of ZAD,?_⟩
 have e:((cs.take ws.length).map fun c=>decide (Pap.at' (Pap.bk p) c.1 < Pap.at' (Pap.bk p) c.2.1) == c.2.2).all id=agB p cs:=by
  rw [L.len,yCD (yAA _),List.all_map];rfl
 rw [e]
 exact q _ (s1.trans (s2.new a3))
theorem ok_shows {f:Addr} {fd:FuncData} (F:Fun K "shows" "shows" ZCj f fd) (T:Bt K mg C_Asker C_AskedRule C_HallError C_NoPaper C_NoPlace C_TooFar C_Spent)
  (J:Fn P w K mg base CX0 "agrees" 5 ["paper","answers"] (ZDc))
 :FnOk P w K mg base CX0 6 f fd ["paper","answers"] (ZD4):=by
 refine F.ok sc_shows (fun vs H Q E h=>?_) (fun an A outer s H vs Q E hr h=>?_)
 .obtain ⟨a,w,p,cs,ws,rfl,ha,hp,hl,hw,U,a6,aa,q⟩:=h
  rfl
 obtain ⟨a,w,p,cs,ws,rfl,ha,hp,hl,hw,U,a6,aa,q⟩:=h
 refine ⟨_,(ZAC (ZAn (ZBI (ZAr (ZAp J (hr.mono (by decide)) rfl ZAc (ZAA (pv 0) (ZAA (pv 1) ZAE)))))
  (ZAH (ZAS ZBP)) ZAU)
  (ZAC (ZAQ (i:=2) sc_shows.nd rfl (by walk_at "o") (ZBJ (call_dictP rfl hr.units) rfl T.b_dict PyProof.Rows.boot_dict (ZAA (ZB1 rfl (k:=3) (js:=[]) (N':=["later","earlier","said"]) (by rfl) (ZBN (pv 1)) (fun _ _ _ _=>ZD8 (n:=3) K rfl (ZAV (ZAR (i:=0) (show (["later","earlier","said"]:List Str).Nodup by decide +kernel) rfl (by walk_at "o")) (ZAV (ZAR (i:=1) (show (["later","earlier","said"]:List Str).Nodup by decide +kernel) rfl (by walk_at "o")) (ZAV (ZAR (i:=2) (show (["later","earlier","said"]:List Str).Nodup by decide +kernel) rfl (by walk_at "o")) ZBO)))) (fun _ _ _ _=>ZBo) (fun _ _ _ _=>(ZA1 (ZAA (ZA1 (ZAA (pv 0) (ZAA (pv 1) ZAE))) (ZAA ZBP ZAE))))) ZAE)))
  (ZAH (ZAS (ZAI (ZDo rfl) rfl T.b_all PyProof.Rows.boot_all (ZAA (ZB1 rfl (k:=1) (js:=[2]) (N':=["pair","asked"]) (by rfl) (pi_zipN rfl T.b_zip (ZAA (pv 0) (ZAA (ZBG ZBz (pv 0) (ZBM ZAJ) ZB0) ZAE))) (fun _ _ _ _=>ZAR (i:=0) (show (["pair","asked"]:List Str).Nodup by decide +kernel) rfl (by walk_at "o")) (fun _ _ _ _=>ZBo) (fun _ _ _ _=>(pe_cmp (pc_din (ZE5 hr) (ZA1 (ZAA (ZAI (call_maxTK K rfl) rfl T.b_max PyProof.Rows.boot_max (ZAA (pv 0) ZAE)) (ZAA (ZAI (call_minTK K rfl) rfl T.b_min PyProof.Rows.boot_min (ZAA (pv 0) ZAE)) ZAE))) (pv 1))))) ZAE)))))),?_⟩
 walk_at "rd"
 refine ⟨a,w,p,cs,ws,rfl,ha,hp,hl,hw,U,a6,aa,fun H1 s1=>⟨_,rfl,?_⟩⟩
 by_cases hag:agB p cs=true
 .rw [if_neg (by rw [hag];simp)]
  rw [hag,Bool.true_and] at q
  walk_at "rd"
  have ae:=U.keep s1
  have a7:=s1 _ _ hw
  have am:=s1 _ _ ha
  refine compL_big (SqL.of a7) (by rw [U.len];omega) (fun i ys σ H'=>∃ Y v2 v3 ps,σ=[Y,v2,v3] /\ Same H1 H' /\ ys=ps.map (fun q:PQ=>V.ref q.1) /\ ps.map (fun q:PQ=>q.2.2)=(cs.take i).map (fun c=>(kP2 c.1 c.2.1,V.bl true)) /\ ∀ q∈ps,H' q.1=some (.tup [.ref q.2.1,q.2.2.2]) /\ H' q.2.1=some (.tup (q.2.2.1.map kV))) ⟨_,_,_,[],rfl,.refl _,rfl,rfl,fun q Z=>(by cases Z)⟩ (fun i ys σ H' hi ⟨_,_,_,ps,_,e,e2,e3,_⟩=>⟨SqL.of (e _ _ a7),by
   rw [e2,yAB]
   have:=congrArg List.length e3
   rw [yAB,yAB,yAS] at this
   omega⟩) ?_ ?_
  .rintro i ys x σ H' hi hx ⟨Y,v2,v3,ps,rfl,s2,rfl,e3,L⟩
   rw [U.len] at hi
   obtain ⟨⟨p1,q1,b1⟩,hc⟩:∃ c,cs[i]?=some c:=⟨_,yAH hi⟩
   obtain ⟨t,a0,ad⟩:=ae.get i p1 q1 b1 hc
   rw [hx] at a0
   cases a0
   refine ZBF (SqT.of (s2 _ _ ad)) rfl ?_
   walk_at "rd"
   refine ⟨ZAW (by decide),fun k1 ac=>?_⟩
   obtain ⟨HA,eA,sA,af⟩:=newH ac (.tup [.int p1,.int q1])
   rw [eA];clear eA
   refine ⟨ZAW (by decide),fun k2 ag=>?_⟩
   obtain ⟨HB,eB,sB,ai⟩:=newH ag (.tup [.ref k1,.bl true])
   rw [eB];clear eB
   refine Nxt.of (by rw [U.len];exact hi) ⟨_,_,_,ps++[(k2,k1,kP2 p1 q1,.bl true)],rfl,s2.trans (sA.trans sB),by rw [yBI];rfl,by rw [yBI,e3,take_snoc hc,yBI];rfl,fun q Z=>?_⟩
   rcases yBB.mp Z with z | z
   .exact ⟨sB _ _ (sA _ _ (L q z).1),sB _ _ (sA _ _ (L q z).2)⟩
   .rw [yAP.mp z];exact ⟨ai,sB _ _ af⟩
  rintro ys σ H2 ⟨Y,v2,v3,ps,rfl,s2,rfl,e3,L⟩ l al
  obtain ⟨H3,e4,s3,h3⟩:=newH al (.lst (ps.map fun q:PQ=>V.ref q.1))
  rw [e4];clear e4
  rw [U.len,yCD (yAA _)] at e3
  refine ⟨l,ps,rfl,h3,fun q Z=>⟨s3 _ _ (L q Z).1,s3 _ _ (L q Z).2⟩,fun d hd=>?_⟩
  obtain ⟨H4,e4,s4,h4⟩:=newH hd (.dT (ZBu [] ps))
  rw [e4];clear e4
  have S4:Same H H4:=s1.trans (s2.trans (s3.trans s4))
  have O:=S4 _ _ ha
  have a5:∀ x y:Nat,(valV (ZBu [] ps) (kP2 (max x y) (min x y))).isSome=askB cs x y:=fun x y=>by
   rw [valV_putAll,valV_nil,Option.isSome_none,Bool.false_or]
   have e5:ps.any (fun q=>decide (q.2.2.1=kP2 (max x y) (min x y)))=(ps.map fun q:PQ=>q.2.2).any (fun c=>decide (c.1=kP2 (max x y) (min x y))):=by rw [List.any_map];rfl
   rw [e5,e3,List.any_map]
   rfl
  walk_at "rd"
  refine ZCl (SqL.of O) fun sl ak=>?_
  rw [ZDE]
  obtain ⟨H5,e5,s5,h5⟩:=newH ak (.lst ((NL p).drop 1))
  rw [e5];clear e5
  refine compZ_of (SqL.of (s5 _ _ O)) (SqL.of h5) (by rw [ZBc];omega) (fun i ys σ H'=>∃ Y,σ=[Y,some (.ref d)] /\ Same H5 H' /\ ys=((List.range i).map fun j=>askB cs (Pap.at' p j) (Pap.at' p (j+1))).map V.bl) ⟨_,rfl,.refl _,rfl⟩ (fun i ys σ H' hi ⟨_,_,e,e2⟩=>⟨SqL.of (e _ _ (s5 _ _ O)),SqL.of (e _ _ h5),by rw [e2,yAB,yAB,yBS];exact yAA _⟩) ?_ ?_
  .rintro i ys x y σ H' pp hi hx hy ⟨Y,rfl,s6,rfl⟩ aj
   rw [yAR,ZBc] at hi
   obtain ⟨hi1,rfl⟩:=ZEV hx
   rw [yBH,Nat.add_comm] at hy
   obtain ⟨hi2,rfl⟩:=ZEV hy
   obtain ⟨H7,e7,s7,h7⟩:=newH aj (.tup [.int (Pap.at' p i),.int (Pap.at' p (i+1))])
   rw [e7];clear e7
   walk_at "rd"
   generalize hxx:Pap.at' p i=x at h7 ⊢
   generalize hyy:Pap.at' p (i+1)=y at h7 ⊢
   refine ⟨pp,[(x:Int),(y:Int)],rfl,SqT.of h7,by simp,fun M hM a9=>⟨pp,[(x:Int),(y:Int)],rfl,SqT.of h7,by simp,fun m hm a8=>⟨ZAW (by decide),fun t ht=>?_⟩⟩⟩
   have a1:=a9 x yAJ
   have a2:=a9 y (yAL _ yAJ)
   have a3:=a8 x yAJ
   have a4:=a8 y (yAL _ yAJ)
   have eM:M=((max x y:Nat):Int):=by
    rcases yAG.mp hM with z | z
    .omega
    .have:=yAP.mp z;omega
   have em:m=((min x y:Nat):Int):=by
    rcases yAG.mp hm with z | z
    .omega
    .have:=yAP.mp z;omega
   subst eM em
   refine ⟨d,_,rfl,DGet.t (k:=kP2 (max x y) (min x y)) (ZAL ht _ _ _ (s7 _ _ (s6 _ _ (s5 _ _ h4)))) ZAD,?_⟩
   rw [a5]
   refine Nxt.of (by rw [ZBc,yAR,ZBc];exact hi) ⟨_,rfl,(s6.trans s7).new ht,?_⟩
   rw [List.range_succ,yBI,yBI]
   show _=_++[V.bl (askB cs (Pap.at' p i) (Pap.at' p (i+1)))]
   rw [hxx,hyy]
  rintro ys σ H6 ⟨Y,rfl,s6,rfl⟩ r ah
  refine ⟨r,_,rfl,SqL.of ZAD,?_⟩
  rw [yAR,ZBc,Nat.min_eq_right (by omega)]
  exact q _ (S4.trans (s5.trans (s6.new ah)))
 .rw [if_pos (by simpa using hag)]
  rw [show agB p cs=false by simpa using hag,Bool.false_and] at q
  exact q _ s1
theorem ok_cell_at {f:Addr} {fd:FuncData} (F:Fun K "_law_cell_at" "_law_cell_at" ZBk f fd) (T:Bt K mg C_Asker C_AskedRule C_HallError C_NoPaper C_NoPlace C_TooFar C_Spent)
 :FnOk P w K mg base CX0 1 f fd ["_law_script","_law_k"] (ZDr K):=by
 refine F.ok sc_cell_at (fun vs H Q E h=>?_) (fun O A outer s H vs Q E U h=>?_)
 .obtain ⟨a,ns,k,rfl,J,L,q⟩:=h
  rfl
 obtain ⟨a,ns,k,rfl,J,L,q⟩:=h
 refine ⟨_,(ZAC (ZAn (ZAP ZDw (pv 1) (ZAI ZAK rfl T.b_len PySem.boot_len (ZAA (pv 0) ZAE)) (ZAT _))
  (ZAH (ZAS (ZA6 ZAo (pv 0) (pv 1) (fun _ _=>rfl)))) ZAU)
  (ZAH (ZAS ZAJ))),?_⟩
 walk_at "rd"
 refine ⟨a,_,rfl,.inl J,?_⟩
 walk_at "rd"
 rw [yAB]
 unfold cellOf at q
 split
 .rename_i hk
  rw [if_pos hk] at q
  have z:k.toNat < ns.length:=by omega
  refine ZAh J (ZCe L (yAH z)) ?_
  rw [yAH z] at q
  exact q
 .rename_i hk
  rw [if_neg hk] at q
  exact q
theorem ok_stream {f:Addr} {fd:FuncData} (F:Fun K "_law_stream" "_law_stream" ZB9 f fd) (T:Bt K mg C_Asker C_AskedRule C_HallError C_NoPaper C_NoPlace C_TooFar C_Spent)
 :FnOk P w K mg base CX0 1 f fd ["_law_cell","_law_many"] (ZB6):=by
 refine F.ok sc_stream (fun vs H Q E h=>?_) (fun a0 A outer s H vs Q E hr h=>?_)
 .obtain ⟨c,m,rfl,U,L,q⟩:=h
  rfl
 obtain ⟨c,m,rfl,U,L,q⟩:=h
 refine ⟨_,(ZAC (ZAQ (i:=2) sc_stream.nd rfl (by walk_at "o") (ZBv ZAE))
  (ZAC (ZAQ (i:=3) sc_stream.nd rfl (by walk_at "o") (ZAX ZA9 (pv 0) ZAJ))
  (ZAC (ZBR PassesOwn.never rfl (ZBZ rfl T.b_range (ZAA (pv 1) ZAE)) (ZAR (i:=4) sc_stream.nd rfl (by walk_at "o"))
  (ZAC (ZAQ (i:=3) sc_stream.nd rfl (by walk_at "o") (ZAX ZA9 (ZAX ZBA (ZAX ZBA (ZAX ZBA (ZAX ZDv (pv 3) (pv 3)) (ZAX ZDv ZAJ (pv 3))) (ZAX ZDv ZAJ (pv 4))) ZAJ) ZAJ))
  (ZAH (ZBL (ZDI PySem.F.plainAttrs_list PySem.F.slot_list_append PySem.F.type_list_append ZB2 (pv 2) (ZAA (pv 3) ZAE))))))
  (ZAH (ZAS (pv 2)))))),?_⟩
 walk_at "rd"
 refine ⟨yAD _,fun l hl=>⟨by decide,?_⟩⟩
 have c0:=Int.emod_nonneg c (show (2147483629:Int)≠0 by decide)
 have c1:=Int.emod_lt_of_pos c (show (0:Int) < 2147483629 by decide)
 generalize c % 2147483629=O at c0 c1 ⊢
 refine ZCZ (by omega) (ZDC (fun i σ H'=>∃ (z:Int) (zs:List Int) (Y:Option V),σ=[some (.int c),some (.int m),some (.ref l),some (.int z),Y] /\ 0 <= z /\ z < 2147483629 /\ H'=upd H l (.lst (zs.map V.int)) /\ zs.length=i /\ ∀ x∈zs,0 <= x /\ x < 2 ^ 31) ⟨O,[],_,rfl,c0,c1,rfl,rfl,fun _ h=>nomatch h⟩ ?_ ?_)
 .rintro i σ H' hi ⟨z,zs,Y,rfl,O,z1,rfl,hz,J⟩
  walk_at "rd"
  have y0:=Int.emod_nonneg (z * z+69621 * z+31 * (0+(i:Int))+5) (show (2147483629:Int)≠0 by decide)
  have Z:=Int.emod_lt_of_pos (z * z+69621 * z+31 * (0+(i:Int))+5) (show (0:Int) < 2147483629 by decide)
  refine ⟨.inl ⟨by omega,by omega⟩,.inl ⟨by decide,by decide⟩,.inl ⟨by decide,by decide⟩,by decide,.inl ⟨rfl,_,SqL.of ZAD⟩,l,zs.map V.int,_,rfl,rfl,ZAD,by rw [yAB];exact ZBH (by omega),?_⟩
  generalize (z * z+69621 * z+31 * (0+(i:Int))+5) % 2147483629=y at y0 Z ⊢
  refine ⟨y,zs++[y],_,rfl,y0,Z,by rw [ZDz,yBI];rfl,by rw [yAC,hz];rfl,fun x hx=>?_⟩
  rcases yBB.mp hx with h | h
  .exact J x h
  .rw [yAP.mp h];omega
 .rintro σ H' ⟨z,zs,Y,rfl,O,z1,rfl,hz,J⟩
  walk_at "rd"
  exact q l _ zs (ZAL hl _) hl ZAD (by omega) J
theorem ok_digits {f:Addr} {fd:FuncData} (F:Fun K "_law_digits" "_law_digits" ZCB f fd) (T:Bt K mg C_Asker C_AskedRule C_HallError C_NoPaper C_NoPlace C_TooFar C_Spent)
  (Z:Fn P w K mg base CX0 "_law_stream" 1 ["_law_cell","_law_many"] (ZB6))
  (J:Fn P w K mg base CX0 "_law_cell_at" 1 ["_law_script","_law_k"] (ZDr K))
 :FnOk P w K mg base CX0 2 f fd ["_law_script","_law_k","_law_base"] (ZDb K):=by
 refine F.ok sc_digits (fun vs H Q E h=>?_) (fun ai A outer s H vs Q E hr h=>?_)
 .obtain ⟨a,ns,k,b,rfl,hS,aa,hk,a0,ac,q⟩:=h
  rfl
 obtain ⟨a,ns,k,b,rfl,hS,aa,hk,a0,ac,q⟩:=h
 refine ⟨_,(ZAC (ZAQ (i:=3) sc_digits.nd rfl (by walk_at "o") (ZAp Z (hr.mono (by decide)) rfl ZAc (ZAA (ZAX ZBA (ZAI ((call_sumB rfl)) rfl T.b_sum PyProof.Rows.boot_sum (ZAA (pv 0) ZAE)) (pv 1)) (ZAA ZAJ ZAE))))
  (ZAC (ZAQ (i:=4) sc_digits.nd rfl (by walk_at "o") (ZBv ZAE))
  (ZAC (ZBR PassesOwn.never rfl (ZBN (ZBv (ZAA (ZAp J (hr.mono (by decide)) rfl ZAc (ZAA (pv 0) (ZAA (pv 1) ZAE))) (ZAA (ZAp J (hr.mono (by decide)) rfl ZAc (ZAA (pv 0) (ZAA (ZAX ZBA (pv 1) ZAJ) ZAE))) ZAE)))) (ZAR (i:=5) sc_digits.nd rfl (by walk_at "o"))
  (ZAH (ZBR PassesOwn.never rfl (ZBZ rfl T.b_range (ZAA ZAJ ZAE)) (ZAR (i:=6) sc_digits.nd rfl (by walk_at "o"))
  (ZAC (ZAn (ZAP ZDw (pv 5) ZAJ (ZAT _))
  (ZAH (ZAQ (i:=5) sc_digits.nd rfl (by walk_at "o") (ZA6 ZAo (pv 3) (ZAI ZAK rfl T.b_len PySem.boot_len (ZAA (pv 4) ZAE)) (fun _ _=>rfl)))) ZAU)
  (ZAC (ZBL (ZDI PySem.F.plainAttrs_list PySem.F.slot_list_append PySem.F.type_list_append ZB2 (pv 4) (ZAA (ZAX ZA9 (pv 5) (pv 2)) ZAE)))
  (ZAH (ZAQ (i:=5) sc_digits.nd rfl (by walk_at "o") (ZAX ZBQ (pv 5) (pv 2)))))))))
  (ZAH (ZAS (pv 4)))))),?_⟩
 walk_at "rd"
 refine ⟨a,ns,rfl,hS,_,120,rfl,by decide,by decide,fun sp H1 zs s1 ah h1 hz ag=>⟨yAD _,fun l hl=>?_⟩⟩
 obtain ⟨H2,e2,s2,h2⟩:=newH hl (.lst [])
 rw [e2];clear e2
 have S2:Same H H2:=s1.trans s2
 refine ⟨a,ns,k,rfl,S2.seq hS,hk,?_⟩
 generalize cellOf ns k=c1
 refine ⟨a,ns,k+1,rfl,S2.seq hS,by omega,?_⟩
 generalize cellOf ns (k+1)=c2
 refine ⟨ZAW (by decide),fun tw a6=>?_⟩
 obtain ⟨H3,e3,s3,h3⟩:=newH a6 (.lst [.int c1,.int c2])
 rw [e3];clear e3
 have ad:tw≠l:=Ne.symm (ZAF h2 a6)
 have af:sp≠l:=ZAF h1 hl
 have a9:=s3 _ _ (s2 _ _ h1)
 refine ZCR (SqL.of h3) (fun i σ H'=>∃ (v5 v6:Option V) (us:List Int),σ=[some (.ref a),some (.int k),some (.int b),some (.ref sp),some (.ref l),v5,v6] /\ H' l=some (.lst (us.map V.int)) /\ (∀ c,c≠l->H' c=H3 c) /\ us.length=60 * i /\ ∀ z∈us,0 <= z /\ z < b) ⟨_,_,[],rfl,s3 _ _ h2,fun _ _=>rfl,rfl,fun _ h=>nomatch h⟩ (fun i σ H' _ ⟨v5,v6,us,_,_,h,_⟩=>SqL.of (by rw [h _ ad];exact h3)) ?_ ?_
 .rintro i x σ H' hx ⟨v5,v6,us,rfl,a4,a5,a2,U⟩
  obtain ⟨c,rfl,hi⟩:∃ c:Int,x=.int c /\ i < 2:=by
   match i,hx with
   | 0,hx=>exact ⟨c1,(Option.some.inj hx).symm,by decide⟩
   | 1,hx=>exact ⟨c2,(Option.some.inj hx).symm,by decide⟩
  walk_at "rd"
  refine ZCZ (by decide) (ZDC (fun t σ H''=>∃ (c:Int) (v6:Option V) (us:List Int),σ=[some (.ref a),some (.int k),some (.int b),some (.ref sp),some (.ref l),some (.int c),v6] /\ H'' l=some (.lst (us.map V.int)) /\ (∀ c,c≠l->H'' c=H3 c) /\ us.length=60 * i+t /\ ∀ z∈us,0 <= z /\ z < b) ⟨c,_,us,rfl,a4,a5,by omega,U⟩ ?_ ?_)
  .rintro t σ H4 ht ⟨c,v6,us,rfl,Y,a1,L,O⟩
   have aj:t < 60:=ht
   walk_at "rd"
   have a7:∀ c:Int,∃ (c':Int) (v6:Option V) (a3:List Int),[some (V.ref a),some (V.int k),some (V.int b),some (V.ref sp),some (V.ref l),some (V.int (c / b)),some (V.int (0+(t:Int)))]=[some (V.ref a),some (V.int k),some (V.int b),some (V.ref sp),some (V.ref l),some (V.int c'),v6] /\ (upd H4 l (.lst (us.map V.int++[.int (c % b)]))) l=some (.lst (a3.map V.int)) /\ (∀ d,d≠l->upd H4 l (.lst (us.map V.int++[.int (c % b)])) d=H3 d) /\ a3.length=60 * i+(t+1) /\ ∀ z∈a3,0 <= z /\ z < b:=fun c=>by
    refine ⟨c / b,_,us++[c % b],rfl,by rw [ZAD,yBI];rfl,fun d hd=>by rw [ZAG hd];exact a1 d hd,by rw [yAC,L];rfl,fun z ae=>?_⟩
    rcases yBB.mp ae with h | h
    .exact O z h
    .rw [yAP.mp h]
     exact ⟨Int.emod_nonneg _ (by omega),Int.emod_lt_of_pos _ a0⟩
   by_cases hc:c < 1
   .rw [if_pos hc]
    refine ⟨l,_,rfl,.inl (SqL.of Y),?_⟩
    rw [yAB,L]
    have a8:60 * i+t < zs.length:=by omega
    refine ZAh (SqL.of (by rw [a1 _ af];exact a9)) (ZCe (v:=zs[60 * i+t]) (by omega) (by rw [Int.toNat_natCast];exact yAH a8)) ?_
    walk_at "rd"
    exact ⟨.inl ⟨rfl,_,SqL.of Y⟩,a0,l,_,_,rfl,rfl,Y,by rw [yAB];exact ZBH (by omega),⟨a0,by omega⟩,a7 _⟩
   .rw [if_neg hc]
    exact ⟨.inl ⟨rfl,_,SqL.of Y⟩,a0,l,_,_,rfl,rfl,Y,by rw [yAB];exact ZBH (by omega),⟨a0,by omega⟩,a7 _⟩
  .rintro σ H4 ⟨c,v6,us,rfl,Y,a1,L,O⟩
   exact ⟨_,_,us,rfl,Y,a1,by rw [L];show 60 * i+60=_;omega,O⟩
 .rintro σ H' ⟨v5,v6,us,rfl,a4,a5,a2,U⟩
  walk_at "rd"
  have S3:Same H H':=fun c o h=>by
   rw [a5 c (ZAF (s1 _ _ h) hl)]
   exact s3 _ _ (S2 _ _ h)
  exact q l _ us S3 (s1.free hl) a4 (by rw [a2];rfl) U
theorem ok_blocks {f:Addr} {fd:FuncData} (F:Fun K "_law_blocks" "_law_blocks" ZCC f fd) (T:Bt K mg C_Asker C_AskedRule C_HallError C_NoPaper C_NoPlace C_TooFar C_Spent)
  (J:Fn P w K mg base CX0 "_law_stream" 1 ["_law_cell","_law_many"] (ZB6))
 :FnOk P w K mg base CX0 2 f fd ["_law_keys_here","_law_cell"] (ZBm):=by
 refine F.ok sc_blocks (fun vs H Q E h=>?_) (fun a8 A outer s H vs Q E hr h=>?_)
 .obtain ⟨a,ks,c,rfl,ha,hk,q⟩:=h
  rfl
 obtain ⟨a,ks,c,rfl,ha,hk,q⟩:=h
 refine ⟨_,(ZAC (ZAQ (i:=2) sc_blocks.nd rfl (by walk_at "o") (ZBv ZAE))
  (ZAC (ZBR PassesOwn.never rfl (ZBN (ZAp J (hr.mono (by decide)) rfl ZAc (ZAA (pv 1) (ZAA (ZAI ZAK rfl T.b_len PySem.boot_len (ZAA (pv 0) ZAE)) ZAE)))) (ZAR (i:=3) sc_blocks.nd rfl (by walk_at "o"))
  (ZAC (ZAQ (i:=4) sc_blocks.nd rfl (by walk_at "o") (ZAI ZBt rfl T.b_sorted PyProof.Rows.boot_sorted (ZAA (ZBG ZBz (pv 0) (ZBM (ZAI ZAK rfl T.b_len PySem.boot_len (ZAA (pv 2) ZAE))) (ZBM (ZAX ZBA (ZAX ZBA (ZAI ZAK rfl T.b_len PySem.boot_len (ZAA (pv 2) ZAE)) ZAJ) (ZAX ZA9 (pv 3) ZAJ)))) ZAE)))
  (ZAC (ZAn (ZAP ZC4 (ZAX ZA9 (ZAX ZBQ (pv 3) ZAJ) ZAJ) ZAJ (ZAT _))
  (ZAH (ZBL (ZEt PySem.F.plainAttrs_list PySem.F.slot_list_reverse PySem.F.type_list_reverse mt_reverse (pv 4)))) ZAU)
  (ZAH (ZAQ (i:=2) sc_blocks.nd rfl (by walk_at "o") (ZAX op_cat (pv 2) (pv 4)))))))
  (ZAH (ZAS (pv 2))))),?_⟩
 walk_at "rd"
 refine ⟨yAD _,fun p hp=>⟨a,_,rfl,.inl (SqL.of (ZAL hp _ _ _ ha)),?_⟩⟩
 rw [yAB]
 refine ⟨c,ks.length,rfl,by omega,by omega,fun l H1 zs s1 hl h1 hz a3=>?_⟩
 refine ZCR (SqL.of h1) (fun i σ H'=>∃ (v3 v4:Option V) (r:Addr) (row:List Int),σ=[some (.ref a),some (.int c),some (.ref r),v3,v4] /\ H' l=some (.lst (zs.map V.int)) /\ H' r=some (.lst (row.map V.int)) /\ row.length <= ks.length /\ Same H H' /\ H r=none) ⟨_,_,p,[],rfl,h1,s1 _ _ ZAD,yAD _,(ZAL hp _).trans s1,hp⟩ (fun i σ H' _ ⟨v3,v4,r,row,_,h,_⟩=>SqL.of h) ?_ ?_
 .rintro i x σ H' hx ⟨v3,v4,r,row,rfl,Y,z,a4,hs,hn⟩
  obtain ⟨n,a6,rfl⟩:=ZCu hx
  walk_at "rd"
  obtain ⟨z0,z1⟩:=a3 n (yAO a6)
  refine ⟨r,_,rfl,.inl (SqL.of z),r,_,rfl,.inl (SqL.of z),by decide,ZCl (SqL.of (hs _ _ ha)) fun p1 a5=>?_⟩
  rw [ZDF,yAB]
  have a2:((ks.drop (HT.sIx ks.length 0 (some (row.length:Int)))).take (HT.sIx ks.length ks.length (some ((row.length:Int)+1+n % 9))-HT.sIx ks.length 0 (some (row.length:Int)))).length+row.length <= ks.length:=by
   rw [yAS,yAR,HT.sIx_nat]
   omega
  generalize (ks.drop (HT.sIx ks.length 0 (some (row.length:Int)))).take (HT.sIx ks.length ks.length (some ((row.length:Int)+1+n % 9))-HT.sIx ks.length 0 (some (row.length:Int)))=ws at a2 ⊢
  obtain ⟨H2,e2,s2,h2⟩:=newH a5 (.lst (ws.map V.int))
  rw [e2];clear e2
  refine ⟨p1,ws,rfl,SqL.of h2,by omega,fun l2 ms Z U _=>⟨⟨by decide,by decide⟩,by decide,?_⟩⟩
  have a7:=U.length_eq
  have nr:r≠l2:=ZAF (s2 _ _ z) Z
  have nl:l≠l2:=ZAF (s2 _ _ Y) Z
  have a1:∀ us:List Int,us.length=ms.length->∀ O,upd H2 l2 (.lst (us.map V.int)) O=none->∃ (v3 v4:Option V) (r':Addr) (L:List Int),[some (V.ref a),some (.int c),some (.ref O),some (.int n),some (.ref l2)]=[some (V.ref a),some (.int c),some (.ref r'),v3,v4] /\ (upd (upd H2 l2 (.lst (us.map V.int))) O (.lst (row.map V.int++us.map V.int))) l=some (.lst (zs.map V.int)) /\ (upd (upd H2 l2 (.lst (us.map V.int))) O (.lst (row.map V.int++us.map V.int))) r'=some (.lst (L.map V.int)) /\ L.length <= ks.length /\ Same H (upd (upd H2 l2 (.lst (us.map V.int))) O (.lst (row.map V.int++us.map V.int))) /\ H r'=none:=fun us hu O a0=>by
   have S2:Same H (upd H2 l2 (.lst (us.map V.int))):=(hs.trans s2).new Z
   have el:upd H2 l2 (.lst (us.map V.int)) l=some (.lst (zs.map V.int)):=by rw [ZAG nl];exact s2 _ _ Y
   exact ⟨_,_,O,row++us,rfl,by rw [ZAG (ZAF el a0)];exact el,by rw [ZAD,yBI],by rw [yAC];omega,S2.new a0,S2.free a0⟩
  split
  .refine ⟨.inl ⟨rfl,_,SqL.of ZAD⟩,l2,_,rfl,rfl,ZAD,?_⟩
   rw [ZDz,<- List.map_reverse]
   exact ⟨r,l2,_,_,rfl,rfl,by rw [ZAG nr];exact s2 _ _ z,ZAD,ZAW (by rw [yAB,yAB,yCH];omega),a1 _ (yCH ..)⟩
  .exact ⟨r,l2,_,_,rfl,rfl,by rw [ZAG nr];exact s2 _ _ z,ZAD,ZAW (by rw [yAB,yAB];omega),a1 _ rfl⟩
 .rintro σ H' ⟨v3,v4,r,row,rfl,Y,z,a4,hs,hn⟩
  walk_at "rd"
  exact q r _ row hs hn z (by omega)
theorem ok_nearly {f:Addr} {fd:FuncData} (F:Fun K "_law_nearly" "_law_nearly" ZCA f fd) (T:Bt K mg C_Asker C_AskedRule C_HallError C_NoPaper C_NoPlace C_TooFar C_Spent)
  (O:Fn P w K mg base CX0 "_law_stream" 1 ["_law_cell","_law_many"] (ZB6))
 :FnOk P w K mg base CX0 2 f fd ["_law_keys_here","_law_cell"] (ZBm):=by
 refine F.ok sc_nearly (fun vs H Q E h=>?_) (fun a9 A outer s H vs Q E hr h=>?_)
 .obtain ⟨a,ks,c,rfl,ha,hk,q⟩:=h
  rfl
 obtain ⟨a,ks,c,rfl,ha,hk,q⟩:=h
 refine ⟨_,(ZAC (ZAQ (i:=2) sc_nearly.nd rfl (by walk_at "o") (ZAI ZBt rfl T.b_sorted PyProof.Rows.boot_sorted (ZAA (pv 0) ZAE)))
  (ZAC (ZBR PassesOwn.never rfl (ZBN (ZAp O (hr.mono (by decide)) rfl ZAc (ZAA (pv 1) (ZAA (ZAX ZA9 (pv 1) ZAJ) ZAE)))) (ZAR (i:=3) sc_nearly.nd rfl (by walk_at "o"))
  (ZAH (ZAn (ZAP (ZER hr.units) (pv 2) (ZBv ZAE) (ZAT _))
  (ZAC (ZAQ (i:=4) sc_nearly.nd rfl (by walk_at "o") (ZAX ZA9 (pv 3) (ZAI ZAK rfl T.b_len PySem.boot_len (ZAA (pv 2) ZAE))))
  (ZAC (ZAQ (i:=5) sc_nearly.nd rfl (by walk_at "o") (ZDI PySem.F.plainAttrs_list PySem.F.slot_list_pop PySem.F.type_list_pop mt_popAt (pv 2) (ZAA (pv 4) ZAE)))
  (ZAH (ZBL (ZDI PySem.F.plainAttrs_list PySem.F.slot_list_insert PySem.F.type_list_insert ZC6 (pv 2) (ZAA (ZAI (ZB5 rfl) rfl T.b_max PyProof.Rows.boot_max (ZAA ZAJ (ZAA (ZAX ZBw (ZAX ZBw (pv 4) ZAJ) (ZAX ZA9 (ZAX ZBQ (pv 3) ZAJ) ZAJ)) ZAE))) (ZAA (pv 5) ZAE))))))) ZAU)))
  (ZAH (ZAS (pv 2))))),?_⟩
 walk_at "rd"
 refine ⟨a,ks,rfl,SqL.of ha,by omega,fun r ms Y Z _=>⟨by decide,?_⟩⟩
 have a8:=Z.length_eq
 refine ⟨c,c % 6,rfl,Int.emod_nonneg _ (by decide),by have:=Int.emod_lt_of_pos c (show (0:Int) < 6 by decide);omega,fun l H1 zs s1 hl h1 hz a4=>?_⟩
 refine ZCR (SqL.of h1) (fun i σ H'=>∃ (v3 v4 v5:Option V) (row:List Int),σ=[some (.ref a),some (.int c),some (.ref r),v3,v4,v5] /\ H' l=some (.lst (zs.map V.int)) /\ H' r=some (.lst (row.map V.int)) /\ row.length=ms.length /\ Same H H') ⟨_,_,_,ms,rfl,h1,s1 _ _ ZAD,rfl,(ZAL Y _).trans s1⟩ (fun i σ H' _ ⟨v3,v4,v5,row,_,h,_⟩=>SqL.of h) ?_ ?_
 .rintro i x σ H' hx ⟨v3,v4,v5,row,rfl,a2,J,U,hs⟩
  obtain ⟨n,a6,rfl⟩:=ZCu hx
  walk_at "rd"
  obtain ⟨z0,z1⟩:=a4 n (yAO a6)
  refine ⟨yAD _,fun p1 a5=>?_⟩
  obtain ⟨H2,e2,s2,h2⟩:=newH a5 (.lst [])
  rw [e2];clear e2
  refine neD_of Enc.int.list (by decide) (a:=row) (b:=[]) (ZDD (SqL.of (s2 _ _ J))) (ZDD (xs:=[]) (SqL.of h2)) ⟨_,rfl,?_⟩
  by_cases hrn:row=[]
  .rw [if_neg (by simp [hrn])]
   exact ⟨_,_,_,row,rfl,s2 _ _ a2,s2 _ _ J,U,hs.trans s2⟩
  rw [if_pos (by simp [hrn])]
  have a7:0 < row.length:=List.length_pos_iff.mpr hrn
  refine ⟨r,_,rfl,.inl (SqL.of (s2 _ _ J)),?_⟩
  rw [yAB]
  have a0:=Int.emod_nonneg n (show (row.length:Int)≠0 by omega)
  have a1:=Int.emod_lt_of_pos n (show (0:Int) < row.length by omega)
  obtain ⟨k,ek⟩:∃ k:Nat,n % (row.length:Int)=k:=⟨(n % (row.length:Int)).toNat,by omega⟩
  rw [ek] at a0 a1 ⊢
  have a3:k < row.length:=by omega
  refine ⟨by omega,.inl ⟨rfl,_,SqL.of (s2 _ _ J)⟩,r,_,k,k,.int row[k],rfl,rfl,s2 _ _ J,by omega,by omega,?_,by rw [yAT,yAH a3];rfl,.inl ⟨rfl,_,SqL.of ZAD⟩,⟨by decide,by decide⟩,by decide,0,_,rfl,?_⟩
  .rw [yAB]
   exact PySem.StrLaws.seqIndex_nonneg (by omega) (by omega)
  rw [ZFJ]
  have m0:=Int.emod_nonneg (n / 997) (show (4:Int)≠0 by decide)
  have m1:=Int.emod_lt_of_pos (n / 997) (show (0:Int) < 4 by decide)
  generalize (n / 997) % 4=w4 at m0 m1 ⊢
  refine ⟨r,_,_,_,rfl,rfl,ZAD,by rw [List.length_eraseIdx,yAB];exact ZBH (by split <;> omega),by omega,?_⟩
  rw [ZDz]
  obtain ⟨L,er,aa⟩:∃ L:List Int,insV ((row.map V.int).eraseIdx k) (max 0 ((k:Int)-1-w4)) (.int row[k])=L.map V.int /\ L.length=row.length:=by
   have e1:(row.map V.int).eraseIdx k=(row.eraseIdx k).map V.int:=by rw [List.eraseIdx_eq_take_drop_succ,List.eraseIdx_eq_take_drop_succ,yBI,List.map_take,List.map_drop]
   rw [e1]
   unfold insV
   dsimp only
   generalize (if (max 0 ((k:Int)-1-w4)) < 0 then ((max 0 ((k:Int)-1-w4))+(((row.eraseIdx k).map V.int).length:Int)).toNat else min (max 0 ((k:Int)-1-w4)).toNat ((row.eraseIdx k).map V.int).length)=kk
   refine ⟨(row.eraseIdx k).take kk++row[k]::(row.eraseIdx k).drop kk,by rw [yBI,yAU,List.map_take,List.map_drop],?_⟩
   rw [yAC,yAK,yAS,yAR,List.length_eraseIdx,if_pos a3]
   omega
  rw [er]
  have nl:l≠r:=fun z=>by
   rw [z] at hl
   rw [ZAD] at hl
   cases hl
  exact ⟨_,_,_,L,rfl,by rw [ZAG nl];exact s2 _ _ a2,ZAD,by omega,(hs.trans s2).upd Y⟩
 .rintro σ H' ⟨v3,v4,v5,row,rfl,a2,J,U,hs⟩
  walk_at "rd"
  exact q r _ row hs Y J (by omega)
theorem ok_keys {f:Addr} {fd:FuncData} (F:Fun K "_law_keys" "_law_keys" ZDO f fd) (T:Bt K mg C_Asker C_AskedRule C_HallError C_NoPaper C_NoPlace C_TooFar C_Spent)
  (z:Fn P w K mg base CX0 "_law_cell_at" 1 ["_law_script","_law_k"] (ZDr K))
  (J:Fn P w K mg base CX0 "_law_blocks" 2 ["_law_keys_here","_law_cell"] (ZBm))
  (U:Fn P w K mg base CX0 "_law_nearly" 2 ["_law_keys_here","_law_cell"] (ZBm))
  (L:Fn P w K mg base CX0 "_law_digits" 2 ["_law_script","_law_k","_law_base"] (ZDb K))
  (O:Fn P w K mg base CX0 "_law_stream" 1 ["_law_cell","_law_many"] (ZB6))
 :FnOk P w K mg base CX0 3 f fd ["_law_script","_law_most"] (ZEn K):=by
 refine F.ok sc_keys (fun vs H Q E h=>?_) (fun ae A outer s H vs Q E hr h=>?_)
 .obtain ⟨a,ns,rfl,hS,a1,q⟩:=h
  rfl
 obtain ⟨a,ns,rfl,hS,a1,q⟩:=h
 refine ⟨_,(ZAC (ZAQ (i:=2) sc_keys.nd rfl (by walk_at "o") (ZAp z (hr.mono (by decide)) rfl ZAc (ZAA (pv 0) (ZAA ZAJ ZAE))))
  (ZAC (ZAQ (i:=3) sc_keys.nd rfl (by walk_at "o") (ZAp z (hr.mono (by decide)) rfl ZAc (ZAA (pv 0) (ZAA ZAJ ZAE))))
  (ZAC (ZAn (ZAP ZC4 (ZAX ZA9 (ZAX ZBQ (pv 2) ZAJ) ZAJ) ZAJ (ZAT _))
  (ZAH (ZAS (ZBG ZBz (ZAp L (hr.mono (by decide)) rfl ZAc (ZAA (pv 0) (ZAA ZAJ (ZAA ZAJ ZAE)))) ZB0 (ZBM (ZAX ZA9 (ZAX ZBQ (pv 2) ZAJ) (ZAX ZDv ZAJ (pv 1))))))) ZAU)
  (ZAC (ZAQ (i:=4) sc_keys.nd rfl (by walk_at "o") (ZA6 ZAo (ZBv (ZAA ZAJ (ZAA ZAJ (ZAA ZAJ (ZAA (ZAX op_pow ZAJ ZAJ) ZAE))))) (ZAX ZA9 (pv 2) ZAJ) (fun _ _=>rfl)))
  (ZAC (ps_setComp (i:=5) sc_keys.nd rfl (Or.inl rfl) rfl (k:=1) (js:=[4]) (N':=["_law_cell","_law_width"]) (by rfl) (ZBN (ZBG ZBz (pv 0) (ZBM ZAJ) (ZBM (ZAX ZBA ZAJ (pv 1))))) (fun _ _ _ _=>ZAR (i:=0) (show (["_law_cell","_law_width"]:List Str).Nodup by decide +kernel) rfl (by walk_at "o")) (fun _ _ _ _=>ZBo) (fun _ _ _ _=>(ZAX ZBw (ZAX ZA9 (pv 0) (pv 1)) (ZAX ZBQ (pv 1) ZAJ))))
  (ZAC (ZAQ (i:=6) sc_keys.nd rfl (by walk_at "o") (ZAX ZA9 (ZAX ZBQ (pv 2) ZAJ) ZAJ))
  (ZAC (ZAn (PW.pt (ZBY (ZAP ZC4 (pv 6) ZAJ (ZAT _)) (ZA8 (ZAP ZC4 (pv 6) ZAJ (ZAT _)))))
  (ZAH (ZAS (ZAp J (hr.mono (by decide)) rfl ZAc (ZAA (pv 5) (ZAA (pv 3) ZAE))))) ZAU)
  (ZAC (ZAn (ZAP ZC4 (pv 6) ZAJ (ZAT _))
  (ZAH (ZAS (ZAI ZBt rfl T.b_sorted PyProof.Rows.boot_sorted (ZAA (pv 5) ZAE)))) ZAU)
  (ZAC (ZAn (ZAP ZC4 (pv 6) ZAJ (ZAT _))
  (ZAH (ZAS (pe_list_rev rfl rfl T.b_list rfl T.b_reversed (ZAA (ZAI ZBt rfl T.b_sorted PyProof.Rows.boot_sorted (ZAA (pv 5) ZAE)) ZAE)))) ZAU)
  (ZAC (ZAn (ZAP ZC4 (pv 6) ZAJ (ZAT _))
  (ZAH (ZAS (ZB1 rfl (k:=1) (js:=[4]) (N':=["_law_number","_law_width"]) (by rfl) (ZBN (ZAp O (hr.mono (by decide)) rfl ZAc (ZAA (pv 3) (ZAA (ZAX ZA9 (pv 3) (ZAX ZDv ZAJ (pv 1))) ZAE)))) (fun _ _ _ _=>ZAR (i:=0) (show (["_law_number","_law_width"]:List Str).Nodup by decide +kernel) rfl (by walk_at "o")) (fun _ _ _ _=>ZBo) (fun _ _ _ _=>(ZAX ZBw (ZAX ZA9 (pv 0) (pv 1)) (ZAX ZBQ (pv 1) ZAJ)))))) ZAU)
  (ZAC (ZAn (ZAP ZC4 (pv 6) ZAJ (ZAT _))
  (ZAH (ZAS (ZAp U (hr.mono (by decide)) rfl ZAc (ZAA (pv 5) (ZAA (pv 3) ZAE))))) ZAU)
  (ZAH (ZAS (pv 5)))))))))))))),?_⟩
 walk_at "rd"
 refine ⟨a,ns,0,rfl,hS,by decide,?_⟩
 generalize cellOf ns 0=md
 refine ⟨a,ns,1,rfl,hS,by decide,?_⟩
 generalize cellOf ns 1=mx
 walk_at "rd"
 refine ⟨⟨by decide,by decide⟩,by decide,?_⟩
 split
 .refine ⟨a,ns,4,120,rfl,hS,a1,by decide,by decide,by decide,fun l H1 zs s1 hl h1 hz _=>?_⟩
  walk_at "rd"
  have m0:=Int.emod_nonneg (md / 64) (show (2 * 60:Int)≠0 by decide)
  have m1:=Int.emod_lt_of_pos (md / 64) (show (0:Int) < 2 * 60 by decide)
  refine ⟨⟨by decide,by decide⟩,.inl ⟨by decide,by decide⟩,by decide,ZCl (SqL.of h1) fun p1 a2=>?_⟩
  rw [ZDF]
  refine q p1 _ _ (s1.new a2) (s1.free a2) ZAD ?_
  rw [yAS,HT.sIx_none]
  obtain ⟨mm,em⟩:∃ mm:Nat,md / 64 % (2 * 60)=mm:=⟨(md / 64 % (2 * 60)).toNat,by omega⟩
  rw [em,HT.sIx_nat]
  omega
 refine ⟨⟨by decide,by decide,by decide⟩,ZAW (by decide),fun wl a9=>⟨by decide,?_⟩⟩
 obtain ⟨H1,e1,s1,h1⟩:=newH a9 (.lst [.int 2,.int 5,.int 100,.int (10 ^ Int.toNat 60)])
 rw [e1];clear e1
 have hm:∃ m:Int,0 < m /\ atI [V.int 2,.int 5,.int 100,.int (10 ^ Int.toNat 60)] (md % 4)=some (.int m):=by
  have:md % 4=0∨md % 4=1∨md % 4=2∨md % 4=3:=by omega
  rcases this with e | e | e | e <;> rw [e]
  .exact ⟨2,by decide,ZAl (by decide) rfl⟩
  .exact ⟨5,by decide,ZAl (by decide) rfl⟩
  .exact ⟨100,by decide,ZAl (by decide) rfl⟩
  .exact ⟨10 ^ Int.toNat 60,by decide,ZAl (by decide) rfl⟩
 obtain ⟨m,a3,a7⟩:=hm
 refine ZAh (SqL.of h1) a7 ?_
 refine ZCl (s1.seq hS) fun sl a8=>?_
 rw [ZDF]
 have a6:((ns.drop (HT.sIx ns.length 0 (some 4))).take (HT.sIx ns.length ns.length (some (4+60))-HT.sIx ns.length 0 (some 4))).length <= 63:=by
  rw [yAS,yAR]
  omega
 generalize (ns.drop (HT.sIx ns.length 0 (some 4))).take (HT.sIx ns.length ns.length (some (4+60))-HT.sIx ns.length 0 (some 4))=ms at a6 ⊢
 obtain ⟨H2,e2,s2,h2⟩:=newH a8 (.lst (ms.map V.int))
 rw [e2];clear e2
 refine compI_gen (rest:=[some (.int m)]) (SqL.of h2) (by omega) rfl (fun _ _=>True) (fun c H' hc e Q' k=>?_) fun ks H3 kl af _ s3 a5=>?_
 .walk_at "rd"
  exact ⟨a3,⟨by decide,by decide⟩,k _ _ (Same.refl _) trivial⟩
 obtain ⟨H4,e4,s4,h4⟩:=newH a5 (.lst (ks.map V.int))
 rw [e4];clear e4
 have S3:Same H H3:=fun b o h=>s3 _ _ (s2 _ _ (s1 _ _ h))
 have Y:Same H H4:=S3.trans s4
 walk_at "rd"
 refine ⟨⟨by decide,by decide⟩,by decide,?_⟩
 generalize md / 4 % 8=wy
 have Z:ZBm [.ref kl,.int mx] H4 Q E0:=⟨kl,ks,mx,rfl,h4,by omega,fun l H' zs s hl h hz=>q l H' zs (Y.trans s) (Y.free hl) h (by omega)⟩
 split
 .exact Z
 split
 .exact Z
 split
 .exact ⟨kl,ks,rfl,SqL.of h4,by omega,fun l us hl hp _=>q l _ us (Y.new hl) (Y.free hl) ZAD (by have:=hp.length_eq;omega)⟩
 split
 .refine ⟨kl,ks,rfl,SqL.of h4,by omega,fun l us hl hp _=>⟨l,_,rfl,SqL.of ZAD,fun r a0=>?_⟩⟩
  rw [<- List.map_reverse]
  exact q r _ us.reverse ((Y.new hl).new a0) ((Y.new hl).free a0) ZAD (by have:=hp.length_eq;rw [yCH];omega)
 split
 .have ac:=Int.emod_lt_of_pos mx (show (0:Int) < 2 * 60 by decide)
  refine ⟨.inl ⟨by decide,by decide⟩,by decide,mx,mx % (2 * 60),rfl,Int.emod_nonneg _ (by decide),by omega,fun l H5 zs s5 hl h5 hz aa=>?_⟩
  refine compI_gen (rest:=[some (.int m)]) (SqL.of h5) (by omega) rfl (fun _ _=>True) (fun c H' hc e Q' k=>?_) fun us H6 l6 ad _ s6 a4=>?_
  .walk_at "rd"
   exact ⟨a3,⟨by decide,by decide⟩,k _ _ (Same.refl _) trivial⟩
  have S6:Same H H6:=fun b o h=>s6 _ _ (s5 _ _ (Y _ _ h))
  exact q l6 _ us (S6.new a4) (S6.free a4) ZAD (by omega)
 split
 .exact Z
 exact q kl H4 ks Y (S3.free a5) h4 (by omega)
theorem ok_whole {f:Addr} {fd:FuncData} (F:Fun K "_law_whole" "_law_whole" ZCi f fd) (T:Bt K mg C_Asker C_AskedRule C_HallError C_NoPaper C_NoPlace C_TooFar C_Spent)
 :FnOk P w K mg base CX0 1 f fd ["_law_found"] (ZDX):=by
 refine F.ok sc_whole (fun vs H Q E h=>?_) (fun z A outer s H vs Q E J h=>?_)
 .obtain ⟨i,rfl,q⟩:=h
  rfl
 obtain ⟨i,rfl,q⟩:=h
 refine ⟨_,(ZAH (ZAS (pe_and (ZAI ZAy rfl T.b_isinstance PyProof.Rows.boot_isinstance (ZAA (pv 0) (ZAA (ZCm rfl T.b_int PyProof.Rows.boot_int) ZAE))) (pe_one (ZEr (ZAI ZAy rfl T.b_isinstance PyProof.Rows.boot_isinstance (ZAA (pv 0) (ZAA (ZCm rfl T.b_bool PyProof.Rows.boot_bool) ZAE)))))))),?_⟩
 walk_at "rd"
 refine inst_int ?_
 walk_at "rd"
 refine inst_int_bl T.kit_int_bool ?_
 walk_at "rd"
 exact q
theorem ok_in_order {f:Addr} {fd:FuncData} (F:Fun K "_law_in_order" "_law_in_order" ZBV f fd) (T:Bt K mg C_Asker C_AskedRule C_HallError C_NoPaper C_NoPlace C_TooFar C_Spent)
  (L:Fn P w K mg base CX0 "_law_whole" 1 ["_law_found"] (ZDX))
 :FnOk P w K mg base CX0 2 f fd ["_law_order","_law_keys_here","_law_many"] (ZCz):=by
 refine F.ok sc_in_order (fun vs H Q E h=>?_) (fun a7 A outer s H vs Q E hr h=>?_)
 .obtain ⟨ol,ky,os,ks,rfl,J,a0,U,Z,q⟩:=h
  rfl
 obtain ⟨ol,ky,os,ks,rfl,J,a0,U,Z,q⟩:=h
 refine ⟨_,(ZAC (ZAn (PW.pt (ZBY (ZBI (ZAr (ZAI ZAy rfl T.b_isinstance PyProof.Rows.boot_isinstance (ZAA (pv 0) (ZAA (ZCm rfl T.b_list PyProof.Rows.boot_list) ZAE))))) (ZA8 (ZAP ZDu (ZAI ZAK rfl T.b_len PySem.boot_len (ZAA (pv 0) ZAE)) (pv 2) (ZAT _)))))
  (ZAH (ZAS ZBP)) ZAU)
  (ZAC (ZBR PassesOwn.never rfl (ZBN (pv 0)) (ZAR (i:=3) sc_in_order.nd rfl (by walk_at "o"))
  (ZAH (ZAn (PW.pt (ZBY (ZBI (ZAr (ZAp L (hr.mono (by decide)) rfl ZAc (ZAA (pv 3) ZAE)))) (ZBY (ZAP ZDw (pv 3) ZAJ (ZAT _)) (ZA8 (ZAP ZEb (pv 3) (ZAI ZAK rfl T.b_len PySem.boot_len (ZAA (pv 1) ZAE)) (ZAT _))))))
  (ZAH (ZAS ZBP)) ZAU)))
  (ZAC (ZBR PassesOwn.never rfl (pi_zip rfl T.b_zip (ZAA (pv 0) (ZAA (ZBG ZBz (pv 0) (ZBM ZAJ) ZB0) ZAE))) (ZCH (n:=2) rfl (ZAV (ZAR (i:=4) sc_in_order.nd rfl (by walk_at "o")) (ZAV (ZAR (i:=5) sc_in_order.nd rfl (by walk_at "o")) ZBO)))
  (ZAH (ZAn (ZAP (op_geT hr.units) (ZA1 (ZAA (ZA6 ZAo (pv 1) (pv 4) (fun _ _=>rfl)) (ZAA (pv 4) ZAE))) (ZA1 (ZAA (ZA6 ZAo (pv 1) (pv 5) (fun _ _=>rfl)) (ZAA (pv 5) ZAE))) (ZAT _))
  (ZAH (ZAS ZBP)) ZAU)))
  (ZAH (ZAS ZBP))))),?_⟩
 walk_at "rd"
 have a3:∀ i:Nat,i < ks.length->atI (ks.map V.int) (i:Int)=some (.int (kat ks i)):=fun i h=>ZCe (by omega) (by rw [Int.toNat_natCast];unfold kat;rw [yAH h];rfl)
 refine ZDh J ?_
 walk_at "rd"
 refine ⟨ol,_,rfl,.inl (SqL.of J),?_⟩
 rw [yAB,if_neg (fun z=>z rfl)]
 refine ZCR (SqL.of J) (fun i σ H'=>∃ v3 v4 v5,σ=[some (.ref ol),some (.ref ky),some (.int os.length),v3,v4,v5] /\ H'=H) ⟨_,_,_,rfl,rfl⟩ (fun i σ H' _ ⟨_,_,_,_,e⟩=>by rw [e];exact SqL.of J) ?_ ?_
 .rintro i x σ H' hx ⟨v3,v4,v5,rfl,rfl⟩
  rw [yAT] at hx
  obtain ⟨y,O,rfl⟩:=yBO.mp hx
  have a8:=U y (yAO O)
  walk_at "rd"
  refine ⟨(y:Int),rfl,_,rfl,?_⟩
  rw [if_neg (by decide)]
  rw [if_neg (by omega)]
  refine ⟨ky,_,rfl,.inl (SqL.of a0),?_⟩
  rw [yAB,if_neg (by omega)]
  exact ⟨_,_,_,rfl,rfl⟩
 rintro σ H' ⟨v3,v4,v5,rfl,rfl⟩
 walk_at "rd"
 refine ZCl (SqL.of J) fun sl a4=>?_
 rw [ZDE]
 obtain ⟨H2,e2,s2,h2⟩:=newH a4 (.lst ((nL os).drop 1))
 rw [e2];clear e2
 refine forZ_of (SqL.of (s2 _ _ J)) (SqL.of h2) (fun i σ H'=>∃ v3 v4 v5,σ=[some (.ref ol),some (.ref ky),some (.int os.length),v3,v4,v5] /\ Same H2 H') ⟨_,_,_,rfl,.refl _⟩ (fun i σ H' _ ⟨_,_,_,_,e⟩=>⟨SqL.of (e _ _ (s2 _ _ J)),SqL.of (e _ _ h2)⟩) ?_ ?_
 .rintro i x y σ H' p hx O ⟨v3,v4,v5,rfl,s3⟩ hp
  rw [yBH,Nat.add_comm] at O
  rw [yAT] at hx O
  obtain ⟨x,a5,rfl⟩:=yBO.mp hx
  obtain ⟨y,a6,rfl⟩:=yBO.mp O
  clear hx O
  have hx:=a5
  have O:=a6
  have Y:=ZAL hp (.tup [.int x,.int y]) _ _ (s3 _ _ (s2 _ _ a0))
  have s4:Same H2 (upd H' p (.tup [.int (x:Int),.int (y:Int)])):=s3.new hp
  refine ZBF (SqT.of ZAD) rfl ?_
  walk_at "rd"
  refine ZAh (SqL.of Y) (a3 x (U x (yAO hx))) ⟨ZAW (by decide),fun t1 a1=>?_⟩
  refine ZAh (SqL.of (ZAL a1 _ _ _ Y)) (a3 y (U y (yAO O))) ⟨ZAW (by decide),fun t2 a2=>?_⟩
  refine ⟨t1,t2,[kat ks x,(x:Int)],[kat ks y,(y:Int)],rfl,rfl,SqT.of (ZAL a2 _ _ _ ZAD),SqT.of ZAD,_,rfl,?_⟩
  rw [Z i x y hx O]
  rw [if_neg (by decide)]
  exact ⟨_,_,_,rfl,(s4.new a1).new a2⟩
 rintro σ H' ⟨v3,v4,v5,rfl,s3⟩
 walk_at "rd"
 exact q _ (s2.trans s3)
theorem ok_shown {f:Addr} {fd:FuncData} (F:Fun K "_law_shown" "_law_shown" ZCk f fd) (T:Bt K mg C_Asker C_AskedRule C_HallError C_NoPaper C_NoPlace C_TooFar C_Spent)
 :FnOk P w K mg base CX0 1 f fd ["_law_order","_law_log"] (ZD5):=by
 refine F.ok sc_shown (fun vs H Q E h=>?_) (fun ae A outer s H vs Q E hr h=>?_)
 .obtain ⟨ol,lg,os,ks,pr,ws,rfl,a0,hlg,ht,Y,O,a4,q⟩:=h
  rfl
 obtain ⟨ol,lg,os,ks,pr,ws,rfl,a0,hlg,ht,Y,O,a4,q⟩:=h
 refine ⟨_,(ZAC (ZAQ (i:=2) sc_shown.nd rfl (by walk_at "o") pe_dnewT)
  (ZAC (ZBR PassesOwn.never rfl (ZBN (pv 1)) (ZCH (n:=3) rfl (ZAV (ZAR (i:=3) sc_shown.nd rfl (by walk_at "o")) (ZAV (ZAR (i:=4) sc_shown.nd rfl (by walk_at "o")) (ZAV (ZAR (i:=5) sc_shown.nd rfl (by walk_at "o")) ZBO))))
  (ZAC (ZAn (ZAP op_le (pv 3) (pv 4) (ZAT _))
  (ZAH (ZAS ZBP)) ZAU)
  (ZAH (ps_dput (ZE5 hr) (pv 2) (ZA1 (ZAA (pv 3) (ZAA (pv 4) ZAE))) ZBP rfl))))
  (ZAC (ZBR PassesOwn.never rfl (pi_zip rfl T.b_zip (ZAA (pv 0) (ZAA (ZBG ZBz (pv 0) (ZBM ZAJ) ZB0) ZAE))) (ZCH (n:=2) rfl (ZAV (ZAR (i:=6) sc_shown.nd rfl (by walk_at "o")) (ZAV (ZAR (i:=7) sc_shown.nd rfl (by walk_at "o")) ZBO)))
  (ZAH (ZAn (pt_cmp (pc_dnotin (ZE5 hr) (ZA1 (ZAA (ZAI (ZB5 rfl) rfl T.b_max PyProof.Rows.boot_max (ZAA (pv 6) (ZAA (pv 7) ZAE))) (ZAA (ZAI (call_min2 rfl) rfl T.b_min PyProof.Rows.boot_min (ZAA (pv 6) (ZAA (pv 7) ZAE))) ZAE))) (pv 2)))
  (ZAH (ZAS ZBP)) ZAU)))
  (ZAH (ZAS ZBP))))),?_⟩
 walk_at "rd"
 intro d hd
 obtain ⟨H1,e1,s1,h1⟩:=newH hd (.dT [])
 rw [e1];clear e1
 refine ZCR (SqL.of (s1 _ _ hlg)) (fun i σ H'=>∃ v3 v4 v5 Z v7 kvs,σ=[some (.ref ol),some (.ref lg),some (.ref d),v3,v4,v5,Z,v7] /\ H' d=some (.dT kvs) /\ kvs.length <= i /\ Same H H' /\ ∀ (j p q:Nat),j < i->pr[j]?=some (p,q)->(valV kvs (kP p q)).isSome=true) ⟨_,_,_,_,_,[],rfl,h1,yAA _,s1,fun j p q z=>by omega⟩ (fun i σ H' _ ⟨_,_,_,_,_,_,_,_,_,e,_⟩=>SqL.of (e _ _ hlg)) ?_ ?_
 .rintro i x σ H' hx ⟨v3,v4,v5,Z,v7,kvs,rfl,L,ac,s2,J⟩
  have hi:=(yAM.mp hx).1
  rw [ht.len] at hi
  obtain ⟨⟨p,q'⟩,hp⟩:∃ c,pr[i]?=some c:=⟨_,yAH hi⟩
  obtain ⟨t,a3,a6⟩:=ht.get i p q' hp
  rw [hx] at a3
  cases a3
  have a7:=Y _ (yAO hp)
  walk_at "rd"
  refine ZBF (SqT.of (s2 _ _ a6)) rfl ?_
  walk_at "rd"
  rw [if_neg (by have:q' < p:=a7;omega)]
  refine ⟨ZAW (by decide),fun t3 a2=>?_⟩
  have nd:d≠t3:=ZAF L a2
  refine ⟨d,_,rfl,DPut.t (k:=kP p q') (kvs:=kvs) (ZAL a2 _ _ _ L) ZAD (ZDM (by omega)),?_⟩
  refine ⟨_,_,_,_,_,putK kvs (kP p q') (.bl true),rfl,ZAD,yAF (ZBC _ _ _) (by omega),(s2.new a2).upd hd,fun j p2 q2 hj a1=>?_⟩
  rw [ZDW]
  split
  .rfl
  .rename_i hne
   by_cases z:j=i
   .rw [z,hp] at a1
    cases a1
    exact absurd rfl hne
   .exact J j p2 q2 (by omega) a1
 rintro σ H' ⟨v3,v4,v5,Z,v7,kvs,rfl,L,ac,s2,J⟩
 walk_at "rd"
 refine ZCl (SqL.of (s2 _ _ a0)) fun sl aa=>?_
 rw [ZDE]
 obtain ⟨H3,e3,s3,h3⟩:=newH aa (.lst ((nL os).drop 1))
 rw [e3];clear e3
 have U:=s3 _ _ (s2 _ _ a0)
 refine forZ_of (SqL.of U) (SqL.of h3) (fun i σ H'=>∃ v3 v4 v5 Z v7,σ=[some (.ref ol),some (.ref lg),some (.ref d),v3,v4,v5,Z,v7] /\ Same H3 H') ⟨_,_,_,_,_,rfl,.refl _⟩ (fun i σ H' _ ⟨_,_,_,_,_,_,e⟩=>⟨SqL.of (e _ _ U),SqL.of (e _ _ h3)⟩) ?_ ?_
 .rintro i x y σ H' p hx hy ⟨v3,v4,v5,Z,v7,rfl,s4⟩ hp
  rw [yBH,Nat.add_comm] at hy
  rw [yAT] at hx hy
  obtain ⟨x,a9,rfl⟩:=yBO.mp hx
  obtain ⟨y,ad,rfl⟩:=yBO.mp hy
  clear hx hy
  have hx:=a9
  have hy:=ad
  refine ZBF (SqT.of ZAD) rfl ?_
  walk_at "rd"
  refine ⟨_,_,rfl,_,_,rfl,?_⟩
  rw [ZFJ,mn_eq]
  refine ⟨ZAW (by decide),fun t5 a5=>?_⟩
  have hm:=O i x y hx hy
  obtain ⟨j,hj⟩:=yBK hm
  have hv:=J j _ _ (by have:=(yAM.mp hj).1;rw [ht.len];exact this) hj
  have a8:=ZAL a5 (.tup [.int (max (x:Int) y),.int (min (x:Int) y)]) _ _ (ZAL hp (.tup [.int x,.int y]) _ _ (s4 _ _ (s3 _ _ L)))
  refine ⟨d,_,rfl,DGet.t (k:=kP (max x y) (min x y)) a8 (by rw [ZAD];show some _=some (HO.tup [.int ((max x y:Nat):Int),.int ((min x y:Nat):Int)]);rw [show ((max x y:Nat):Int)=max (x:Int) y by omega,show ((min x y:Nat):Int)=min (x:Int) y by omega]),?_⟩
  rw [hv,if_neg (by decide)]
  exact ⟨_,_,_,_,_,rfl,(s4.new hp).new a5⟩
 rintro σ H' ⟨v3,v4,v5,Z,v7,rfl,s4⟩
 walk_at "rd"
 exact q _ ((s2.trans s3).trans s4)
theorem ok_crossed {f:Addr} {fd:FuncData} (F:Fun K "_law_crossed" "_law_crossed" ZBj f fd) (T:Bt K mg C_Asker C_AskedRule C_HallError C_NoPaper C_NoPlace C_TooFar C_Spent)
 :FnOk P w K mg base CX0 1 f fd ["_law_keys_here"] (ZCL):=by
 refine F.ok sc_crossed (fun vs H Q E h=>?_) (fun a1 A outer s H vs Q E hr h=>?_)
 .obtain ⟨U,ks,rfl,J,hk,q⟩:=h
  rfl
 obtain ⟨U,ks,rfl,J,hk,q⟩:=h
 refine ⟨_,(ZAC (ZAQ (i:=1) sc_crossed.nd rfl (by walk_at "o") (ZBv ZAE))
  (ZAC (ZBR PassesOwn.never rfl (ZBZ rfl T.b_range (ZAA (ZAI ZAK rfl T.b_len PySem.boot_len (ZAA (pv 0) ZAE)) ZAE)) (ZAR (i:=2) sc_crossed.nd rfl (by walk_at "o"))
  (ZAH (ZBL (ZDI PySem.F.plainAttrs_list PySem.F.slot_list_append PySem.F.type_list_append ZB2 (pv 1) (ZAA (ZAI ZAK rfl T.b_len PySem.boot_len (ZAA (ZB1 rfl (k:=1) (js:=[0,2]) (N':=["_law_p","_law_keys_here","_law_place"]) (by rfl) (ZBZ rfl T.b_range (ZAA (pv 2) ZAE)) (fun _ _ _ _=>ZAR (i:=0) (show (["_law_p","_law_keys_here","_law_place"]:List Str).Nodup by decide +kernel) rfl (by walk_at "o")) (fun _ _ _ _=>(pifs_one (ZAP ZDw (ZA6 (ZCY K) (pv 1) (pv 2) (fun _ _=>rfl)) (ZA6 (ZCY K) (pv 1) (pv 0) (fun _ _=>rfl)) (ZAT _)))) (fun _ _ _ _=>(pv 0))) ZAE)) ZAE)))))
  (ZAH (ZAS (pv 1))))),?_⟩
 walk_at "rd"
 refine ⟨yAD _,fun p Z=>?_⟩
 obtain ⟨H2,e2,s2,h2⟩:=newH Z (.lst (nL ((List.range 0).map (crs ks))))
 rw [show (HO.lst ([]:List V))=.lst (nL ((List.range 0).map (crs ks))) from rfl,e2];clear e2
 refine ⟨U,_,rfl,.inl (SqL.of (s2 _ _ J)),?_⟩
 rw [yAB]
 have O:∀ i:Nat,i < ks.length->atI (ks.map V.int) (i:Int)=some (.int (kat ks i)):=fun i h=>ZCe (by omega) (by rw [Int.toNat_natCast];unfold kat;rw [yAH h];rfl)
 refine ZCZ (by omega) (ZDC (fun i σ H'=>∃ Y:Option V,σ=[some (.ref U),some (.ref p),Y] /\ Same H H' /\ H' p=some (.lst (nL ((List.range i).map (crs ks))))) ⟨_,rfl,s2,h2⟩ ?_ ?_)
 .rintro i σ H' hi ⟨Y,rfl,L,h3⟩
  have a0:i < ks.length:=by omega
  rw [Int.zero_add]
  walk_at "rd"
  refine ⟨.inl ⟨rfl,_,SqL.of h3⟩,?_⟩
  refine compR1_of (by omega) (fun j ys σ X=>∃ v,σ=[v,some (.ref U),some (.int i)] /\ X=H' /\ ys=nL ((List.range j).filter fun q=>decide (kat ks i < kat ks q))) ⟨_,rfl,rfl,rfl⟩ (fun j ys σ X ⟨_,_,_,e⟩=>by rw [e,yAB];exact yAF (List.length_filter_le _ _) (by rw [yBS];exact yAA _)) (fun j ys σ X hj z=>?_) fun ys σ X z p2 hp2=>?_
  .obtain ⟨v,rfl,rfl,rfl⟩:=z
   rw [Int.zero_add]
   walk_at "rd"
   refine ZAh (SqL.of (L _ _ J)) (O i a0) (ZAh (SqL.of (L _ _ J)) (O j (by omega)) ?_)
   walk_at "rd"
   by_cases hc:kat ks i < kat ks j
   .rw [if_pos hc]
    exact .of hj ⟨_,rfl,rfl,by rw [ZCa,if_pos (decide_eq_true hc),ZD9]⟩
   .rw [if_neg hc]
    exact .of hj ⟨_,rfl,rfl,by rw [ZCa,if_neg (by rw [decide_eq_false hc];decide),yBD]⟩
  .obtain ⟨v,rfl,rfl,rfl⟩:=z
   have s4:=ZAL hp2 (.lst (nL ((List.range (i:Int).toNat).filter fun q=>decide (kat ks i < kat ks q))))
   refine ⟨p2,_,rfl,.inl (SqL.of ZAD),p,_,_,rfl,rfl,s4 _ _ h3,ZBH (by rw [yAB,yAB,yBS];omega),_,rfl,?_,?_⟩
   .exact (L.trans s4).upd Z
   .rw [ZAD,yAB,Int.toNat_natCast,show ((List.range i).filter fun q=>decide (kat ks i < kat ks q)).length=crs ks i from rfl,ZD9,List.range_succ,yBI]
    rfl
 .rintro σ H' ⟨Y,rfl,L,h3⟩
  walk_at "rd"
  exact q p H' L Z (by rw [Int.toNat_natCast] at h3;exact h3)
theorem ok_told {f:Addr} {fd:FuncData} (F:Fun K "_law_told" "_law_told" ZDN f fd) (T:Bt K mg C_Asker C_AskedRule C_HallError C_NoPaper C_NoPlace C_TooFar C_Spent)
  (z:Fn P w K mg base (CXE P w) "by_reach" 5 ["asker","reach"] (ZCx C_Asker C_AskedRule C_TooFar))
 :FnOk P w K mg base CX0 6 f fd ["_law_asker","_law_reach"] (ZDZ C_Asker C_AskedRule C_TooFar):=by
 refine F.ok sc_told (fun vs H Q E h=>?_) (fun a4 A outer s H vs Q E O h=>?_)
 .obtain ⟨ks,xs,a,rl,ru,tl,g,lg,pr,R,rfl,st,hk,J,hR,q1,q2⟩:=h
  rfl
 obtain ⟨ks,xs,a,rl,ru,tl,g,lg,pr,R,rfl,st,hk,J,hR,q1,q2⟩:=h
 refine ⟨_,(ZAC (ZAQ (i:=2) sc_told.nd rfl (by walk_at "o") (ZA1 (ZAA ZC2 ZAE)))
  (ZAC (ps_try (i:=3) ⟨rfl,rfl⟩ rfl rfl T.m_HallError sc_told.nd rfl rfl (fun pn xe E hp=>
  (ZAH (ZAQ (i:=2) sc_told.nd rfl (by walk_at "o") (ZA1 (ZAA ZC2 (ZAA (pe_fnS z (O.mono (by decide)) rfl hp (ZAA (pv 0) (ZAA (pv 1) ZAE))) ZAE)))))) (fun e=>
  (ZAH (ZAQ (i:=2) sc_told.nd rfl (by walk_at "o") (ZA1 (ZAA ZC2 (ZAA (pv 3) ZAE)))))))
  (ZAH (ZAS (pv 2))))),?_⟩
 walk_at "rd"
 refine ⟨ZAW (by decide),fun p hp=>?_⟩
 obtain ⟨H2,e2,s2,h2⟩:=newH hp (.tup [.str (Str.ofString "none")])
 rw [e2];clear e2
 refine ⟨ks,xs,a,rl,ru,tl,g,lg,pr,R,rfl,st.mono s2,hk,J,hR,fun ol H' os l fr a3 U a0 O st'=>⟨ZAW (by decide),fun t Y=>?_⟩,fun d l2 H' os so l fr O st' hd a1 hp2 Z=>⟨T.xm_TooFar_HallError,fun ea a2=>?_⟩⟩
 .have s4:=ZAL Y (.tup [V.str (Str.ofString "paper"),.ref ol])
  exact q1 t ol _ os l (s2.fr.trans (fr.trans s4.fr)) ZAD U (s4 _ _ a0) O (st'.mono s4)
 .obtain ⟨H4,e4,s4,h4⟩:=newH a2 (excO ea (.ref C_TooFar) (some d))
  rw [e4];clear e4
  walk_at "rd"
  refine ⟨ZAW (by decide),fun t Y=>?_⟩
  have L:=ZAL Y (.tup [V.str (Str.ofString "refused"),.ref ea])
  exact q2 t ea d l2 _ os so l (s2.fr.trans (fr.trans (s4.fr.trans L.fr))) ZAD (L _ _ h4) (L _ _ (s4 _ _ hd)) (L _ _ (s4 _ _ a1)) O (st'.mono (s4.trans L)) hp2 Z
theorem ok_far {f:Addr} {fd:FuncData} (F:Fun K "_law_far" "_law_far" ZEZ f fd) (T:Bt K mg C_Asker C_AskedRule C_HallError C_NoPaper C_NoPlace C_TooFar C_Spent)
  (J:Fn P w K mg base CX0 "_law_whole" 1 ["_law_found"] (ZDX))
 :FnOk P w K mg base CX0 2 f fd ["_law_e","_law_counts","_law_keys_here","_law_reach"] (ZD7 C_TooFar):=by
 refine F.ok sc_far (fun vs H Q E h=>?_) (fun ag A outer s H vs Q E hr h=>?_)
 .obtain ⟨e,d,l2,cl,ky,ks,R,os,so,rfl,Y,hd,ac,a4,ad,hk,a3,af,ae,a6,a8,a9,a7,q⟩:=h
  rfl
 obtain ⟨e,d,l2,cl,ky,ks,R,os,so,rfl,Y,hd,ac,a4,ad,hk,a3,af,ae,a6,a8,a9,a7,q⟩:=h
 refine ⟨_,(ZAC (ZAn (PW.pt (ZBY (ZBI (ZAr (ZAI (ZBb K) rfl T.b_isinstance PyProof.Rows.boot_isinstance (ZAA (pv 0) (ZAA (ZDe rfl T.m_TooFar) ZAE))))) (ZA8 (ZBI (ZAr (ZAI (ZBb K) rfl T.b_isinstance PyProof.Rows.boot_isinstance (ZAA (pv 0) (ZAA (ZCm rfl T.b_ValueError L2.boot_ValueError) ZAE))))))))
  (ZAH (ZAS ZBP)) ZAU)
  (ZAC (ZAn (PW.pt (ZBY (ZAr (ZAI (ZBb K) rfl T.b_isinstance PyProof.Rows.boot_isinstance (ZAA (pv 0) (ZAA (ZDe rfl T.m_NoPaper) ZAE)))) (ZBY (ZAr (ZAI (ZBb K) rfl T.b_isinstance PyProof.Rows.boot_isinstance (ZAA (pv 0) (ZAA (ZDe rfl T.m_NoPlace) ZAE)))) (ZA8 (ZAr (ZAI (ZBb K) rfl T.b_isinstance PyProof.Rows.boot_isinstance (ZAA (pv 0) (ZAA (ZDe rfl T.m_Spent) ZAE))))))))
  (ZAH (ZAS ZBP)) ZAU)
  (ZAC (ZAn (PW.pt (ZBY (ZBI (ZAr (ZAp J (hr.mono (by decide)) rfl ZAc (ZAA (ZA5 K (pv 0) rfl) ZAE)))) (ZA8 (ZAP ZDu (ZA5 K (pv 0) rfl) (ZA6 ZAo (ZB1 rfl (k:=1) (js:=[1,3]) (N':=["_law_k","_law_counts","_law_reach"]) (by rfl) (ZBZ rfl T.b_range (ZAA (ZAI ZAK rfl T.b_len PySem.boot_len (ZAA (pv 1) ZAE)) ZAE)) (fun _ _ _ _=>ZAR (i:=0) (show (["_law_k","_law_counts","_law_reach"]:List Str).Nodup by decide +kernel) rfl (by walk_at "o")) (fun _ _ _ _=>(pifs_one (ZAP ZEa (ZA6 (ZCY K) (pv 1) (pv 0) (fun _ _=>rfl)) (pv 2) (ZAT _)))) (fun _ _ _ _=>(pv 0))) ZAJ (fun _ _=>rfl)) (ZAT _)))))
  (ZAH (ZAS ZBP)) ZAU)
  (ZAC (ZAn (PW.pt (ZBY (ZBI (ZAr (ZAI ZAy rfl T.b_isinstance PyProof.Rows.boot_isinstance (ZAA (ZA5 K (pv 0) rfl) (ZAA (ZCm rfl T.b_list PyProof.Rows.boot_list) ZAE))))) (ZA8 (ZAP ZDu (ZAI ZAK rfl T.b_len PySem.boot_len (ZAA (ZA5 K (pv 0) rfl) ZAE)) (ZAX ZBA (pv 3) ZAJ) (ZAT _)))))
  (ZAH (ZAS ZBP)) ZAU)
  (ZAC (ZAQ (i:=4) sc_far.nd rfl (by walk_at "o") (ZFH ZEd ZAJ))
  (ZAC (ZBR PassesOwn.never rfl (ZBN (ZA5 K (pv 0) rfl)) (ZAR (i:=5) sc_far.nd rfl (by walk_at "o"))
  (ZAC (ZAn (PW.pt (ZBY (ZBI (ZAr (ZAp J (hr.mono (by decide)) rfl ZAc (ZAA (pv 5) ZAE)))) (ZBY (ZAP op_le (pv 5) (pv 4) (ZAT _)) (ZBY (ZAP ZEb (pv 5) (ZA5 K (pv 0) rfl) (ZAT _)) (ZA8 (ZAP ZEb (ZA6 ZAo (pv 2) (ZA5 K (pv 0) rfl) (fun _ _=>rfl)) (ZA6 ZAo (pv 2) (pv 5) (fun _ _=>rfl)) (ZAT _)))))))
  (ZAH (ZAS ZBP)) ZAU)
  (ZAH (ZAQ (i:=4) sc_far.nd rfl (by walk_at "o") (pv 5)))))
  (ZAH (ZAS ZBP)))))))),?_⟩
 walk_at "rd"
 refine isX Y T.xc_TooFar T.xk_TooFar.hd T.kit_TooFar_TooFar rfl ?_
 rw [if_neg (by decide)]
 refine isX Y T.xc_TooFar T.xk_TooFar.hd T.kit_TooFar_ValueError rfl ?_
 rw [if_neg (by decide)]
 refine isX Y T.xc_TooFar T.xk_TooFar.hd T.kit_TooFar_NoPaper rfl ?_
 rw [if_neg (by decide)]
 refine isX Y T.xc_TooFar T.xk_TooFar.hd T.kit_TooFar_NoPlace rfl ?_
 rw [if_neg (by decide)]
 refine isX Y T.xc_TooFar T.xk_TooFar.hd T.kit_TooFar_Spent rfl ?_
 rw [if_neg (by decide)]
 have a1:(fF os.length l2).lookup (Str.ofString "place")=some (.int os.length):=by rw [ZAd,if_neg (by decide +kernel)];rfl
 have a5:(fF os.length l2).lookup (Str.ofString "others")=some (.ref l2):=by rw [ZAd,if_pos rfl]
 refine ⟨e,_,d,_,_,rfl,.inl Y,hd,T.xc_TooFar,T.xk_TooFar.hd,T.n_TooFar_place,a1,⟨_,rfl,_,rfl,?_⟩⟩
 rw [if_neg (by decide)]
 refine ⟨e,_,d,_,_,rfl,.inl Y,hd,T.xc_TooFar,T.xk_TooFar.hd,T.n_TooFar_place,a1,cl,_,rfl,.inl (SqL.of a4),?_⟩
 rw [yAB,yAB,yBS]
 have aa:∀ i:Nat,i < ks.length->atI (ks.map V.int) (i:Int)=some (.int (kat ks i)):=fun i h=>ZCe (by omega) (by rw [Int.toNat_natCast];unfold kat;rw [yAH h];rfl)
 refine compR1_of (by omega) (fun j ys σ X=>∃ v,σ=[v,some (.ref cl),some (.int R)] /\ X=H /\ ys=nL ((List.range j).filter fun q=>decide (R < crs ks q))) ⟨_,rfl,rfl,rfl⟩ (fun j ys σ X ⟨_,_,_,e⟩=>by rw [e,yAB];exact yAF (List.length_filter_le _ _) (by rw [yBS];exact yAA _)) (fun j ys σ X hj z=>?_) fun ys σ X z p2 hp2=>?_
 .obtain ⟨v,rfl,rfl,rfl⟩:=z
  rw [Int.zero_add]
  walk_at "rd"
  refine ZAh (SqL.of a4) (ZDG (o:=crs ks j) (by rw [yAT,List.getElem?_range (by omega)];rfl)) ?_
  walk_at "rd"
  by_cases hc:R < crs ks j
  .rw [if_pos (by omega)]
   exact .of hj ⟨_,rfl,rfl,by rw [ZCa,if_pos (decide_eq_true hc),ZD9]⟩
  .rw [if_neg (by omega)]
   exact .of hj ⟨_,rfl,rfl,by rw [ZCa,if_neg (by rw [decide_eq_false hc];decide),yBD]⟩
 obtain ⟨v,rfl,rfl,rfl⟩:=z
 obtain ⟨r,hr⟩:=filt_first (f:=fun q=>decide (R < crs ks q)) a3 (decide_eq_true ae) (fun q hq=>decide_eq_false (by have:=a6 q hq;omega))
 rw [Int.toNat_natCast,hr]
 obtain ⟨X2,e2,s2,h2⟩:=newH hp2 (.lst (nL (os.length::r)))
 rw [e2];clear e2
 refine ZAh (SqL.of h2) (ZAl (by decide) rfl) ?_
 walk_at "rd"
 rw [if_neg (fun z=>z trivial)]
 refine ⟨e,_,d,_,_,rfl,.inl (s2 _ _ Y),s2 _ _ hd,T.xc_TooFar,T.xk_TooFar.hd,T.n_TooFar_others,a5,?_⟩
 have a0:=s2 _ _ Y
 have Z:=s2 _ _ hd
 have L:=s2 _ _ ac
 have a2:=s2 _ _ ad
 refine ZDh L ?_
 rw [if_neg (by decide)]
 refine ⟨e,_,d,_,_,rfl,.inl a0,Z,T.xc_TooFar,T.xk_TooFar.hd,T.n_TooFar_others,a5,l2,_,rfl,.inl (SqL.of L),?_⟩
 rw [yAB,a9,if_neg (fun z=>z (by omega))]
 refine ⟨e,_,d,_,_,rfl,.inl a0,Z,T.xc_TooFar,T.xk_TooFar.hd,T.n_TooFar_others,a5,?_⟩
 refine ZCR (SqL.of L) (fun i σ X=>∃ (v5:Option V) (O:Int),σ=[some (.ref e),some (.ref cl),some (.ref ky),some (.int R),some (.int O),v5] /\ X=X2 /\ ∀ x,so[i]?=some x->O < x) ⟨_,_,rfl,rfl,fun x _=>by omega⟩ (fun i σ X _ ⟨_,_,_,z,_⟩=>by rw [z];exact SqL.of L) ?_ ?_
 .rintro i u σ X hu ⟨v5,O,rfl,rfl,U⟩
  rw [yAT] at hu
  obtain ⟨y,hy,rfl⟩:=yBO.mp hu
  obtain ⟨y1,y2⟩:=a8 y (yAO hy)
  have ah:=U y hy
  walk_at "rd"
  refine ⟨(y:Int),rfl,_,rfl,?_⟩
  rw [if_neg (by decide),if_neg (by omega)]
  refine ⟨e,_,d,_,_,rfl,.inl a0,Z,T.xc_TooFar,T.xk_TooFar.hd,T.n_TooFar_place,a1,?_⟩
  walk_at "rd"
  rw [if_neg (by omega)]
  refine ⟨e,_,d,_,_,rfl,.inl a0,Z,T.xc_TooFar,T.xk_TooFar.hd,T.n_TooFar_place,a1,?_⟩
  refine ZAh (SqL.of a2) (aa os.length a3) (ZAh (SqL.of a2) (aa y (by omega)) ?_)
  walk_at "rd"
  rw [if_neg (by omega)]
  refine ⟨_,_,rfl,fun x hx=>?_⟩
  have:=List.pairwise_iff_getElem.mp a7 i (i+1) (yAM.mp hy).1 (yAM.mp hx).1 (yBQ _)
  rw [(yAM.mp hy).2,(yAM.mp hx).2] at this
  omega
 .rintro σ X ⟨v5,O,rfl,rfl,U⟩
  walk_at "rd"
  exact q _ s2
theorem ok_walked {f:Addr} {fd:FuncData} (F:Fun K "_law_walked" "_law_walked" ZB8 f fd) (T:Bt K mg C_Asker C_AskedRule C_HallError C_NoPaper C_NoPlace C_TooFar C_Spent)
 :FnOk P w K mg base CX0 1 f fd ["_law_log","_law_many","_law_reach"] (ZCf):=by
 refine F.ok sc_walked (fun vs H Q E h=>?_) (fun am A outer s H vs Q E hr h=>?_)
 .obtain ⟨lg,ks,n,R,os,b,l,ws,rfl,hlg,ht,a8,hn,q⟩:=h
  rfl
 obtain ⟨lg,ks,n,R,os,b,l,ws,rfl,hlg,ht,a8,hn,q⟩:=h
 refine ⟨_,(ZAC (ZAQ (i:=3) sc_walked.nd rfl (by walk_at "o") (ZBv ZAE))
  (ZAC (ZAQ (i:=4) sc_walked.nd rfl (by walk_at "o") ZAJ)
  (ZAC (ZBR PassesOwn.never rfl (ZBZ rfl T.b_range (ZAA (pv 1) ZAE)) (ZAR (i:=5) sc_walked.nd rfl (by walk_at "o"))
  (ZAC (ZAQ (i:=6) sc_walked.nd rfl (by walk_at "o") (ZAI (ZB5 rfl) rfl T.b_max PyProof.Rows.boot_max (ZAA ZAJ (ZAA (ZAX ZBw (ZAI ZAK rfl T.b_len PySem.boot_len (ZAA (pv 3) ZAE)) (pv 2)) ZAE))))
  (ZAC (ZAQ (i:=7) sc_walked.nd rfl (by walk_at "o") (ZAI ZAK rfl T.b_len PySem.boot_len (ZAA (pv 3) ZAE)))
  (ZAC (ZAn (ZAP ZEa (pv 6) ZAJ (ZAT _))
  (ZAC (ZAn (PW.pt (ZBY (ZAP ZEb (pv 4) (ZAI ZAK rfl T.b_len PySem.boot_len (ZAA (pv 0) ZAE)) (ZAT _)) (ZA8 (ZAP (ZER hr.units) (ZBG sl_tup (ZA6 ZAo (pv 0) (pv 4) (fun _ _=>rfl)) ZB0 (ZBM ZAJ)) (ZA1 (ZAA (pv 5) (ZAA (ZA6 ZAo (pv 3) (ZAX ZBw (pv 6) ZAJ) (fun _ _=>rfl)) ZAE))) (ZAT _)))))
  (ZAH (ZAS (ZA1 (ZAA (ZFH ZEd ZAJ) (ZAA (pv 3) ZAE))))) ZAU)
  (ZAC (ZAQ (i:=4) sc_walked.nd rfl (by walk_at "o") (ZAX ZBA (pv 4) ZAJ))
  (ZAH (ZAn (ZAr (ZA6 ZDS (ZA6 ZAo (pv 0) (ZAX ZBw (pv 4) ZAJ) (fun _ _=>rfl)) ZAJ (fun _ _=>rfl)))
  (ZAH (ZAS (ZA1 (ZAA (ZAX ZBw (pv 4) (ZAI ZAK rfl T.b_len PySem.boot_len (ZAA (pv 0) ZAE))) (ZAA (pv 3) ZAE))))) ZAU)))) ZAU)
  (ZAC (ps_while PassesOwn.never (ZAP ZDw (pv 6) (pv 7) (ZAT _))
  (ZAC (ZAQ (i:=8) sc_walked.nd rfl (by walk_at "o") (ZAX ZBQ (ZAX ZBA (pv 6) (pv 7)) ZAJ))
  (ZAC (ZAn (PW.pt (ZBY (ZAP ZEb (pv 4) (ZAI ZAK rfl T.b_len PySem.boot_len (ZAA (pv 0) ZAE)) (ZAT _)) (ZA8 (ZAP (ZER hr.units) (ZBG sl_tup (ZA6 ZAo (pv 0) (pv 4) (fun _ _=>rfl)) ZB0 (ZBM ZAJ)) (ZA1 (ZAA (pv 5) (ZAA (ZA6 ZAo (pv 3) (pv 8) (fun _ _=>rfl)) ZAE))) (ZAT _)))))
  (ZAH (ZAS (ZA1 (ZAA (ZFH ZEd ZAJ) (ZAA (pv 3) ZAE))))) ZAU)
  (ZAC (ZAn (ZAr (ZA6 ZDS (ZA6 ZAo (pv 0) (pv 4) (fun _ _=>rfl)) ZAJ (fun _ _=>rfl)))
  (ZAH (ZAQ (i:=7) sc_walked.nd rfl (by walk_at "o") (pv 8)))
  (ZAH (ZAQ (i:=6) sc_walked.nd rfl (by walk_at "o") (ZAX ZBA (pv 8) ZAJ))))
  (ZAH (ZAQ (i:=4) sc_walked.nd rfl (by walk_at "o") (ZAX ZBA (pv 4) ZAJ)))))))
  (ZAH (ZBL (ZDI PySem.F.plainAttrs_list PySem.F.slot_list_insert PySem.F.type_list_insert ZC6 (pv 3) (ZAA (pv 6) (ZAA (pv 5) ZAE))))))))))
  (ZAH (ZAS (ZA1 (ZAA (ZAX ZBw (pv 4) (ZAI ZAK rfl T.b_len PySem.boot_len (ZAA (pv 0) ZAE))) (ZAA (pv 3) ZAE)))))))),?_⟩
 walk_at "rd"
 refine ⟨yAD _,fun ol a7=>?_⟩
 obtain ⟨H2,e2,s2,ah⟩:=newH a7 (.lst (nL []))
 rw [show (HO.lst ([]:List V))=.lst (nL []) from rfl,e2];clear e2
 have ag:=ht.len
 have a4:∀ {k p x:Nat} {X:Hp},Same H X->l[k]?=some (p,x)->k < ws.length /\ ∃ t,ws[k]?=some (V.ref t) /\ X t=some (.tup [.int p,.int x,.bl (decide (kat ks p < kat ks x))]):=fun {k p x X} s hk=>by
  obtain ⟨t,t1,t2⟩:=ht.get k p x hk
  exact ⟨(yAM.mp t1).1,t,t1,s _ _ t2⟩
 refine ZCZ (by omega) (ZDC (fun i σ H'=>∃ (v5 v6 v7 v8:Option V) (J:List Nat) (dn rest:List (Nat×Nat)),σ=[some (.ref lg),some (.int n),some (.int R),some (.ref ol),some (.int dn.length),v5,v6,v7,v8] /\ H' ol=some (.lst (nL J)) /\ J.length=i /\ Same H H' /\ l=dn++rest /\ Rch ks R J i n os b rest) ⟨_,_,_,_,[],[],l,rfl,ah,rfl,s2,rfl,a8⟩ ?_ ?_)
 .rintro i σ H' hi ⟨v5,v6,v7,v8,J,dn,rest,rfl,Z,ac,s3,hl,hp⟩
  rw [Int.zero_add]
  walk_at "rd"
  refine ⟨ol,_,rfl,.inl (SqL.of Z),?_⟩
  walk_at "rd"
  rw [yAB]
  refine ⟨_,_,rfl,?_⟩
  rw [show (if ((J.length:Int)-(R:Int)) > 0 then ((J.length:Int)-(R:Int)) else 0)=((J.length-R:Nat):Int) by split <;> omega]
  refine ⟨ol,_,rfl,.inl (SqL.of Z),?_⟩
  rw [yAB]
  walk_at "rd"
  have sX:=s3
  have a0:=Z
  cases hp with
  | done z=>omega
  | @far _ _ _ x z hR hx hkx=>
   rw [if_pos (by omega)]
   have hk:l[dn.length]?=some (i,x):=by rw [hl,yAX (yAA _),yBU];rfl
   have hb:os[os.length-R-1]?=some x:=hx
   refine ⟨lg,_,rfl,.inl (SqL.of (s3 _ _ hlg)),?_⟩
   rw [show ((os.length-R:Nat):Int)-1=((os.length-R-1:Nat):Int) by omega,show ((dn.length:Int)+1-1)=(dn.length:Int) by omega]
   obtain ⟨a9,t,t1,t2⟩:=a4 sX hk
   rw [if_neg (by omega)]
   refine ZAh (SqL.of (sX _ _ hlg)) (ZAl (by omega) (by rw [Int.toNat_natCast];exact t1)) ?_
   refine ⟨t,_,rfl,SqT.of t2,by rintro ⟨_,z⟩;revert z;show (if (2:Int) < 0 then ((2:Int)+3).toNat else min (2:Int).toNat 3)=3->False;decide,fun p1 O=>?_⟩
   refine ZAh (SqL.of (ZAL O _ _ _ a0)) (ZDG hb) ⟨ZAW (by decide),fun p2 hp2=>?_⟩
   have U:p1≠p2:=fun z=>by rw [<- z,ZAD] at hp2;cases hp2
   refine ZCW (d:=.tuple [.int i,.int x]) (ZB3 (SqT.of (by rw [ZAG U,ZAD];rfl)) (.two (ZA2 _) (ZA2 _))) (ZB3 (SqT.of ZAD) (.two (ZA2 _) (ZA2 _))) (by unfold PyData.canLay0 PyData.canLayAll0 PyData.canLayAll0 PyData.canLayAll0 PyData.canLay0;rfl) (by unfold PyData.depth PyData.depthAll PyData.depthAll PyData.depthAll PyData.depth;decide) ⟨_,rfl,?_⟩
   rw [if_neg (by decide)]
   have s4:=(ZAL O (.tup (cutV [V.int (i:Int),.int (x:Int),.bl (decide (kat ks i < kat ks x))] none (some 2)))).trans (ZAL hp2 (.tup [.int (i:Int),.int (x:Int)]))
   generalize upd (upd _ p1 (.tup (cutV [V.int (i:Int),.int (x:Int),.bl (decide (kat ks i < kat ks x))] none (some 2)))) p2 (.tup [.int (i:Int),.int (x:Int)])=Y at s4 ⊢
   refine ZAh (SqL.of (s4 _ _ (sX _ _ hlg))) (ZAl (by omega) (by rw [Int.toNat_natCast];exact t1)) (ZCn (SqT.of (s4 _ _ t2)) (ZAl (by decide) rfl) ⟨_,rfl,?_⟩)
   rw [decide_eq_true hkx,if_pos rfl]
   refine ⟨lg,_,rfl,.inl (SqL.of (s4 _ _ (sX _ _ hlg))),ZAW (by decide),fun t3 af=>?_⟩
   rw [show ((dn.length:Int)+1-(ws.length:Int))=0 by rw [ag,hl,yAC,yBZ];omega]
   exact q t3 ol _ (sX.trans (s4.trans (ZAL af _))) ZAD (ZAL af _ _ _ (s4 _ _ Z))
  | @step _ _ _ _ r _ f l1 l2 z c1 c2 hh hp2=>
   apply onceW (fun X a2=>Same H' X /\ a2=dn.length+f.length)
   .intro a5
    by_cases hR:R < J.length
    .rw [if_pos (by omega)]
     obtain ⟨x,hx⟩:∃ x,J[J.length-R-1]?=some x:=⟨_,yAH (by omega)⟩
     obtain ⟨ak,hf⟩:=c1 x hR hx
     have hk:l[dn.length]?=some (i,x):=by rw [hl,yAX (yAA _),yBU,hf];rfl
     have hb:J[J.length-R-1]?=some x:=hx
     refine ⟨lg,_,rfl,.inl (SqL.of (s3 _ _ hlg)),?_⟩
     rw [show ((J.length-R:Nat):Int)-1=((J.length-R-1:Nat):Int) by omega,show ((dn.length:Int)+1-1)=(dn.length:Int) by omega]
     obtain ⟨a9,t,t1,t2⟩:=a4 sX hk
     rw [if_neg (by omega)]
     refine ZAh (SqL.of (sX _ _ hlg)) (ZAl (by omega) (by rw [Int.toNat_natCast];exact t1)) ?_
     refine ⟨t,_,rfl,SqT.of t2,by rintro ⟨_,z⟩;revert z;show (if (2:Int) < 0 then ((2:Int)+3).toNat else min (2:Int).toNat 3)=3->False;decide,fun p1 O=>?_⟩
     refine ZAh (SqL.of (ZAL O _ _ _ a0)) (ZDG hb) ⟨ZAW (by decide),fun p2 hp2=>?_⟩
     have U:p1≠p2:=fun z=>by rw [<- z,ZAD] at hp2;cases hp2
     refine ZCW (d:=.tuple [.int i,.int x]) (ZB3 (SqT.of (by rw [ZAG U,ZAD];rfl)) (.two (ZA2 _) (ZA2 _))) (ZB3 (SqT.of ZAD) (.two (ZA2 _) (ZA2 _))) (by unfold PyData.canLay0 PyData.canLayAll0 PyData.canLayAll0 PyData.canLayAll0 PyData.canLay0;rfl) (by unfold PyData.depth PyData.depthAll PyData.depthAll PyData.depthAll PyData.depth;decide) ⟨_,rfl,?_⟩
     rw [if_neg (by decide)]
     have s4:=(ZAL O (.tup (cutV [V.int (i:Int),.int (x:Int),.bl (decide (kat ks i < kat ks x))] none (some 2)))).trans (ZAL hp2 (.tup [.int (i:Int),.int (x:Int)]))
     generalize upd (upd _ p1 (.tup (cutV [V.int (i:Int),.int (x:Int),.bl (decide (kat ks i < kat ks x))] none (some 2)))) p2 (.tup [.int (i:Int),.int (x:Int)])=Y at s4 ⊢
     refine ZAh (SqL.of (s4 _ _ (sX _ _ hlg))) (ZAl (by omega) (by rw [Int.toNat_natCast];exact t1)) (ZCn (SqT.of (s4 _ _ t2)) (ZAl (by decide) rfl) ⟨_,rfl,?_⟩)
     rw [decide_eq_false ak,if_neg (by decide)]
     rw [show ((dn.length:Int)+1)=((dn.length+1:Nat):Int) by omega]
     have a3:dn.length+1=dn.length+f.length:=by rw [hf];rfl
     generalize dn.length+1=a2 at a3 ⊢
     exact a5 Y a2 ⟨s4,a3⟩
    .rw [if_neg (by omega)]
     have a3:dn.length=dn.length+f.length:=by rw [c2 hR];rfl
     generalize hdn:dn.length=a2
     exact a5 H' a2 ⟨.refl _,by omega⟩
   rintro X a2 ⟨al,a3⟩
   have ai:(J.drop (J.length-R)).length=J.length-(J.length-R):=yAR
   have ad:∀ k,k < l1.length->l[a2+k]?=l1[k]?:=fun k hk=>by
    rw [hl,yAX (by omega),yAX (by omega),yAZ (by omega)]
    congr 1
    omega
   refine while_of (fun m σ Y=>∃ (low high L:Nat) (v8:Option V) (l3:List (Nat×Nat)),m=high-low /\ σ=[some (.ref lg),some (.int n),some (.int R),some (.ref ol),some (.int L),some (.int i),some (.int ((J.length-R+low:Nat):Int)),some (.int ((J.length-R+high:Nat):Int)),v8] /\ Same H' Y /\ Halv ks (J.drop (J.length-R)) i low high r l3 /\ L+l3.length=a2+l1.length /\ ∀ k,k < l3.length->l[L+k]?=l3[k]?) ⟨_,0,(J.drop (J.length-R)).length,a2,v8,l1,rfl,?_,al,hh,rfl,ad⟩ ?_
   .rw [Nat.add_zero,ai,show J.length-R+(J.length-(J.length-R))=J.length by omega]
   rintro m σ Y ⟨low,high,L,v9,l3,rfl,rfl,sY,h3,ae,a6⟩
   have sX:=s3.trans sY
   have a0:=sY _ _ Z
   walk_at "rd"
   by_cases hlt:low < high
   .rw [if_pos (by omega)]
    refine wBody_of ?_
    walk_at "rd"
    have aj:(((J.length-R+low:Nat):Int)+((J.length-R+high:Nat):Int)) / 2=((J.length-R+(low+high) / 2:Nat):Int):=by omega
    refine ⟨⟨by decide,by decide⟩,?_⟩
    rw [aj]
    refine ⟨lg,_,rfl,.inl (SqL.of (sX _ _ hlg)),?_⟩
    have step:∀ (o:Nat) (l4:List (Nat×Nat)),l3=(i,o)::l4->(J.drop (J.length-R))[(low+high) / 2]?=some o->l[L]?=some (i,o) /\ J[J.length-R+(low+high) / 2]?=some o /\ (L+1)+l4.length=a2+l1.length /\ ∀ k,k < l4.length->l[L+1+k]?=l4[k]?:=fun o l4 e ho=>by
     subst e
     have z:=a6 0 (by simp)
     refine ⟨by simpa using z,by rw [yBH] at ho;exact ho,by rw [yAK] at ae;omega,fun k hk=>?_⟩
     have:=a6 (k+1) (by rw [yAK];omega)
     rw [show L+1+k=L+(k+1) by omega,this]
     rfl
    cases h3 with
    | done n=>exact absurd hlt n
    | @less _ _ _ x l4 a1 b1 c3 d3=>
     obtain ⟨hk,hb,t4,t5⟩:=step x l4 rfl b1
     obtain ⟨a9,t,t1,t2⟩:=a4 sX hk
     rw [if_neg (by omega)]
     refine ZAh (SqL.of (sX _ _ hlg)) (ZAl (by omega) (by rw [Int.toNat_natCast];exact t1)) ?_
     refine ⟨t,_,rfl,SqT.of t2,by rintro ⟨_,z⟩;revert z;show (if (2:Int) < 0 then ((2:Int)+3).toNat else min (2:Int).toNat 3)=3->False;decide,fun p1 O=>?_⟩
     refine ZAh (SqL.of (ZAL O _ _ _ a0)) (ZDG hb) ⟨ZAW (by decide),fun p2 hp2=>?_⟩
     have U:p1≠p2:=fun z=>by rw [<- z,ZAD] at hp2;cases hp2
     refine ZCW (d:=.tuple [.int i,.int x]) (ZB3 (SqT.of (by rw [ZAG U,ZAD];rfl)) (.two (ZA2 _) (ZA2 _))) (ZB3 (SqT.of ZAD) (.two (ZA2 _) (ZA2 _))) (by unfold PyData.canLay0 PyData.canLayAll0 PyData.canLayAll0 PyData.canLayAll0 PyData.canLay0;rfl) (by unfold PyData.depth PyData.depthAll PyData.depthAll PyData.depthAll PyData.depth;decide) ⟨_,rfl,?_⟩
     rw [if_neg (by decide)]
     have s4:=(ZAL O (.tup (cutV [V.int (i:Int),.int (x:Int),.bl (decide (kat ks i < kat ks x))] none (some 2)))).trans (ZAL hp2 (.tup [.int (i:Int),.int (x:Int)]))
     generalize upd (upd _ p1 (.tup (cutV [V.int (i:Int),.int (x:Int),.bl (decide (kat ks i < kat ks x))] none (some 2)))) p2 (.tup [.int (i:Int),.int (x:Int)])=Y at s4 ⊢
     refine ZAh (SqL.of (s4 _ _ (sX _ _ hlg))) (ZAl (by omega) (by rw [Int.toNat_natCast];exact t1)) (ZCn (SqT.of (s4 _ _ t2)) (ZAl (by decide) rfl) ⟨_,rfl,?_⟩)
     rw [decide_eq_true c3,if_pos rfl]
     exact ⟨(low+high) / 2-low,by omega,low,(low+high) / 2,L+1,_,l4,rfl,by rw [show ((L:Int)+1)=((L+1:Nat):Int) by omega],sY.trans s4,d3,t4,t5⟩
    | @more _ _ _ x l4 a1 b1 c3 d3=>
     obtain ⟨hk,hb,t4,t5⟩:=step x l4 rfl b1
     obtain ⟨a9,t,t1,t2⟩:=a4 sX hk
     rw [if_neg (by omega)]
     refine ZAh (SqL.of (sX _ _ hlg)) (ZAl (by omega) (by rw [Int.toNat_natCast];exact t1)) ?_
     refine ⟨t,_,rfl,SqT.of t2,by rintro ⟨_,z⟩;revert z;show (if (2:Int) < 0 then ((2:Int)+3).toNat else min (2:Int).toNat 3)=3->False;decide,fun p1 O=>?_⟩
     refine ZAh (SqL.of (ZAL O _ _ _ a0)) (ZDG hb) ⟨ZAW (by decide),fun p2 hp2=>?_⟩
     have U:p1≠p2:=fun z=>by rw [<- z,ZAD] at hp2;cases hp2
     refine ZCW (d:=.tuple [.int i,.int x]) (ZB3 (SqT.of (by rw [ZAG U,ZAD];rfl)) (.two (ZA2 _) (ZA2 _))) (ZB3 (SqT.of ZAD) (.two (ZA2 _) (ZA2 _))) (by unfold PyData.canLay0 PyData.canLayAll0 PyData.canLayAll0 PyData.canLayAll0 PyData.canLay0;rfl) (by unfold PyData.depth PyData.depthAll PyData.depthAll PyData.depthAll PyData.depth;decide) ⟨_,rfl,?_⟩
     rw [if_neg (by decide)]
     have s4:=(ZAL O (.tup (cutV [V.int (i:Int),.int (x:Int),.bl (decide (kat ks i < kat ks x))] none (some 2)))).trans (ZAL hp2 (.tup [.int (i:Int),.int (x:Int)]))
     generalize upd (upd _ p1 (.tup (cutV [V.int (i:Int),.int (x:Int),.bl (decide (kat ks i < kat ks x))] none (some 2)))) p2 (.tup [.int (i:Int),.int (x:Int)])=Y at s4 ⊢
     refine ZAh (SqL.of (s4 _ _ (sX _ _ hlg))) (ZAl (by omega) (by rw [Int.toNat_natCast];exact t1)) (ZCn (SqT.of (s4 _ _ t2)) (ZAl (by decide) rfl) ⟨_,rfl,?_⟩)
     rw [decide_eq_false c3,if_neg (by decide)]
     exact ⟨high-((low+high) / 2+1),by omega,(low+high) / 2+1,high,L+1,_,l4,rfl,by rw [show ((L:Int)+1)=((L+1:Nat):Int) by omega,show (((J.length-R+(low+high) / 2:Nat):Int)+1)=((J.length-R+((low+high) / 2+1):Nat):Int) by omega],sY.trans s4,d3,t4,t5⟩
   .rw [if_neg (by omega)]
    walk_at "rd"
    cases h3 with
    | less a1=>exact absurd a1 hlt
    | more a1=>exact absurd a1 hlt
    | done nn=>
     have an:=hh.bounds (yAD _)
     refine ⟨.inl ⟨rfl,_,SqL.of a0⟩,ol,_,_,_,rfl,rfl,a0,ZBH (by rw [yAB];omega),by omega,?_⟩
     rw [insV_nL (by omega)]
     rw [yBL,Nat.add_zero] at ae
     refine ⟨some (.int i),some (.int ((J.length-R+r:Nat):Int)),some (.int ((J.length-R+high:Nat):Int)),v9,insN J (J.length-R+r) i,dn++(f++l1),l2,?_,ZAD,by rw [ZDj];omega,sX.upd a7,by rw [hl];simp only [yAV],hp2⟩
     rw [show (dn++(f++l1)).length=L by rw [yAC,yAC];omega]
 rintro σ H' ⟨v5,v6,v7,v8,J,dn,rest,rfl,Z,ac,s3,hl,hp⟩
 walk_at "rd"
 refine ⟨lg,_,rfl,.inl (SqL.of (s3 _ _ hlg)),?_⟩
 cases hp with
 | done z=>
  rw [yBD] at hl
  walk_at "rd"
  refine ⟨ZAW (by decide),fun t aa=>?_⟩
  rw [ag,hl,show ((dn.length:Int)-(dn.length:Int))=0 by omega]
  exact q t ol _ (s3.trans (ZAL aa _)) ZAD (ZAL aa _ _ _ Z)
 | far z=>omega
 | step z=>omega
theorem ok_few {f:Addr} {fd:FuncData} (F:Fun K "_law_few" "_law_few" ZEY f fd) (T:Bt K mg C_Asker C_AskedRule C_HallError C_NoPaper C_NoPlace C_TooFar C_Spent)
 :FnOk P w K mg base CX0 1 f fd ["_law_log","_law_reach","_law_most"] (ZD6):=by
 refine F.ok sc_few (fun vs H Q E h=>?_) (fun a6 A outer s H vs Q E hr h=>?_)
 .obtain ⟨lg,ks,R,m,pr,ws,rfl,hlg,ht,hm,hf,a1,q⟩:=h
  rfl
 obtain ⟨lg,ks,R,m,pr,ws,rfl,hlg,ht,hm,hf,a1,q⟩:=h
 refine ⟨_,(ZAC (ZAQ (i:=3) sc_few.nd rfl (by walk_at "o") pe_dnewK)
  (ZAC (ZBR PassesOwn.never rfl (ZBN (pv 0)) (ZCH (n:=3) rfl (ZAV (ZAR (i:=4) sc_few.nd rfl (by walk_at "o")) (ZAV (ZAR (i:=5) sc_few.nd rfl (by walk_at "o")) (ZAV (ZAR (i:=6) sc_few.nd rfl (by walk_at "o")) ZBO))))
  (ZAH (ps_dput (ZE5 hr) (pv 3) (pv 4) (ZAX ZBA (ZDI PySem.F.plainAttrs_dict PySem.F.slot_dict_get PySem.F.type_dict_get mt_dget2 (pv 3) (ZAA (pv 4) (ZAA ZAJ ZAE))) ZAJ) rfl)))
  (ZAC (ZBR PassesOwn.never rfl (pi_items (pv 3)) (ZCH (n:=2) rfl (ZAV (ZAR (i:=7) sc_few.nd rfl (by walk_at "o")) (ZAV (ZAR (i:=8) sc_few.nd rfl (by walk_at "o")) ZBO)))
  (ZAH (ZAn (PW.pt (ZBY (ZAP ZEa (pv 7) (pv 2) (ZAT _)) (ZA8 (ZAP ZEa (pv 8) (ZAX ZBA ZAJ (ZEt PySem.F.plainAttrs_int PySem.F.slot_int_bit_length PySem.F.type_int_bit_length mt_bitlen (pv 1))) (ZAT _)))))
  (ZAH (ZAS ZBP)) ZAU)))
  (ZAH (ZAS ZBP))))),?_⟩
 walk_at "rd"
 intro d hd
 obtain ⟨H2,e2,s2,h2⟩:=newH hd (.dK [])
 rw [e2];clear e2
 have a8:=ht.len
 refine ZCR (SqL.of (s2 _ _ hlg)) (fun i σ X=>∃ (v4 v5 v6:Option V) (kvs:List (Key×V)),σ=[some (.ref lg),some (.int R),some (.int m),some (.ref d),v4,v5,v6,none,none] /\ X d=some (.dK kvs) /\ Same H X /\ (∀ p:Nat,(valV kvs (.inl (p:Int))).getD (.int 0)=.int (cnt1 (pr.take i) p)) /\ (∀ kx∈kvs,∃ p c:Nat,kx=(.inl (p:Int),.int c) /\ p <= m /\ c <= cnt1 pr p) /\ kvs.length <= i) ⟨_,_,_,[],rfl,h2,s2,fun p=>rfl,fun kx h=>(nomatch h),yAA _⟩ (fun i σ X _ ⟨_,_,_,_,_,_,z,_⟩=>SqL.of (z _ _ hlg)) ?_ ?_
 .rintro i u σ X hu ⟨v4,v5,v6,kvs,rfl,Z,sX,hA,hB,hC⟩
  have hi:i < ws.length:=(yAM.mp hu).1
  obtain ⟨⟨p,qq⟩,L⟩:∃ c,pr[i]?=some c:=⟨_,yAH (by omega)⟩
  obtain ⟨t,t1,t2⟩:=ht.get i p qq L
  rw [hu] at t1
  cases t1
  have a3:=hm _ (yAO L)
  have a2:cnt1 (pr.take (i+1)) p=cnt1 (pr.take i) p+1:=by
   rw [List.take_add_one,L,ZCd]
   congr 1
   unfold cnt1
   rw [Option.toList_some,List.filter_cons,if_pos (decide_eq_true rfl)]
   rfl
  have a7:cnt1 (pr.take (i+1)) p <= cnt1 pr p:=by
   have:=ZCd (pr.take (i+1)) (pr.drop (i+1)) p
   rw [yBR] at this
   omega
  walk_at "rd"
  refine ZBF (SqT.of (sX _ _ t2)) rfl ?_
  walk_at "rd"
  refine ⟨.inr (.inr (.inl ⟨rfl,.inl ⟨kvs,Z⟩⟩)),d,_,_,kvs,.inl (p:Int),rfl,rfl,.inl Z,rfl,?_⟩
  rw [hA p]
  walk_at "rd"
  refine ⟨d,_,rfl,DPut.k (k:=.inl (p:Int)) Z (ZDM (by omega)),?_⟩
  refine ⟨_,_,_,putK kvs (.inl (p:Int)) (.int ((cnt1 (pr.take i) p:Nat)+1)),rfl,ZAD,sX.upd hd,fun p'=>?_,fun kx O=>?_,yAF (ZBC _ _ _) (by omega)⟩
  .rw [ZDW]
   by_cases hpp:p'=p
   .rw [hpp,if_pos rfl,a2]
    show V.int _=V.int _
    congr 1
   .rw [if_neg (fun z=>hpp (by have:=Sum.inl.inj z;omega)),hA p']
    congr 2
    rw [List.take_add_one,L,ZCd]
    have:cnt1 (some (p,qq)).toList p'=0:=ZDn fun c hc=>by
     rw [Option.toList_some,yAP] at hc
     rw [hc]
     exact fun z=>hpp z.symm
    omega
  .have a4:∃ p c:Nat,((Sum.inl (p:Int),V.int c):Key×V)=(Sum.inl (p:Int),V.int c):=⟨0,0,rfl⟩
   have J:∃ p' c:Nat,((.inl (p:Int),.int ((cnt1 (pr.take i) p:Nat)+1)):Key×V)=(.inl (p':Int),.int c) /\ p' <= m /\ c <= cnt1 pr p':=⟨p,cnt1 (pr.take i) p+1,rfl,a3,by omega⟩
   unfold putK at O
   split at O
   .obtain ⟨kv,a0,e⟩:=yBJ.mp O
    by_cases z:kv.1=.inl (p:Int)
    .rw [if_pos z,z] at e
     rw [<- e];exact J
    .rw [if_neg z] at e
     rw [<- e];exact hB kv a0
   .rcases yBB.mp O with z | z
    .exact hB kx z
    .rw [yAP.mp z];exact J
 rintro σ X ⟨v4,v5,v6,kvs,rfl,Z,sX,hA,hB,hC⟩
 walk_at "rd"
 refine forI_of Z (fun ob i σ Y=>∃ v7 v8:Option V,σ=[some (.ref lg),some (.int R),some (.int m),some (.ref d),v4,v5,v6,v7,v8] /\ Y d=some (.frz ob (.dK kvs)) /\ Same H Y) (fun ob=>⟨_,_,rfl,ZAD,sX.upd hd⟩) (fun ob i σ Y _ ⟨_,_,_,z,_⟩=>z) (fun ob i k x σ Y p hx ⟨v7,v8,U,hY,sY⟩ hp=>?_) fun ob σ Y ⟨v7,v8,U,hY,sY⟩=>?_
 .subst U
  obtain ⟨pp,cc,e,h1,h3⟩:=hB _ (yAO hx)
  cases e
  walk_at "rd"
  refine ZBF (SqT.of ZAD) rfl ?_
  walk_at "rd"
  refine ⟨(pp:Int),_,rfl,rfl,⟨_,rfl,?_⟩⟩
  rw [decide_eq_false (by omega),if_neg (by decide)]
  refine ⟨rfl,_,rfl,rfl,?_⟩
  walk_at "rd"
  have a5:cc <= 1+Builtin.Int.intBits (R:Int):=yAF h3 (hf pp)
  rw [if_neg (by omega)]
  exact ⟨_,_,rfl,ZAL hp _ _ _ hY,sY.new hp⟩
 .subst U
  walk_at "rd"
  exact q _ sY
theorem ok_law {f:Addr} {fd:FuncData} (F:Fun K "law" "law" ZDd f fd) (T:Bt K mg C_Asker C_AskedRule C_HallError C_NoPaper C_NoPlace C_TooFar C_Spent)
  (b0:Fn P w K mg base CX0 "_law_keys" 3 ["_law_script","_law_most"] (ZEn K))
  (a5:Fn P w K mg base CX0 "_law_crossed" 1 ["_law_keys_here"] (ZCL))
  (ac:Fn P w K mg base CX0 "_law_told" 6 ["_law_asker","_law_reach"] (ZDZ C_Asker C_AskedRule C_TooFar))
  (Z:Fn P w K mg base CX0 "_law_walked" 1 ["_law_log","_law_many","_law_reach"] (ZCf))
  (L:Fn P w K mg base CX0 "_law_cell_at" 1 ["_law_script","_law_k"] (ZDr K))
  (af:Fn P w K mg base CX0 "_law_teller" 1 ["_law_log"] (ZEO Pt_teller (ZEz ZAN) "_law_teller_here" "_law_teller.<locals>._law_teller_here" (ZAO ZAN) (ZAM ZAN) (ZAB ZAN) ["_law_log"] [0] 1))
  (a3:Fn P w K mg base CX0 "_law_in_order" 2 ["_law_order","_law_keys_here","_law_many"] (ZCz))
  (au:Fn P w K mg base CX0 "_law_shown" 1 ["_law_order","_law_log"] (ZD5))
  (aw:Fn P w K mg base CX0 "_law_few" 1 ["_law_log","_law_reach","_law_most"] (ZD6))
  (ao:Fn P w K mg base CX0 "shows" 6 ["paper","answers"] (ZD4))
  (br:Fn P w K mg base CX0 "_law_far" 2 ["_law_e","_law_counts","_law_keys_here","_law_reach"] (ZD7 C_TooFar))
  (J:Mt P w K mg base CX0 C_Asker "answers" 1 ["self"] (ZC0 C_Asker))
  (a6:KlD P w K mg base CX0 "Asker" C_Asker 1 ["self","row","rule","most"] (ZCM C_Asker) [.non])
  (a0:Kl P w K mg base CX0 "AskedRule" C_AskedRule 1 ["self","teller"] (ZCg C_AskedRule))
 :FnOk P w K mg base CX0 7 f fd ["_law_script"] (ZEm K [(cc_teller,Pt_teller)]):=by
 refine F.ok sc_law (fun vs H Q E h=>?_) (fun fx A outer s H vs Q E O h=>?_)
 .obtain ⟨a,ns,rfl,hS,dq,hT,q⟩:=h
  rfl
 obtain ⟨a,ns,rfl,hS,dq,hT,q⟩:=h
 refine ⟨_,(ZAC (ZAQ (i:=1) sc_law.nd rfl (by walk_at "o") (ZAp b0 (O.mono (by decide)) rfl ZAc (ZAA (pv 0) (ZAA ZAJ ZAE))))
  (ZAq
  (ZAC (ZAQ (i:=2) sc_law.nd rfl (by walk_at "o") (ZAX ZA9 (ZAX ZBQ (ZAp L (O.mono (by decide)) rfl ZAc (ZAA (pv 0) (ZAA ZAJ ZAE))) ZAJ) ZAJ))
  (ZAq
  (ZAC (ZAn (ZAP ZC4 (ZAX ZA9 (ZAp L (O.mono (by decide)) rfl ZAc (ZAA (pv 0) (ZAA ZAJ ZAE))) ZAJ) ZAJ (ZAT _))
  (ZAH (ZAQ (i:=2) sc_law.nd rfl (by walk_at "o") (ZAX ZA9 (ZAX ZBQ (ZAp L (O.mono (by decide)) rfl ZAc (ZAA (pv 0) (ZAA ZAJ ZAE))) ZAJ) ZAJ))) ZAU)
  (ZAq
  (ZAC (ZAQ (i:=3) sc_law.nd rfl (by walk_at "o") (ZBv ZAE))
  (ZAC (ZAQ (i:=4) sc_law.nd rfl (by walk_at "o") (pe_mkD a6 (O.mono (by decide)) rfl ZAc (ZAA (ZB1 rfl (k:=2) (js:=[]) (N':=["_law_k","_law_key"]) (by rfl) (pi_enum rfl T.b_enumerate (ZAA (pv 1) ZAE)) (fun _ _ _ _=>ZD8 (n:=2) K rfl (ZAV (ZAR (i:=0) (show (["_law_k","_law_key"]:List Str).Nodup by decide +kernel) rfl (by walk_at "o")) (ZAV (ZAR (i:=1) (show (["_law_k","_law_key"]:List Str).Nodup by decide +kernel) rfl (by walk_at "o")) ZBO))) (fun _ _ _ _=>ZBo) (fun _ _ _ _=>(ZA1 (ZAA (pv 1) (ZAA (pv 0) ZAE))))) (ZAA (pe_mk a0 (O.mono (by decide)) rfl ZAc (ZAA (ZAp af (O.mono (by decide)) rfl ZAc (ZAA (pv 3) ZAE)) ZAE)) ZAE))))
  (ZAq
  (ZAC (ZAQ (i:=5) sc_law.nd rfl (by walk_at "o") (ZAp a5 (O.mono (by decide)) rfl ZAc (ZAA (pv 1) ZAE)))
  (ZAq
  (ZAC (ZAQ (i:=6) sc_law.nd rfl (by walk_at "o") (pe_maxd rfl (pv 5) ZAJ rfl T.b_max))
  (ZAq
  (ZAC (ZAQ (i:=7) sc_law.nd rfl (by walk_at "o") (ZBv ZAE))
  (ZAq
  (ZAC (ZEQ (ZAp ac (O.mono (by decide)) rfl ZAc (ZAA (pv 4) (ZAA (pv 2) ZAE))) (ZCH (n:=2) rfl (ZAV (ZAR (i:=8) sc_law.nd rfl (by walk_at "o")) (ZAV (ZAR (i:=9) sc_law.nd rfl (by walk_at "o")) ZBO))))
  (ZAq
  (ZAC (ZAn (ZAP ZEa (pv 6) (pv 2) (ZAT _))
  (ZAC (ZAn (PW.pt (ZBY (ZAP ZDu (pv 8) ZC2 (ZAT _)) (ZBY (ZBI (ZAr (ZAp br (O.mono (by decide)) rfl ZAc (ZAA (pv 9) (ZAA (pv 5) (ZAA (pv 1) (ZAA (pv 2) ZAE))))))) (ZA8 (ZBI (ZAr (ZAp aw (O.mono (by decide)) rfl ZAc (ZAA (pv 3) (ZAA (pv 2) (ZAA (ZA5 K (pv 9) rfl) ZAE))))))))))
  (ZAH (ZAS ZBP)) ZAU)
   (ZAq
  (ZAC (ZEQ (ZAp Z (O.mono (by decide)) rfl ZAc (ZAA (pv 3) (ZAA (ZAI ZAK rfl T.b_len PySem.boot_len (ZAA (pv 1) ZAE)) (ZAA (pv 2) ZAE)))) (ZCH (n:=2) rfl (ZAV (ZAR (i:=10) sc_law.nd rfl (by walk_at "o")) (ZAV (ZAR (i:=11) sc_law.nd rfl (by walk_at "o")) ZBO))))
   (ZAq
  (ZAC (ZAn (PW.pt (ZBY (ZAP ZDu (pv 10) ZAJ (ZAT _)) (ZA8 (ZAP ZDu (ZAI ZAK rfl T.b_len PySem.boot_len (ZAA (pv 11) ZAE)) (ZA5 K (pv 9) rfl) (ZAT _)))))
  (ZAH (ZAS ZBP)) ZAU)
   (ZAq
  (ZAC (ZAQ (i:=2) sc_law.nd rfl (by walk_at "o") (pv 6))
   (ZAq
  (ZAC (ZAQ (i:=7) sc_law.nd rfl (by walk_at "o") (ZBJ ZBK rfl T.b_list PyProof.Rows.boot_list (ZAA (pv 3) ZAE)))
   (ZAq
  (ZAC (ZBL (ZEt PySem.F.plainAttrs_list PySem.F.slot_list_clear PySem.F.type_list_clear mt_clear (pv 3)))
   (ZAq
  (ZAH (ZEQ (ZAp ac (O.mono (by decide)) rfl ZAc (ZAA (pv 4) (ZAA (pv 2) ZAE))) (ZCH (n:=2) rfl (ZAV (ZAR (i:=8) sc_law.nd rfl (by walk_at "o")) (ZAV (ZAR (i:=9) sc_law.nd rfl (by walk_at "o")) ZBO))))))))))))))))) ZAU)
  (ZAq
  (ZAC (ZAn (PW.pt (ZBY (ZAP ZDu (pv 8) ZC2 (ZAT _)) (ZA8 (ZBI (ZAr (ZAp a3 (O.mono (by decide)) rfl ZAc (ZAA (pv 9) (ZAA (pv 1) (ZAA (ZAI ZAK rfl T.b_len PySem.boot_len (ZAA (pv 1) ZAE)) ZAE)))))))))
  (ZAH (ZAS ZBP)) ZAU)
  (ZAq
  (ZAC (ZAn (PW.pt (ZBY (ZBI (ZAr (ZAp au (O.mono (by decide)) rfl ZAc (ZAA (pv 9) (ZAA (pv 3) ZAE))))) (ZA8 (ZBI (ZAr (ZAp aw (O.mono (by decide)) rfl ZAc (ZAA (pv 3) (ZAA (pv 2) (ZAA (ZAI ZAK rfl T.b_len PySem.boot_len (ZAA (pv 1) ZAE)) ZAE)))))))))
  (ZAH (ZAS ZBP)) ZAU)
  (ZAq
  (ZAC (ZAn (PW.pt (ZBY (ZAP (ZER O.units) (ZEs J (O.mono (by decide)) ZAc (pv 4)) (ZAX op_cat (pv 7) (pv 3)) (ZAT _)) (ZA8 (ZAP op_notB (ZAp ao (O.mono (by decide)) rfl ZAc (ZAA (ZBJ ZBK rfl T.b_list PyProof.Rows.boot_list (ZAA (pv 9) ZAE)) (ZAA (ZEs J (O.mono (by decide)) ZAc (pv 4)) ZAE))) ZBP (ZAT _)))))
  (ZAH (ZAS ZBP)) ZAU)
  (ZAq
  (ZAH (ZAS (ZC3 (op_eqD O.units) (ZAp Z (O.mono (by decide)) rfl ZAc (ZAA (pv 3) (ZAA (ZAI ZAK rfl T.b_len PySem.boot_len (ZAA (pv 1) ZAE)) (ZAA (pv 2) ZAE)))) (ZA1 (ZAA ZAJ (ZAA (pv 9) ZAE))) (ZAT _))))))))))))))))))))))))))))),?_⟩
 walk_at "rd"
 refine ⟨a,ns,rfl,hS,dq,fun ky H0 ks SH ff aa g6=>ZA7 ?_⟩
 have bw:=SH.seq hS
 walk_at "rd"
 refine ⟨a,ns,2,rfl,bw,by decide,?_⟩
 walk_at "rd"
 refine ⟨⟨by decide,by decide⟩,by decide,ZA7 ?_⟩
 walk_at "rd"
 refine ⟨a,ns,2,rfl,bw,by decide,?_⟩
 walk_at "rd"
 refine ⟨by decide,?_⟩
 apply onceN (fun R=>R <= 60)
 .intro U
  by_cases hc2:cellOf ns 2 % 2=0
  .rw [if_pos hc2]
   refine ⟨a,ns,2,rfl,bw,by decide,?_⟩
   walk_at "rd"
   refine ⟨⟨by decide,by decide⟩,by decide,?_⟩
   have h0:=Int.emod_nonneg (cellOf ns 2 / 2) (show (4:Int)≠0 by decide)
   have h1:=Int.emod_lt_of_pos (cellOf ns 2 / 2) (show (0:Int) < 4 by decide)
   obtain ⟨R,hR⟩:∃ R:Nat,cellOf ns 2 / 2 % 4=R:=⟨(cellOf ns 2 / 2 % 4).toNat,by omega⟩
   rw [hR] at h1 ⊢
   exact U R (by omega)
  .rw [if_neg hc2]
   have h0:=Int.emod_nonneg (cellOf ns 2 / 2) (show (61:Int)≠0 by decide)
   have h1:=Int.emod_lt_of_pos (cellOf ns 2 / 2) (show (0:Int) < 61 by decide)
   obtain ⟨R,hR⟩:∃ R:Nat,cellOf ns 2 / 2 % 61=R:=⟨(cellOf ns 2 / 2 % 61).toNat,by omega⟩
   rw [hR] at h1 ⊢
   exact U R (by omega)
 intro R fi
 refine ZA7 ?_
 walk_at "rd"
 refine ⟨yAD _,fun lg hlg=>?_⟩
 obtain ⟨H2,e2,s2,h2⟩:=newH hlg (.lst [])
 rw [e2];clear e2
 refine compE_of (SqL.of (s2 _ _ aa)) (by rw [yAB];omega) (fun i ys σ H'=>∃ v w,σ=[v,w] /\ Same H2 H' /\ ys.length=i /\ ∀ (j:Nat) k,j < i->ks[j]?=some k->∃ r,ys[j]?=some (V.ref r) /\ H' r=some (.tup [.int k,.int j])) ⟨_,_,rfl,.refl _,rfl,fun _ _ h=>by omega⟩ (fun i ys σ H' _ ⟨_,_,_,s,l,_⟩=>⟨SqL.of (s _ _ (s2 _ _ aa)),Nat.le_of_eq l⟩) ?_ ?_
 .rintro i ys x σ H' p hi hx ⟨v,w,rfl,s3,hl,b5⟩ hp
  obtain ⟨k,hk,rfl⟩:=ZCu hx
  walk_at "rd"
  refine ZBF (SqT.of ZAD) rfl ?_
  walk_at "rd"
  refine ⟨ZAW (by decide),fun t ht=>?_⟩
  refine Nxt.of hi ⟨_,_,rfl,(s3.new hp).new ht,by rw [yAC,hl];rfl,fun j k' hj bi=>?_⟩
  by_cases z:j < i
  .obtain ⟨r,a1,a2⟩:=b5 j k' z bi
   exact ⟨r,by rw [yAZ (by omega)];exact a1,ZAL ht _ _ _ (ZAL hp _ _ _ a2)⟩
  .have:j=i:=by omega
   subst this
   rw [hk] at bi;cases bi
   exact ⟨t,by rw [<- hl,yAX (yAA _),yBU];rfl,ZAD⟩
 rintro xs σ H3 ⟨v,w,rfl,s3,d8,b5⟩ xl dz
 rw [yAB] at d8 b5
 obtain ⟨H4,e4,s4,h4⟩:=newH dz (.lst xs)
 rw [e4];clear e4
 have S4:Same H H4:=fun b o h=>s4 _ _ (s3 _ _ (s2 _ _ (SH _ _ h)))
 have de:=s4 _ _ (s3 _ _ h2)
 have cj:=s4 _ _ (s3 _ _ (s2 _ _ aa))
 have cy:H Pt_teller=some (.tbl #[]):=hT _ yAJ
 have bd:H4 Pt_teller=some (.tbl #[]):=S4 _ _ cy
 refine ⟨rfl,.inl bd,fun g H5 md=>?_⟩
 have nP:∀ b o,H4 b=some o->(∀ t,o≠.tbl t)->b≠Pt_teller:=fun b o h n z=>by rw [z,bd] at h;exact n _ (Option.some.inj h).symm
 intro ru dr hru eb f4
 have d2:upd H5 dr (.own ru) ru=none:=by rw [ZAG (Ne.symm f4)];exact hru
 have s6:Same H5 (upd (upd H5 dr (.own ru)) ru (.ins C_AskedRule dr [])):=(ZAL eb _).trans (ZAL d2 _)
 refine ⟨ru,dr,g,rfl,ZAD,fun H7 k7 ir=>⟨rfl,?_⟩⟩
 have ap:∀ b o,H5 b=some o->H7 b=some o:=fun b o h=>k7 b o (ZAF h hru) (s6 _ _ h)
 intro ak da av eg ep
 have cq:upd H7 da (.own ak) ak=none:=by rw [ZAG (Ne.symm ep)];exact av
 have s8:Same H7 (upd (upd H7 da (.own ak)) ak (.ins C_Asker da [])):=(ZAL eg _).trans (ZAL cq _)
 have di:∃ t,H5 Pt_teller=some (.tbl t):=by
  rcases md.tab with h | ⟨c',h,_⟩
  .exact ⟨_,h⟩
  .exact ⟨_,h⟩
 have u7:∀ b o,H4 b=some o->(∀ t,o≠.tbl t)->H7 b=some o:=fun b o h n=>ap _ _ (md.same b o (nP b o h n) h)
 have dm:=u7 xl _ h4 fun _ z=>by cases z
 refine ⟨ak,da,xl,ru,.non,xs,rfl,ZAD,s8 _ _ dm,fun rl tl HA k9 cz bu et ia hrl htl=>⟨rfl,?_⟩⟩
 have u9:∀ b o,H7 b=some o->HA b=some o:=fun b o h=>k9 b o (ZAF h av) (s8 _ _ h)
 have ax:=u7 lg _ de fun _ z=>by cases z
 have am:=u7 ky _ cj fun _ z=>by cases z
 have bf:=u9 _ _ am
 have e8:ky≠lg:=ZAF aa hlg
 have dt:upd (upd H7 da (.own ak)) ak (.ins C_Asker da []) ak=some (.ins C_Asker da []):=ZAD
 obtain ⟨fm,fg,er,_,_⟩:=ir.ex
 have ae:ru≠ak:=ZAF er av
 have st:SitL C_Asker C_AskedRule HA ks ⟨xs,0⟩ ak rl ru tl g lg []:={
  ha:=ia
  hrl:=hrl
  hru:=ins_fr (S:=[ak]) (fun b o n h=>k9 b o (fun z=>n (by rw [z];exact yAJ)) (s8 _ _ h)) (fun z=>ae (yAP.mp z)) ir
  clo:=md.clo.mono fun b o h=>u9 _ _ (ap _ _ h)
  len:=d8
  row:=fun i k hk=>by
   have hi:=(yAM.mp hk).1
   obtain ⟨r,a1,a2⟩:=b5 i k (by omega) hk
   exact ⟨r,a1,u9 _ _ (u7 _ _ (s4 _ _ a2) fun _ z=>by cases z)⟩
  hlg:=⟨[],u9 _ _ ax,yAA _,rfl,fun j p q h=>by simp at h⟩
  htl:=⟨[],htl,rfl,fun j p q h=>by simp at h⟩
  ne:=⟨ZAF (s8 _ _ ax) bu,ZEB (Ne.symm (ZAF dt cz)) (Ne.symm (ZAF (s8 _ _ ax) cz)) et,ae⟩ }
 have b4:ky∉[ak,lg,tl]:=ZEB (ZAF am av) e8 (ZAF (s8 _ _ am) bu)
 have dg:∀ b,H7 b=none->H b=none:=fun b h=>by
  cases e:H b with
  | none=>rfl
  | some o=>
   by_cases z:b=Pt_teller
   .obtain ⟨t,ht⟩:=di
    rw [z,ap _ _ ht] at h;cases h
   .rw [ap _ _ (md.same b o z (S4 _ _ e))] at h;cases h
 have g5:∀ H',Fr [ak,lg,tl] HA H'->SqL K H' a (ns.map V.int):=fun H' e=>by
  refine sqL_fr (S:=[Pt_teller,ak,lg,tl]) (fun b o n h=>e b o (fun z=>n (yAL _ z)) (u9 _ _ (ap _ _ (md.same b o (fun z=>n (by rw [z];exact yAJ)) (S4 _ _ h))))) (fun o ho h z=>?_) hS
  rcases yAG.mp z with z | z
  .rw [z,cy] at h;exact ho _ (Option.some.inj h).symm
  rcases yAG.mp z with z | z
  .rw [z,dg _ av] at h;cases h
  rcases yAG.mp z with z | z
  .rw [z,SH.free hlg] at h;cases h
  .rw [yAP.mp z,dg _ (s8.free bu)] at h;cases h
 refine ZA7 ?_
 walk_at "rd"
 refine ⟨ky,ks,rfl,bf,by omega,fun cl H1 s1 ah e0=>ZA7 ?_⟩
 walk_at "rd"
 refine ⟨cl,_,_,rfl,rfl,SqL.of (by rw [<- ZC5];exact e0),ZA7 ?_⟩
 obtain ⟨en,ei,d9,bb⟩:=maxN ((List.range ks.length).map (crs ks))
 rw [ei]
 walk_at "rd"
 refine ⟨yAD _,fun al b3=>ZA7 ?_⟩
 obtain ⟨H2,e2,s2,cu⟩:=newH b3 (.lst [])
 rw [e2];clear e2
 have S2:=s1.trans s2
 have st2:=st.mono S2
 have be:=S2 _ _ bf
 have db:=s2 _ _ e0
 walk_at "rd"
 have e1:∀ k,k < ks.length->crs ks k <= en:=fun k hk=>d9 _ (yBJ.mpr ⟨k,yBM.mpr hk,rfl⟩)
 have ej:R < en->∃ k,k < ks.length /\ crs ks k=en:=fun h=>by
  rcases bb with z | z
  .omega
  .obtain ⟨k,hk,e⟩:=yBJ.mp z
   exact ⟨k,yBM.mp hk,e⟩
 have e5:en <= 119:=by
  rcases bb with z | z
  .omega
  .obtain ⟨k,hk,e⟩:=yBJ.mp z
   have h1:=yBM.mp hk
   have h2:crs ks k <= k:=yAF (List.length_filter_le _ _) (by rw [yBS];exact yAA _)
   omega
 have ew:cl∉[ak,lg,tl]:=by
  obtain ⟨w1,g1,g2⟩:=st.hlg
  obtain ⟨w2,g3,g4⟩:=st.htl
  exact ZEB (st.ha.neN ah) (Ne.symm (ZAF g1 ah)) (Ne.symm (ZAF g3 ah))
 have f5:al∉[ak,lg,tl]:=by
  obtain ⟨w1,g1,g2⟩:=(st.mono s1).hlg
  obtain ⟨w2,g3,g4⟩:=(st.mono s1).htl
  exact ZEB ((st.mono s1).ha.neN b3) (Ne.symm (ZAF g1 b3)) (Ne.symm (ZAF g3 b3))
 apply onceS8 (fun X σ=>∃ (R':Nat) (az ol:Addr) (dk dj:Option V) (os:List Nat) (l Y:List (Nat×Nat)) (bn:List V),σ=[some (V.ref a),some (V.ref ky),some (V.int R'),some (V.ref lg),some (V.ref ak),some (V.ref cl),some (V.int en),some (V.ref az),some (V.str (Str.ofString "paper")),some (V.ref ol),dk,dj] /\ Fin38 C_Asker C_AskedRule X ks xs ak rl ru tl g lg ky az ol R' os l Y bn)
 .intro U
  refine ⟨ks,⟨xs,0⟩,ak,rl,ru,tl,g,lg,[],R,rfl,st2,by omega,yAD _,by omega,fun t ol H3 os l f3 ht fk e6 O st3=>?_,fun t e d l2 H3 os so l f3 ht he hd ez O st3 dy f7=>?_⟩
  .rw [List.nil_append] at st3
   obtain ⟨A,_⟩:=O.all [] ⟨rfl,fun x=>⟨fun z=>(by cases z),fun z=>by omega⟩,.nil⟩ (fun i x y hx=>by simp at hx)
   obtain ⟨o1,a1,c1⟩:=A.tru rfl
   have fq:¬ R < en:=fun z=>by
    obtain ⟨k,hk,e⟩:=ej z
    have:=c1 k (yAD _) hk
    omega
   refine ZBF (SqT.of ht) rfl ?_
   walk_at "rd"
   refine ZA7 ?_
   walk_at "rd"
   rw [if_neg (by omega)]
   generalize hσ:[some (V.ref a),some (V.ref ky),some (V.int (R:Int)),some (V.ref lg),some (V.ref ak),some (V.ref cl),some (V.int (en:Int)),some (V.ref al),some (V.str (Str.ofString "paper")),some (V.ref ol),none,none]=σ
   exact U H3 σ ⟨R,al,ol,_,_,os,l,[],[],hσ.symm,⟨st3,f3 _ _ f5 cu,⟨rfl,fun j p q h=>by simp at h⟩,e6,f3 _ _ b4 be,O,by omega,by simp,fun c hc=>(nomatch hc)⟩⟩
  .rw [List.nil_append] at st3
   obtain ⟨A,_⟩:=O.all [] ⟨rfl,fun x=>⟨fun z=>(by cases z),fun z=>by omega⟩,.nil⟩ (fun i x y hx=>by simp at hx)
   obtain ⟨c0,c1,c2,c3,c4,c5,c6⟩:=A.fls rfl
   have hR:R < en:=by have:=e1 _ c1;omega
   have hrl:=O.len
   have g7:l.length <= 8000:=by
    have e9:bln R <= 7:=bln7 (by omega)
    have:(ks.length-0) * (1+bln R) <= 119 * 8:=Nat.mul_le_mul (by omega) (by omega)
    omega
   have cx:so.length=R+1:=by rw [dy.length_eq,yAR];omega
   have aq:=f3 _ _ b4 be
   have cf:=f3 _ _ ew db
   obtain ⟨ws,a4,dc⟩:=st3.hlg
   have a8:Told H3 ks l ws:=dc.prs
   refine ZBF (SqT.of ht) rfl ?_
   walk_at "rd"
   refine ZA7 ?_
   walk_at "rd"
   rw [if_pos (by omega)]
   refine ⟨e,d,l2,cl,ky,ks,R,os,so,rfl,he,hd,ez,cf,aq,by omega,c1,c3,c4,fun q hq=>c5 q (yAD _) hq,fun y hy=>?_,cx,f7,fun H4 s4=>?_⟩
   .have co:=dy.mem_iff.mp hy
    exact ⟨((c2.mem y).mp (List.mem_of_mem_drop co)).2,c6 y co⟩
   walk_at "rd"
   have du:(fF os.length l2).lookup (Str.ofString "place")=some (.int os.length):=by rw [ZAd,if_neg (by decide +kernel)];rfl
   refine ⟨e,_,d,_,_,rfl,.inl (s4 _ _ he),s4 _ _ hd,T.xc_TooFar,T.xk_TooFar.hd,T.n_TooFar_place,du,?_⟩
   refine ⟨lg,ks,R,os.length,l,ws,rfl,s4 _ _ a4,a8.keep fun _ _ h=>s4 _ _ h,fun c hc=>(A.each c hc).2.2.2,A.few,by omega,fun H5 s5=>?_⟩
   have S5:=s4.trans s5
   walk_at "rd"
   refine ZA7 ?_
   walk_at "rd"
   refine ⟨ky,_,rfl,.inl (SqL.of (S5 _ _ aq)),?_⟩
   rw [yAB]
   refine ⟨lg,ks,ks.length,R,os,false,l,ws,rfl,S5 _ _ a4,a8.keep fun _ _ h=>S5 _ _ h,O,by omega,fun t2 wl H6 s6 eu d6=>?_⟩
   have S6:=S5.trans s6
   refine ZBF (SqT.of eu) rfl ?_
   walk_at "rd"
   refine ZA7 ?_
   walk_at "rd"
   refine ⟨wl,_,rfl,.inl (SqL.of d6),?_⟩
   rw [yAB]
   refine ⟨e,_,d,_,_,rfl,.inl (S6 _ _ he),S6 _ _ hd,T.xc_TooFar,T.xk_TooFar.hd,T.n_TooFar_place,du,?_⟩
   walk_at "rd"
   rw [if_neg (fun z=>z trivial)]
   refine ZA7 ?_
   walk_at "rd"
   refine ZA7 ?_
   walk_at "rd"
   refine ⟨lg,_,rfl,.inl (SqL.of (S6 _ _ a4)),fun bh ad=>?_⟩
   obtain ⟨H7,e7,s7,cv⟩:=newH ad (.lst ws)
   rw [e7];clear e7
   have S7:=S6.trans s7
   refine ZA7 ?_
   walk_at "rd"
   have ck:=st3.mono S7
   refine ⟨.inl ⟨rfl,_,SqL.of (S7 _ _ a4)⟩,lg,_,rfl,rfl,S7 _ _ a4,ZA7 ?_⟩
   have bt:=ck.clear
   have bc:bh∉[ak,lg,tl]:=by
    obtain ⟨w1,g1,g2⟩:=(st3.mono S6).hlg
    obtain ⟨w2,g3,g4⟩:=(st3.mono S6).htl
    exact ZEB ((st3.mono S6).ha.neN ad) (Ne.symm (ZAF g1 ad)) (Ne.symm (ZAF g3 ad))
   have ef:∀ {b:Addr},b∉[ak,lg,tl]->b≠lg:=fun h z=>h (by rw [z];exact yAL _ yAJ)
   have k8:∀ b o,b∉[ak,lg,tl]->H7 b=some o->upd H7 lg (.lst []) b=some o:=fun b o n z=>by rw [ZAG (ef n)];exact z
   have t8:∀ b x,H7 b=some (.tup x)->upd H7 lg (.lst []) b=some (.tup x):=fun b x z=>k8 b _ (ck.tupS z (fun _ z=>by cases z) (fun _ _ _ z=>by cases z)) z
   have b8:=k8 _ _ b4 (S7 _ _ aq)
   have b7:=k8 _ _ bc cv
   have b9:Told (upd H7 lg (.lst [])) ks l ws:=(a8.keep fun _ _ h=>S7 _ _ h).keep t8
   generalize upd H7 lg (.lst [])=H8 at bt b8 b7 b9 ⊢
   clear k8 t8 S7 s7 S6 s6 S5 s5 s4
   walk_at "rd"
   refine ⟨ks,⟨xs,l.length⟩,ak,rl,ru,tl,g,lg,l,en,rfl,bt,by omega,by omega,by omega,fun t3 ol H9 ct l3 f9 cm fe cg bp ch=>?_,fun t3 e3 d3 l4 H9 ct fw l3 f9 cm gd g9 g8 bp ch fn fz=>?_⟩
   .refine ZBF (SqT.of cm) rfl ?_
    walk_at "rd"
    generalize hσ:[some (V.ref a),some (V.ref ky),some (V.int (en:Int)),some (V.ref lg),some (V.ref ak),some (V.ref cl),some (V.int (en:Int)),some (V.ref bh),some (V.str (Str.ofString "paper")),some (V.ref ol),some (V.int 0),some (V.ref wl)]=σ
    exact U H9 σ ⟨en,bh,ol,_,_,ct,l3,l,ws,hσ.symm,⟨ch,f9 _ _ bc b7,b9.keep fun t x h=>f9 _ _ (bt.tupS h (fun _ z=>by cases z) (fun _ _ _ z=>by cases z)) h,cg,f9 _ _ b4 b8,bp,by omega,by omega,fun c hc=>⟨(A.each c hc).1,(A.each c hc).2.2.1⟩⟩⟩
   .obtain ⟨A2,_⟩:=bp.all [] ⟨rfl,fun x=>⟨fun z=>(by cases z),fun z=>by omega⟩,.nil⟩ (fun i x y hx=>by simp at hx)
    obtain ⟨_,eq,_,_,fy,_⟩:=A2.fls rfl
    have:=e1 _ eq
    omega
 rintro X σ ⟨R',az,ol,dk,dj,os,l,Y,bn,rfl,F⟩
 obtain ⟨A,_⟩:=F.rch.all [] ⟨rfl,fun x=>⟨fun z=>(by cases z),fun z=>by omega⟩,.nil⟩ (fun i x y hx=>by simp at hx)
 obtain ⟨o1,a1,_⟩:=A.tru rfl
 rw [List.nil_append] at a1
 rw [Nat.zero_max] at o1
 have cr:os.length=ks.length:=by rw [o1.len];omega
 have hrl:=F.rch.len
 have fc:l.length <= 1000:=by
  have e9:bln R' <= 7:=bln7 F.R1
  have:(ks.length-0) * (1+bln R') <= 119 * 8:=Nat.mul_le_mul (by omega) (by omega)
  omega
 have l1:∀ c∈l,c.2 < c.1:=fun c hc=>(A.each c hc).1
 have dv:∀ c∈l,c.1 < ks.length:=fun c hc=>(A.each c hc).2.2.1
 have fj:=F.p1
 obtain ⟨ws,a9,d4⟩:=F.st.hlg
 have ar:Told X ks l ws:=by
  have:=d4.prs
  rw [List.drop_left] at this
  exact this
 refine ZA7 ?_
 walk_at "rd"
 refine ⟨ky,_,rfl,.inl (SqL.of F.ky),?_⟩
 rw [yAB]
 refine ⟨ol,ky,os,ks,by rw [cr],F.ol,F.ky,fun x hx=>by have:=(o1.mem x).mp hx;omega,o1.lex,fun gc b2=>?_⟩
 walk_at "rd"
 refine ZA7 ?_
 walk_at "rd"
 refine ⟨ol,lg,os,ks,l,ws,rfl,b2 _ _ F.ol,b2 _ _ a9,ar.keep fun _ _ h=>b2 _ _ h,l1,a1,by omega,fun ga ee=>?_⟩
 have b1:=b2.trans ee
 walk_at "rd"
 refine ⟨ky,_,rfl,.inl (SqL.of (b1 _ _ F.ky)),?_⟩
 rw [yAB]
 refine ⟨lg,ks,R',ks.length,l,ws,rfl,b1 _ _ a9,ar.keep fun _ _ h=>b1 _ _ h,fun c hc=>yBP (dv c hc),A.few,by omega,fun ft ey=>?_⟩
 have a7:=b1.trans ey
 walk_at "rd"
 refine ZA7 ?_
 have ag:=F.st.mono a7
 obtain ⟨ts,bo,bv⟩:=ag.htl
 have bx:=a7 _ _ a9
 have bq:=ar.keep fun _ _ h=>a7 _ _ h
 have el:=a7 _ _ F.ol
 have bz:=a7 _ _ F.al
 have ce:=F.tl.keep fun _ _ h=>a7 _ _ h
 walk_at "rd"
 refine ag.ha.meth (by walk_at "lk") ⟨ak,rl,ru,tl,.non,_,ts,rfl,ag.ha,bo,fun an fu aj fh ea=>?_⟩
 walk_at "rd"
 refine ⟨az,lg,_,_,rfl,rfl,aj _ _ bz,aj _ _ bx,yBP (ZDM (by rw [F.tl.len,ar.len];omega)),fun cc f2=>?_⟩
 obtain ⟨gb,ci,ay,ek⟩:=newH f2 (.lst (bn++ws))
 rw [ci];clear ci
 have lay:(PyData.list ((Y++l).map (tdD ks))).canLay0=true:=by unfold PyData.canLay0;exact td_lay ks _
 have dep:(PyData.list ((Y++l).map (tdD ks))).depth <= 64:=by unfold PyData.depth;have:=td_dep ks (Y++l);omega
 have em:=(ce.append bq).keep fun _ _ h=>(aj.trans ay) _ _ h
 refine ZCW (d:=.list ((Y++l).map (tdD ks))) (ZEy (SqL.of (ay _ _ ea)) (bv.keep fun _ _ h=>(aj.trans ay) _ _ h).dp) (ZEy (SqL.of ek) em.dp) lay dep ?_
 walk_at "rd"
 have bg:=a7.trans (aj.trans ay)
 refine ⟨ol,_,rfl,.inl (SqL.of (bg _ _ F.ol)),fun cp eo=>?_⟩
 obtain ⟨fv,dw,d1,ev⟩:=newH eo (.lst (nL os))
 rw [dw];clear dw
 have ai:=F.st.mono (bg.trans d1)
 obtain ⟨dh,ca,bj⟩:=ai.htl
 refine ai.ha.meth (by walk_at "lk") ⟨ak,rl,ru,tl,.non,_,dh,rfl,ai.ha,ca,fun f6 fo c7 fa d0=>?_⟩
 have cb:=bj.keep fun _ _ h=>c7 _ _ h
 have cw:∀ c∈Y++l,c.2 < c.1:=fun c hc=>(yBB.mp hc).elim (fun z=>(F.p2 c z).1) (l1 c)
 have ba:∀ c∈Y++l,c.1 < ks.length:=fun c hc=>(yBB.mp hc).elim (fun z=>(F.p2 c z).2) (dv c)
 refine ⟨cp,f6,os,(Y++l).map (ZEp ks),dh,rfl,by rw [c7 _ _ ev,NL_nL],o1.isP,by omega,d0,cb.ans,fun c hc=>?_,by rw [yAB,yAC];omega,fun ge ec=>?_⟩
 .obtain ⟨c',df,rfl⟩:=yBJ.mp hc
  have z1:=ba c' df
  have z2:=cw c' df
  show c'.1 < _ /\ c'.2 < _
  omega
 rw [ag_true o1 cw ba,sh_true (fun i x y hx hy=>yAW _ (a1 i x y hx hy):Adj os (Y++l))]
 refine ⟨_,_,rfl,rfl,?_⟩
 rw [if_neg (by decide)]
 have b6:=bg.trans (d1.trans (c7.trans ec))
 refine ZA7 ?_
 walk_at "rd"
 refine ⟨ky,_,rfl,.inl (SqL.of (b6 _ _ F.ky)),?_⟩
 rw [yAB]
 refine ⟨lg,ks,ks.length,R',os,true,l,ws,rfl,b6 _ _ a9,ar.keep fun _ _ h=>b6 _ _ h,F.rch,by omega,fun t2 wl g0 f8 d7 c8=>?_⟩
 refine ⟨ZAW (by decide),fun t3 ed=>?_⟩
 obtain ⟨cn,d5,c9,eh⟩:=newH ed (.tup [V.int 0,.ref ol])
 rw [d5];clear d5
 have dl:∀ {b:Addr},cn b=some (.lst (nL os))->Dp K cn (.list ((os.map fun (x:Nat)=>(x:Int)).map PyData.int)) (.ref b):=fun h=>ZDD (SqL.of (by rw [h,ZC5]))
 refine eqD_refl (d:=.tuple [.int 0,.list ((os.map fun (x:Nat)=>(x:Int)).map PyData.int)]) (ZB3 (SqT.of (c9 _ _ d7)) (.two (ZA2 _) (dl (c9 _ _ c8)))) (ZB3 (SqT.of eh) (.two (ZA2 _) (dl ((b6.trans (f8.trans c9)) _ _ F.ol)))) ?_ ?_ (q _)
 .exact (Enc.int.two Enc.int.list).lay ((0:Int),os.map fun (x:Nat)=>(x:Int))
 .exact yAF ((Enc.int.two Enc.int.list).dep ((0:Int),os.map fun (x:Nat)=>(x:Int))) (by decide)
end
theorem all_mk {l:PySem.W.OpenLaw} {w:World} {K:W.Frag} {h:Heap} {mg:Str->Option Value} {fa C_zaH aw dv aq am av C_zaG ar ax C_HallError C_NoPaper C_NoPlace C_TooFar C_Spent ad bh cc b5 c7 b6 b4 c3 bj be c8 bv c5 bd br b9 ca bz b7 c4 cb bp bw bt bf bb a1 a6:Addr} (X:K.In h) (G:h.Ns mainGlobals mg) (u5:mg "law"=some (.ref fa))
  {el:Value} {em:Option Addr} {gz:Nat} {ej:Array (Option Value)}
  {lv nn:Option Addr} {kr:Array (Option Value)} {oc jy iw ig ck ma:Value}
  {mc hy:Option Addr} {p8:Array (Option Value)} {mr nj nz pb d8 gy:Value}
  {lq om:Option Addr} {hk:Array (Option Value)} {l7 jb ji n7 cv ls:Value}
  {j6 ou:Option Addr} {jj:Array (Option Value)} {lz i9 iv ln dc h9:Value}
  {i3 ge:Option Addr} {kt:Array (Option Value)} {l4 g6 gb jp d3 lc:Value}
  {o6 gf:Option Addr} {m9:Array (Option Value)} {gc p9 og oy cf jh:Value}
  {gv il:Option Addr} {nq:Array (Option Value)} {ll o4 l6 iy cm gk:Value}
  {im ie:Option Addr} {g4:Array (Option Value)} {ld op l5 j9 d2 o0:Value}
  {o9 jz:Option Addr} {ov:Array (Option Value)} {ij m8 gq p0 cn p4:Value}
  {g8 ow:Option Addr} {i7:Array (Option Value)} {on o7 jv ox di i5:Value}
  {ms jk:Option Addr} {kv:Array (Option Value)} {jn gi m3 p5 dg l1:Value}
  {mf n5:Option Addr} {l2:Array (Option Value)} {l8 go mo p3 de ih:Value}
  {lh ku:Option Addr} {mq:Array (Option Value)} {mx lm m0 mw df m7:Value}
  {j2 mv:Option Addr} {ol:Array (Option Value)} {m5 m6 nv k9 cp h8:Value}
  {jt jm:Option Addr} {o3:Array (Option Value)} {ht kc m2 j5 d5 nw:Value}
  {o8 nk:Option Addr} {h3:Array (Option Value)} {je n6 gw m1 db kd:Value}
  {gh na:Option Addr} {j7:Array (Option Value)} {l0 kw oa lb dj h5:Value}
  {gd hv:Option Addr} {jf:Array (Option Value)} {n1 ns ia hb cz jl:Value}
  {ot nf:Option Addr} {io:Array (Option Value)} {k6 ho p7 i8 d0 ni:Value}
  {hr gm:Option Addr} {jq:Array (Option Value)} {od hg lw me co oq:Value}
  {kj k8:Option Addr} {lu:Array (Option Value)} {jx g9 mt h0 ch jd:Value}
  {hd kg:Option Addr} {g7:Array (Option Value)} {ky oe ml kp cq ir:Value}
  {i1 li:Option Addr} {iz:Array (Option Value)} {ik ny j0 nl d9 it:Value}
  {mb jr:Option Addr} {mi:Array (Option Value)} {iu hs pa ki cr j3:Value}
  {lr md:Option Addr} {jo:Array (Option Value)} {hh my mj hq cy n8:Value}
  {ob ka:Option Addr} {l3:Array (Option Value)} {gu hf ng lf dk h4:Value}
  {kq gn:Option Addr} {h7:Array (Option Value)} {hu j4 no hp ct i6:Value}
  {nc hz:Option Addr} {hj:Array (Option Value)} {hx mz lp gt cg lj:Value}
  {km oz:Option Addr} {l9:Array (Option Value)} {gp ga n9 o5 cj k7:Value}
  {gr kb:Option Addr} {n2:Array (Option Value)} {j1 mu i2 kh d6 i4:Value}
  {kk cu:Option Addr} {nx:Array (Option Value)} {kl d1 dh cw ap da:Value}
  {f2:Value} {eq:Option Addr} {ci:Array Value} {ed:Array (Option Value)}
  {g5 o1:Option Addr} {oh:Array (Option Value)} {h6 ix ii p6 o2:Value}
  (ep:W.nsIn K mainGlobals "Asker"=some (some (.ref C_zaH)))
  (jc:PySem.W.plainGet K C_zaH Str.empty=true)
  (k4:PySem.W.hasDictIn K C_zaH=true)
  (mh:PySem.W.plainOver K C_zaH=true)
  (p1:W.findIn K (.ref C_zaH) "__setattr__"=some (some (.builtin "object.__setattr__")))
  (j8:PySem.W.makesIn K C_zaH=true)
  (m4:W.keepIn K (.ref C_zaH)=true)
  (bi:W.findIn K (.ref C_zaH) "row"=some none)
  (b2:W.findIn K (.ref C_zaH) "rule"=some none)
  (az:W.findIn K (.ref C_zaH) "most"=some none)
  (al:W.findIn K (.ref C_zaH) "asked"=some none)
  (ay:W.findIn K (.ref C_zaH) "told"=some none)
  (s7:W.findIn K (.ref C_zaH) "__init__"=some (some (.ref aw)))
  (rc:PySem.W.isFn K (.ref aw)=true)
  (sa:K.lookup aw=some ⟨oc,lv,.func (W.fnOf "__init__" "Asker.__init__" (ZAO ZA0) (ZAM ZA0) (ZAB ZA0) (.ref dv) jy iw ig nn ck ma),kr⟩)
  (qn:W.codeIn K ck "Asker.__init__"=true)
  (qt:K.lookup dv=some ⟨el,em,.seq ([.none]:List Value).toArray gz,ej⟩)
  (tr:W.keepIn K (.ref aw)=true)
  (rp:W.findIn K (.ref C_zaH) "many"=some (some (.ref aq)))
  (pk:PySem.W.isFn K (.ref aq)=true)
  (qo:K.lookup aq=some ⟨mr,mc,.func (W.fnOf "many" "Asker.many" (ZAO ZAz) (ZAM ZAz) (ZAB ZAz) .none nj nz pb hy d8 gy),p8⟩)
  (qi:W.codeIn K d8 "Asker.many"=true)
  (f3:W.keepIn K (.ref aq)=true)
  (rn:W.findIn K (.ref C_zaH) "answers"=some (some (.ref am)))
  (se:PySem.W.isFn K (.ref am)=true)
  (qz:K.lookup am=some ⟨l7,lq,.func (W.fnOf "answers" "Asker.answers" (ZAO ZAk) (ZAM ZAk) (ZAB ZAk) .none jb ji n7 om cv ls),hk⟩)
  (q5:W.codeIn K cv "Asker.answers"=true)
  (e4:W.keepIn K (.ref am)=true)
  (tf:W.findIn K (.ref C_zaH) "ahead"=some (some (.ref av)))
  (py:PySem.W.isFn K (.ref av)=true)
  (t0:K.lookup av=some ⟨lz,j6,.func (W.fnOf "ahead" "Asker.ahead" (ZAO ZAu) (ZAM ZAu) (ZAB ZAu) .none i9 iv ln ou dc h9),jj⟩)
  (t4:W.codeIn K dc "Asker.ahead"=true)
  (fk:W.keepIn K (.ref av)=true)
  (e8:W.nsIn K mainGlobals "AskedRule"=some (some (.ref C_zaG)))
  (gs:PySem.W.plainGet K C_zaG Str.empty=true)
  (n0:PySem.W.hasDictIn K C_zaG=true)
  (n4:PySem.W.plainOver K C_zaG=true)
  (jw:W.findIn K (.ref C_zaG) "__setattr__"=some (some (.builtin "object.__setattr__")))
  (jg:PySem.W.makesIn K C_zaG=true)
  (gj:W.keepIn K (.ref C_zaG)=true)
  (ai:W.findIn K (.ref C_zaG) "teller"=some none)
  (sb:W.findIn K (.ref C_zaG) "__init__"=some (some (.ref ar)))
  (rj:PySem.W.isFn K (.ref ar)=true)
  (po:K.lookup ar=some ⟨l4,i3,.func (W.fnOf "__init__" "AskedRule.__init__" (ZAO ZAg) (ZAM ZAg) (ZAB ZAg) .none g6 gb jp ge d3 lc),kt⟩)
  (rh:W.codeIn K d3 "AskedRule.__init__"=true)
  (rf:W.keepIn K (.ref ar)=true)
  (tm:W.findIn K (.ref C_zaG) "before"=some (some (.ref ax)))
  (qc:PySem.W.isFn K (.ref ax)=true)
  (ts:K.lookup ax=some ⟨gc,o6,.func (W.fnOf "before" "AskedRule.before" (ZAO ZAY) (ZAM ZAY) (ZAB ZAY) .none p9 og oy gf cf jh),m9⟩)
  (t7:W.codeIn K cf "AskedRule.before"=true)
  (fz:W.keepIn K (.ref ax)=true)
  (au:W.nsIn K mainGlobals "HallError"=some (some (.ref C_HallError)))
  (bg:W.nsIn K mainGlobals "NoPaper"=some (some (.ref C_NoPaper)))
  (b8:W.nsIn K mainGlobals "NoPlace"=some (some (.ref C_NoPlace)))
  (aj:W.nsIn K mainGlobals "TooFar"=some (some (.ref C_TooFar)))
  (dt:W.nsIn K mainGlobals "Spent"=some (some (.ref C_Spent)))
  (u7:W.findIn K (.ref C_TooFar) "__init__"=some (some (.ref ad)))
  (tx:PySem.W.isFn K (.ref ad)=true)
  (r5:K.lookup ad=some ⟨ll,gv,.func (W.fnOf "__init__" "TooFar.__init__" (ZAO ZAt) (ZAM ZAt) (ZAB ZAt) .none o4 l6 iy il cm gk),nq⟩)
  (q8:W.codeIn K cm "TooFar.__init__"=true)
  (pf:W.keepIn K (.ref ad)=true)
  (bx:W.findIn K (.ref C_TooFar) "__getattribute__"=some (some (.builtin "BaseException.__getattribute__")))
  (bc:W.findIn K (.ref C_TooFar) "__getattr__"=some none)
  (bq:W.findIn K (.ref C_TooFar) "__class__"=some (some (.builtin "object.__class__")))
  (bo:PySem.W.specialIn K (.builtin "object.__class__") "__get__"=some (some (.builtin "getset_descriptor.__get__")))
  (bu:PySem.W.takesIn K (.builtin "object.__class__")=some true)
  (c0:PySem.W.mroIn K C_TooFar (.type "object")=some true)
  (b3:PySem.W.mroIn K C_TooFar (.type "BaseException")=some true)
  (c6:PySem.W.hasDictIn K C_TooFar=true)
  (bn:ZEJ K C_TooFar=true)
  (ce:W.findIn K (.ref C_TooFar) "__setattr__"=some (some (.builtin "object.__setattr__")))
  (aa:ZCo K C_TooFar ad bmV "ValueError.__new__"=true)
  (ba:W.keepIn K (.ref C_TooFar)=true)
  (L:PySem.W.exmOne K (.ref C_TooFar) (.ref C_HallError)=some true)
  (a4:W.findIn K (.ref C_TooFar) "place"=some none)
  (a3:W.findIn K (.ref C_TooFar) "others"=some none)
  (ac:PySem.W.specialIn K (.ref C_HallError) "__getattribute__"=some (some (.builtin "type.__getattribute__")))
  (a8:PySem.W.readsIn K C_HallError (.type "type")=true)
  (a9:PySem.W.findCls K (.ref C_HallError) (.type "type") "__init__"=some (.val (.builtin "ValueError.__init__")))
  (qx:W.nsIn K mainGlobals "spot_of"=some (some (.ref bh)))
  (pi:K.lookup bh=some ⟨ld,im,.func (W.fnOf "spot_of" "spot_of" (ZAO ZBi) (ZAM ZBi) (ZAB ZBi) .none op l5 j9 ie d2 o0),g4⟩)
  (ra:W.codeIn K d2 "spot_of"=true)
  (fm:W.keepIn K (.ref bh)=true)
  (tn:W.nsIn K mainGlobals "by_reach"=some (some (.ref cc)))
  (qq:K.lookup cc=some ⟨ij,o9,.func (W.fnOf "by_reach" "by_reach" (ZAO ZBW) (ZAM ZBW) (ZAB ZBW) .none m8 gq p0 jz cn p4),ov⟩)
  (rm:W.codeIn K cn "by_reach"=true)
  (fq:W.keepIn K (.ref cc)=true)
  (q3:W.nsIn K mainGlobals "straight"=some (some (.ref b5)))
  (r3:K.lookup b5=some ⟨on,g8,.func (W.fnOf "straight" "straight" (ZAO ZBT) (ZAM ZBT) (ZAB ZBT) .none o7 jv ox ow di i5),i7⟩)
  (rx:W.codeIn K di "straight"=true)
  (dr:W.keepIn K (.ref b5)=true)
  (u1:W.nsIn K mainGlobals "is_number"=some (some (.ref c7)))
  (r2:K.lookup c7=some ⟨jn,ms,.func (W.fnOf "is_number" "is_number" (ZAO ZBB) (ZAM ZBB) (ZAB ZBB) .none gi m3 p5 jk dg l1),kv⟩)
  (t9:W.codeIn K dg "is_number"=true)
  (en:W.keepIn K (.ref c7)=true)
  (tz:W.nsIn K mainGlobals "is_paper"=some (some (.ref b6)))
  (s6:K.lookup b6=some ⟨l8,mf,.func (W.fnOf "is_paper" "is_paper" (ZAO ZBU) (ZAM ZBU) (ZAB ZBU) .none go mo p3 n5 de ih),l2⟩)
  (r9:W.codeIn K de "is_paper"=true)
  (fx:W.keepIn K (.ref b6)=true)
  (re:W.nsIn K mainGlobals "check_paper"=some (some (.ref b4)))
  (q6:K.lookup b4=some ⟨mx,lh,.func (W.fnOf "check_paper" "check_paper" (ZAO ZAs) (ZAM ZAs) (ZAB ZAs) .none lm m0 mw ku df m7),mq⟩)
  (tj:W.codeIn K df "check_paper"=true)
  (fg:W.keepIn K (.ref b4)=true)
  (sw:W.nsIn K mainGlobals "back"=some (some (.ref c3)))
  (rt:K.lookup c3=some ⟨m5,j2,.func (W.fnOf "back" "back" (ZAO ZDP) (ZAM ZDP) (ZAB ZDP) .none m6 nv k9 mv cp h8),ol⟩)
  (t3:W.codeIn K cp "back"=true)
  (du:W.keepIn K (.ref c3)=true)
  (ss:W.nsIn K mainGlobals "agrees"=some (some (.ref bj)))
  (si:K.lookup bj=some ⟨ht,jt,.func (W.fnOf "agrees" "agrees" (ZAO ZCD) (ZAM ZCD) (ZAB ZCD) .none kc m2 j5 jm d5 nw),o3⟩)
  (pu:W.codeIn K d5 "agrees"=true)
  (et:W.keepIn K (.ref bj)=true)
  (qa:W.nsIn K mainGlobals "shows"=some (some (.ref be)))
  (tw:K.lookup be=some ⟨je,o8,.func (W.fnOf "shows" "shows" (ZAO ZCj) (ZAM ZCj) (ZAB ZCj) .none n6 gw m1 nk db kd),h3⟩)
  (qj:W.codeIn K db "shows"=true)
  (fj:W.keepIn K (.ref be)=true)
  (q0:W.nsIn K mainGlobals "_law_cell_at"=some (some (.ref c8)))
  (pw:K.lookup c8=some ⟨l0,gh,.func (W.fnOf "_law_cell_at" "_law_cell_at" (ZAO ZBk) (ZAM ZBk) (ZAB ZBk) .none kw oa lb na dj h5),j7⟩)
  (rz:W.codeIn K dj "_law_cell_at"=true)
  (ez:W.keepIn K (.ref c8)=true)
  (qg:W.nsIn K mainGlobals "_law_stream"=some (some (.ref bv)))
  (qb:K.lookup bv=some ⟨n1,gd,.func (W.fnOf "_law_stream" "_law_stream" (ZAO ZB9) (ZAM ZB9) (ZAB ZB9) .none ns ia hb hv cz jl),jf⟩)
  (r1:W.codeIn K cz "_law_stream"=true)
  (ev:W.keepIn K (.ref bv)=true)
  (so:W.nsIn K mainGlobals "_law_digits"=some (some (.ref c5)))
  (tp:K.lookup c5=some ⟨k6,ot,.func (W.fnOf "_law_digits" "_law_digits" (ZAO ZCB) (ZAM ZCB) (ZAB ZCB) .none ho p7 i8 nf d0 ni),io⟩)
  (qk:W.codeIn K d0 "_law_digits"=true)
  (fv:W.keepIn K (.ref c5)=true)
  (t8:W.nsIn K mainGlobals "_law_blocks"=some (some (.ref bd)))
  (qf:K.lookup bd=some ⟨od,hr,.func (W.fnOf "_law_blocks" "_law_blocks" (ZAO ZCC) (ZAM ZCC) (ZAB ZCC) .none hg lw me gm co oq),jq⟩)
  (pe:W.codeIn K co "_law_blocks"=true)
  (eu:W.keepIn K (.ref bd)=true)
  (ry:W.nsIn K mainGlobals "_law_nearly"=some (some (.ref br)))
  (ql:K.lookup br=some ⟨jx,kj,.func (W.fnOf "_law_nearly" "_law_nearly" (ZAO ZCA) (ZAM ZCA) (ZAB ZCA) .none g9 mt h0 k8 ch jd),lu⟩)
  (sv:W.codeIn K ch "_law_nearly"=true)
  (er:W.keepIn K (.ref br)=true)
  (sq:W.nsIn K mainGlobals "_law_keys"=some (some (.ref b9)))
  (t1:K.lookup b9=some ⟨ky,hd,.func (W.fnOf "_law_keys" "_law_keys" (ZAO ZDO) (ZAM ZDO) (ZAB ZDO) .none oe ml kp kg cq ir),g7⟩)
  (sf:W.codeIn K cq "_law_keys"=true)
  (ek:W.keepIn K (.ref b9)=true)
  (q7:W.nsIn K mainGlobals "_law_whole"=some (some (.ref ca)))
  (q1:K.lookup ca=some ⟨ik,i1,.func (W.fnOf "_law_whole" "_law_whole" (ZAO ZCi) (ZAM ZCi) (ZAB ZCi) .none ny j0 nl li d9 it),iz⟩)
  (s4:W.codeIn K d9 "_law_whole"=true)
  (dq:W.keepIn K (.ref ca)=true)
  (qp:W.nsIn K mainGlobals "_law_in_order"=some (some (.ref bz)))
  (u3:K.lookup bz=some ⟨iu,mb,.func (W.fnOf "_law_in_order" "_law_in_order" (ZAO ZBV) (ZAM ZBV) (ZAB ZBV) .none hs pa ki jr cr j3),mi⟩)
  (qr:W.codeIn K cr "_law_in_order"=true)
  (ec:W.keepIn K (.ref bz)=true)
  (qv:W.nsIn K mainGlobals "_law_shown"=some (some (.ref b7)))
  (sy:K.lookup b7=some ⟨hh,lr,.func (W.fnOf "_law_shown" "_law_shown" (ZAO ZCk) (ZAM ZCk) (ZAB ZCk) .none my mj hq md cy n8),jo⟩)
  (qs:W.codeIn K cy "_law_shown"=true)
  (fh:W.keepIn K (.ref b7)=true)
  (t6:W.nsIn K mainGlobals "_law_crossed"=some (some (.ref c4)))
  (rq:K.lookup c4=some ⟨gu,ob,.func (W.fnOf "_law_crossed" "_law_crossed" (ZAO ZBj) (ZAM ZBj) (ZAB ZBj) .none hf ng lf ka dk h4),l3⟩)
  (rk:W.codeIn K dk "_law_crossed"=true)
  (ff:W.keepIn K (.ref c4)=true)
  (tu:W.nsIn K mainGlobals "_law_told"=some (some (.ref cb)))
  (rr:K.lookup cb=some ⟨hu,kq,.func (W.fnOf "_law_told" "_law_told" (ZAO ZDN) (ZAM ZDN) (ZAB ZDN) .none j4 no hp gn ct i6),h7⟩)
  (qe:W.codeIn K ct "_law_told"=true)
  (ew:W.keepIn K (.ref cb)=true)
  (s9:W.nsIn K mainGlobals "_law_far"=some (some (.ref bp)))
  (qd:K.lookup bp=some ⟨hx,nc,.func (W.fnOf "_law_far" "_law_far" (ZAO ZEZ) (ZAM ZEZ) (ZAB ZEZ) .none mz lp gt hz cg lj),hj⟩)
  (pp:W.codeIn K cg "_law_far"=true)
  (f7:W.keepIn K (.ref bp)=true)
  (pm:W.nsIn K mainGlobals "_law_walked"=some (some (.ref bw)))
  (su:K.lookup bw=some ⟨gp,km,.func (W.fnOf "_law_walked" "_law_walked" (ZAO ZB8) (ZAM ZB8) (ZAB ZB8) .none ga n9 o5 oz cj k7),l9⟩)
  (t2:W.codeIn K cj "_law_walked"=true)
  (dy:W.keepIn K (.ref bw)=true)
  (tq:W.nsIn K mainGlobals "_law_few"=some (some (.ref bt)))
  (qw:K.lookup bt=some ⟨j1,gr,.func (W.fnOf "_law_few" "_law_few" (ZAO ZEY) (ZAM ZEY) (ZAB ZEY) .none mu i2 kh kb d6 i4),n2⟩)
  (sd:W.codeIn K d6 "_law_few"=true)
  (fc:W.keepIn K (.ref bt)=true)
  (q4:W.nsIn K mainGlobals "law"=some (some (.ref bf)))
  (qu:K.lookup bf=some ⟨kl,kk,.func (W.fnOf "law" "law" (ZAO ZDd) (ZAM ZDd) (ZAB ZDd) .none d1 dh cw cu ap da),nx⟩)
  (r6:W.codeIn K ap "law"=true)
  (s0:W.keepIn K (.ref bf)=true)
  (e0:W.nsIn K mainGlobals "_law_teller"=some (some (.ref bb)))
  (eo:K.lookup bb=some ⟨h6,g5,.func (W.fnOf "_law_teller" "_law_teller" (ZAO ZBn) (ZAM ZBn) (ZAB ZBn) .none ix ii p6 o1 (.ref a1) o2),oh⟩)
  (q2:W.codeIn K (.ref a1) "_law_teller"=true)
  (he:K.lookup a1=some ⟨f2,eq,.fields ci,ed⟩)
  (pc:ci[11]?=some (.ref a6))
  (f4:W.keepIn K (.ref bb)=true)
  (ri:W.nsIn K mainGlobals "len"=some none)
  (ey:W.nsIn K mainGlobals "range"=some none)
  (nb:W.nsIn K mainGlobals "list"=some none)
  (af:W.nsIn K mainGlobals "isinstance"=some none)
  (nh:W.nsIn K mainGlobals "bool"=some none)
  (sl:W.nsIn K mainGlobals "int"=some none)
  (sc:W.nsIn K mainGlobals "max"=some none)
  (r4:W.nsIn K mainGlobals "min"=some none)
  (sx:W.nsIn K mainGlobals "sum"=some none)
  (r7:W.nsIn K mainGlobals "all"=some none)
  (dm:W.nsIn K mainGlobals "sorted"=some none)
  (b1:W.nsIn K mainGlobals "reversed"=some none)
  (ak:W.nsIn K mainGlobals "enumerate"=some none)
  (pg:W.nsIn K mainGlobals "zip"=some none)
  (ko:W.nsIn K mainGlobals "dict"=some none)
  (ag:W.nsIn K mainGlobals "ValueError"=some none)
  (ah:PySem.W.kitOne K (.type "int") (.type "bool")=some false)
  (Z:PySem.W.kitOne K (.ref C_TooFar) (.ref C_TooFar)=some true)
  (z:PySem.W.kitOne K (.ref C_TooFar) (.type "ValueError")=some true)
  (U:PySem.W.kitOne K (.ref C_TooFar) (.ref C_NoPaper)=some false)
  (Y:PySem.W.kitOne K (.ref C_TooFar) (.ref C_NoPlace)=some false)
  (a0:PySem.W.kitOne K (.ref C_TooFar) (.ref C_Spent)=some false)
  (nt:PySem.W.noTabs K=true) :
  ∃ (tabs:List (Addr×Addr)) (fd:FuncData),PySem.W.noTabs K=true /\ (∀ t∈tabs,∃ y∈(["_law_teller"]:List Str),PySem.W.tabIn K y=some t) /\ (∀ (s:Shared) (v:Value),BindsTo s fd ⟨[v],[]⟩ [("_law_script",v)]) /\ ∀ base:Heap,K.In base->base.Ns mainGlobals mg->(∀ t∈tabs,PySem.W.CodeHd base t.1 t.2)->ZDy mg base->FnOk l.prog w K mg base CX0 7 fa fd ["_law_script"] (ZEm K tabs):=by
 have e:=u5.symm.trans (PySem.W.mg_of X G q4)
 cases e
 have a7:Cls K C_zaH:=⟨jc,k4,mh,p1⟩
 have c9:=funD_mk (st:=ZA0) sa qn tr qt
 have u4:=c9.binds (ps:=["self","row","rule","most"]) (ds:=[]) fun _ _ _ _ _ _ _ us hl=>by obtain ⟨_,_,_,_,rfl⟩:=us4 (us_len (n:=4) hl rfl);exact ⟨_,rfl,rfl⟩
 have ee:=c9.binds (ps:=["self","row","rule","most"]) (ds:=[.none]) fun _ _ _ _ _ _ _ us hl=>by obtain ⟨_,_,_,rfl⟩:=us3 (us_len (n:=3) hl rfl);exact ⟨_,rfl,rfl⟩
 have fn:=ZAe (st:=ZAz) qo qi f3
 have qh:=fn.binds (ps:=["self"]) fun _ _ _ _ _ _ us hl=>by obtain ⟨_,rfl⟩:=us1 hl;rfl
 have fy:=ZAe (st:=ZAk) qz q5 e4
 have sk:=fy.binds (ps:=["self"]) fun _ _ _ _ _ _ us hl=>by obtain ⟨_,rfl⟩:=us1 hl;rfl
 have g2:=ZAe (st:=ZAu) t0 t4 fk
 have u0:=g2.binds (ps:=["self","p","q"]) fun _ _ _ _ _ _ us hl=>by obtain ⟨_,_,_,rfl⟩:=us3 hl;rfl
 have cx:Cls K C_zaG:=⟨gs,n0,n4,jw⟩
 have fi:=ZAe (st:=ZAg) po rh rf
 have r8:=fi.binds (ps:=["self","teller"]) fun _ _ _ _ _ _ us hl=>by obtain ⟨_,_,rfl⟩:=us2 hl;rfl
 have f5:=ZAe (st:=ZAY) ts t7 fz
 have rg:=f5.binds (ps:=["self","x","y"]) fun _ _ _ _ _ _ us hl=>by obtain ⟨_,_,_,rfl⟩:=us3 hl;rfl
 have eh:=ZAe (st:=ZAt) r5 q8 pf
 have pd:=eh.binds (ps:=["self","place","others"]) fun _ _ _ _ _ _ us hl=>by obtain ⟨_,_,_,rfl⟩:=us3 hl;rfl
 have fu:=ZAe (st:=ZBi) pi ra fm
 have ph:=fu.binds (ps:=["asker","order","place"]) fun _ _ _ _ _ _ us hl=>by obtain ⟨_,_,_,rfl⟩:=us3 hl;rfl
 have e9:=ZAe (st:=ZBW) qq rm fq
 have pj:=e9.binds (ps:=["asker","reach"]) fun _ _ _ _ _ _ us hl=>by obtain ⟨_,_,rfl⟩:=us2 hl;rfl
 have e2:=ZAe (st:=ZBT) r3 rx dr
 have qy:=e2.binds (ps:=["many"]) fun _ _ _ _ _ _ us hl=>by obtain ⟨_,rfl⟩:=us1 hl;rfl
 have ea:=ZAe (st:=ZBB) r2 t9 en
 have r0:=ea.binds (ps:=["some"]) fun _ _ _ _ _ _ us hl=>by obtain ⟨_,rfl⟩:=us1 hl;rfl
 have g0:=ZAe (st:=ZBU) s6 r9 fx
 have t5:=g0.binds (ps:=["some"]) fun _ _ _ _ _ _ us hl=>by obtain ⟨_,rfl⟩:=us1 hl;rfl
 have eg:=ZAe (st:=ZAs) q6 tj fg
 have u2:=eg.binds (ps:=["some","many"]) fun _ _ _ _ _ _ us hl=>by obtain ⟨_,_,rfl⟩:=us2 hl;rfl
 have e5:=ZAe (st:=ZDP) rt t3 du
 have q9:=e5.binds (ps:=["paper"]) fun _ _ _ _ _ _ us hl=>by obtain ⟨_,rfl⟩:=us1 hl;rfl
 have dw:=ZAe (st:=ZCD) si pu et
 have s5:=dw.binds (ps:=["paper","answers"]) fun _ _ _ _ _ _ us hl=>by obtain ⟨_,_,rfl⟩:=us2 hl;rfl
 have f8:=ZAe (st:=ZCj) tw qj fj
 have px:=f8.binds (ps:=["paper","answers"]) fun _ _ _ _ _ _ us hl=>by obtain ⟨_,_,rfl⟩:=us2 hl;rfl
 have g3:=ZAe (st:=ZBk) pw rz ez
 have qm:=g3.binds (ps:=["_law_script","_law_k"]) fun _ _ _ _ _ _ us hl=>by obtain ⟨_,_,rfl⟩:=us2 hl;rfl
 have ef:=ZAe (st:=ZB9) qb r1 ev
 have s3:=ef.binds (ps:=["_law_cell","_law_many"]) fun _ _ _ _ _ _ us hl=>by obtain ⟨_,_,rfl⟩:=us2 hl;rfl
 have f6:=ZAe (st:=ZCB) tp qk fv
 have pn:=f6.binds (ps:=["_law_script","_law_k","_law_base"]) fun _ _ _ _ _ _ us hl=>by obtain ⟨_,_,_,rfl⟩:=us3 hl;rfl
 have e3:=ZAe (st:=ZCC) qf pe eu
 have pz:=e3.binds (ps:=["_law_keys_here","_law_cell"]) fun _ _ _ _ _ _ us hl=>by obtain ⟨_,_,rfl⟩:=us2 hl;rfl
 have e6:=ZAe (st:=ZCA) ql sv er
 have rb:=e6.binds (ps:=["_law_keys_here","_law_cell"]) fun _ _ _ _ _ _ us hl=>by obtain ⟨_,_,rfl⟩:=us2 hl;rfl
 have fo:=ZAe (st:=ZDO) t1 sf ek
 have rv:=fo.binds (ps:=["_law_script","_law_most"]) fun _ _ _ _ _ _ us hl=>by obtain ⟨_,_,rfl⟩:=us2 hl;rfl
 have e7:=ZAe (st:=ZCi) q1 s4 dq
 have pq:=e7.binds (ps:=["_law_found"]) fun _ _ _ _ _ _ us hl=>by obtain ⟨_,rfl⟩:=us1 hl;rfl
 have eb:=ZAe (st:=ZBV) u3 qr ec
 have sh:=eb.binds (ps:=["_law_order","_law_keys_here","_law_many"]) fun _ _ _ _ _ _ us hl=>by obtain ⟨_,_,_,rfl⟩:=us3 hl;rfl
 have fw:=ZAe (st:=ZCk) sy qs fh
 have sr:=fw.binds (ps:=["_law_order","_law_log"]) fun _ _ _ _ _ _ us hl=>by obtain ⟨_,_,rfl⟩:=us2 hl;rfl
 have dz:=ZAe (st:=ZBj) rq rk ff
 have sm:=dz.binds (ps:=["_law_keys_here"]) fun _ _ _ _ _ _ us hl=>by obtain ⟨_,rfl⟩:=us1 hl;rfl
 have fe:=ZAe (st:=ZDN) rr qe ew
 have sj:=fe.binds (ps:=["_law_asker","_law_reach"]) fun _ _ _ _ _ _ us hl=>by obtain ⟨_,_,rfl⟩:=us2 hl;rfl
 have g1:=ZAe (st:=ZEZ) qd pp f7
 have rs:=g1.binds (ps:=["_law_e","_law_counts","_law_keys_here","_law_reach"]) fun _ _ _ _ _ _ us hl=>by obtain ⟨_,_,_,_,rfl⟩:=us4 hl;rfl
 have ft:=ZAe (st:=ZB8) su t2 dy
 have ro:=ft.binds (ps:=["_law_log","_law_many","_law_reach"]) fun _ _ _ _ _ _ us hl=>by obtain ⟨_,_,_,rfl⟩:=us3 hl;rfl
 have ei:=ZAe (st:=ZEY) qw sd fc
 have s8:=ei.binds (ps:=["_law_log","_law_reach","_law_most"]) fun _ _ _ _ _ _ us hl=>by obtain ⟨_,_,_,rfl⟩:=us3 hl;rfl
 have f9:=ZAe (st:=ZDd) qu r6 s0
 have u6:=f9.binds (ps:=["_law_script"]) fun _ _ _ _ _ _ us hl=>by obtain ⟨_,rfl⟩:=us1 hl;rfl
 have e1:=ZAe (st:=ZBn) eo q2 f4
 have sg:=e1.binds (ps:=["_law_log"]) fun _ _ _ _ _ _ us hl=>by obtain ⟨_,rfl⟩:=us1 hl;rfl
 have T:Bt K mg C_zaH C_zaG C_HallError C_NoPaper C_NoPlace C_TooFar C_Spent:=⟨PySem.W.mg_none_of X G ri,PySem.W.mg_none_of X G ey,PySem.W.mg_none_of X G nb,PySem.W.mg_none_of X G af,PySem.W.mg_none_of X G nh,PySem.W.mg_none_of X G sl,PySem.W.mg_none_of X G sc,PySem.W.mg_none_of X G r4,PySem.W.mg_none_of X G sx,PySem.W.mg_none_of X G r7,PySem.W.mg_none_of X G dm,PySem.W.mg_none_of X G b1,PySem.W.mg_none_of X G ak,PySem.W.mg_none_of X G pg,PySem.W.mg_none_of X G ko,PySem.W.mg_none_of X G ag,PySem.W.mg_of X G ep,a7,bi,b2,az,al,ay,PySem.W.mg_of X G e8,cx,ai,PySem.W.mg_of X G au,PySem.W.mg_of X G bg,PySem.W.mg_of X G b8,PySem.W.mg_of X G aj,PySem.W.mg_of X G dt,⟨bx,bc,bq,bo,bu,c0,b3⟩,⟨c6,bn,ce⟩,⟨_,aa⟩,L,a4,a3,⟨ac,a8,a9⟩,ah,Z,z,U,Y,a0⟩
 refine ⟨[(a1,a6)],W.fnOf "law" "law" (ZAO ZDd) (ZAM ZDd) (ZAB ZDd) .none d1 dh cw cu ap da,nt,List.forall_mem_cons.mpr ⟨⟨"_law_teller",by simp,tabIn_of e0 eo rfl he pc⟩,fun _ h=>nomatch h⟩,fun s v=>.of_eq rfl,fun base _ _ hC hB=>?_⟩
 have an:Fn l.prog w K mg base CX0 "_law_cell_at" 1 ["_law_script","_law_k"] (ZDr K):=⟨_,_,ok_cell_at g3 T ,qm,ez,PySem.W.mg_of X G q0⟩
 have a5:Fn l.prog w K mg base CX0 "_law_stream" 1 ["_law_cell","_law_many"] (ZB6):=⟨_,_,ok_stream ef T ,s3,ev,PySem.W.mg_of X G qg⟩
 have kx:Fn l.prog w K mg base CX0 "_law_blocks" 2 ["_law_keys_here","_law_cell"] (ZBm):=⟨_,_,ok_blocks e3 T a5,pz,eu,PySem.W.mg_of X G t8⟩
 have n3:Fn l.prog w K mg base CX0 "_law_nearly" 2 ["_law_keys_here","_law_cell"] (ZBm):=⟨_,_,ok_nearly e6 T a5,rb,er,PySem.W.mg_of X G ry⟩
 have ju:Fn l.prog w K mg base CX0 "_law_digits" 2 ["_law_script","_law_k","_law_base"] (ZDb K):=⟨_,_,ok_digits f6 T a5 an,pn,fv,PySem.W.mg_of X G so⟩
 have mn:Fn l.prog w K mg base CX0 "_law_keys" 3 ["_law_script","_law_most"] (ZEn K):=⟨_,_,ok_keys fo T an kx n3 ju a5,rv,ek,PySem.W.mg_of X G sq⟩
 have mk:Fn l.prog w K mg base CX0 "_law_crossed" 1 ["_law_keys_here"] (ZCL):=⟨_,_,ok_crossed dz T ,sm,ff,PySem.W.mg_of X G t6⟩
 have ao:CloOk l.prog w K mg base 1 (ZBX):=clo_teller T
 have O:Mt l.prog w K mg base CX0 C_zaG "before" 2 ["self","x","y"] (ZCr C_zaG ZBX):=⟨cx,_,_,ok_AskedRule_before f5 T ao,rg,tm,qc,fz⟩
 have J:Mt l.prog w K mg base CX0 C_zaH "ahead" 3 ["self","p","q"] (ZC1 C_zaH C_zaG ZBX):=⟨a7,_,_,ok_Asker_ahead g2 T O,u0,tf,py,fk⟩
 have i0:Fn l.prog w K mg base CX0 "spot_of" 4 ["asker","order","place"] (ZDa C_zaH C_zaG):=⟨_,_,ok_spot_of fu T J,ph,fm,PySem.W.mg_of X G qx⟩
 have ae:Mt l.prog w K mg base CX0 C_zaH "many" 1 ["self"] (ZEl C_zaH):=⟨a7,_,_,ok_Asker_many fn T ,qh,rp,pk,f3⟩
 have b0:XKl l.prog w K mg base CX0 "TooFar" C_TooFar 1 ["self","place","others"] (ZDY C_TooFar):=⟨PySem.W.mg_of X G aj,_,_,ok_TooFar_init eh T ,pd,aa,tx,ba⟩
 have nr:Fn l.prog w K mg base (CXE l.prog w) "by_reach" 5 ["asker","reach"] (ZCx C_zaH C_zaG C_TooFar):=⟨_,_,ok_by_reach e9 T i0 ae J b0,pj,fq,PySem.W.mg_of X G tn⟩
 have ja:Fn l.prog w K mg base CX0 "_law_told" 6 ["_law_asker","_law_reach"] (ZDZ C_zaH C_zaG C_TooFar):=⟨_,_,ok_told fe T nr,sj,ew,PySem.W.mg_of X G tu⟩
 have ic:Fn l.prog w K mg base CX0 "_law_walked" 1 ["_law_log","_law_many","_law_reach"] (ZCf):=⟨_,_,ok_walked ft T ,ro,dy,PySem.W.mg_of X G pm⟩
 have gx:Fn l.prog w K mg base CX0 "_law_teller" 1 ["_law_log"] (ZEO a6 (ZEz ZAN) "_law_teller_here" "_law_teller.<locals>._law_teller_here" (ZAO ZAN) (ZAM ZAN) (ZAB ZAN) ["_law_log"] [0] 1):=⟨_,_,ok_teller e1 rfl (hC (a1,a6) (by simp)) hB,sg,f4,PySem.W.mg_of X G e0⟩
 have d7:Fn l.prog w K mg base CX0 "_law_whole" 1 ["_law_found"] (ZDX):=⟨_,_,ok_whole e7 T ,pq,dq,PySem.W.mg_of X G q7⟩
 have ly:Fn l.prog w K mg base CX0 "_law_in_order" 2 ["_law_order","_law_keys_here","_law_many"] (ZCz):=⟨_,_,ok_in_order eb T d7,sh,ec,PySem.W.mg_of X G qp⟩
 have ke:Fn l.prog w K mg base CX0 "_law_shown" 1 ["_law_order","_law_log"] (ZD5):=⟨_,_,ok_shown fw T ,sr,fh,PySem.W.mg_of X G qv⟩
 have oo:Fn l.prog w K mg base CX0 "_law_few" 1 ["_law_log","_law_reach","_law_most"] (ZD6):=⟨_,_,ok_few ei T ,s8,fc,PySem.W.mg_of X G tq⟩
 have d4:Fn l.prog w K mg base CX0 "straight" 1 ["many"] (ZB7):=⟨_,_,ok_straight e2 T ,qy,dr,PySem.W.mg_of X G q3⟩
 have oi:Fn l.prog w K mg base CX0 "is_number" 1 ["some"] (ZCh):=⟨_,_,ok_is_number ea T ,r0,en,PySem.W.mg_of X G u1⟩
 have gg:Fn l.prog w K mg base CX0 "is_paper" 2 ["some"] (ZCy):=⟨_,_,ok_is_paper g0 T d4 oi,t5,fx,PySem.W.mg_of X G tz⟩
 have oj:Fn l.prog w K mg base CX0 "check_paper" 3 ["some","many"] (ZBy):=⟨_,_,ok_check_paper eg T gg,u2,fg,PySem.W.mg_of X G re⟩
 have nu:Fn l.prog w K mg base CX0 "back" 4 ["paper"] (ZEo):=⟨_,_,ok_back e5 T oj d4,q9,du,PySem.W.mg_of X G sw⟩
 have kf:Fn l.prog w K mg base CX0 "agrees" 5 ["paper","answers"] (ZDc):=⟨_,_,ok_agrees dw T nu,s5,et,PySem.W.mg_of X G ss⟩
 have gl:Fn l.prog w K mg base CX0 "shows" 6 ["paper","answers"] (ZD4):=⟨_,_,ok_shows f8 T kf,px,fj,PySem.W.mg_of X G qa⟩
 have mm:Fn l.prog w K mg base CX0 "_law_far" 2 ["_law_e","_law_counts","_law_keys_here","_law_reach"] (ZD7 C_TooFar):=⟨_,_,ok_far g1 T d7,rs,f7,PySem.W.mg_of X G s9⟩
 have a2:Mt l.prog w K mg base CX0 C_zaH "answers" 1 ["self"] (ZC0 C_zaH):=⟨a7,_,_,ok_Asker_answers fy T ,sk,rn,se,e4⟩
 have dl:KlD l.prog w K mg base CX0 "Asker" C_zaH 1 ["self","row","rule","most"] (ZCM C_zaH) [.non]:=⟨PySem.W.mg_of X G ep,_,_,_,ok_Asker_init c9 T ,ee,(.cons rfl .nil),j8,s7,rc,m4⟩
 have kz:Kl l.prog w K mg base CX0 "AskedRule" C_zaG 1 ["self","teller"] (ZCg C_zaG):=⟨PySem.W.mg_of X G e8,_,_,ok_AskedRule_init fi T ,r8,jg,sb,rj,gj⟩
 exact ok_law f9 T mn mk ja ic an gx ly ke oo gl mm a2 dl kz
end Law
open PySem PySem.W PyProof.Rows
set_option maxRecDepth 100000 in
set_option maxHeartbeats 0 in
theorem PySem.Challenge.cw_sorthall_k38_whole_reach_holds : PySem.Challenge.rw_sorthall_k38_whole_reach.Holds := by
 refine L2.hd0 ?_
 k_fill
 refine L2.walk_ofT2 (l:=PySem.Challenge.rw_sorthall_k38_whole_reach) (k:=7) (x:="_law_script") (names:=["_law_teller"]) rfl rfl ⟨rfl,by decide,by decide,rfl⟩ (fun w h Y=>PySem.W.km_in_of Y) (List.forall_mem_cons.mpr ⟨⟨_,rfl⟩,fun _ h=>nomatch h⟩) ?F
 case F=>
  intro w mg fa h KX G hmg
  refine' Law.all_mk KX G hmg ?a_zaH ?pg_zaH ?hd_zaH ?po_zaH ?sa_zaH ?mk_zaH ?kc_zaH ?n_zaH_row ?n_zaH_rule ?n_zaH_most ?n_zaH_asked ?n_zaH_told ?a_zag ?i_zag ?l_zag ?c_zag ?d_zag ?k_zag ?a_zah ?i_zah ?l_zah ?c_zah ?k_zah ?a_zac ?i_zac ?l_zac ?c_zac ?k_zac ?a_zae ?i_zae ?l_zae ?c_zae ?k_zae ?a_zaG ?pg_zaG ?hd_zaG ?po_zaG ?sa_zaG ?mk_zaG ?kc_zaG ?n_zaG_teller ?a_zab ?i_zab ?l_zab ?c_zab ?k_zab ?a_zaa ?i_zaa ?l_zaa ?c_zaa ?k_zaa ?a_HallError ?a_NoPaper ?a_NoPlace ?a_TooFar ?a_Spent ?a_zaf ?i_zaf ?l_zaf ?c_zaf ?k_zaf ?xg_TooFar ?xh_TooFar ?xa_TooFar ?xs_TooFar ?xt_TooFar ?xo_TooFar ?xb_TooFar ?xd_TooFar ?xv_TooFar ?xw_TooFar ?xi_TooFar ?xp_TooFar ?xm_TooFar_HallError ?n_TooFar_place ?n_TooFar_others ?xbg_HallError ?xbr_HallError ?xbf_HallError ?a_zan ?l_zan ?c_zan ?k_zan ?a_zak ?l_zak ?c_zak ?k_zak ?a_zaj ?l_zaj ?c_zaj ?k_zaj ?a_zai ?l_zai ?c_zai ?k_zai ?a_zam ?l_zam ?c_zam ?k_zam ?a_zad ?l_zad ?c_zad ?k_zad ?a_zaB ?l_zaB ?c_zaB ?k_zaB ?a_zas ?l_zas ?c_zas ?k_zas ?a_zaz ?l_zaz ?c_zaz ?k_zaz ?a_zap ?l_zap ?c_zap ?k_zap ?a_zaq ?l_zaq ?c_zaq ?k_zaq ?a_zaw ?l_zaw ?c_zaw ?k_zaw ?a_zav ?l_zav ?c_zav ?k_zav ?a_zau ?l_zau ?c_zau ?k_zau ?a_zaA ?l_zaA ?c_zaA ?k_zaA ?a_zax ?l_zax ?c_zax ?k_zax ?a_zal ?l_zal ?c_zal ?k_zal ?a_zay ?l_zay ?c_zay ?k_zay ?a_zao ?l_zao ?c_zao ?k_zao ?a_zaC ?l_zaC ?c_zaC ?k_zaC ?a_zaE ?l_zaE ?c_zaE ?k_zaE ?a_zat ?l_zat ?c_zat ?k_zat ?a_zaF ?l_zaF ?c_zaF ?k_zaF ?a_zaD ?l_zaD ?c_zaD ?k_zaD ?a_zar ?l_zar ?c_zar ?lc_zar ?tp_zar ?k_zar ?z_len ?z_range ?z_list ?z_isinstance ?z_bool ?z_int ?z_max ?z_min ?z_sum ?z_all ?z_sorted ?z_reversed ?z_enumerate ?z_zip ?z_dict ?z_ValueError ?kit_int_bool ?kit_TooFar_TooFar ?kit_TooFar_ValueError ?kit_TooFar_NoPaper ?kit_TooFar_NoPlace ?kit_TooFar_Spent ?nt
  (case a_zaH=>k_is)
  (case pg_zaH=>k_is)
  (case hd_zaH=>k_is)
  (case po_zaH=>k_is)
  (case sa_zaH=>k_is)
  (case mk_zaH=>k_is)
  (case kc_zaH=>k_is)
  (case n_zaH_row=>k_is)
  (case n_zaH_rule=>k_is)
  (case n_zaH_most=>k_is)
  (case n_zaH_asked=>k_is)
  (case n_zaH_told=>k_is)
  (case a_zag=>k_is)
  (case i_zag=>k_is)
  (case l_zag=>k_is)
  (case c_zag=>k_is)
  (case d_zag=>k_is)
  (case k_zag=>k_is)
  (case a_zah=>k_is)
  (case i_zah=>k_is)
  (case l_zah=>k_is)
  (case c_zah=>k_is)
  (case k_zah=>k_is)
  (case a_zac=>k_is)
  (case i_zac=>k_is)
  (case l_zac=>k_is)
  (case c_zac=>k_is)
  (case k_zac=>k_is)
  (case a_zae=>k_is)
  (case i_zae=>k_is)
  (case l_zae=>k_is)
  (case c_zae=>k_is)
  (case k_zae=>k_is)
  (case a_zaG=>k_is)
  (case pg_zaG=>k_is)
  (case hd_zaG=>k_is)
  (case po_zaG=>k_is)
  (case sa_zaG=>k_is)
  (case mk_zaG=>k_is)
  (case kc_zaG=>k_is)
  (case n_zaG_teller=>k_is)
  (case a_zab=>k_is)
  (case i_zab=>k_is)
  (case l_zab=>k_is)
  (case c_zab=>k_is)
  (case k_zab=>k_is)
  (case a_zaa=>k_is)
  (case i_zaa=>k_is)
  (case l_zaa=>k_is)
  (case c_zaa=>k_is)
  (case k_zaa=>k_is)
  (case a_HallError=>k_is)
  (case a_NoPaper=>k_is)
  (case a_NoPlace=>k_is)
  (case a_TooFar=>k_is)
  (case a_Spent=>k_is)
  (case a_zaf=>k_is)
  (case i_zaf=>k_is)
  (case l_zaf=>k_is)
  (case c_zaf=>k_is)
  (case k_zaf=>k_is)
  (case xg_TooFar=>k_is)
  (case xh_TooFar=>k_is)
  (case xa_TooFar=>k_is)
  (case xs_TooFar=>k_is)
  (case xt_TooFar=>k_is)
  (case xo_TooFar=>k_is)
  (case xb_TooFar=>k_is)
  (case xd_TooFar=>k_is)
  (case xv_TooFar=>kernel_rfl)
  (case xw_TooFar=>k_is)
  (case xi_TooFar=>kernel_rfl)
  (case xp_TooFar=>k_is)
  (case xm_TooFar_HallError=>kts_exm)
  (case n_TooFar_place=>k_is)
  (case n_TooFar_others=>k_is)
  (case xbg_HallError=>k_is)
  (case xbr_HallError=>k_is)
  (case xbf_HallError=>k_is)
  (case a_zan=>k_is)
  (case l_zan=>k_is)
  (case c_zan=>k_is)
  (case k_zan=>k_is)
  (case a_zak=>k_is)
  (case l_zak=>k_is)
  (case c_zak=>k_is)
  (case k_zak=>k_is)
  (case a_zaj=>k_is)
  (case l_zaj=>k_is)
  (case c_zaj=>k_is)
  (case k_zaj=>k_is)
  (case a_zai=>k_is)
  (case l_zai=>k_is)
  (case c_zai=>k_is)
  (case k_zai=>k_is)
  (case a_zam=>k_is)
  (case l_zam=>k_is)
  (case c_zam=>k_is)
  (case k_zam=>k_is)
  (case a_zad=>k_is)
  (case l_zad=>k_is)
  (case c_zad=>k_is)
  (case k_zad=>k_is)
  (case a_zaB=>k_is)
  (case l_zaB=>k_is)
  (case c_zaB=>k_is)
  (case k_zaB=>k_is)
  (case a_zas=>k_is)
  (case l_zas=>k_is)
  (case c_zas=>k_is)
  (case k_zas=>k_is)
  (case a_zaz=>k_is)
  (case l_zaz=>k_is)
  (case c_zaz=>k_is)
  (case k_zaz=>k_is)
  (case a_zap=>k_is)
  (case l_zap=>k_is)
  (case c_zap=>k_is)
  (case k_zap=>k_is)
  (case a_zaq=>k_is)
  (case l_zaq=>k_is)
  (case c_zaq=>k_is)
  (case k_zaq=>k_is)
  (case a_zaw=>k_is)
  (case l_zaw=>k_is)
  (case c_zaw=>k_is)
  (case k_zaw=>k_is)
  (case a_zav=>k_is)
  (case l_zav=>k_is)
  (case c_zav=>k_is)
  (case k_zav=>k_is)
  (case a_zau=>k_is)
  (case l_zau=>k_is)
  (case c_zau=>k_is)
  (case k_zau=>k_is)
  (case a_zaA=>k_is)
  (case l_zaA=>k_is)
  (case c_zaA=>k_is)
  (case k_zaA=>k_is)
  (case a_zax=>k_is)
  (case l_zax=>k_is)
  (case c_zax=>k_is)
  (case k_zax=>k_is)
  (case a_zal=>k_is)
  (case l_zal=>k_is)
  (case c_zal=>k_is)
  (case k_zal=>k_is)
  (case a_zay=>k_is)
  (case l_zay=>k_is)
  (case c_zay=>k_is)
  (case k_zay=>k_is)
  (case a_zao=>k_is)
  (case l_zao=>k_is)
  (case c_zao=>k_is)
  (case k_zao=>k_is)
  (case a_zaC=>k_is)
  (case l_zaC=>k_is)
  (case c_zaC=>k_is)
  (case k_zaC=>k_is)
  (case a_zaE=>k_is)
  (case l_zaE=>k_is)
  (case c_zaE=>k_is)
  (case k_zaE=>k_is)
  (case a_zat=>k_is)
  (case l_zat=>k_is)
  (case c_zat=>k_is)
  (case k_zat=>k_is)
  (case a_zaF=>k_is)
  (case l_zaF=>k_is)
  (case c_zaF=>k_is)
  (case k_zaF=>k_is)
  (case a_zaD=>k_is)
  (case l_zaD=>k_is)
  (case c_zaD=>k_is)
  (case k_zaD=>k_is)
  (case a_zar=>k_is)
  (case l_zar=>k_is)
  (case c_zar=>k_is)
  (case lc_zar=>k_is)
  (case tp_zar=>rfl)
  (case k_zar=>k_is)
  (case z_len=>k_is)
  (case z_range=>k_is)
  (case z_list=>k_is)
  (case z_isinstance=>k_is)
  (case z_bool=>k_is)
  (case z_int=>k_is)
  (case z_max=>k_is)
  (case z_min=>k_is)
  (case z_sum=>k_is)
  (case z_all=>k_is)
  (case z_sorted=>k_is)
  (case z_reversed=>k_is)
  (case z_enumerate=>k_is)
  (case z_zip=>k_is)
  (case z_dict=>k_is)
  (case z_ValueError=>k_is)
  (case kit_int_bool=>kit_is)
  (case kit_TooFar_TooFar=>kit_is)
  (case kit_TooFar_ValueError=>kit_is)
  (case kit_TooFar_NoPaper=>kit_is)
  (case kit_TooFar_NoPlace=>kit_is)
  (case kit_TooFar_Spent=>kit_is)
  (case nt=>kernel_rfl)
