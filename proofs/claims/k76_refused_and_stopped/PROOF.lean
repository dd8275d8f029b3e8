import PyProof.Rows.All
import Wide.All
import OpenK.AllK
import Wide.FinOn
import Lean
import PyProof.EqAt
import PyProof.EqKinds
import PyProof.TupleCall
import PyProof.Rows.FStrParts
import KE.KRevIter
import PyProof.CollectIter
import PyProof.SumWalkG
import KE.KDictOf
import PyProof.IsiH_list
import PyProof.RaisesAny
import PyProof.P3In
import PyProof.Rows.SortRuns
import PyProof.Rows.SortShell
import KE.KSortTup
import PySem.Challenge.RW_sorthall_k76_refused_and_stopped
local macro_rules | `(tactic| omega)=>`(tactic| first | with_reducible assumption | lia | omega (splitDisjunctions:=true))
set_option Elab.async false
set_option linter.all false
set_option maxRecDepth 100000
open Nat renaming le_refl→yAA,le_trans→yAF,zero_le→yAG,ne_of_lt→yAI,lt_of_lt_of_le→yAO,le_succ→yAP,lt_irrefl→yBN,lt_succ_self→yBO,le_of_lt→yBT,sub_self→yBX,zero_add→yCH
open List renaming length_map→yAB,length_append→yAC,getElem?_eq_getElem→yAD,mem_cons_self→yAE,mem_cons→yAH,mem_cons_of_mem→yAJ,mem_singleton→yAK,getElem?_eq_some_iff→yAL,mem_of_getElem?→yAN,mem_append_right→yAQ,length_cons→yAR,map_cons→yAT,getElem?_map→yAU,size_toArray→yAV,append_assoc→yAW,mem_append→yAX,append_nil→yAY,getElem?_append_right→yAZ,getElem?_append_left→yBA,map_append→yBB,length_take→yBC,mem_map→yBF,getElem?_eq_none→yBG,getElem?_of_mem→yBH,getD_eq_getElem?_getD→yBI,length_nil→yBK,not_mem_nil→yBL,filter_append→yBM,length_singleton→yBP,mem_filter→yBS,mem_append_left→yBU,length_replicate→yBV,lookup_cons→yBW,mem_range→yBY,length_range→yCA,getElem_of_mem→yCB,nodup_cons→yCC,getElem?_take_of_lt→yCD,take_append_drop→yCE,extract_eq_drop_take→yCG,of_mem_zip→yCJ,getElem?_replicate→yCK,any_cons→yCL,ext_getElem?→yCN,getElem?_drop→yCO,find?_cons→yCP,perm_append_comm→yCQ,getElem?_range→yCS,filter_cons_of_pos→yCT,filter_cons_of_neg→yCU,getElem?_set→yCV
open Array renaming length_toList→yAM,getElem?_eq_some_iff→yBD,getElem?_toList→yBE,toList_append→yBQ,toList_extract→yCF,toList_reverse→yCR
open Bool renaming false_ne_true→yAS,and_eq_true→yBJ,eq_iff_iff→yCI,false_eq_true→yCM
open Option renaming map_eq_some_iff→yBR,map_some→yBZ
namespace L2
open PySem PySem.W
theorem left_boot {p q:Program} {loose:List Str} {Xt:Shared->Bool} {α:Type} {Yf:Shared->α} {Ya:World->α} {N:Nat} {g0:Bool}
  (open_:∀ w:World,(fencedOpening treeTable p w N).map (fun s=>(s.heap,s.gens,s.drawn,s.toks))=some (boot_heap w.params,Array.mk [],boot_drawn,boot_toks))
  (h:∀ (w:World) (os:OsState),(topFrom treeTable p w N ⟨boot_heap w.params,Array.mk [],boot_drawn,boot_toks,os⟩).map (fun s=>(openSeen q loose (importedModules p.main.body) Xt g0 s,Yf s))=some (openGood q loose,Ya w)):LeftO p q loose Xt Yf Ya N g0:=fun w=>by
 obtain ⟨⟨hh,gs,d,k,os⟩,e,e'⟩:=yBR.mp (open_ w)
 obtain ⟨rfl,rfl,rfl,rfl⟩:hh=boot_heap w.params /\ gs=Array.mk [] /\ d=boot_drawn /\ k=boot_toks:=by simpa using e'
 unfold openEnds
 rw [e]
 exact h w os
theorem left_two {p q:Program} {loose:List Str} {Xt:Shared->Bool} {α:Type} {Yf:Shared->α} {Ya:World->α} {N:Nat} {g0:Bool}
  (open_:∀ w:World,(fencedOpening treeTable p w N).map (fun s=>(s.heap,s.gens,s.drawn,s.toks))=some (boot_heap w.params,Array.mk [],boot_drawn,boot_toks))
  (h1:∀ (w:World) (os:OsState),(topFrom treeTable p w N ⟨boot_heap w.params,Array.mk [],boot_drawn,boot_toks,os⟩).map (fun s=>openSeen q loose (importedModules p.main.body) Xt g0 s)=some (openGood q loose))
  (h2:∀ (w:World) (os:OsState),(topFrom treeTable p w N ⟨boot_heap w.params,Array.mk [],boot_drawn,boot_toks,os⟩).map (fun s=>Yf s)=some (Ya w)):LeftO p q loose Xt Yf Ya N g0 :=
 left_boot open_ fun w os=>by
  have a:=h1 w os
  have b:=h2 w os
  generalize topFrom treeTable p w N ⟨boot_heap w.params,Array.mk [],boot_drawn,boot_toks,os⟩=r at a b
  cases r with
  | none=>cases a
  | some s=>exact congrArg some (Prod.ext (Option.some.inj a) (Option.some.inj b))
noncomputable def s0B (w:World) (os:OsState):Shared:=⟨boot_heap w.params,Array.mk [],boot_drawn,boot_toks,os⟩
noncomputable def ofLB:List Obj->Nat->BT->BT
 | [],_,t=>t
 | o::r,n,t=>ofLB r (n+1) (t.ins n o)
noncomputable def sTB (w:World) (os:OsState):SharedT:=⟨ofLB (boot_heap w.params).objs.toList 0 .nil,(boot_heap w.params).objs.size,(boot_heap w.params).life,Array.mk [],boot_drawn,boot_toks,os⟩
noncomputable def topRunQ (p:Program) (w:World) (n₀:Nat) (ann:Option Value):Nat->SharedT->Thread->Option SharedT
 | 0,_,_=>none
 | n+1,s,t=>match through t with
  | true=>some s
  | false=>match PySem.W.Fast.tw6613529449190102663 n₀ ann t with
   | false=>none
   | true=>match PySem.W.Fast.tw10156331382660048174 (PySem.W.Fast.tw11892475500146522536 PySem.W.Fast.tw14364793385576792824) p w s t with
    | some (s',t')=>topRunQ p w n₀ ann n s' t'
    | none=>none
theorem topRunQ_spec {p:Program} {w:World} {n₀:Nat} {ann:Option Value}:∀ {n:Nat} {s s':SharedT} {t:Thread},topRunQ p w n₀ ann n s t=some s'->topRun treeTable p w n₀ ann n s.abs t=some s'.abs
 | 0,_,_,_,h=>by cases h
 | n+1,s,s',t,h=>by
  unfold topRunQ at h
  rw [<- PySem.W.Fast.te6613529449190102663,<- PySem.W.Fast.te10156331382660048174,<- PySem.W.Fast.te11892475500146522536,<- PySem.W.Fast.te14364793385576792824] at h
  unfold topRun
  cases he:through t with
  | true=>rw [he] at h;cases h;rfl
  | false=>
   rw [he] at h
   cases hk:stepOk n₀ ann t with
   | false=>rw [hk] at h;cases h
   | true=>
    rw [hk] at h
    cases hs:stepT (denote treeTable) p w s t with
    | none=>rw [hs] at h;cases h
    | some r=>obtain ⟨s₂,t₂⟩:=r;rw [hs] at h;rw [stepT_spec hs];exact topRunQ_spec h
set_option maxHeartbeats 0 in
theorem sTB_abs:∀ (w:World) (os:OsState),(sTB w os).abs=s0B w os:=by
 intro w os
 kernel_rfl
set_option maxHeartbeats 0 in
theorem s0B_ns:∀ (w:World) (os:OsState),((s0B w os).heap.isNs mainGlobals && (s0B w os).gens.size == 0)=true:=by
 intro w os
 kernel_rfl
noncomputable def topOkB (p:Program) (s₀ s₁:Shared):Bool:=staticsOk (importedModules p.main.body) s₀.heap s₁.heap && namesBound p s₁.heap && gensDone s₁ && laidKept s₀.heap s₁.heap
theorem via_tree {α:Type} {p:Program} {N:Nat} {F:Shared->α} {G:α} (w:World) (os:OsState)
  (h:(topRunQ p w (s0B w os).heap.objs.size ((s0B w os).heap.nsMap mainGlobals "__annotations__") N (sTB w os) (topStub p)).map (fun s=>(topOkB p (s0B w os) s.abs,F s.abs))=some (true,G)):(topFrom treeTable p w N ⟨boot_heap w.params,Array.mk [],boot_drawn,boot_toks,os⟩).map F=some G:=by
 obtain ⟨s',e1,e2⟩:=yBR.mp h
 have r:=topRunQ_spec e1
 rw [sTB_abs] at r
 obtain ⟨e3,e4⟩:=Prod.mk.inj e2
 show (topFrom treeTable p w N (s0B w os)).map F=some G
 unfold topFrom
 rw [s0B_ns w os]
 dsimp only
 rw [r,Option.bind_some]
 unfold topOkB at e3
 rw [e3]
 exact congrArg some e4
noncomputable def vw (p:Program) (ix:List Nat):Program:={ p with main:={ p.main with body:=ix.filterMap fun i=>p.main.body[i]? } }
noncomputable def Vw:Program:=vw PySem.Challenge.pw_sorthall_k76_refused_and_stopped [0,2,3,4,5,6,7,8,9,10,12,13,14,16,18,20,21,23,24,25,26,27,28,29,30,31,32,33]
set_option maxHeartbeats 0 in
theorem seen1:∀ (w:World) (os:OsState),(topFrom treeTable PySem.Challenge.pw_sorthall_k76_refused_and_stopped w 8444 ⟨boot_heap w.params,Array.mk [],boot_drawn,boot_toks,os⟩).map (fun s=>openSeen L2.Vw [] (importedModules PySem.Challenge.pw_sorthall_k76_refused_and_stopped.main.body) (fun s=>xlAt L2.Vw [] s && recOk (RowW.records (OpenRow.toRowW (OpenLaw.row PySem.Challenge.rw_sorthall_k76_refused_and_stopped))) s) true s)=some (openGood L2.Vw []):=by
 intro w os
 refine via_tree w os ?_
 rw [PySem.W.Fast.te4187177175401517315]
 kernel_rfl
local macro_rules | `(tactic| o_law)=>`(tactic| refine holds_law (by decide +kernel) fun said=>?_)
set_option hygiene false in
local macro_rules | `(tactic| o_head $H)=>`(tactic| (refine holds_open (q:=L2.Vw) (loose:=[]) (Xt:=fun s=>xlAt L2.Vw [] s && recOk (RowW.records _) s) (XP:=XL L2.Vw []) (Yf:=Hook.obs $H) (Ya:=Hook.val $H) (YP:=Hook.says $H) (N:=8444) ?hl (Hook.of $H) (Hook.keeps $H) (fun s e=>xl_of s (Bool.and_eq_true_iff.mp e).1) XL.keeps (by rfl) (by rfl) (by rfl) (fun s e=>recFacts_of (Bool.and_eq_true_iff.mp e).2) (by rfl) (by first | assumption | decide +kernel) (by decide +kernel) ⟨rfl,rfl,rfl,rfl,rfl,by decide +kernel⟩ ?hw ?hc;(case hl=>(refine L2.left_two (PySem.W.boot_open (by rfl) (by decide) (fun s=>rfl)) (fun w os=>?h1) (fun w os=>?h2);(case h1=>exact L2.seen1 w os);(case h2=>(refine L2.via_tree w os ?_;kernel_rfl))))))
set_option maxHeartbeats 0 in
open_top hd0 for PySem.Challenge.rw_sorthall_k76_refused_and_stopped
end L2
namespace L2
open PySem PySem.Spec PyProof.Rows
noncomputable abbrev Key:=Sum Int Str
noncomputable def ZET:Key->Value->Bool
 | .inl k,v=>Value.isInt k v
 | .inr x,v=>Value.isStrOf x v
noncomputable def keyH (w:World):Key->Int
 | .inl k=>hashInt k
 | .inr x=>hashStr w x
theorem ZAr:∀ {k:Key} {v:Value},ZET k v=true->(∃ i t,k=Sum.inl i /\ v=Value.int i t)∨(∃ x t,k=Sum.inr x /\ v=Value.str x t)
 | .inl i,v,h=>by
  obtain ⟨t,e⟩:=Value.isInt_shape (k:=i) (v:=v) h
  exact .inl ⟨i,t,rfl,e⟩
 | .inr x,v,h=>by
  obtain ⟨t,e⟩:=Value.isStrOf_shape (x:=x) (v:=v) h
  exact .inr ⟨x,t,rfl,e⟩
theorem keyIs_int (i:Int) (t:Tok):ZET (.inl i) (.int i t)=true:=by simp [ZET,Value.isInt]
theorem keyIs_str (x:Str) (t:Tok):ZET (.inr x) (.str x t)=true:=by simp [ZET,Value.isStrOf]
theorem key_ll (a b:Int):decide ((Sum.inl a:Key)=Sum.inl b)=(a == b):=by
 by_cases e:a=b
 .subst e;simp
 .have h:¬ (Sum.inl a:Key)=Sum.inl b:=fun q=>e (Sum.inl.inj q)
  rw [decide_eq_false h]
  exact (beq_eq_false_iff_ne.mpr e).symm
theorem key_rr (a b:Str):decide ((Sum.inr a:Key)=Sum.inr b)=decide (a=b):=by
 by_cases e:a=b
 .subst e;simp
 .have h:¬ (Sum.inr a:Key)=Sum.inr b:=fun q=>e (Sum.inr.inj q)
  rw [decide_eq_false h,decide_eq_false e]
theorem key_lr (a:Int) (b:Str):decide ((Sum.inl a:Key)=Sum.inr b)=false:=decide_eq_false (fun q=>nomatch q)
theorem key_rl (a:Str) (b:Int):decide ((Sum.inr a:Key)=Sum.inl b)=false:=decide_eq_false (fun q=>nomatch q)
noncomputable def ZAQ (prog:Program) (w:World):PySem.KeyKind prog w Key where
 is:=ZET
 hash:=keyH w
 inj:=fun v a b ha hb=>by
  rcases ZAr ha with ⟨i,t,rfl,rfl⟩ | ⟨x,t,rfl,rfl⟩
  .rcases ZAr hb with ⟨j,u,rfl,e⟩ | ⟨y,u,rfl,e⟩
   .injection e with e1 _;rw [e1]
   .exact nomatch e
  .rcases ZAr hb with ⟨j,u,rfl,e⟩ | ⟨y,u,rfl,e⟩
   .exact nomatch e
   .injection e with e1 _;rw [e1]
 byValue:=fun k v h=>by
  rcases ZAr h with ⟨i,t,rfl,rfl⟩ | ⟨x,t,rfl,rfl⟩ <;> rfl
 pyHash:=fun hv h=>by
  rcases ZAr hv with ⟨i,t,rfl,rfl⟩ | ⟨x,t,rfl,rfl⟩
  .exact wpAny_pyHash_int h
  .exact wpAny_pyHash_str h
 eqBool:=fun hu hv h=>by
  rcases ZAr hu with ⟨i,t,rfl,rfl⟩ | ⟨x,t,rfl,rfl⟩
  .rcases ZAr hv with ⟨j,u,rfl,rfl⟩ | ⟨y,u,rfl,rfl⟩
   .rw [key_ll] at h;exact wpAny_eqBool_int h
   .rw [key_lr] at h;exact SeqAt.EqAt.int_str i t y u _ _ _ _ h
  .rcases ZAr hv with ⟨j,u,rfl,rfl⟩ | ⟨y,u,rfl,rfl⟩
   .rw [key_rl] at h;exact SeqAt.EqAt.str_int x t j u _ _ _ _ h
   .rw [key_rr] at h;exact wpAny_eqBool_str h
 «strs»:=fun k x t v h=>by
  rcases ZAr h with ⟨i,u,rfl,e⟩ | ⟨y,u,rfl,e⟩
  .exact nomatch e
  .injection e with e1 _
   subst e1
   cases v <;> rfl
theorem mixKind_int (prog:Program) (w:World) (i:Int) (t:Tok):(ZAQ prog w).is (.inl i) (.int i t)=true:=keyIs_int i t
theorem mixKind_str (prog:Program) (w:World) (x:Str) (t:Tok):(ZAQ prog w).is (.inr x) (.str x t)=true:=keyIs_str x t
inductive V where
 | non | bl (b:Bool) | int (i:Int) | str (x:Str) | byt (b:Array UInt8) | flt (b:UInt64) | ref (a:Addr) | ty (n:String)
 deriving DecidableEq
noncomputable def RelV:V->Value->Prop
 | .non,u=>u=Value.none
 | .bl b,u=>u=Value.bool b
 | .int i,u=>∃ t,u=Value.int i t
 | .str x,u=>∃ t,u=Value.str x t
 | .byt b,u=>∃ t,u=Value.bytes b t
 | .flt b,u=>∃ t,u=Value.float b t
 | .ref a,u=>u=Value.ref a
 | .ty n,u=>u=Value.type n
noncomputable abbrev Vals:List V->List Value->Prop:=Paired RelV
theorem Vals.length {xs:List V} {us:List Value} (r:Vals xs us):xs.length=us.length:=Paired.length r
theorem Vals.get:∀ {xs:List V} {us:List Value} {i:Nat} {x:V},Vals xs us->xs[i]?=some x->∃ u,us[i]?=some u /\ RelV x u
 | _,_,_,_,.nil,e=>by simp at e
 | _,_,0,_,.cons r _,e=>by simp at e;subst e;exact ⟨_,rfl,r⟩
 | _,_,i+1,x,.cons _ t,e=>by
  obtain ⟨u,h1,h2⟩:=Vals.get (i:=i) (x:=x) t (by simpa using e)
  exact ⟨u,by simpa using h1,h2⟩
theorem Vals.set {x:V} {u:Value} (r:RelV x u):∀ {xs:List V} {us:List Value} (i:Nat),Vals xs us->Vals (xs.set i x) (us.set i u)
 | _,_,_,.nil=>.nil
 | _,_,0,.cons _ t=>.cons r t
 | _,_,i+1,.cons q t=>.cons q (Vals.set r i t)
theorem Vals.append:∀ {xs ys:List V} {us ws:List Value},Vals xs us->Vals ys ws->Vals (xs++ys) (us++ws)
 | _,_,_,_,.nil,s=>s
 | _,_,_,_,.cons r t,s=>.cons r (Vals.append t s)
theorem Vals.take:∀ {xs:List V} {us:List Value} (n:Nat),Vals xs us->Vals (xs.take n) (us.take n)
 | _,_,0,_=>.nil
 | _,_,_+1,.nil=>.nil
 | _,_,n+1,.cons r t=>.cons r (Vals.take n t)
theorem Vals.drop:∀ {xs:List V} {us:List Value} (n:Nat),Vals xs us->Vals (xs.drop n) (us.drop n)
 | _,_,0,r=>r
 | _,_,_+1,.nil=>.nil
 | _,_,n+1,.cons _ t=>Vals.drop n t
noncomputable def RelO:Option V->Option Value->Prop
 | some v,some u=>RelV v u
 | none,none=>True
 | _,_=>False
noncomputable def KV {κ:Type}:List (κ×V)->List (κ×Value)->Prop:=Paired fun (p:κ×V) (q:κ×Value)=>p.1=q.1 /\ RelV p.2 q.2
noncomputable def kV:Key->V
 | .inl i=>.int i
 | .inr x=>.str x
inductive HO where
 | lst (xs:List V)
 | tup (xs:List V)
 | dK (kvs:List (Key×V)) | dT (kvs:List (List Key×V))
 | set (S:Int->Bool) (n:Nat)
 | ins (C dx:Addr) (fs:List (Str×V))
 | own (x:Addr)
 | xd (fs:List (Str×V))
 | met (f x:Addr)
 | rng (lo hi:Int)
 | frz (o:Obj) (u:HO)
 | tbl (ps:Array Value)
 | ext (φ:Heap->Prop)
noncomputable abbrev Hp:=Addr->Option HO
noncomputable def upd (H:Hp) (a:Addr) (o:HO):Hp:=fun b=>if b=a then some o else H b
theorem ZAF {H:Hp} {a:Addr} {o:HO}:upd H a o a=some o:=by unfold upd;rw [if_pos rfl]
theorem ZAG {H:Hp} {a b:Addr} {o:HO} (h:b≠a):upd H a o b=H b:=by unfold upd;rw [if_neg h]
theorem upd_upd {H:Hp} {a:Addr} {o u:HO}:upd (upd H a o) a u=upd H a u:=by
 funext b;unfold upd;split <;> rfl
theorem ne_of {H:Hp} {a b:Addr} {o u:HO} (h:H a=some o) (h':H b=some u) (d:o≠u):a≠b:=by
 intro e;subst e;rw [h] at h';exact d (Option.some.inj h')
theorem ZAC {H:Hp} {a b:Addr} {o:HO} (h:H a=some o) (h':H b=none):a≠b:=by
 intro e;subst e;rw [h] at h';cases h'
section
variable (P:Program) (w:World)
noncomputable def ObjOk (H:Hp) (h:Heap) (a:Addr):HO->Prop
 | .lst xs=>xs.length <= sizeLine /\ ∃ (its:List Value) (n:Nat),Vals xs its /\ h.get? a=some { cls:=.type "list",data:=.seq its.toArray n }
 | .tup xs=>xs.length <= sizeLine /\ ∃ its:List Value,Vals xs its /\ IsTup h a its.toArray
 | .dK kvs=>kvs.length <= sizeLine /\ (a == sysModules)=false /\ ∃ vs,KV kvs vs /\ h.DictOf (ZAQ P w) a vs
 | .dT kvs=>kvs.length <= sizeLine /\ (a == sysModules)=false /\ ∃ xs:List (List Key×Addr×Value),
   Paired (fun (p:List Key×V) (q:List Key×Addr×Value)=>p.1=q.1 /\ H q.2.1=some (.tup (p.1.map kV)) /\ RelV p.2 q.2.2) kvs xs /\
   ∃ o es ep,h.get? a=some o /\ o.ExactDict /\ o.data=.dict es ep /\ es.toList=xs.map (entryOfKey (tupleKind (ZAQ P w))) /\ (xs.map (·.1)).Nodup
 | .set S n=>h.SetOf (intKind P w) a S n
 | .ins C dx fs=>H dx=some (.own a) /\ fs.length <= 1000 /\ dx≠a /\ h.get? a=some (PySem.W.instObj C dx) /\
   ∃ mA,h.Ns1 dx mA /\ (∀ f,RelO (fs.lookup f) (mA f)) /\ PySem.Within mA (fs.map (·.1))
 | .own _=>∃ o,h.get? a=some o
 | .xd fs=>∃ mA,h.Ns1 a mA /\ ∀ f,RelO (fs.lookup f) (mA f)
 | .rng lo hi=>∃ t u v,h.get? a=some { cls:=.type "range",data:=.fields #[.int lo t,.int hi u,.int 1 v] }
 | .frz o u=>h.get? a=some o /\ ObjOk H h a u
 | .tbl ps=>h.get? a=some { cls:=.none,data:=.fields ps }
 | .met f x=>h.get? a=some (PySem.W.methodObj (.ref f) (.ref x))
 | .ext φ=>φ h /\ (∃ o,h.get? a=some o) /\ ∀ h1 h2:Heap,φ h1->(∀ o,h1.get? a=some o->h2.get? a=some o)->φ h2
noncomputable def HOk (H:Hp) (h:Heap):Prop:=∀ a o,H a=some o->ObjOk P w H h a o
end
section
variable {P:Program} {w:World} {H H':Hp} {h h':Heap} {a:Addr} {o:HO}
theorem ObjOk.lt (x:ObjOk P w H h a o):a < h.objs.size:=by
 cases o with
 | lst xs=>obtain ⟨_,_,_,_,e⟩:=x;exact Heap.lt_size e
 | tup xs=>obtain ⟨_,_,_,p⟩:=x;exact p.lt
 | dK kvs=>obtain ⟨_,_,_,_,o,_,_,e,_⟩:=x;exact Heap.lt_size e
 | dT kvs=>obtain ⟨_,_,_,_,o,_,_,e,_⟩:=x;exact Heap.lt_size e
 | set S n=>obtain ⟨o,_,_,_,e,_⟩:=x;exact Heap.lt_size e
 | ins C dx fs=>obtain ⟨_,_,_,e,_⟩:=x;exact Heap.lt_size e
 | own y=>obtain ⟨_,e⟩:=x;exact Heap.lt_size e
 | xd fs=>obtain ⟨_,⟨_,_,_,e,_⟩,_⟩:=x;exact Heap.lt_size e
 | rng lo hi=>obtain ⟨_,_,_,e⟩:=x;exact Heap.lt_size e
 | frz ob u=>obtain ⟨e,_⟩:=x;exact Heap.lt_size e
 | tbl ps=>exact Heap.lt_size (show h.get? a=some _ from x)
 | met f y=>exact Heap.lt_size (show h.get? a=some _ from x)
 | ext φ=>obtain ⟨_,⟨_,e⟩,_⟩:=x;exact Heap.lt_size e
theorem Paired.mapP {α β:Type} {F G:α->β->Prop}:∀ {l₁:List α} {l₂:List β},Paired F l₁ l₂->(∀ a b,F a b->G a b)->Paired G l₁ l₂
 | _,_,.nil,_=>.nil
 | _,_,.cons r t,f=>.cons (f _ _ r) (Paired.mapP t f)
theorem ObjOk.stay (x:ObjOk P w H h a o) (k:∀ b u,(b=a∨H b=some (.own a))->h.get? b=some u->h'.get? b=some u)
  (ho:∀ b,H b=some (.own a)->H' b=some (.own a)) (ht:∀ b xs,H b=some (.tup xs)->H' b=some (.tup xs)):ObjOk P w H' h' a o:=by
 induction o with
 | lst xs=>obtain ⟨z,its,n,r,e⟩:=x;exact ⟨z,its,n,r,k _ _ (.inl rfl) e⟩
 | tup xs=>obtain ⟨z,its,r,ob,e,c⟩:=x;exact ⟨z,its,r,ob,k _ _ (.inl rfl) e,c⟩
 | dK kvs=>obtain ⟨z,y,vs,r,ob,es,ep,e,c⟩:=x;exact ⟨z,y,vs,r,ob,es,ep,k _ _ (.inl rfl) e,c⟩
 | dT kvs=>
  obtain ⟨z,y,xs,r,ob,es,ep,e,c⟩:=x
  exact ⟨z,y,xs,Paired.mapP r fun p q z=>⟨z.1,ht _ _ z.2.1,z.2.2⟩,ob,es,ep,k _ _ (.inl rfl) e,c⟩
 | set S n=>obtain ⟨ob,es,ep,t,e,c⟩:=x;exact ⟨ob,es,ep,t,k _ _ (.inl rfl) e,c⟩
 | ins C dx fs=>
  obtain ⟨d,z,ne,e,mA,⟨od,es,ep,e2,c⟩,r⟩:=x
  exact ⟨ho _ d,z,ne,k _ _ (.inl rfl) e,mA,⟨od,es,ep,k _ _ (.inr d) e2,c⟩,r⟩
 | own y=>obtain ⟨ob,e⟩:=x;exact ⟨ob,k _ _ (.inl rfl) e⟩
 | xd fs=>obtain ⟨mA,⟨od,es,ep,e,c⟩,r⟩:=x;exact ⟨mA,⟨od,es,ep,k _ _ (.inl rfl) e,c⟩,r⟩
 | rng lo hi=>obtain ⟨t,u,v,e⟩:=x;exact ⟨t,u,v,k _ _ (.inl rfl) e⟩
 | frz ob u ih=>obtain ⟨e,q⟩:=x;exact ⟨k _ _ (.inl rfl) e,ih q⟩
 | tbl ps=>
  have e:h.get? a=some { cls:=.none,data:=.fields ps }:=x
  show h'.get? a=some { cls:=.none,data:=.fields ps }
  exact k a _ (.inl rfl) e
 | met f y=>
  have e:h.get? a=some (PySem.W.methodObj (.ref f) (.ref y)):=x
  show h'.get? a=some (PySem.W.methodObj (.ref f) (.ref y))
  exact k a _ (.inl rfl) e
 | ext φ=>obtain ⟨p,⟨o,e⟩,st⟩:=x;exact ⟨st _ _ p fun o q=>k _ _ (.inl rfl) q,⟨o,k _ _ (.inl rfl) e⟩,st⟩
theorem HOk.lt (x:HOk P w H h) (e:H a=some o):a < h.objs.size:=(x a o e).lt
theorem HOk.fresh (x:HOk P w H h) (e:h.objs.size <= a):H a=none:=by
 cases q:H a with
 | none=>rfl
 | some u=>exact absurd (yAO (x.lt q) e) (yBN _)
theorem HOk.kept (x:HOk P w H h) (k:∀ b u,h.get? b=some u->h'.get? b=some u):HOk P w H h':=fun a o e=>
 (x a o e).stay (fun b u _ q=>k b u q) (fun _ q=>q) fun _ _ q=>q
theorem HOk.laid (x:HOk P w H h) (k:∀ b u,h.get? b=some u->h'.get? b=some u) (hp:h.objs.size <= a) (new:ObjOk P w (upd H a o) h' a o):HOk P w (upd H a o) h':=fun b u e=>by
 have hn:=x.fresh hp
 by_cases hb:b=a
 .subst hb;rw [ZAF] at e;cases e;exact new
 .rw [ZAG hb] at e
  exact (x b u e).stay (fun c v _ q=>k c v q) (fun c q=>by rw [ZAG (ZAC q hn)];exact q) fun c xs q=>by rw [ZAG (ZAC q hn)];exact q
end
noncomputable def Rd (H:Hp) (a:Addr) (u:HO):Prop:=H a=some u∨∃ o,H a=some (.frz o u)
theorem Rd.ok {P:Program} {w:World} {H:Hp} {h:Heap} {a:Addr} {u:HO} (r:Rd H a u) (x:HOk P w H h):ObjOk P w H h a u:=by
 rcases r with r | ⟨o,r⟩
 .exact x a u r
 .obtain ⟨_,q⟩:=x a _ r
  exact q
noncomputable def Mut:Option HO->Prop
 | some (.lst _)=>True
 | some (.dK _)=>True
 | some (.dT _)=>True
 | some (.set _ _)=>True
 | some (.ins _ _ _)=>True
 | some (.ext _)=>True
 | _=>False
section
variable {P:Program} {w:World} {H:Hp} {h h':Heap} {x e:Addr} {o':HO}
theorem HOk.write (ok:HOk P w H h) (mu:Mut (H x)) (he:e=x∨H e=some (.own x)) (k:∀ b u,b≠e->h.get? b=some u->h'.get? b=some u) (heo:∃ u,h'.get? e=some u)
  (new:ObjOk P w (upd H x o') h' x o'):HOk P w (upd H x o') h':=fun b u q=>by
 have nown:∀ c y,H c=some (.own y)->c≠x:=fun c y r z=>by subst z;rw [r] at mu;exact mu
 have ntup:∀ c xs,H c=some (.tup xs)->c≠x:=fun c xs r z=>by subst z;rw [r] at mu;exact mu
 by_cases hb:b=x
 .subst hb;rw [ZAF] at q;cases q;exact new
 .rw [ZAG hb] at q
  by_cases hbe:b=e
  .have q':H b=some (.own x):=by
    rcases he with z | z
    .exact absurd (hbe.trans z) hb
    .rw [hbe];exact z
   rw [q] at q';cases q'
   obtain ⟨v,hv⟩:=heo
   exact ⟨v,by rw [hbe];exact hv⟩
  .refine (ok b u q).stay (fun c v hc r=>k c v ?_ r) (fun c r=>by rw [ZAG (nown c b r)];exact r) fun c xs r=>by rw [ZAG (ntup c xs r)];exact r
   rcases hc with rfl | hc
   .exact hbe
   .rintro rfl
    rcases he with z | z
    .exact nown c b hc z
    .rw [hc] at z;cases z;exact hb rfl
end
structure Un (fs ex:List Addr) (H H':Hp) (h h':Heap):Prop where
 keep:∀ b o,h.get? b=some o->H b=none->b∉fs->b∉ex->h'.get? b=some o
 slot:∀ b o,h.get? b=some o->H b=none->b∈fs->b∉ex->∃ sl,h'.get? b=some { o with slots:=sl }
 free:∀ b o,h.get? b=some o->H b=none->b∉ex->H' b=none
 there:∀ b o,h.get? b=some o->b∉ex->∃ o',h'.get? b=some o'
 tups:∀ b xs,H b=some (.tup xs)->H' b=some (.tup xs)
 frzs:∀ b o u,H b=some (.frz o u)->H' b=some (.frz o u)
 tbls:∀ b ps,H b=some (.tbl ps)->∃ more,H' b=some (.tbl (ps++more))
section
variable {fs fs' ex ex':List Addr} {H H1 H2:Hp} {h h1 h2 h':Heap} {a x e:Addr} {o:HO}
theorem Un.any (u:Un fs ex H H1 h h1) {b:Addr} {ob:Obj} (q:h.get? b=some ob) (n:H b=none) (hx:b∉ex):∃ sl,h1.get? b=some { ob with slots:=sl }:=by
 by_cases hb:b∈fs
 .exact u.slot b ob q n hb hx
 .exact ⟨ob.slots,u.keep b ob q n hb hx⟩
theorem Un.trans (a:Un fs ex H H1 h h1) (b:Un fs ex H1 H2 h1 h2):Un fs ex H H2 h h2 where
 keep:=fun c ob q n hc hx=>b.keep c ob (a.keep c ob q n hc hx) (a.free c ob q n hx) hc hx
 slot:=fun c ob q n hc hx=>by
  obtain ⟨sl,e1⟩:=a.slot c ob q n hc hx
  obtain ⟨sl',e2⟩:=b.slot c _ e1 (a.free c ob q n hx) hc hx
  exact ⟨sl',e2⟩
 free:=fun c ob q n hx=>by
  obtain ⟨o',e1⟩:=a.there c ob q hx
  exact b.free c o' e1 (a.free c ob q n hx) hx
 there:=fun c ob q hx=>by
  obtain ⟨o',e1⟩:=a.there c ob q hx
  exact b.there c o' e1 hx
 tups:=fun c xs q=>b.tups c xs (a.tups c xs q)
 frzs:=fun c ob xs q=>b.frzs c ob xs (a.frzs c ob xs q)
 tbls:=fun c ps q=>by
  obtain ⟨m1,e1⟩:=a.tbls c ps q
  obtain ⟨m2,e2⟩:=b.tbls c _ e1
  exact ⟨m1++m2,by rw [e2,Array.append_assoc]⟩
theorem Un.kept (k:∀ b u,h.get? b=some u->h'.get? b=some u):Un fs ex H H h h' :=
 ⟨fun b ob q _ _ _=>k b ob q,fun b ob q _ _ _=>⟨ob.slots,k b ob q⟩,fun _ _ _ n _=>n,fun b ob q _=>⟨ob,k b ob q⟩,fun _ _ q=>q,fun _ _ _ q=>q,fun _ ps q=>⟨#[],by rw [q];simp⟩⟩
theorem Un.refl:Un fs ex H H h h:=Un.kept fun _ _ q=>q
theorem Un.laid (k:∀ b u,h.get? b=some u->h'.get? b=some u) (hp:h.objs.size <= a) (hn:H a=none):Un fs ex H (upd H a o) h h' where
 keep:=fun b u q _ _ _=>k b u q
 slot:=fun b u q _ _ _=>⟨u.slots,k b u q⟩
 free:=fun b u q n _=>by rw [ZAG (yAI (yAO (Heap.lt_size q) hp))];exact n
 there:=fun b u q _=>⟨u,k b u q⟩
 tups:=fun b xs q=>by rw [ZAG (ZAC q hn)];exact q
 frzs:=fun b u xs q=>by rw [ZAG (ZAC q hn)];exact q
 tbls:=fun b ps q=>⟨#[],by rw [ZAG (ZAC q hn),q];simp⟩
theorem Un.write (mu:Mut (H x)) (he:e=x∨H e=some (.own x)) (k:∀ b u,b≠e->h.get? b=some u->h'.get? b=some u) (heo:∃ u,h'.get? e=some u):Un fs ex H (upd H x o) h h':=by
 have hx:∀ b,H b=none->b≠x:=fun b n z=>by subst z;rw [n] at mu;exact mu
 have hb:∀ b,H b=none->b≠e:=fun b n z=>by
  subst z
  rcases he with r | r
  .exact hx b n r
  .rw [n] at r;cases r
 have hm:∀ b u,H b=some u->¬ Mut (some u)->b≠x:=fun b u q nm z=>by subst z;rw [q] at mu;exact nm mu
 refine ⟨fun b u q n _ _=>k b u (hb b n) q,fun b u q n _ _=>⟨u.slots,k b u (hb b n) q⟩,fun b u q n _=>by rw [ZAG (hx b n)];exact n,fun b u q _=>?_,
  fun b xs q=>by rw [ZAG (hm b _ q fun z=>z)];exact q,fun b u xs q=>by rw [ZAG (hm b _ q fun z=>z)];exact q,fun b ps q=>⟨#[],by rw [ZAG (hm b _ q fun z=>z),q];simp⟩⟩
 by_cases hbe:b=e
 .subst hbe;exact heo
 .exact ⟨u,k b u hbe q⟩
end
noncomputable def trk (h:Heap) (H:Hp):List Addr:=(List.range h.objs.size).filter fun a=>(H a).isSome
noncomputable def hidT (h:Heap) (H:Hp):Heap:=PySem.W.hideAll h (trk h H)
theorem hidT_size (h:Heap) (H:Hp):(hidT h H).objs.size=h.objs.size:=PySem.W.hideAll_size _ _
theorem hidT_get {h:Heap} {H:Hp} {b:Addr} {o:Obj} (e:h.get? b=some o) (n:H b=none):(hidT h H).get? b=some o :=
 PySem.W.hideAll_get _ e fun hm=>by
  have q:(H b).isSome=true:=(yBS.mp hm).2
  rw [n] at q;simp at q
theorem of_hidT {h:Heap} {H:Hp} {b:Addr} {o:Obj} (e:(hidT h H).get? b=some o):h.get? b=some o /\ H b=none:=by
 have e':h.get? b=some o:=PySem.W.of_hideAll (trk h H) e
 refine ⟨e',?_⟩
 cases q:H b with
 | none=>rfl
 | some x=>
  have hm:b∈trk h H:=yBS.mpr ⟨yBY.mpr (Heap.lt_size e'),by simp [q]⟩
  have z:(hidT h H).get? b=none:=PySem.W.hideAll_none (trk h H) hm
  rw [z] at e;cases e
structure Mod (K:W.Frag) (mg:Str->Option Value) (base:Heap):Prop where
 kin:K.In base
 glob:base.Ns mainGlobals mg
 blt:∃ mb,base.Ns builtinsNs mb /\ ∀ x:Str,x≠"__name__"->mb x=bootBuiltins x
 nolimit:base.NoLimit
structure Cx where
 prog:Program
 w:World
 K:W.Frag
 mg:Str->Option Value
 base:Heap
 A:Around
 N:List Str
 s₀:Shared
 H₀:Hp
 env:Env
 outer:List Env
 stack:List Env
 ex:List Addr
 fn:Str->Bool
 calm:Bool
 pn:List (Addr×Obj)
 xe:Value->Shared->Prop
noncomputable def frs (l:List Env):List Addr:=l.filterMap (·.frame)
noncomputable abbrev Cx.fs (X:Cx):List Addr:=frs X.outer
noncomputable def Vis (sc:Scope) (x:Str):Prop:=sc.names.lookup x=some .local∨sc.names.lookup x=some .cell∨sc.names.lookup x=some .free
noncomputable def Loc (sc:Scope) (x:Str):Prop:=sc.names.lookup x=some .local∨sc.names.lookup x=some .cell
noncomputable def Look (env:Env) (h:Heap) (m:Str->Option Value) (x:Str) (u:Value):Prop :=
 (env.kindOf x=some .local /\ m x=some u)∨((env.kindOf x=some .cell∨env.kindOf x=some .free) /\ ∃ c,env.cells.lookup x=some c /\ h.IsCell c (some u))
structure Cx.Ok (X:Cx):Prop where
 mod:Mod X.K X.mg X.base
 kind:X.env.scope.kind=.function
 glob:X.env.globals=mainGlobals
 blt:X.env.builtins=builtinsNs
 above:X.s₀.heap.objs.size <= X.env.locals
 inj:∀ x y c,X.env.cells.lookup x=some c->X.env.cells.lookup y=some c->x=y
 has:∀ x,(X.env.kindOf x=some .cell∨X.env.kindOf x=some .free)->∃ c,X.env.cells.lookup x=some c
 cab:∀ x c,X.fn x=true->X.env.cells.lookup x=some c->X.s₀.heap.objs.size <= c
 hd:X.calm=true->X.A.handled=none
 frames:X.A.frames=some X.stack
 stk:X.stack=X.outer∨(X.stack=X.env::X.outer /\ X.env.frame=some X.env.locals)
 exf:∀ b∈X.ex,b≠X.env.locals /\ ∀ x c,X.env.cells.lookup x=some c->c≠b
 bs:∀ b o,X.base.get? b=some o->X.s₀.heap.get? b=some o /\ X.H₀ b=none
 bsz:X.base.objs.size <= X.s₀.heap.objs.size
 noex:∀ b o,X.base.get? b=some o->b∉X.ex
 exfs:∀ b∈X.ex,b∉X.fs
 funs:X.s₀.heap.FunFrames X.base X.outer
 frf:∀ b∈X.fs,X.H₀ b=none
structure Inv (X:Cx) (pins:List (Addr×Obj)) (σ:List (Option V)) (H:Hp) (s:Shared):Prop where
 ok:X.Ok
 os:s.os=X.s₀.os
 bare:AllBare s.gens
 base:Un X.fs X.ex X.H₀ H X.s₀.heap s.heap
 loc:∃ m,s.heap.Ns X.env.locals m /\ ∀ (i:Nat) (x:Str) (v:V),X.N[i]?=some x->σ[i]?=some (some v)->Vis X.env.scope x->∃ u,RelV v u /\ Look X.env s.heap m x u
 cell:∀ x c,X.env.cells.lookup x=some c->∃ v,s.heap.IsCell c v
 free:H X.env.locals=none
 freeC:∀ x c,X.env.cells.lookup x=some c->H c=none
 pin:∀ p∈X.pn++pins,s.heap.get? p.1=some p.2 /\ H p.1=none /\ p.1≠X.env.locals /\ p.1∉X.fs /\ ∀ v,p.2.data≠.cell v
 hok:HOk X.prog X.w H s.heap
 len:σ.length=X.N.length
section
variable {X:Cx} {pins:List (Addr×Obj)} {σ:List (Option V)} {H H':Hp} {s:Shared} {h':Heap}
theorem Cx.Ok.nofr (ok:X.Ok) {b:Addr} {o:Obj} (e:X.base.get? b=some o):b∉X.fs:=fun hb=>by
 have:=(ok.funs.mem hb).1
 rw [e] at this;cases this
theorem Inv.bs (I:Inv X pins σ H s):∀ b o,X.base.get? b=some o->s.heap.get? b=some o /\ H b=none:=fun b o e=>
 ⟨I.base.keep b o (I.ok.bs b o e).1 (I.ok.bs b o e).2 (I.ok.nofr e) (I.ok.noex b o e),I.base.free b o (I.ok.bs b o e).1 (I.ok.bs b o e).2 (I.ok.noex b o e)⟩
theorem Inv.bk (I:Inv X pins σ H s):∀ b o,X.base.get? b=some o->s.heap.get? b=some o:=fun b o e=>(I.bs b o e).1
theorem Inv.mod (I:Inv X pins σ H s):Mod X.K X.mg X.base:=I.ok.mod
theorem Inv.kIn (I:Inv X pins σ H s):X.K.In s.heap:=I.ok.mod.kin.keeps I.bk
theorem Inv.lt (I:Inv X pins σ H s):X.env.locals < s.heap.objs.size:=let ⟨_,hn,_⟩:=I.loc;hn.lt
theorem Inv.sz (I:Inv X pins σ H s):X.s₀.heap.objs.size <= s.heap.objs.size:=yAF I.ok.above (yBT I.lt)
theorem Inv.nofs (I:Inv X pins σ H s) {a:Addr} (h:s.heap.objs.size <= a):a∉X.fs:=fun hb=>by
 obtain ⟨_,o,ho,_⟩:=I.ok.funs.mem hb
 exact absurd (yAO (Heap.lt_size ho) (yAF I.sz h)) (yBN _)
theorem Inv.cne (I:Inv X pins σ H s):∀ x c,X.env.cells.lookup x=some c->c≠X.env.locals:=fun x c e z=>by
 obtain ⟨v,o,ho,hd⟩:=I.cell x c e
 obtain ⟨m,⟨o',es,ep,ho',hd',_⟩,_⟩:=I.loc
 rw [z,ho'] at ho;cases ho;rw [hd'] at hd;cases hd
theorem Inv.funs (I:Inv X pins σ H s):s.heap.FunFrames X.base X.outer:=by
 have all:∀ (l:List Env),(∀ b∈frs l,b∈X.fs)->X.s₀.heap.FunFrames X.base l->s.heap.FunFrames X.base l:=by
  intro l
  induction l with
  | nil=>intro _ _;trivial
  | cons env r ih=>
   intro hs hl
   obtain ⟨hk,⟨L,o,hf,hn,ho,hd⟩,hr⟩:=hl
   have hL:L∈X.fs:=hs L (by unfold frs;rw [List.filterMap_cons,hf];exact yAE)
   obtain ⟨sl,e⟩:=I.base.slot L o ho (I.ok.frf L hL) hL fun z=>I.ok.exfs L z hL
   exact ⟨hk,⟨L,_,hf,hn,e,hd⟩,ih (fun b hb=>hs b (by unfold frs;rw [List.filterMap_cons,hf];exact yAJ _ hb)) hr⟩
 exact all X.outer (fun _ hb=>hb) I.ok.funs
theorem Inv.stack (I:Inv X pins σ H s):s.heap.FunFrames X.base X.stack:=by
 rcases I.ok.stk with e | ⟨e,hf⟩
 .rw [e];exact I.funs
 .rw [e]
  obtain ⟨m,hn,_⟩:=I.loc
  refine .cons (by rw [I.ok.kind];decide) hf hn ?_ I.funs
  exact Heap.get?_none_of_le (yAF I.ok.bsz I.ok.above)
theorem Inv.stkSub (I:Inv X pins σ H s):∀ b∈frs X.stack,b∈X.env.locals::X.fs:=fun b hb=>by
 rcases I.ok.stk with e | ⟨e,hf⟩
 .rw [e] at hb;exact yAJ _ hb
 .rw [e] at hb
  unfold frs at hb
  rw [List.filterMap_cons,hf] at hb
  exact hb
theorem Inv.stkFree (I:Inv X pins σ H s):∀ b∈frs X.stack,H b=none:=fun b hb=>by
 rcases yAH.mp (I.stkSub b hb) with e | hb
 .rw [e];exact I.free
 .obtain ⟨_,o,ho,_⟩:=I.ok.funs.mem hb
  exact I.base.free b o ho (I.ok.frf b hb) fun z=>I.ok.exfs b z hb
theorem Inv.step {g':Array GenState} {t':Nat} {d':Drawn} {ch:List Addr} (I:Inv X pins σ H s)
  (hch:∀ b∈ch,(b∈X.ex∨X.s₀.heap.objs.size <= b) /\ b≠X.env.locals /\ (∀ x c,X.env.cells.lookup x=some c->c≠b) /\ ∀ p∈X.pn++pins,p.1≠b)
  (keep:∀ b o,b≠X.env.locals->b∉X.fs->b∉ch->s.heap.get? b=some o->H b=none->h'.get? b=some o)
  (slot:∀ b o,b≠X.env.locals->b∈X.fs->b∉ch->s.heap.get? b=some o->H b=none->∃ sl,h'.get? b=some { o with slots:=sl }) (free:∀ b o,b∉ch->s.heap.get? b=some o->H b=none->H' b=none)
  (there:∀ b o,b∉ch->s.heap.get? b=some o->∃ o',h'.get? b=some o')
  (tups:∀ b xs,H b=some (.tup xs)->H' b=some (.tup xs)) (frzs:∀ b o u,H b=some (.frz o u)->H' b=some (.frz o u)) (tbls:∀ b ps,H b=some (.tbl ps)->∃ more,H' b=some (.tbl (ps++more)))
  (ns:∀ m,s.heap.Ns X.env.locals m->h'.Ns X.env.locals m) (hok:HOk X.prog X.w H' h') (hg:AllBare g') :
  Inv X pins σ H' { s with heap:=h',gens:=g',drawn:=d',toks:=t' }:=by
 have neL:∀ b o,X.s₀.heap.get? b=some o->b≠X.env.locals:=fun b o e=>yAI (yAO (Heap.lt_size e) I.ok.above)
 have neC:∀ b o,X.s₀.heap.get? b=some o->b∉X.ex->b∉ch:=fun b o e hx hb=>by
  rcases (hch b hb).1 with z | z
  .exact hx z
  .exact absurd (yAO (Heap.lt_size e) z) (yBN _)
 have cellK:∀ x c,X.env.cells.lookup x=some c->∀ v,s.heap.IsCell c v->h'.IsCell c v:=fun x c e v ⟨o,ho,hd⟩=>by
  have nch:c∉ch:=fun z=>(hch c z).2.2.1 x c e rfl
  by_cases hc:c∈X.fs
  .obtain ⟨sl,q⟩:=slot c o (I.cne x c e) hc nch ho (I.freeC x c e)
   exact ⟨_,q,hd⟩
  .exact ⟨o,keep c o (I.cne x c e) hc nch ho (I.freeC x c e),hd⟩
 refine ⟨I.ok,I.os,hg,⟨fun b o e n hb hx=>?_,fun b o e n hb hx=>?_,fun b o e n hx=>?_,fun b o e hx=>?_,fun b xs e=>tups b xs (I.base.tups b xs e),fun b o xs e=>frzs b o xs (I.base.frzs b o xs e),fun b ps e=>?_⟩,?_,fun x c e=>?_,?_,fun x c e=>?_,fun p hp=>?_,hok,I.len⟩
 .exact keep b o (neL b o e) hb (neC b o e hx) (I.base.keep b o e n hb hx) (I.base.free b o e n hx)
 .obtain ⟨sl,e1⟩:=I.base.slot b o e n hb hx
  obtain ⟨sl',e2⟩:=slot b _ (neL b o e) hb (neC b o e hx) e1 (I.base.free b o e n hx)
  exact ⟨sl',e2⟩
 .obtain ⟨o',e1⟩:=I.base.there b o e hx
  exact free b o' (neC b o e hx) e1 (I.base.free b o e n hx)
 .obtain ⟨o',e1⟩:=I.base.there b o e hx
  exact there b o' (neC b o e hx) e1
 .obtain ⟨m1,e1⟩:=I.base.tbls b ps e
  obtain ⟨m2,e2⟩:=tbls b _ e1
  exact ⟨m1++m2,by rw [e2,Array.append_assoc]⟩
 .obtain ⟨m,hn,hl⟩:=I.loc
  refine ⟨m,ns m hn,fun i x v e1 e2 e3=>?_⟩
  obtain ⟨u,r,l⟩:=hl i x v e1 e2 e3
  refine ⟨u,r,?_⟩
  rcases l with l | ⟨k,c,e,z⟩
  .exact .inl l
  .exact .inr ⟨k,c,e,cellK x c e _ z⟩
 .obtain ⟨v,z⟩:=I.cell x c e
  exact ⟨v,cellK x c e v z⟩
 .obtain ⟨m,⟨o,_,_,ho,_⟩,_⟩:=I.loc
  exact free _ o (fun z=>(hch _ z).2.1 rfl) ho I.free
 .obtain ⟨v,o,ho,hd⟩:=I.cell x c e
  exact free c o (fun z=>(hch c z).2.2.1 x c e rfl) ho (I.freeC x c e)
 .obtain ⟨e,n,ne,nf,d⟩:=I.pin p hp
  have nch:p.1∉ch:=fun z=>(hch p.1 z).2.2.2 p hp rfl
  exact ⟨keep p.1 p.2 ne nf nch e n,free p.1 p.2 nch e n,ne,nf,d⟩
theorem Inv.un {t':Nat} (I:Inv X pins σ H s) (u:Un X.fs [] H H' s.heap h') (hok:HOk X.prog X.w H' h'):Inv X pins σ H' { s with heap:=h',toks:=t' }:=by
 obtain ⟨m,⟨o,es,ep,ho,r⟩,_⟩:=id I.loc
 obtain ⟨sl,hL⟩:=u.any ho I.free (by simp)
 exact I.step (g':=s.gens) (d':=s.drawn) (ch:=[]) (fun _ z=>nomatch z) (fun b o _ hb _ e n=>u.keep b o e n hb (by simp)) (fun b o _ hb _ e n=>u.slot b o e n hb (by simp)) (fun b o _ e n=>u.free b o e n (by simp)) (fun b o _ e=>u.there b o e (by simp)) u.tups u.frzs u.tbls (fun m' hm=>by
  obtain ⟨o',es',ep',ho',r'⟩:=hm
  rw [ho] at ho';cases ho'
  exact ⟨_,es',ep',hL,r'⟩) hok I.bare
theorem Inv.call {g':Array GenState} {t':Nat} {d':Drawn} {ch:List Addr} (I:Inv X pins σ H s) (u:Un (frs X.stack) ch H H' s.heap h') (hok:HOk X.prog X.w H' h') (hg:AllBare g')
  (hch:∀ b∈ch,(b∈X.ex∨X.s₀.heap.objs.size <= b) /\ b≠X.env.locals /\ (∀ x c,X.env.cells.lookup x=some c->c≠b) /\ ∀ p∈X.pn++pins,p.1≠b) :
  Inv X pins σ H' { s with heap:=h',gens:=g',drawn:=d',toks:=t' }:=by
 obtain ⟨m,⟨o,es,ep,ho,r⟩,_⟩:=id I.loc
 obtain ⟨sl,hL⟩:=u.any ho I.free fun z=>(hch _ z).2.1 rfl
 exact I.step (ch:=ch) hch (fun b o hL hb hc e n=>u.keep b o e n (fun z=>(yAH.mp (I.stkSub b z)).elim hL hb) hc) (fun b o _ _ hc e n=>u.any e n hc) (fun b o hc e n=>u.free b o e n hc) (fun b o hc e=>u.there b o e hc) u.tups u.frzs u.tbls (fun m' hm=>by
  obtain ⟨o',es',ep',ho',r'⟩:=hm
  rw [ho] at ho';cases ho'
  exact ⟨_,es',ep',hL,r'⟩) hok hg
theorem Inv.turned {t':Nat} {it:Addr} (I:Inv X pins σ H s) (k:∀ b o,b≠it->s.heap.get? b=some o->h'.get? b=some o) (hn:H it=none) (hL:it≠X.env.locals)
  (h1:it∈X.ex∨X.s₀.heap.objs.size <= it) (h2:∀ x c,X.env.cells.lookup x=some c->c≠it) (h3:∀ p∈X.pn++pins,p.1≠it):Inv X pins σ H { s with heap:=h',toks:=t' }:=by
 have nit:∀ b u,H b=some u->b≠it:=fun b u e z=>by rw [z,hn] at e;cases e
 refine I.step (g':=s.gens) (d':=s.drawn) (ch:=[it]) (fun b hb=>?_) (fun b o _ _ hc e _=>k b o (fun z=>hc (by simp [z])) e) (fun b o _ _ hc e _=>⟨o.slots,k b o (fun z=>hc (by simp [z])) e⟩) (fun _ _ _ _ n=>n)
  (fun b o hc e=>⟨o,k b o (fun z=>hc (by simp [z])) e⟩) (fun _ _ e=>e) (fun _ _ _ e=>e) (fun b ps e=>⟨#[],by rw [e];simp⟩) (fun m hm=>?_) (fun b u e=>?_) I.bare
 .have e:b=it:=by simpa using hb
  subst e
  exact ⟨h1,hL,h2,h3⟩
 .obtain ⟨o,es,ep,ho,r⟩:=hm
  exact ⟨o,es,ep,k _ o (Ne.symm hL) ho,r⟩
 .refine (I.hok b u e).stay (fun c v hc q=>k c v ?_ q) (fun _ q=>q) fun _ _ q=>q
  rcases hc with z | z
  .rw [z];exact nit b u e
  .exact nit c _ z
theorem Inv.tok (I:Inv X pins σ H s) (t:Nat):Inv X pins σ H { s with toks:=t }:=I.un (h':=s.heap) (t':=t) Un.refl I.hok
theorem Inv.kept {t':Nat} (I:Inv X pins σ H s) (k:∀ b u,s.heap.get? b=some u->h'.get? b=some u):Inv X pins σ H { s with heap:=h',toks:=t' }:=I.un (Un.kept k) (I.hok.kept k)
theorem Inv.laid {a:Addr} {o:HO} {t':Nat} (I:Inv X pins σ H s) (k:∀ b u,s.heap.get? b=some u->h'.get? b=some u) (hp:s.heap.objs.size <= a) (new:ObjOk X.prog X.w (upd H a o) h' a o) :
  Inv X pins σ (upd H a o) { s with heap:=h',toks:=t' }:=I.un (Un.laid k hp (I.hok.fresh hp)) (I.hok.laid k hp new)
theorem Inv.write {x e:Addr} {o:HO} {t':Nat} (I:Inv X pins σ H s) (mu:Mut (H x)) (he:e=x∨H e=some (.own x)) (k:∀ b u,b≠e->s.heap.get? b=some u->h'.get? b=some u) (heo:∃ u,h'.get? e=some u)
  (new:ObjOk X.prog X.w (upd H x o) h' x o):Inv X pins σ (upd H x o) { s with heap:=h',toks:=t' }:=I.un (Un.write mu he k heo) (I.hok.write mu he k heo new)
theorem Inv.pins_of {pins':List (Addr×Obj)} (I:Inv X pins σ H s) (h:∀ p∈pins',s.heap.get? p.1=some p.2 /\ H p.1=none /\ p.1≠X.env.locals /\ p.1∉X.fs /\ ∀ v,p.2.data≠.cell v):Inv X pins' σ H s :=
 ⟨I.ok,I.os,I.bare,I.base,I.loc,I.cell,I.free,I.freeC,fun p hp=>(yAX.mp hp).elim (fun z=>I.pin p (yBU _ z)) (h p),I.hok,I.len⟩
theorem ZDV {N:List Str} (hN:N.Nodup) {i j:Nat} {x:Str} (a:N[i]?=some x) (b:N[j]?=some x):i=j:=by
 obtain ⟨h1,e1⟩:=yAL.mp a
 obtain ⟨h2,e2⟩:=yAL.mp b
 exact (List.getElem_inj hN).mp (e1.trans e2.symm)
theorem store_ok2 {M:Model} {A:Around} {E:Value->Shared->Prop} {i:Nat} {x:Str} {v:V} {u:Value} {Q:Unit->Shared->Prop} (I:Inv X pins σ H s) (hN:X.N.Nodup) (hi:X.N[i]?=some x) (hx:Loc X.env.scope x) (r:RelV v u)
  (h:∀ s',Inv X pins (σ.set i (some v)) H s'->(∃ a,Heap.SameBut a s.heap s'.heap /\ (a=X.env.locals∨X.env.cells.lookup x=some a))->Q () s') (hf:X.fn x=true∨X.env.scope.names.lookup x=some .local:=by first | exact .inl rfl | exact .inr rfl | assumption):wpAny M A (storeName X.env x u) Q E s:=by
 obtain ⟨m,hn,hl⟩:=id I.loc
 have hcls:(X.env.scope.kind == .class || (X.env.scope.kind == .module && X.env.locals != X.env.globals))=false:=by rw [I.ok.kind];rfl
 have hiσ:i < σ.length:=by rw [I.len];exact (yAL.mp hi).1
 have cne:=I.cne
 have tracked:∀ {a:Addr} {h':Heap},(∃ o,s.heap.get? a=some o /\ H a=none)->Heap.SameBut a s.heap h'->HOk X.prog X.w H h':=fun {a h'} ha hs b ob e=>by
  obtain ⟨_,_,hfree⟩:=ha
  refine (I.hok b ob e).stay (fun c w' hc q=>(hs.2 c ?_).trans q) (fun _ q=>q) fun _ _ q=>q
  rintro rfl
  rcases hc with rfl | hc
  .rw [hfree] at e;cases e
  .rw [hfree] at hc;cases hc
 rcases hx with hk | hk
 .refine wpAny_storeName_local hk hn (fun h' hn' hs=>?_) hcls
  obtain ⟨oL,_,_,hoL,_⟩:=id hn
  refine h _ ⟨I.ok,I.os,I.bare,⟨fun b o e n hb hx=>?_,fun b o e n hb hx=>?_,I.base.free,fun b o e hx=>?_,I.base.tups,I.base.frzs,I.base.tbls⟩,⟨_,hn',fun j y v' e1 e2 e3=>?_⟩,fun y c e=>?_,I.free,I.freeC,fun p hp=>?_,tracked ⟨oL,hoL,I.free⟩ hs,by simpa using I.len⟩ ⟨_,hs,.inl rfl⟩
  .exact (hs.2 b (yAI (yAO (Heap.lt_size e) I.ok.above))).trans (I.base.keep b o e n hb hx)
  .obtain ⟨sl,e1⟩:=I.base.slot b o e n hb hx
   exact ⟨sl,(hs.2 b (yAI (yAO (Heap.lt_size e) I.ok.above))).trans e1⟩
  .obtain ⟨o',e1⟩:=I.base.there b o e hx
   exact ⟨o',(hs.2 b (yAI (yAO (Heap.lt_size e) I.ok.above))).trans e1⟩
  .by_cases hj:j=i
   .subst hj
    rw [hi] at e1;cases e1
    rw [List.getElem?_set_self hiσ] at e2
    cases e2
    exact ⟨u,r,.inl ⟨hk,by simp⟩⟩
   .rw [List.getElem?_set_ne (Ne.symm hj)] at e2
    obtain ⟨u',r',q⟩:=hl j y v' e1 e2 e3
    refine ⟨u',r',?_⟩
    rcases q with ⟨k,e⟩ | ⟨k,c,e,z⟩
    .refine .inl ⟨k,?_⟩
     have:y≠x:=fun e=>hj (ZDV hN e1 (e ▸ hi))
     simp [this,e]
    .exact .inr ⟨k,c,e,z.sameBut hs (cne y c e)⟩
  .obtain ⟨w',z⟩:=I.cell y c e
   exact ⟨w',z.sameBut hs (cne y c e)⟩
  .obtain ⟨e,n,ne,nf,d⟩:=I.pin p hp
   exact ⟨(hs.2 p.1 ne).trans e,n,ne,nf,d⟩
 .have hfn:X.fn x=true:=by
   rcases hf with z | z
   .exact z
   .rw [z] at hk;cases hk
  obtain ⟨c,hc⟩:=I.ok.has x (.inl hk)
  obtain ⟨w',z⟩:=I.cell x c hc
  refine wpAny_storeName_cell I.ok.kind hk hc z (fun h' hc' hs=>?_)
  obtain ⟨oc,hoc,hocd⟩:=id z
  refine h { s with heap:=h' } ⟨I.ok,I.os,I.bare,⟨fun b o e n hb hx=>?_,fun b o e n hb hx=>?_,I.base.free,fun b o e hx=>?_,I.base.tups,I.base.frzs,I.base.tbls⟩,⟨m,hn.sameBut hs (Ne.symm (cne x c hc)),fun j y v' e1 e2 e3=>?_⟩,fun y c' e=>?_,I.free,I.freeC,fun p hp=>?_,tracked ⟨oc,hoc,I.freeC x c hc⟩ hs,by simpa using I.len⟩ ⟨c,hs,.inr hc⟩
  .exact (hs.2 b (yAI (yAO (Heap.lt_size e) (I.ok.cab x c hfn hc)))).trans (I.base.keep b o e n hb hx)
  .obtain ⟨sl,e1⟩:=I.base.slot b o e n hb hx
   exact ⟨sl,(hs.2 b (yAI (yAO (Heap.lt_size e) (I.ok.cab x c hfn hc)))).trans e1⟩
  .obtain ⟨o',e1⟩:=I.base.there b o e hx
   exact ⟨o',(hs.2 b (yAI (yAO (Heap.lt_size e) (I.ok.cab x c hfn hc)))).trans e1⟩
  .by_cases hj:j=i
   .subst hj
    rw [hi] at e1;cases e1
    rw [List.getElem?_set_self hiσ] at e2
    cases e2
    exact ⟨u,r,.inr ⟨.inl hk,c,hc,hc'⟩⟩
   .rw [List.getElem?_set_ne (Ne.symm hj)] at e2
    obtain ⟨u',r',q⟩:=hl j y v' e1 e2 e3
    refine ⟨u',r',?_⟩
    rcases q with q | ⟨k,c',e,z'⟩
    .exact .inl q
    .refine .inr ⟨k,c',e,z'.sameBut hs ?_⟩
     rintro rfl
     exact hj (ZDV hN e1 (I.ok.inj _ _ _ e hc ▸ hi))
  .by_cases hcc:c'=c
   .subst hcc;exact ⟨_,hc'⟩
   .obtain ⟨w2,z2⟩:=I.cell y c' e
    exact ⟨w2,z2.sameBut hs hcc⟩
  .obtain ⟨e,n,ne,nf,d⟩:=I.pin p hp
   refine ⟨(hs.2 p.1 ?_).trans e,n,ne,nf,d⟩
   intro q
   rw [q,hoc] at e
   have q':oc=p.2:=Option.some.inj e
   exact d w' (by rw [<- q'];exact hocd)
theorem ZCp {M:Model} {A:Around} {E:Value->Shared->Prop} {i:Nat} {x:Str} {v:V} {u:Value} {Q:Unit->Shared->Prop} (I:Inv X pins σ H s) (hN:X.N.Nodup) (hi:X.N[i]?=some x) (hx:Loc X.env.scope x) (r:RelV v u)
  (h:∀ s',Inv X pins (σ.set i (some v)) H s'->Q () s') (hf:X.fn x=true∨X.env.scope.names.lookup x=some .local:=by first | exact .inl rfl | exact .inr rfl | assumption):wpAny M A (storeName X.env x u) Q E s :=
 store_ok2 I hN hi hx r (fun s' I' _=>h s' I') hf
theorem Inv.call' {s':Shared} {ch:List Addr} (I:Inv X pins σ H s) (ho:s'.os=s.os) (u:Un (frs X.stack) ch H H' s.heap s'.heap) (hok:HOk X.prog X.w H' s'.heap) (hg:AllBare s'.gens)
  (hch:∀ b∈ch,(b∈X.ex∨X.s₀.heap.objs.size <= b) /\ b≠X.env.locals /\ (∀ x c,X.env.cells.lookup x=some c->c≠b) /\ ∀ p∈X.pn++pins,p.1≠b):Inv X pins σ H' s':=by
 obtain ⟨h',g',d',t',o'⟩:=s'
 have e:o'=s.os:=ho
 subst e
 exact I.call (g':=g') (t':=t') (d':=d') u hok hg hch
end
noncomputable abbrev XK:=Value->Option Addr->Hp->Prop
noncomputable abbrev St:=List (Option V)
noncomputable abbrev VK:=V->Hp->Prop
noncomputable abbrev TE:=St->Hp->VK->Prop
noncomputable abbrev TT:=St->Hp->(Bool->Hp->Prop)->Prop
noncomputable abbrev TA:=St->Hp->(List V->Hp->Prop)->Prop
structure Ends where
 nx:St->Hp->Prop
 rt:VK
 bk:St->Hp->Prop:=fun _ _=>False
 ct:St->Hp->Prop:=fun _ _=>False
noncomputable abbrev TS:=Ends->St->Hp->Prop
noncomputable def EP (X:Cx) (pins:List (Addr×Obj)) (σ:St) (Q:VK) (u:Value) (s':Shared):Prop:=∃ v H',Inv X pins σ H' s' /\ RelV v u /\ Q v H'
noncomputable def TP (X:Cx) (pins:List (Addr×Obj)) (σ:St) (Q:Bool->Hp->Prop) (b:Bool) (s':Shared):Prop:=∃ H',Inv X pins σ H' s' /\ Q b H'
noncomputable def AP (X:Cx) (pins:List (Addr×Obj)) (σ:St) (Q:List V->Hp->Prop) (us:List Value) (s':Shared):Prop:=∃ vs H',Inv X pins σ H' s' /\ Vals vs us /\ Q vs H'
noncomputable def SP (X:Cx) (pins:List (Addr×Obj)) (D:Ends) (f:Flow) (s':Shared):Prop :=
 match f with
 | .next=>∃ σ' H',Inv X pins σ' H' s' /\ D.nx σ' H'
 | .brk=>∃ σ' H',Inv X pins σ' H' s' /\ D.bk σ' H'
 | .cont=>∃ σ' H',Inv X pins σ' H' s' /\ D.ct σ' H'
 | .ret u=>∃ v σ' H',Inv X pins σ' H' s' /\ RelV v u /\ D.rt v H'
noncomputable def PE (X:Cx) (e:Expr) (t:TE):Prop :=
 ∀ (pins:List (Addr×Obj)) (s:Shared) (σ:St) (H:Hp) (Q:VK),Inv X pins σ H s->t σ H Q->wpAny (model X.prog X.w) X.A (eval e X.env) (EP X pins σ Q) X.xe s
noncomputable def PT (X:Cx) (e:Expr) (t:TT):Prop :=
 ∀ (pins:List (Addr×Obj)) (s:Shared) (σ:St) (H:Hp) (Q:Bool->Hp->Prop),Inv X pins σ H s->t σ H Q->wpAny (model X.prog X.w) X.A (isTrue e X.env (eval e X.env)) (TP X pins σ Q) X.xe s
noncomputable def PW (X:Cx) (e:Expr) (t:TT):Prop :=
 ∀ (whole:Sem Value) (pins:List (Addr×Obj)) (s:Shared) (σ:St) (H:Hp) (Q:Bool->Hp->Prop),Inv X pins σ H s->t σ H Q->wpAny (model X.prog X.w) X.A (isTrue e X.env whole) (TP X pins σ Q) X.xe s
theorem PW.pt {X:Cx} {e:Expr} {t:TT} (h:PW X e t):PT X e t:=h _
noncomputable def PA (X:Cx) (es:List Expr) (t:TA):Prop :=
 ∀ (pos:Pos) (pins:List (Addr×Obj)) (s:Shared) (σ:St) (H:Hp) (Q:List V->Hp->Prop),Inv X pins σ H s->t σ H Q->wpAny (model X.prog X.w) X.A (spliced (backTo pos (starEach es X.env))) (AP X pins σ Q) X.xe s
noncomputable def PS (X:Cx) (st:Stmt) (t:TS):Prop :=
 ∀ (pins:List (Addr×Obj)) (s:Shared) (σ:St) (H:Hp) (D:Ends),Inv X pins σ H s->t D σ H->wpAny (model X.prog X.w) X.A (exec st X.env) (SP X pins D) X.xe s
noncomputable def PSs (X:Cx) (st:List Stmt) (t:TS):Prop :=
 ∀ (pins:List (Addr×Obj)) (s:Shared) (σ:St) (H:Hp) (D:Ends),Inv X pins σ H s->t D σ H->wpAny (model X.prog X.w) X.A (execs st X.env) (SP X pins D) X.xe s
theorem thn {α:Type} {t:Sem α} {Q Q':α->Shared->Prop} {M:Model} {A:Around} {E:Value->Shared->Prop} {s:Shared} (h:wpAny M A t Q E s) (hQ:∀ a s,Q a s->Q' a s):wpAny M A t Q' E s:=wpAny_mono h hQ fun _ _ x=>x
section
variable {X:Cx}
noncomputable def tVar (i:Nat):TE:=fun σ H Q=>∃ v,σ[i]?=some (some v) /\ Q v H
noncomputable def tC (v:V):TE:=fun _ H Q=>Q v H
theorem pe_var {i:Nat} {x:Str} {pos:Pos} (hN:X.N[i]?=some x) (hv:Vis X.env.scope x) (hd:(x == ("__debug__":Str))=false:=by decide) (hcd:(x == ("__classdict__":Str))=false:=by decide):PE X (.Name x pos) (tVar i):=by
 intro pins s σ H Q I h
 obtain ⟨v,e,h⟩:=h
 obtain ⟨m,hn,hl⟩:=I.loc
 obtain ⟨u,r,l⟩:=hl i x v hN e hv
 have fin:EP X pins σ Q u s:=⟨v,H,I,r,h⟩
 rcases l with ⟨hk,hm⟩ | ⟨hk,c,hc,hcell⟩
 .exact wpAny_Name (wpAny_loadName_local I.ok.kind hk hn hm fin) hd
 .rcases hk with hk | hk
  .exact wpAny_Name (wpAny_loadName_cell I.ok.kind hk hc hcell fin) hd
  .exact wpAny_Name (wpAny_loadName_free I.ok.kind hk hc hcell fin hcd) hd
theorem ZAI {i j pos}:PE X (.Constant (.int i) j pos) (tC (.int i)):=fun _ _ _ H _ I h=>wpAny_Constant_int ⟨.int i,H,I.tok _,⟨_,rfl⟩,h⟩
theorem ZCS {b j pos}:PE X (.Constant (.bool b) j pos) (tC (.bl b)):=fun _ _ _ H _ I h=>Constant_bool ⟨.bl b,H,I,rfl,h⟩
theorem ZBD {j pos}:PE X (.Constant .none j pos) (tC .non):=fun _ _ _ H _ I h=>Constant_none ⟨.non,H,I,rfl,h⟩
theorem pe_str {x j pos}:PE X (.Constant (.str x) j pos) (tC (.str x)):=fun _ _ _ H _ I h=>Calls.Constant_str ⟨.str x,H,I.tok _,⟨_,rfl⟩,h⟩
noncomputable def Gl (X:Cx) (x:Str):Prop:=X.env.kindOf x=some .globalImplicit
theorem ZB1 {E:Value->Shared->Prop} {pins:List (Addr×Obj)} {s:Shared} {σ:St} {H:Hp} {x:Str} {u:Value} {pos:Pos} {Q:Value->Shared->Prop} (I:Inv X pins σ H s) (hg:Gl X x) (hm:X.mg x=some u) (h:Q u s)
  (hd:(x == ("__debug__":Str))=false:=by decide):wpAny (model X.prog X.w) X.A (eval (.Name x pos) X.env) Q E s :=
 Calls.Name_function_global I.ok.kind hg (Calls.loadGlobal_global (by rw [I.ok.glob];exact I.mod.glob.keeps I.bk) hm h) hd
theorem ZDo {E:Value->Shared->Prop} {pins:List (Addr×Obj)} {s:Shared} {σ:St} {H:Hp} {x:Str} {u:Value} {pos:Pos} {Q:Value->Shared->Prop} (I:Inv X pins σ H s) (hg:Gl X x) (hm:X.mg x=none) (hv:bootBuiltins x=some u) (h:Q u s)
  (hn:x≠"__name__":=by decide) (hd:(x == ("__debug__":Str))=false:=by decide):wpAny (model X.prog X.w) X.A (eval (.Name x pos) X.env) Q E s:=by
 obtain ⟨mb,h1,h2⟩:=I.mod.blt
 exact Calls.Name_function_global I.ok.kind hg (Calls.loadGlobal_builtin (by rw [I.ok.glob];exact I.mod.glob.keeps I.bk) hm (by rw [I.ok.blt];exact h1.keeps I.bk) ((h2 x hn).trans hv) h) hd
theorem pe_glob {x:Str} {v:V} {u:Value} {pos:Pos} (hg:Gl X x) (hm:X.mg x=some u) (r:RelV v u) (hd:(x == ("__debug__":Str))=false:=by decide):PE X (.Name x pos) (tC v) :=
 fun _ _ _ H _ I h=>ZB1 I hg hm ⟨v,H,I,r,h⟩ hd
theorem pe_bltn {x:Str} {v:V} {u:Value} {pos:Pos} (hg:Gl X x) (hm:X.mg x=none) (hv:bootBuiltins x=some u) (r:RelV v u) (hn:x≠"__name__":=by decide) (hd:(x == ("__debug__":Str))=false:=by decide):PE X (.Name x pos) (tC v) :=
 fun _ _ _ H _ I h=>ZDo I hg hm hv ⟨v,H,I,r,h⟩ hn hd
variable {a b:Expr} {ta tb:TE} {pos:Pos}
noncomputable def tB (t:TE):TT:=fun σ H Q=>t σ H fun x H1=>∃ c,x=.bl c /\ Q c H1
theorem ZCK {e:Expr} {t:TE} (h:PE X e t) (he:∀ whole,isTrue e X.env whole=(do let v <- whole;standAt e.pos;holding [v] (truthy v)):=by intro _;rfl):PT X e (tB t):=by
 intro pins s σ H Q I hw
 refine isTrue_plain (thn (h pins s σ H _ I hw) fun v s1 zz=>?_) (he _)
 obtain ⟨x,H1,I1,r1,q1⟩:=zz
 obtain ⟨d,rfl,q⟩:=q1
 cases r1
 exact wpAny_truthy_bool ⟨H1,I1,q⟩
variable {tA tB':TT} {rest:List Expr}
noncomputable def tAnd (t u:TT):TT:=fun σ H Q=>t σ H fun c H1=>if c=true then u σ H1 Q else Q false H1
noncomputable def tOr (t u:TT):TT:=fun σ H Q=>t σ H fun c H1=>if c=true then Q true H1 else u σ H1 Q
noncomputable def tNot (t:TT):TT:=fun σ H Q=>t σ H fun c H1=>Q (!c) H1
theorem ZDQ (ha:PT X a tA):PW X (.BoolOp .And [a] pos) tA:=by
 intro wh pins s σ H Q I h
 refine isTrue_and (thn (ha pins s σ H Q I h) fun c s1 e=>?_)
 cases c with
 | true=>exact isTrue_and_nil e
 | false=>exact e
theorem ZDi (ha:PT X a tA):PW X (.BoolOp .Or [a] pos) tA:=by
 intro wh pins s σ H Q I h
 refine isTrue_or (thn (ha pins s σ H Q I h) fun c s1 e=>?_)
 cases c with
 | false=>exact isTrue_or_nil e
 | true=>exact e
theorem ZEF (ha:PT X a tA) (hb:PW X (.BoolOp .And (b::rest) pos) tB'):PW X (.BoolOp .And (a::b::rest) pos) (tAnd tA tB'):=by
 intro wh pins s σ H Q I h
 refine isTrue_and (thn (ha pins s σ H _ I h) fun c s1 ⟨H1,I1,q1⟩=>?_)
 cases c with
 | true=>exact hb wh pins s1 σ H1 Q I1 q1
 | false=>exact ⟨H1,I1,q1⟩
theorem ZDP (ha:PT X a tA) (hb:PW X (.BoolOp .Or (b::rest) pos) tB'):PW X (.BoolOp .Or (a::b::rest) pos) (tOr tA tB'):=by
 intro wh pins s σ H Q I h
 refine isTrue_or (thn (ha pins s σ H _ I h) fun c s1 ⟨H1,I1,q1⟩=>?_)
 cases c with
 | true=>exact ⟨H1,I1,q1⟩
 | false=>exact hb wh pins s1 σ H1 Q I1 q1
theorem pt_not (ha:PT X a tA):PT X (.UnaryOp .Not a pos) (tNot tA):=by
 intro pins s σ H Q I h
 exact isTrue_not (ha pins s σ H (fun c H1=>Q (!c) H1) I h)
noncomputable def ZFG (ta tb:TE):TE:=fun σ H Q=>ta σ H fun x H1=>∃ c,x=.bl c /\ if c=true then tb σ H1 Q else Q (.bl false) H1
noncomputable def tOrV (ta tb:TE):TE:=fun σ H Q=>ta σ H fun x H1=>∃ c,x=.bl c /\ if c=true then Q (.bl true) H1 else tb σ H1 Q
noncomputable def ZFC (ta:TE):TE:=fun σ H Q=>ta σ H fun x H1=>∃ c,x=.bl c /\ Q (.bl (!c)) H1
theorem ZEm {op} {t:TE} (h:PE X a t):PE X (.BoolOp op [a] pos) t:=fun pins s σ H Q I hw=>BoolOp_one (h pins s σ H Q I hw)
theorem ZDk (ha:PE X a ta) (hb:PE X (.BoolOp .And (b::rest) pos) tb):PE X (.BoolOp .And (a::b::rest) pos) (ZFG ta tb):=by
 intro pins s σ H Q I h
 refine BoolOp_and (thn (ha pins s σ H _ I h) fun v s1 zz=>?_)
 obtain ⟨x,H1,I1,r1,q1⟩:=zz
 obtain ⟨c,rfl,q1⟩:=q1
 cases r1
 refine wpAny_truthy_bool ?_
 cases c with
 | true=>exact hb pins s1 σ H1 Q I1 q1
 | false=>exact ⟨.bl false,H1,I1,rfl,q1⟩
theorem pe_or (ha:PE X a ta) (hb:PE X (.BoolOp .Or (b::rest) pos) tb):PE X (.BoolOp .Or (a::b::rest) pos) (tOrV ta tb):=by
 intro pins s σ H Q I h
 refine BoolOp_or (thn (ha pins s σ H _ I h) fun v s1 zz=>?_)
 obtain ⟨x,H1,I1,r1,q1⟩:=zz
 obtain ⟨c,rfl,q1⟩:=q1
 cases r1
 refine wpAny_truthy_bool ?_
 cases c with
 | false=>exact hb pins s1 σ H1 Q I1 q1
 | true=>exact ⟨.bl true,H1,I1,rfl,q1⟩
theorem pe_not (ha:PE X a ta):PE X (.UnaryOp .Not a pos) (ZFC ta):=by
 intro pins s σ H Q I h
 refine UnaryOp_ (thn (ha pins s σ H _ I h) fun v s1 zz=>?_)
 obtain ⟨x,H1,I1,r1,q1⟩:=zz
 obtain ⟨c,rfl,q1⟩:=q1
 cases r1
 exact not_of (wpAny_truthy_bool ⟨.bl (!c),H1,I1,rfl,q1⟩)
noncomputable def tIf (t:TT) (ta tb:TE):TE:=fun σ H Q=>t σ H fun c H1=>if c=true then ta σ H1 Q else tb σ H1 Q
theorem ZBb {c:Expr} (hc:PT X c tA) (ha:PE X a ta) (hb:PE X b tb):PE X (.IfExp c a b pos) (tIf tA ta tb):=by
 intro pins s σ H Q I h
 refine wpAny_IfExp (thn (hc pins s σ H _ I h) fun d s1 ⟨H1,I1,q1⟩=>?_)
 cases d with
 | true=>exact ha pins s1 σ H1 Q I1 q1
 | false=>exact hb pins s1 σ H1 Q I1 q1
end
noncomputable def SqL (K:W.Frag) (H:Hp) (a:Addr) (xs:List V):Prop :=
 Rd H a (.lst xs) ∨
  ∃ (o:Obj) (its:Array Value) (n:Nat),K.lookup a=some o /\ o.cls=.type "list" /\ o.dict=none /\ o.data=.seq its n /\ its.size <= sizeLine /\ Vals xs its.toList
noncomputable def SqT (K:W.Frag) (H:Hp) (a:Addr) (xs:List V):Prop :=
 Rd H a (.tup xs) ∨
  ∃ (o:Obj) (its:Array Value) (n:Nat),K.lookup a=some o /\ o.cls=.type "tuple" /\ o.data=.seq its n /\ its.size <= sizeLine /\ Vals xs its.toList
noncomputable def absV:Value->Option V
 | .none=>some .non
 | .bool b=>some (.bl b)
 | .int i _=>some (.int i)
 | .str x _=>some (.str x)
 | .bytes b _=>some (.byt b)
 | .float b _=>some (.flt b)
 | .ref a=>some (.ref a)
 | .type n=>some (.ty n)
 | _=>none
theorem RelV.abs {x:V} {u:Value} (r:RelV x u):absV u=some x:=by
 cases x with
 | non=>cases r;rfl
 | bl _=>cases r;rfl
 | int _=>obtain ⟨t,rfl⟩:=r;rfl
 | str _=>obtain ⟨t,rfl⟩:=r;rfl
 | byt _=>obtain ⟨t,rfl⟩:=r;rfl
 | flt _=>obtain ⟨t,rfl⟩:=r;rfl
 | ref _=>cases r;rfl
 | ty _=>cases r;rfl
theorem RelV.inj {x y:V} {u:Value} (r:RelV x u) (q:RelV y u):x=y:=Option.some.inj (r.abs.symm.trans q.abs)
theorem Vals.inj:∀ {xs ys:List V} {us:List Value},Vals xs us->Vals ys us->xs=ys
 | _,_,_,.nil,.nil=>rfl
 | _,_,_,.cons r t,.cons r' t'=>by rw [r.inj r',Vals.inj t t']
section
variable {X:Cx} {pins:List (Addr×Obj)} {σ:St} {H:Hp} {s:Shared} {a:Addr} {xs ys:List V}
theorem SqL.of {K:W.Frag} (h:H a=some (.lst xs)):SqL K H a xs:=.inl (.inl h)
theorem SqT.of {K:W.Frag} (h:H a=some (.tup xs)):SqT K H a xs:=.inl (.inl h)
theorem Inv.list (I:Inv X pins σ H s) (h:SqL X.K H a xs):∃ its:List Value,Vals xs its /\ PlainL s.heap a its.toArray /\ xs.length <= sizeLine:=by
 rcases h with h | ⟨o,its,n,hk,hc,hd,hs,hz,r⟩
 .obtain ⟨z,its,n,r,e⟩:=h.ok I.hok
  exact ⟨its,r,⟨_,n,e,rfl,rfl,rfl⟩,z⟩
 .refine ⟨its.toList,r,⟨o,n,I.kIn a o hk,hc,hd,by simpa using hs⟩,?_⟩
  have e:=r.length
  simp only [yAM] at e
  omega
theorem Inv.tuple (I:Inv X pins σ H s) (h:SqT X.K H a xs):∃ its:List Value,Vals xs its /\ IsTup s.heap a its.toArray /\ xs.length <= sizeLine:=by
 rcases h with h | ⟨o,its,n,hk,hc,hs,hz,r⟩
 .obtain ⟨z,its,r,p⟩:=h.ok I.hok
  exact ⟨its,r,p,z⟩
 .refine ⟨its.toList,r,⟨o,I.kIn a o hk,hc,n,by simpa using hs⟩,?_⟩
  have e:=r.length
  simp only [yAM] at e
  omega
theorem Inv.list_inj (I:Inv X pins σ H s) (h:SqL X.K H a xs) (h':SqL X.K H a ys):xs=ys:=by
 obtain ⟨its,r,⟨o,n,e,_,_,d⟩,_⟩:=I.list h
 obtain ⟨its',r',⟨o',n',e',_,_,d'⟩,_⟩:=I.list h'
 rw [e] at e';cases e'
 rw [d] at d'
 injection d' with d1 _
 have:its=its':=by simpa using congrArg Array.toList d1
 subst this
 exact r.inj r'
end
noncomputable abbrev Cx.wish (X:Cx) (E:Value->Shared->Prop):Cx:={ X with xe:=E }
noncomputable abbrev Cx.nox (X:Cx):Cx:=X.wish fun _ _=>False
theorem Cx.Ok.wish {X:Cx} (ok:X.Ok) (E:Value->Shared->Prop):(X.wish E).Ok :=
 ⟨ok.mod,ok.kind,ok.glob,ok.blt,ok.above,ok.inj,ok.has,ok.cab,ok.hd,ok.frames,ok.stk,ok.exf,ok.bs,ok.bsz,ok.noex,ok.exfs,ok.funs,ok.frf⟩
theorem Cx.Ok.unwish {X:Cx} {E:Value->Shared->Prop} (ok:(X.wish E).Ok):X.Ok :=
 ⟨ok.mod,ok.kind,ok.glob,ok.blt,ok.above,ok.inj,ok.has,ok.cab,ok.hd,ok.frames,ok.stk,ok.exf,ok.bs,ok.bsz,ok.noex,ok.exfs,ok.funs,ok.frf⟩
section
variable {X:Cx} {pins:List (Addr×Obj)} {σ:St} {H:Hp} {s:Shared} {E:Value->Shared->Prop}
theorem Inv.wish (I:Inv X pins σ H s) (E:Value->Shared->Prop):Inv (X.wish E) pins σ H s:=⟨I.ok.wish E,I.os,I.bare,I.base,I.loc,I.cell,I.free,I.freeC,I.pin,I.hok,I.len⟩
theorem Inv.unwish (I:Inv (X.wish E) pins σ H s):Inv X pins σ H s:=⟨I.ok.unwish,I.os,I.bare,I.base,I.loc,I.cell,I.free,I.freeC,I.pin,I.hok,I.len⟩
theorem SP.unwish {D:Ends} {f:Flow} {s':Shared} (h:SP (X.wish E) pins D f s'):SP X pins D f s':=by
 cases f with
 | next=>obtain ⟨σ',H',I,q⟩:=h;exact ⟨σ',H',I.unwish,q⟩
 | brk=>obtain ⟨σ',H',I,q⟩:=h;exact ⟨σ',H',I.unwish,q⟩
 | cont=>obtain ⟨σ',H',I,q⟩:=h;exact ⟨σ',H',I.unwish,q⟩
 | ret u=>obtain ⟨v,σ',H',I,r,q⟩:=h;exact ⟨v,σ',H',I.unwish,r,q⟩
theorem PSs.nox {st:List Stmt} {t:TS} (h:PSs X.nox st t):PSs X st t:=fun pins s σ H D I hw=>
 wpAny_mono (h pins s σ H D (I.wish _) hw) (fun _ _ q=>q.unwish) fun _ _ z=>False.elim z
end
section
variable {X:Cx} {st:Stmt} {rest:List Stmt} {t u:TS} {e:Expr} {te:TE} {pos:Pos}
noncomputable def ZFD:TS:=fun D σ H=>D.nx σ H
noncomputable def tSeq (t u:TS):TS:=fun D σ H=>t { D with nx:=u D } σ H
theorem ZAj:PSs X [] ZFD:=fun _ _ σ H _ I h=>wpAny_execs_nil ⟨σ,H,I,h⟩
theorem ZAD (h1:PS X st t) (h2:PSs X rest u):PSs X (st::rest) (tSeq t u):=by
 intro pins s σ H D I h
 refine wpAny_execs_cons (thn (h1 pins s σ H { D with nx:=u D } I h) fun f s1 q=>?_)
 cases f with
 | next=>
  obtain ⟨σ',H',I',q⟩:=q
  exact h2 pins s1 σ' H' D I' q
 | ret v=>exact q
 | brk=>exact q
 | cont=>exact q
theorem ZAJ (h1:PS X st t):PSs X [st] t:=by
 intro pins s σ H D I h
 refine wpAny_execs_cons (thn (h1 pins s σ H D I h) fun f s1 q=>?_)
 cases f with
 | next=>exact wpAny_execs_nil q
 | ret v=>exact q
 | brk=>exact q
 | cont=>exact q
theorem Inv.quiet {pins:List (Addr×Obj)} {σ:St} {H:Hp} {s:Shared} (I:Inv X pins σ H s):interactive X.env=false:=by simp [interactive,I.ok.kind]
noncomputable def ZFE (te:TE):TS:=fun D σ H=>te σ H fun _ H1=>D.nx σ H1
theorem ZCR (he:PE X e te) (hs:swapsWith e none pos.line X.env=pure false:=by rfl):PS X (.Expr e pos) (ZFE te):=by
 intro pins s σ H D I h
 exact wpAny_Expr_any (thn (he pins s σ H _ I h) fun v s1 ⟨x,H1,I1,r1,q1⟩=>⟨σ,H1,I1,q1⟩) I.quiet hs
noncomputable def tRet (te:TE):TS:=fun D σ H=>te σ H D.rt
theorem ZAX (he:PE X e te):PS X (.Return (some e) pos) (tRet te):=by
 intro pins s σ H D I h
 exact wpAny_Return_some (thn (he pins s σ H _ I h) fun v s1 ⟨x,H1,I1,r1,q1⟩=>⟨x,σ,H1,I1,r1,q1⟩)
noncomputable def tRetN:TS:=fun D _ H=>D.rt .non H
noncomputable def tIfS (c:TT) (t u:TS):TS:=fun D σ H=>c σ H fun b H1=>if b=true then t D σ H1 else u D σ H1
theorem ZBg {c:Expr} {a b:List Stmt} {tc:TT} (hc:PT X c tc) (ha:PSs X a t) (hb:PSs X b u):PS X (.If c a b pos) (tIfS tc t u):=by
 intro pins s σ H D I h
 refine wpAny_If (thn (hc pins s σ H _ I h) fun d s1 ⟨H1,I1,q1⟩=>?_)
 cases d with
 | true=>exact ha pins s1 σ H1 D I1 q1
 | false=>exact hb pins s1 σ H1 D I1 q1
noncomputable def tNever:TS:=fun _ _ _=>False
end
noncomputable abbrev TG:=V->St->Hp->(St->Hp->Prop)->Prop
noncomputable abbrev TGs:=List V->St->Hp->(St->Hp->Prop)->Prop
noncomputable def PG (X:Cx) (target:Expr) (t:TG):Prop :=
 ∀ (pins:List (Addr×Obj)) (s:Shared) (σ:St) (H:Hp) (v:V) (u:Value) (Q:St->Hp->Prop),Inv X pins σ H s->RelV v u->t v σ H Q ->
  wpAny (model X.prog X.w) X.A (assign target X.env u) (fun _ s'=>∃ σ' H',Inv X pins σ' H' s' /\ Q σ' H') X.xe s
noncomputable def PGs (X:Cx) (ts:List Expr) (t:TGs):Prop :=
 ∀ (pins:List (Addr×Obj)) (s:Shared) (σ:St) (H:Hp) (vs:List V) (us:List Value) (Q:St->Hp->Prop),Inv X pins σ H s->Vals vs us->t vs σ H Q ->
  wpAny (model X.prog X.w) X.A (assignInOrder ((assignEach ts X.env).map (·.2)) us) (fun _ s'=>∃ σ' H',Inv X pins σ' H' s' /\ Q σ' H') X.xe s
noncomputable abbrev TSet:=V->V->V->Hp->(Hp->Prop)->Prop
noncomputable def PSet (X:Cx) (t:TSet):Prop :=
 ∀ (pins:List (Addr×Obj)) (s:Shared) (σ:St) (H:Hp) (o i v:V) (ov iv u:Value) (Q:Hp->Prop),Inv X pins σ H s->RelV o ov->RelV i iv->RelV v u->t o i v H Q ->
  wpAny (model X.prog X.w) X.A (setItem ov iv u) (fun _ s'=>∃ H',Inv X pins σ H' s' /\ Q H') X.xe s
noncomputable abbrev TIp:=V->V->Hp->VK->Prop
section
variable {X:Cx} {pos:Pos}
noncomputable def ZEs (i:Nat):TG:=fun v σ H Q=>Q (σ.set i (some v)) H
theorem ZAk {i:Nat} {x:Str} (hN:X.N.Nodup) (hi:X.N[i]?=some x) (hx:Loc X.env.scope x) (hf:X.fn x=true∨X.env.scope.names.lookup x=some .local:=by first | exact .inl rfl | exact .inr rfl | assumption):PG X (.Name x pos) (ZEs i):=by
 intro pins s σ H v u Q I r h
 exact wpAny_assign_Name (ZCp I hN hi hx r (fun s' I'=>⟨_,H,I',h⟩) hf)
noncomputable def gNil:TGs:=fun vs σ H Q=>vs=[] /\ Q σ H
noncomputable def ZFQ (t:TG) (u:TGs):TGs:=fun vs σ H Q=>∃ v r,vs=v::r /\ t v σ H fun σ' H'=>u r σ' H' Q
theorem ZDR:PGs X [] gNil:=by
 intro pins s σ H vs us Q I r h
 obtain ⟨e,h⟩:=h
 subst e
 cases r
 exact assignInOrder_nil ⟨σ,H,I,h⟩
theorem ZBL {e:Expr} {es:List Expr} {t:TG} {u:TGs} (h1:PG X e t) (h2:PGs X es u)
  (hs:(assignEach (e::es) X.env).map (·.2)=assign e X.env::(assignEach es X.env).map (·.2):=by rfl):PGs X (e::es) (ZFQ t u):=by
 intro pins s σ H vs us Q I r h
 obtain ⟨v,vr,e1,h⟩:=h
 subst e1
 cases r with
 | cons r rr=>
  rw [hs]
  refine assignInOrder_cons (thn (h1 pins s σ H _ _ _ I r h) fun _ s1 zz=>?_)
  obtain ⟨σ1,H1,I1,q1⟩:=zz
  exact h2 pins s1 σ1 H1 _ _ Q I1 rr q1
noncomputable def gTup (K:W.Frag) (n:Nat) (t:TGs):TG:=fun v σ H Q=>∃ a xs,v=.ref a /\ SqT K H a xs /\ xs.length=n /\ t xs σ H Q
theorem ZEH {es:List Expr} {k:Nat} {t:TGs} {n:Nat} (hc:X.calm=true) (h:PGs X es t)
  (hn:(assignEach es X.env).length=n:=by rfl) (hst:(assignEach es X.env).findIdx? (·.1)=none:=by rfl):PG X (.Tuple es k pos) (gTup X.K n t):=by
 intro pins s σ H v u Q I r hw
 obtain ⟨a,xs,e1,hq,hl,hw⟩:=hw
 subst e1
 cases r
 obtain ⟨its,rv,ht,hz⟩:=I.tuple hq
 refine assign_Tuple_tuple (I.ok.hd hc) ht (by simp [hn,<- hl,rv.length]) hst fun h' hx=>?_
 have I1:Inv X pins σ H { s with heap:=h' }:=I.kept (t':=s.toks) fun b o e=>hx b o (yAI (Heap.lt_size e)) e
 exact h pins _ σ H xs _ Q I1 (by simpa using rv) hw
noncomputable def gSub (to ti:TE) (t:TSet):TG:=fun v σ H Q=>to σ H fun o H1=>ti σ H1 fun i H2=>t o i v H2 fun H3=>Q σ H3
theorem pg_sub {o i:Expr} {to ti:TE} {t:TSet} (ho:PE X o to) (hi:PE X i ti) (hs:PSet X t)
  (ha:∀ v,assign (.Subscript o i pos) X.env v=(do
   let ov <- holding [v] (eval o X.env)
   let iv <- holding [v,ov] (eval i X.env)
   standAt pos
   holding [v,ov,iv] (setItem ov iv v)
   release [v,ov,iv] []):=by intro _;rfl):PG X (.Subscript o i pos) (gSub to ti t):=by
 intro pins s σ H v u Q I r h
 rw [ha]
 refine wpAny_bind (wpAny_holding (thn (ho pins s σ H _ I h) fun ov s1 zz=>?_))
 obtain ⟨x,H1,I1,r1,q1⟩:=zz
 refine wpAny_bind (wpAny_holding (thn (hi pins s1 σ H1 _ I1 q1) fun iv s2 zz=>?_))
 obtain ⟨y,H2,I2,r2,q2⟩:=zz
 refine wpAny_bind (wpAny_standAt (wpAny_bind (wpAny_holding (thn (hs pins s2 σ H2 x y v ov iv u _ I2 r1 r2 r q2) fun _ s3 ⟨H3,I3,q3⟩=>?_))))
 exact wpAny_release ⟨σ,H3,I3,q3⟩
noncomputable def tAsg (te:TE) (g:TG):TS:=fun D σ H=>te σ H fun x H1=>g x σ H1 D.nx
theorem ZEG {tg e:Expr} {te:TE} {g:TG} (he:PE X e te) (hg:PG X tg g) (hs:swapsWithSole [tg] e pos.line X.env=pure false:=by rfl) (hw:swappedStores [tg] e X.env=pure none:=by rfl)
  (h1:(assignEach [tg] X.env).map (·.2)=[assign tg X.env]:=by rfl):PS X (.Assign [tg] e pos) (tAsg te g):=by
 intro pins s σ H D I h
 refine wpAny_Assign_stores (thn (he pins s σ H _ I h) fun v s1 zz=>?_) hs hw
 obtain ⟨x,H1,I1,r1,q1⟩:=zz
 rw [h1]
 exact thn (hg pins s1 σ H1 x v _ I1 r1 q1) fun _ s2 q=>q
theorem ZAW {i:Nat} {x:Str} {e:Expr} {te:TE} {pos':Pos} (hN:X.N.Nodup) (hi:X.N[i]?=some x) (hx:Loc X.env.scope x) (he:PE X e te) (hs:swapsWith e (some (.Name x pos')) pos.line X.env=pure false:=by rfl) (hf:X.fn x=true∨X.env.scope.names.lookup x=some .local:=by first | exact .inl rfl | exact .inr rfl | assumption) :
  PS X (.Assign [.Name x pos'] e pos) (tAsg te (ZEs i)):=by
 intro pins s σ H D I h
 refine wpAny_Assign_Name (thn (he pins s σ H _ I h) fun v s1 zz=>?_) hs
 obtain ⟨y,H1,I1,r1,q1⟩:=zz
 exact ZCp I1 hN hi hx r1 (fun s2 I2=>⟨_,H1,I2,q1⟩) hf
noncomputable def tAug (i:Nat) (te:TE) (ti:TIp):TS:=fun D σ H=>∃ x,σ[i]?=some (some x) /\ te σ H fun y H1=>ti x y H1 fun z H2=>D.nx (σ.set i (some z)) H2
noncomputable def ipI (f:Int->Int->Int):TIp:=fun x y H Q=>∃ i j,x=.int i /\ y=.int j /\ Q (.int (f i j)) H
end
section
variable {X:Cx} {pos:Pos}
end
structure It where
 go:Nat->Hp->Prop
 yld:Nat->Hp->V->Hp->Prop
 stop:Nat->Hp->Prop
noncomputable def FpOk (X:Cx) (pins:List (Addr×Obj)) (H:Hp) (b:Addr):Prop :=
 H b=none /\ b≠X.env.locals /\ b∉X.fs /\ (b∈X.ex∨X.s₀.heap.objs.size <= b) /\ (∀ x c,X.env.cells.lookup x=some c->c≠b) /\ ∀ p∈X.pn++pins,p.1≠b
theorem Inv.fpOk {X:Cx} {pins:List (Addr×Obj)} {σ:St} {H H':Hp} {s:Shared} {b:Addr} (I:Inv X pins σ H s) (hb:s.heap.objs.size <= b) (hn:H' b=none):FpOk X pins H' b:=by
 refine ⟨hn,Nat.ne_of_gt (yAO I.lt hb),I.nofs hb,.inr (yAF I.sz hb),fun x c e z=>?_,fun p hp z=>?_⟩
 .obtain ⟨v,q⟩:=I.cell x c e
  exact absurd (yAO q.lt (by rw [z];exact hb)) (yBN _)
 .exact absurd (yAO (Heap.lt_size (I.pin p hp).1) (by rw [z];exact hb)) (yBN _)
structure Turn (P:Program) (w:World) (K:W.Frag) (tg:Expr) (J:It) (fp:List Addr) (it:Addr) (tn:Nat->Heap->Prop):Prop where
 mem:it∈fp
 obj:∀ i h,tn i h->∀ b∈fp,∃ o,h.get? b=some o /\ ∀ v,o.data≠.cell v
 keep:∀ i h h',tn i h->(∀ b∈fp,∀ o,h.get? b=some o->h'.get? b=some o)->tn i h'
 item:∀ (X:Cx),X.prog=P->X.w=w->X.K=K->X.calm=true->∀ (i:Nat) (pins:List (Addr×Obj)) (s:Shared) (σ:St) (H:Hp) (E:Value->Shared->Prop),Inv X pins σ H s->(∀ b∈fp,FpOk X pins H b)->tn i s.heap->J.go i H ->
  wpAny (model P w) X.A (pyNext (.ref it)) (fun r s1=>∃ u,r=some u /\
   wpAny (model P w) X.A (letOwnedTupleGo tg (.ref it) u) (fun _ s2=>∃ x H',Inv X pins σ H' s2 /\ RelV x u /\ J.yld i H x H' /\ tn (i+1) s2.heap /\ ∀ b∈fp,H' b=none) E s1) E s
 done:∀ (X:Cx),X.prog=P->X.w=w->X.K=K->X.calm=true->∀ (i:Nat) (pins:List (Addr×Obj)) (s:Shared) (σ:St) (H:Hp) (E:Value->Shared->Prop),Inv X pins σ H s->(∀ b∈fp,FpOk X pins H b)->tn i s.heap->J.stop i H ->
  wpAny (model P w) X.A (pyNext (.ref it)) (fun r s1=>r=none /\ Inv X pins σ H s1) E s
 self:∀ (A:Around) (i:Nat) (s:Shared) (Q:Value->Shared->Prop) (E:Value->Shared->Prop),tn i s.heap->Q (.ref it) s->wpAny (model P w) A (pyIter (.ref it)) Q E s
noncomputable abbrev TI:=St->Hp->(It->Hp->Prop)->Prop
noncomputable def PIE (X:Cx) (pins:List (Addr×Obj)) (σ:St) (tg:Expr) (R:It->Hp->Prop) (itv:Value) (s2:Shared):Prop :=
 ∃ (it:Addr) (fp:List Addr) (tn:Nat->Heap->Prop) (J:It) (H':Hp),itv=.ref it /\ Inv X pins σ H' s2 /\ Turn X.prog X.w X.K tg J fp it tn /\ tn 0 s2.heap /\ (∀ b∈fp,FpOk X pins H' b) /\ R J H'
noncomputable def PI (X:Cx) (tg iter:Expr) (wi:TI):Prop :=
 ∀ (pins:List (Addr×Obj)) (s:Shared) (σ:St) (H:Hp) (R:It->Hp->Prop),Inv X pins σ H s->wi σ H R ->
  wpAny (model X.prog X.w) X.A (eval iter X.env) (fun v s1=>wpAny (model X.prog X.w) X.A (pyIter v) (PIE X pins σ tg R) X.xe s1) X.xe s
theorem go_of {M:Model} {A:Around} {E:Value->Shared->Prop} {s:Shared} {tg:Expr} {it:Addr} {u:Value} {o:Obj} {n:String} {vs:Array Value} {Q:Unit->Shared->Prop} (ho:s.heap.get? it=some o) (hc:o.cls=.type n) (hd:o.data=.fields vs)
  (hn:["enumerate","zip","dict_itemiterator","dict_reverseitemiterator","odict_iterator","itertools.zip_longest","itertools.pairwise"].contains n=false) (hQ:Q () s):wpAny M A (letOwnedTupleGo tg (.ref it) u) Q E s:=by
 unfold letOwnedTupleGo
 cases tg <;> first
  | exact wpAny_pure hQ
  | (cases u <;> first
    | exact wpAny_pure hQ
    | (refine wpAny_bind (wpAny_load ho ?_)
       rw [hc,hd]
       show wpAny M A (if (["enumerate","zip","dict_itemiterator","dict_reverseitemiterator","odict_iterator","itertools.zip_longest","itertools.pairwise"].contains n && vs[0]? == some (rawInt _))=true then _ else _) Q E s
       rw [if_neg (by intro h;rw [hn,Bool.false_and] at h;cases h)]
       exact wpAny_pure hQ))
noncomputable def Itl (K:W.Frag) (a:Addr):It :=
 ⟨fun i H=>∃ xs x,SqL K H a xs /\ xs[i]?=some x,fun i H x H'=>H'=H /\ ∀ xs,SqL K H a xs->xs[i]?=some x,fun i H=>∃ xs,SqL K H a xs /\ xs.length <= i⟩
noncomputable def Itr (lo:Int) (n:Nat):It:=⟨fun i _=>i < n,fun i H x H'=>H'=H /\ x=.int (lo+i),fun i _=>n <= i⟩
theorem turn_list {P:Program} {w:World} {K:W.Frag} {tg:Expr} (a it:Addr):Turn P w K tg (Itl K a) [it] it (fun i h=>h.IsListIter it a i) where
 mem:=by simp
 obj:=fun i h st b hb=>by
  have e:b=it:=by simpa using hb
  subst e
  obtain ⟨o,e,c,d⟩:=st
  exact ⟨o,e,fun v z=>by rw [d] at z;cases z⟩
 keep:=fun i h h' st k=>st.at fun o e=>k it (by simp) o e
 item:=by
  intro X hP hw hK hc i pins s σ H E I hf st hg
  subst hP hw hK
  obtain ⟨xs,x,hq,hx⟩:=hg
  obtain ⟨its,rv,p,hz⟩:=I.list hq
  obtain ⟨u,hu,ru⟩:=rv.get hx
  obtain ⟨f0,f1,f2,f3,f4,f5⟩:=hf it (by simp)
  refine wpAny_pyNext_list_item st p.isList (x:=u) (by simpa using hu) fun h' st' sb=>?_
  have I1:Inv X pins σ H { s with heap:=h' }:=I.turned (t':=s.toks) (fun b o hb e=>(sb.2 b hb).trans e) f0 f1 f3 f4 f5
  obtain ⟨o,e,c,d⟩:=id st'
  exact ⟨u,rfl,go_of (s:={ s with heap:=h' }) e c d (by decide) ⟨x,H,I1,ru,⟨rfl,fun ys hy=>by rw [I.list_inj hy hq];exact hx⟩,st',fun b hb=>(hf b hb).1⟩⟩
 done:=by
  intro X hP hw hK hc i pins s σ H E I hf st hg
  subst hP hw hK
  obtain ⟨xs,hq,hx⟩:=hg
  obtain ⟨its,rv,p,hz⟩:=I.list hq
  obtain ⟨f0,f1,f2,f3,f4,f5⟩:=hf it (by simp)
  have hl:=rv.length
  exact wpAny_pyNext_list_end (I.ok.hd hc) st p.isList (by simp;omega) fun h' eb=>⟨rfl,I.turned (t':=s.toks) (fun b o hb e=>eb b o hb e) f0 f1 f3 f4 f5⟩
 self:=fun _ _ _ _ _ st h=>wpAny_pyIter_listiter st h
theorem turn_range {P:Program} {w:World} {K:W.Frag} {tg:Expr} (it:Addr) (lo:Int) (n:Nat):Turn P w K tg (Itr lo n) [it] it (fun i h=>IsRangeIter h it (lo+(i:Nat) * 1) ((n:Int)-(i:Nat)) 1) where
 mem:=by simp
 obj:=fun i h st b hb=>by
  have e:b=it:=by simpa using hb
  subst e
  exact ⟨_,st,fun v z=>by
   have z':Data.fields _=Data.cell v:=z
   cases z'⟩
 keep:=fun i h h' st k=>k it (by simp) _ st
 item:=by
  intro X hP hw hK hc i pins s σ H E I hf st hg
  subst hP hw hK
  obtain ⟨f0,f1,f2,f3,f4,f5⟩:=hf it (by simp)
  have W:=Walks.range (prog:=X.prog) (w:=X.w) (I.ok.hd hc) it lo 1 n
  refine W.item i s _ _ hg st fun v h' tk hv st' kk=>?_
  obtain ⟨t,rfl⟩:=hv
  have I1:Inv X pins σ H { s with heap:=h',toks:=tk }:=I.turned (fun b o hb e=>kk b o (by simpa using hb) e) f0 f1 f3 f4 f5
  refine ⟨_,rfl,go_of (s:={ s with heap:=h',toks:=tk }) (n:="range_iterator") st' rfl rfl (by decide) ⟨.int (lo+i),H,I1,⟨t,?_⟩,⟨rfl,rfl⟩,st',fun b hb=>(hf b hb).1⟩⟩
  rw [Int.mul_one]
 done:=by
  intro X hP hw hK hc i pins s σ H E I hf st hg
  subst hP hw hK
  obtain ⟨f0,f1,f2,f3,f4,f5⟩:=hf it (by simp)
  exact wpAny_pyNext_range_end (I.ok.hd hc) st (by have:n <= i:=hg;omega) fun h' eb=>⟨rfl,I.turned (t':=s.toks) (fun b o hb e=>eb b o hb e) f0 f1 f3 f4 f5⟩
 self:=fun _ _ _ _ _ st h=>wpAny_pyIter_rangeiter st h
section
variable {X:Cx} {tg:Expr}
noncomputable def ZFP (K:W.Frag) (tl:TE):TI:=fun σ H R=>tl σ H fun x H1=>∃ a,x=.ref a /\ (∃ xs,SqL K H1 a xs) /\ R (Itl K a) H1
theorem ZCm {l:Expr} {tl:TE} (hl:PE X l tl):PI X tg l (ZFP X.K tl):=by
 intro pins s σ H R I h
 refine thn (hl pins s σ H _ I h) fun v s1 zz=>?_
 obtain ⟨x,H1,I1,r1,q1⟩:=zz
 obtain ⟨a,e,⟨xs,hq⟩,q⟩:=q1
 subst e
 cases r1
 obtain ⟨its,rv,p,hz⟩:=I1.list hq
 refine wpAny_pyIter_list p.isList ?_
 refine ⟨s1.heap.objs.size,[s1.heap.objs.size],_,_,H1,rfl,I1.kept (t':=s1.toks) fun b o e=>Heap.get?_push_of_some _ e,turn_list a _,⟨_,Heap.get?_push_size _ rfl,rfl,rfl⟩,fun b hb=>?_,q⟩
 have e:b=s1.heap.objs.size:=by simpa using hb
 subst e
 exact I1.fpOk (yAA _) (I1.hok.fresh (yAA _))
theorem range_it {pins:List (Addr×Obj)} {σ:St} {H:Hp} {s:Shared} {R:It->Hp->Prop} {E:Value->Shared->Prop} {lo hi:Int} {t u v:Tok} {tk:Nat} (I:Inv X pins σ H s) (h1:-(2 ^ 62) <= lo) (h2:lo < 2 ^ 62) (h3:-(2 ^ 62) <= hi) (h4:hi < 2 ^ 62)
  (q:R (Itr lo (hi-lo).toNat) H):wpAny (model X.prog X.w) X.A (pyIter (.ref s.heap.objs.size)) (PIE X pins σ tg R) E { s with heap:=s.heap.push { cls:=.type "range",data:=.fields #[.int lo t,.int hi u,.int 1 v] },toks:=tk }:=by
 refine wpAny_pyIter_range (IsRange.new ..) (small_one h1 h2 h3 h4) ?_
 have I1:Inv X pins σ H { s with heap:=s.heap.push { cls:=.type "range",data:=.fields #[.int lo t,.int hi u,.int 1 v] },toks:=tk }:=I.kept fun b o e=>Heap.get?_push_of_some _ e
 refine ⟨(s.heap.push { cls:=.type "range",data:=.fields #[.int lo t,.int hi u,.int 1 v] }).objs.size,[(s.heap.push { cls:=.type "range",data:=.fields #[.int lo t,.int hi u,.int 1 v] }).objs.size],_,_,H,rfl,
  I1.kept (t':=tk) fun b o e=>Heap.get?_push_of_some _ e,turn_range _ lo (hi-lo).toNat,?_,fun b hb=>?_,q⟩
 .have e1:lo+((0:Nat):Int) * 1=lo:=by simp
  have e2:(((hi-lo).toNat:Nat):Int)-((0:Nat):Int)=Builtin.Range.rangeSize lo hi 1:=by rw [rangeSize_one];split <;> omega
  show IsRangeIter _ _ (lo+((0:Nat):Int) * 1) ((((hi-lo).toNat:Nat):Int)-((0:Nat):Int)) 1
  rw [e1,e2]
  exact Heap.get?_push_size _ rfl
 .have e:b=(s.heap.push { cls:=.type "range",data:=.fields #[.int lo t,.int hi u,.int 1 v] }).objs.size:=by simpa using hb
  subst e
  exact I1.fpOk (yAA _) (I1.hok.fresh (yAA _))
noncomputable def ZFO (ta:TA):TI:=fun σ H R=>ta σ H fun vs H1=>∃ j:Int,vs=[.int j] /\ -(2 ^ 62) <= j /\ j < 2 ^ 62 /\ R (Itr 0 j.toNat) H1
noncomputable def iRng2 (ta:TA):TI:=fun σ H R=>ta σ H fun vs H1=>∃ i j:Int,vs=[.int i,.int j] /\ (-(2 ^ 62) <= i /\ i < 2 ^ 62 /\ -(2 ^ 62) <= j /\ j < 2 ^ 62) /\ R (Itr i (j-i).toNat) H1
theorem ZBU {a:Expr} {ta:TA} {p pos:Pos} (hg:Gl X "range") (hm:X.mg "range"=none) (ha:PA X [a] ta) (hs:starEach [a] X.env=[(false,eval a X.env)]:=by rfl):PI X tg (.Call (.Name "range" p) [a] [] pos) (ZFO ta):=by
 intro pins s σ H R I h
 refine Call_ (ZDo I hg hm boot_range (PyProof.Rows.callWith_type1 (thn (ha pos pins s σ H _ I h) fun us s1 zz=>?_) hs rfl))
 obtain ⟨vs,H1,I1,r1,q1⟩:=zz
 obtain ⟨j,e,q1,q2,q⟩:=q1
 subst e
 cases r1 with
 | cons r rr=>
  cases rr
  obtain ⟨t,rfl⟩:=r
  exact call_range_1 (range_it I1 (by omega) (by omega) q1 q2 (by simpa using q))
noncomputable def tFor (wi:TI) (g:TG) (tb:TS):TS:=fun D σ H=>wi σ H fun J H1=>∃ W:Nat->Nat->St->Hp->Prop,(∃ m,W 0 m σ H1) /\ ∀ i m σ H,W i m σ H ->
 (J.stop i H /\ D.nx σ H)∨(J.go i H /\ ∃ N:St->Hp->Prop,(∀ σ' H',N σ' H'->∃ m',m' < m /\ W (i+1) m' σ' H') /\ ∀ x H',J.yld i H x H'->g x σ H' fun σ2 H2=>tb { D with nx:=N,ct:=N,bk:=D.nx } σ2 H2)
noncomputable def ZDG (fp:List Addr) (h:Heap):List (Addr×Obj):=fp.filterMap fun b=>(h.get? b).map fun o=>(b,o)
theorem ZBR {fp:List Addr} {h:Heap} {b:Addr} {o:Obj} (hb:b∈fp) (e:h.get? b=some o):(b,o)∈ZDG fp h:=List.mem_filterMap.mpr ⟨b,hb,by rw [e];rfl⟩
theorem of_pinsAt {fp:List Addr} {h:Heap} {p:Addr×Obj} (hp:p∈ZDG fp h):p.1∈fp /\ h.get? p.1=some p.2:=by
 obtain ⟨b,hb,e⟩:=List.mem_filterMap.mp hp
 cases q:h.get? b with
 | none=>rw [q] at e;cases e
 | some o=>
  rw [q] at e
  have e':(b,o)=p:=Option.some.inj e
  subst e'
  exact ⟨hb,q⟩
theorem Inv.pinned {pins:List (Addr×Obj)} {σ:St} {H:Hp} {s:Shared} {fp:List Addr} (I:Inv X pins σ H s) (hf:∀ b∈fp,FpOk X pins H b) (ho:∀ b∈fp,∃ o,s.heap.get? b=some o /\ ∀ v,o.data≠.cell v):Inv X (pins++ZDG fp s.heap) σ H s :=
 I.pins_of fun p hp=>(yAX.mp hp).elim (fun z=>I.pin p (yAQ _ z)) fun z=>by
  obtain ⟨hb,e⟩:=of_pinsAt z
  obtain ⟨f0,f1,f2,_⟩:=hf p.1 hb
  obtain ⟨o,e',d⟩:=ho p.1 hb
  rw [e] at e';cases e'
  exact ⟨e,f0,f1,f2,d⟩
theorem Inv.unpinned {pins pl:List (Addr×Obj)} {σ:St} {H:Hp} {s:Shared} (I:Inv X (pins++pl) σ H s):Inv X pins σ H s:=I.pins_of fun p hp=>I.pin p (yAQ _ (yBU _ hp))
theorem ZDj {iter:Expr} {body:List Stmt} {wi:TI} {g:TG} {tb:TS} {pos:Pos} (hp:PassesOwn (model X.prog X.w) X.A X.env X.xe) (hc:X.calm=true) (hi:PI X tg iter wi) (hg:PG X tg g) (hb:PSs X body tb)
  (hs:∀ x,foldedSetIterable iter X.env x=pure x:=by intro _;rfl):PS X (.For tg iter body [] pos) (tFor wi g tb):=by
 intro pins s σ H D I h
 refine wpAny_For (thn (hi pins s σ H _ I h) fun v s1 h1=>thn h1 fun itv s2 h2=>?_) hs
 obtain ⟨it,fp,tn,J,H2,e,I2,T,st2,f2,W,⟨m0,w0⟩,turn⟩:=h2
 subst e
 have stat:∀ {H':Hp},(∀ b∈fp,H' b=none)->∀ b∈fp,FpOk X pins H' b:=fun hn b hb=>⟨hn b hb,(f2 b hb).2⟩
 refine codeAny_forLoop_any (fun n s'=>∃ i σ' H',Inv X pins σ' H' s' /\ tn i s'.heap /\ (∀ b∈fp,H' b=none) /\ W i n σ' H') ?_ m0 ⟨0,σ,H2,I2,st2,fun b hb=>(f2 b hb).1,w0⟩
 rintro n s3 ⟨i,σ3,H3,I3,st3,fr3,w3⟩
 rcases turn i n σ3 H3 w3 with ⟨stop,qn⟩ | ⟨go,N,hN,step⟩
 .refine wpAny_passesOwn hp (thn (T.done X rfl rfl rfl hc i pins s3 σ3 H3 X.xe I3 (stat fr3) st3 stop) fun r s4 ⟨hr,I4⟩=>?_)
  subst hr
  exact wpAny_execs_nil ⟨σ3,H3,I4,qn⟩
 .refine wpAny_passesOwn hp (thn (T.item X rfl rfl rfl hc i pins s3 σ3 H3 X.xe I3 (stat fr3) st3 go) fun r s4 ⟨u,hr,h4⟩=>?_)
  subst hr
  refine wpAny_passesOwn hp (thn h4 fun _ s5 zz=>?_)
  obtain ⟨x,H5,I5,r5,y5,st5,fr5⟩:=zz
  have I5':=I5.pinned (stat fr5) (T.obj _ _ st5)
  refine wpAny_passesOwn hp (thn (hg _ s5 σ3 H5 x u _ I5' r5 (step x H5 y5)) fun _ s6 zz=>?_)
  obtain ⟨σ6,H6,I6,q6⟩:=zz
  refine wpAny_passesOwn hp (thn (hb _ s6 σ6 H6 _ I6 q6) fun f s7 q7=>?_)
  have again:∀ {σ7:St} {H7:Hp},Inv X (pins++ZDG fp s5.heap) σ7 H7 s7->N σ7 H7->∃ m,m < n /\ ∃ i σ' H',Inv X pins σ' H' s7 /\ tn i s7.heap /\ (∀ b∈fp,H' b=none) /\ W i m σ' H':=fun {σ7 H7} I7 n7=>by
   obtain ⟨m',hm,w7⟩:=hN σ7 H7 n7
   refine ⟨m',hm,i+1,σ7,H7,I7.unpinned,T.keep _ _ _ st5 fun b hb o e=>(I7.pin (b,o) (yAQ _ (yAQ _ (ZBR hb e)))).1,fun b hb=>?_,w7⟩
   obtain ⟨o,e,d⟩:=T.obj _ _ st5 b hb
   exact (I7.pin (b,o) (yAQ _ (yAQ _ (ZBR hb e)))).2.1
  cases f with
  | next=>obtain ⟨σ7,H7,I7,n7⟩:=q7;exact again I7 n7
  | cont=>obtain ⟨σ7,H7,I7,n7⟩:=q7;exact again I7 n7
  | brk=>obtain ⟨σ7,H7,I7,q7⟩:=q7;exact ⟨σ7,H7,I7.unpinned,q7⟩
  | ret v=>obtain ⟨x7,σ7,H7,I7,r7,q7⟩:=q7;exact ⟨x7,σ7,H7,I7.unpinned,r7,q7⟩
end
theorem for_list {K:W.Frag} {a:Addr} {xs:List V} {g:TG} {tb:TS} {D:Ends} {σ:St} {H:Hp} (Pv:Nat->St->Hp->Prop) (h0:Pv 0 σ H) (hl:∀ i σ H,i <= xs.length->Pv i σ H->SqL K H a xs)
  (hs:∀ i x σ H,xs[i]?=some x->Pv i σ H->g x σ H fun σ2 H2=>tb { D with nx:=Pv (i+1),ct:=Pv (i+1),bk:=D.nx } σ2 H2) (hd:∀ σ H,Pv xs.length σ H->D.nx σ H) :
  ∃ W:Nat->Nat->St->Hp->Prop,(∃ m,W 0 m σ H) /\ ∀ i m σ H,W i m σ H ->
   ((Itl K a).stop i H /\ D.nx σ H)∨((Itl K a).go i H /\ ∃ N:St->Hp->Prop,(∀ σ' H',N σ' H'->∃ m',m' < m /\ W (i+1) m' σ' H') /\ ∀ x H',(Itl K a).yld i H x H'->g x σ H' fun σ2 H2=>tb { D with nx:=N,ct:=N,bk:=D.nx } σ2 H2):=by
 refine ⟨fun i m σ H=>m=xs.length-i /\ i <= xs.length /\ Pv i σ H,⟨xs.length,by simp,yAG _,h0⟩,?_⟩
 rintro i m σ H ⟨rfl,hi,p⟩
 have q:=hl i σ H hi p
 by_cases hlt:i < xs.length
 .refine .inr ⟨⟨xs,xs[i],q,by simp [hlt]⟩,Pv (i+1),fun σ' H' p'=>⟨xs.length-(i+1),by omega,rfl,hlt,p'⟩,fun x H' y=>?_⟩
  obtain ⟨e,y⟩:=y
  subst e
  exact hs i x σ _ (y xs q) p
 .have e:i=xs.length:=by omega
  subst e
  exact .inl ⟨⟨xs,q,yAA _⟩,hd σ H p⟩
theorem for_range {lo:Int} {n:Nat} {g:TG} {tb:TS} {D:Ends} {σ:St} {H:Hp} (Pv:Nat->St->Hp->Prop) (h0:Pv 0 σ H)
  (hs:∀ i σ H,i < n->Pv i σ H->g (.int (lo+i)) σ H fun σ2 H2=>tb { D with nx:=Pv (i+1),ct:=Pv (i+1),bk:=D.nx } σ2 H2) (hd:∀ σ H,Pv n σ H->D.nx σ H) :
  ∃ W:Nat->Nat->St->Hp->Prop,(∃ m,W 0 m σ H) /\ ∀ i m σ H,W i m σ H ->
   ((Itr lo n).stop i H /\ D.nx σ H)∨((Itr lo n).go i H /\ ∃ N:St->Hp->Prop,(∀ σ' H',N σ' H'->∃ m',m' < m /\ W (i+1) m' σ' H') /\ ∀ x H',(Itr lo n).yld i H x H'->g x σ H' fun σ2 H2=>tb { D with nx:=N,ct:=N,bk:=D.nx } σ2 H2):=by
 refine ⟨fun i m σ H=>m=n-i /\ i <= n /\ Pv i σ H,⟨n,by simp,yAG _,h0⟩,?_⟩
 rintro i m σ H ⟨rfl,hi,p⟩
 by_cases hlt:i < n
 .refine .inr ⟨hlt,Pv (i+1),fun σ' H' p'=>⟨n-(i+1),by omega,rfl,hlt,p'⟩,fun x H' y=>?_⟩
  obtain ⟨e,y⟩:=y
  subst e y
  exact hs i σ _ hlt p
 .have e:i=n:=by omega
  subst e
  exact .inl ⟨yAA _,hd σ H p⟩
noncomputable abbrev R2:=V->V->Hp->VK->Prop
noncomputable def OpR (X:Cx) (f:Value->Value->Sem Value) (r:R2):Prop :=
 ∀ (pins:List (Addr×Obj)) (s:Shared) (σ:St) (H:Hp) (x y:V) (v u:Value) (Q:VK),Inv X pins σ H s->RelV x v->RelV y u->r x y H Q ->
  wpAny (model X.prog X.w) X.A (f v u) (EP X pins σ Q) X.xe s
noncomputable def UnR (X:Cx) (f:Value->Sem Value) (r:V->Hp->VK->Prop):Prop :=
 ∀ (pins:List (Addr×Obj)) (s:Shared) (σ:St) (H:Hp) (x:V) (v:Value) (Q:VK),Inv X pins σ H s->RelV x v->r x H Q ->
  wpAny (model X.prog X.w) X.A (f v) (EP X pins σ Q) X.xe s
noncomputable def ZCX (X:Cx) (f:Value) (r:List V->Hp->VK->Prop):Prop :=
 ∀ (pins:List (Addr×Obj)) (s:Shared) (σ:St) (H:Hp) (xs:List V) (us:List Value) (Q:VK),Inv X pins σ H s->Vals xs us->r xs H Q ->
  wpAny (model X.prog X.w) X.A (call f us) (EP X pins σ Q) X.xe s
noncomputable def tOp (r:R2) (ta tb:TE):TE:=fun σ H Q=>ta σ H fun x H1=>tb σ H1 fun y H2=>r x y H2 Q
noncomputable def tUn (r:V->Hp->VK->Prop) (ta:TE):TE:=fun σ H Q=>ta σ H fun x H1=>r x H1 Q
noncomputable def rI (C:Int->Int->Prop) (g:Int->Int->V):R2:=fun x y H Q=>∃ i j,x=.int i /\ y=.int j /\ C i j /\ Q (g i j) H
noncomputable def rI0 (g:Int->Int->V):R2:=fun x y H Q=>∃ i j,x=.int i /\ y=.int j /\ Q (g i j) H
noncomputable def rU (g:Int->V):V->Hp->VK->Prop:=fun x H Q=>∃ i,x=.int i /\ Q (g i) H
section
variable {X:Cx} {a b c:Expr} {ta tb tc:TE} {pos:Pos}
theorem binT (ha:PE X a ta) (hb:PE X b tb) {pins:List (Addr×Obj)} {s:Shared} {σ:St} {H:Hp} {R:V->V->Hp->Prop} (I:Inv X pins σ H s)
  (h:ta σ H fun x H1=>tb σ H1 fun y H2=>R x y H2) {Q:Value->Shared->Prop} {f:Value->Value->Sem Value}
  (hf:∀ v u s2 x y H2,Inv X pins σ H2 s2->RelV x v->RelV y u->R x y H2->wpAny (model X.prog X.w) X.A (f v u) Q X.xe s2) :
  wpAny (model X.prog X.w) X.A (eval a X.env) (fun v s₁=>wpAny (model X.prog X.w) X.A (eval b X.env) (fun u s₂=>wpAny (model X.prog X.w) X.A (f v u) Q X.xe s₂) X.xe s₁) X.xe s:=by
 refine thn (ha pins s σ H _ I h) fun v s1 zz=>?_
 obtain ⟨x,H1,I1,r1,q1⟩:=zz
 refine thn (hb pins s1 σ H1 _ I1 q1) fun u s2 zz=>?_
 obtain ⟨y,H2,I2,r2,q2⟩:=zz
 exact hf v u s2 x y H2 I2 r1 r2 q2
theorem ZAa {op:Operator} {r:R2} (ho:OpR X (binaryOp op) r) (ha:PE X a ta) (hb:PE X b tb):PE X (.BinOp a op b pos) (tOp r ta tb):=by
 intro pins s σ H Q I h
 exact wpAny_BinOp (binT ha hb I h fun v u s2 x y H2 I2 rx ry q=>ho pins s2 σ H2 x y v u Q I2 rx ry q)
theorem pe_un {op:UnaryOp} {r:V->Hp->VK->Prop} (ho:UnR X (unaryOp op) r) (ha:PE X a ta):PE X (.UnaryOp op a pos) (tUn r ta):=by
 intro pins s σ H Q I h
 exact UnaryOp_ (thn (ha pins s σ H _ I h) fun v s1 ⟨x,H1,I1,r1,q1⟩=>ho pins s1 σ H1 x v Q I1 r1 q1)
theorem opI {f:Value->Value->Sem Value} {C:Int->Int->Prop} {g:Int->Int->Int}
  (rule:∀ (i j:Int) (t u:Tok) (s:Shared) (Q:Value->Shared->Prop) (E:Value->Shared->Prop),C i j->Q (.int (g i j) s.toks) { s with toks:=s.toks+1 }->wpAny (model X.prog X.w) X.A (f (.int i t) (.int j u)) Q E s) :
  OpR X f (rI C fun i j=>.int (g i j)):=by
 intro pins s σ H x y v u Q I rx ry h
 obtain ⟨i,j,rfl,rfl,hc,q⟩:=h
 obtain ⟨t,rfl⟩:=rx
 obtain ⟨t',rfl⟩:=ry
 exact rule i j t t' s _ _ hc ⟨.int (g i j),H,I.tok _,⟨_,rfl⟩,q⟩
theorem opI0 {f:Value->Value->Sem Value} {g:Int->Int->Int}
  (rule:∀ (i j:Int) (t u:Tok) (s:Shared) (Q:Value->Shared->Prop) (E:Value->Shared->Prop),Q (.int (g i j) s.toks) { s with toks:=s.toks+1 }->wpAny (model X.prog X.w) X.A (f (.int i t) (.int j u)) Q E s) :
  OpR X f (rI0 fun i j=>.int (g i j)):=by
 intro pins s σ H x y v u Q I rx ry h
 obtain ⟨i,j,rfl,rfl,q⟩:=h
 obtain ⟨t,rfl⟩:=rx
 obtain ⟨t',rfl⟩:=ry
 exact rule i j t t' s _ _ ⟨.int (g i j),H,I.tok _,⟨_,rfl⟩,q⟩
theorem opB0 {f:Value->Value->Sem Value} {g:Int->Int->Bool}
  (rule:∀ (i j:Int) (t u:Tok) (s:Shared) (Q:Value->Shared->Prop) (E:Value->Shared->Prop),Q (.bool (g i j)) s->wpAny (model X.prog X.w) X.A (f (.int i t) (.int j u)) Q E s) :
  OpR X f (rI0 fun i j=>.bl (g i j)):=by
 intro pins s σ H x y v u Q I rx ry h
 obtain ⟨i,j,rfl,rfl,q⟩:=h
 obtain ⟨t,rfl⟩:=rx
 obtain ⟨t',rfl⟩:=ry
 exact rule i j t t' s _ _ ⟨.bl (g i j),H,I,rfl,q⟩
noncomputable def CDiv (i j:Int):Prop:=0 < j /\ j < 1073741824
noncomputable def CPow (i j:Int):Prop:=0 <= j /\ j <= 1000000 /\ i.natAbs < 2 ^ 64
noncomputable def CMul (i j:Int):Prop:=(-(2 ^ 64) < i /\ i < 2 ^ 64)∨(-(2 ^ 64) < j /\ j < 2 ^ 64)
theorem CMul.ok {i j:Int} (h:CMul i j):IntMulOk i j:=by
 rcases h with ⟨h1,h2⟩ | ⟨h1,h2⟩
 .exact .of_left (intBits_le_64 h1 h2)
 .exact .of_right (intBits_le_64 h1 h2)
theorem ZB7:OpR X (binaryOp .Add) (rI0 fun i j=>.int (i+j)):=opI0 fun _ _ _ _ _ _ _ q=>add_int q
theorem ZBc:OpR X (binaryOp .Sub) (rI0 fun i j=>.int (i-j)):=opI0 fun _ _ _ _ _ _ _ q=>sub_int q
theorem op_mul:OpR X (binaryOp .Mult) (rI CMul fun i j=>.int (i * j)):=opI fun _ _ _ _ _ _ _ hc q=>mul_int q hc.ok
theorem ZCA:OpR X (binaryOp .FloorDiv) (rI CDiv fun i j=>.int (i / j)):=opI fun i j _ _ _ _ _ hc q=>by
 have h1:(0:Int) < j:=hc.1
 have h2:j < 1073741824:=hc.2
 exact floordiv_int (by omega) (by rw [Int.fdiv_eq_ediv_of_nonneg i (by omega)];exact q) (.inl (PyProof.noPylong_small (by omega)))
theorem ZBt:OpR X (binaryOp .Mod) (rI (fun _ j=>0 < j) fun i j=>.int (i % j)):=opI fun i j _ _ _ _ _ hc q=>by
 have h1:(0:Int) < j:=hc
 exact mod_int' (by omega) (by rw [Int.fmod_eq_emod_of_nonneg i (by omega)];exact q)
theorem op_pow:OpR X (binaryOp .Pow) (rI CPow fun i j=>.int (i ^ j.toNat)):=opI fun _ _ _ _ _ _ _ hc q=>pow_int_small hc.1 hc.2.1 hc.2.2 q
theorem unI {f:Value->Sem Value} {g:Int->Int}
  (rule:∀ (i:Int) (t:Tok) (s:Shared) (Q:Value->Shared->Prop) (E:Value->Shared->Prop),Q (.int (g i) s.toks) { s with toks:=s.toks+1 }->wpAny (model X.prog X.w) X.A (f (.int i t)) Q E s) :
  UnR X f (rU fun i=>.int (g i)):=by
 intro pins s σ H x v Q I rx h
 obtain ⟨i,rfl,q⟩:=h
 obtain ⟨t,rfl⟩:=rx
 exact rule i t s _ _ ⟨.int (g i),H,I.tok _,⟨_,rfl⟩,q⟩
theorem un_neg:UnR X (unaryOp .USub) (rU fun i=>.int (-i)):=unI fun _ _ _ _ _ q=>neg_int q
end
noncomputable def scal:V->V->Bool
 | .non,.non=>true | .non,.int _=>true | .int _,.non=>true | .non,.bl _=>true | .bl _,.non=>true | .non,.str _=>true | .str _,.non=>true
 | .int _,.int _=>true | .bl _,.bl _=>true | .str _,.str _=>true | .byt _,.byt _=>true
 | .int _,.str _=>true | .str _,.int _=>true | .bl _,.str _=>true | .str _,.bl _=>true
 | _,_=>false
noncomputable def rEq:R2:=fun x y H Q=>scal x y=true /\ Q (.bl (decide (x=y))) H
noncomputable def rNe:R2:=fun x y H Q=>scal x y=true /\ Q (.bl (!decide (x=y))) H
theorem dec_int {i j:Int}:decide (V.int i=V.int j)=(i == j):=by
 rw [yCI]
 simp
theorem dec_bl {i j:Bool}:decide (V.bl i=V.bl j)=(i == j):=by
 rw [yCI]
 simp
theorem dec_str {i j:Str}:decide (V.str i=V.str j)=(i == j):=by
 rw [yCI]
 simp
theorem dec_byt {i j:Array UInt8}:decide (V.byt i=V.byt j)=(i.toList == j.toList):=by
 rw [yCI]
 cases i
 cases j
 simp
section
variable {X:Cx} {a b c:Expr} {ta tb tc:TE} {pos:Pos}
theorem ZAe {pins:List (Addr×Obj)} {σ:St} {H:Hp} {s:Shared} {Q:VK} {k k':Bool} (I:Inv X pins σ H s) (q:Q (.bl k) H) (e:k=k'):EP X pins σ Q (.bool k') s:=by
 subst e
 exact ⟨.bl k,H,I,rfl,q⟩
theorem ZDm:OpR X (compareOp .Eq) rEq:=by
 intro pins s σ H x y v u Q I rx ry h
 obtain ⟨hs,q⟩:=h
 cases x with
 | non=>
  cases rx
  cases y with
  | non=>cases ry;exact PySem.EqNone.eq_none_none (ZAe I q (by simp))
  | bl j=>cases ry;exact PySem.EqNone.eq_none_bool (ZAe I q (by simp))
  | int j=>obtain ⟨t',rfl⟩:=ry;exact PySem.EqNone.eq_none_int (ZAe I q (by simp))
  | str j=>obtain ⟨t',rfl⟩:=ry;exact PySem.EqNone.eq_none_str (ZAe I q (by simp))
  | _=>exact absurd (show false=true from hs) yAS
 | bl i=>
  cases rx
  cases y with
  | non=>cases ry;exact PySem.EqNone.eq_bool_none (ZAe I q (by simp))
  | bl j=>cases ry;exact eq_bool (ZAe I q dec_bl)
  | str j=>obtain ⟨t',rfl⟩:=ry;exact PySem.EqMixed.eq_bool_str (ZAe I q (by simp))
  | _=>exact absurd (show false=true from hs) yAS
 | int i=>
  obtain ⟨t,rfl⟩:=rx
  cases y with
  | non=>cases ry;exact PySem.EqNone.eq_int_none (ZAe I q (by simp))
  | int j=>obtain ⟨t',rfl⟩:=ry;exact eq_int (ZAe I q dec_int)
  | str j=>obtain ⟨t',rfl⟩:=ry;exact PySem.EqMixed.eq_int_str (ZAe I q (by simp))
  | _=>exact absurd (show false=true from hs) yAS
 | str i=>
  obtain ⟨t,rfl⟩:=rx
  cases y with
  | non=>cases ry;exact PySem.EqNone.eq_str_none (ZAe I q (by simp))
  | bl j=>cases ry;exact PySem.EqMixed.eq_str_bool (ZAe I q (by simp))
  | int j=>obtain ⟨t',rfl⟩:=ry;exact PySem.EqMixed.eq_str_int (ZAe I q (by simp))
  | str j=>obtain ⟨t',rfl⟩:=ry;exact eq_str (ZAe I q dec_str)
  | _=>exact absurd (show false=true from hs) yAS
 | byt i=>
  obtain ⟨t,rfl⟩:=rx
  cases y with
  | byt j=>obtain ⟨t',rfl⟩:=ry;exact PySem.W.eq_bytes (ZAe I q dec_byt)
  | _=>exact absurd (show false=true from hs) yAS
 | _=>cases y <;> exact absurd (show false=true from hs) yAS
theorem ZEo:OpR X (compareOp .NotEq) rNe:=by
 intro pins s σ H x y v u Q I rx ry h
 obtain ⟨hs,q⟩:=h
 cases x with
 | non=>
  cases rx
  cases y with
  | non=>cases ry;exact PySem.EqNone.ne_none_none (ZAe I q (by simp))
  | bl j=>cases ry;exact PySem.EqNone.ne_none_bool (ZAe I q (by simp))
  | int j=>obtain ⟨t',rfl⟩:=ry;exact PySem.EqNone.ne_none_int (ZAe I q (by simp))
  | str j=>obtain ⟨t',rfl⟩:=ry;exact PySem.EqNone.ne_none_str (ZAe I q (by simp))
  | _=>exact absurd (show false=true from hs) yAS
 | bl i=>
  cases rx
  cases y with
  | non=>cases ry;exact PySem.EqNone.ne_bool_none (ZAe I q (by simp))
  | bl j=>cases ry;exact ne_bool (ZAe I q (congrArg not dec_bl))
  | str j=>obtain ⟨t',rfl⟩:=ry;exact PySem.EqMixed.ne_bool_str (ZAe I q (by simp))
  | _=>exact absurd (show false=true from hs) yAS
 | int i=>
  obtain ⟨t,rfl⟩:=rx
  cases y with
  | non=>cases ry;exact PySem.EqNone.ne_int_none (ZAe I q (by simp))
  | int j=>obtain ⟨t',rfl⟩:=ry;exact ne_int (ZAe I q (congrArg not dec_int))
  | str j=>obtain ⟨t',rfl⟩:=ry;exact PySem.EqMixed.ne_int_str (ZAe I q (by simp))
  | _=>exact absurd (show false=true from hs) yAS
 | str i=>
  obtain ⟨t,rfl⟩:=rx
  cases y with
  | non=>cases ry;exact PySem.EqNone.ne_str_none (ZAe I q (by simp))
  | bl j=>cases ry;exact PySem.EqMixed.ne_str_bool (ZAe I q (by simp))
  | int j=>obtain ⟨t',rfl⟩:=ry;exact PySem.EqMixed.ne_str_int (ZAe I q (by simp))
  | str j=>obtain ⟨t',rfl⟩:=ry;exact ne_str (ZAe I q (congrArg not dec_str))
  | _=>exact absurd (show false=true from hs) yAS
 | byt i=>
  obtain ⟨t,rfl⟩:=rx
  cases y with
  | byt j=>obtain ⟨t',rfl⟩:=ry;exact PySem.W.ne_bytes (ZAe I q (congrArg not dec_byt))
  | _=>exact absurd (show false=true from hs) yAS
 | _=>cases y <;> exact absurd (show false=true from hs) yAS
theorem ZDl:OpR X (compareOp .Lt) (rI0 fun i j=>.bl (decide (i < j))):=opB0 fun _ _ _ _ _ _ _ q=>lt_int q
theorem op_le:OpR X (compareOp .LtE) (rI0 fun i j=>.bl (decide (i <= j))):=opB0 fun _ _ _ _ _ _ _ q=>le_int q
theorem op_gt:OpR X (compareOp .Gt) (rI0 fun i j=>.bl (decide (j < i))):=opB0 fun _ _ _ _ _ _ _ q=>gt_int q
theorem ZFN:OpR X (compareOp .GtE) (rI0 fun i j=>.bl (decide (j <= i))):=opB0 fun _ _ _ _ _ _ _ q=>ge_int q
theorem ZC0:OpR X (compareOp .Is) (fun x y H Q=>y=.non /\ Q (.bl (decide (x=.non))) H):=by
 intro pins s σ H x y v u Q I rx ry h
 obtain ⟨rfl,q⟩:=h
 cases ry
 refine is_none_gen (ZAe I q ?_)
 cases x <;> first
  | (cases rx;rfl)
  | (obtain ⟨t,rfl⟩:=rx;rfl)
theorem ZDU:OpR X (compareOp .IsNot) (fun x y H Q=>y=.non /\ Q (.bl (!decide (x=.non))) H):=by
 intro pins s σ H x y v u Q I rx ry h
 obtain ⟨rfl,q⟩:=h
 cases ry
 refine isnot_none_gen (ZAe I q ?_)
 cases x <;> first
  | (cases rx;rfl)
  | (obtain ⟨t,rfl⟩:=rx;rfl)
theorem ZAV (b:Expr) {op:CmpOp} (h:op≠.In:=by decide) (h2:op≠.NotIn:=by decide):behindInMarks op b=false:=by
 have e1:(op == CmpOp.In)=false:=by cases op <;> first | rfl | exact absurd rfl h
 have e2:(op == CmpOp.NotIn)=false:=by cases op <;> first | rfl | exact absurd rfl h2
 cases b <;> simp [behindInMarks,e1,e2]
theorem ZBh {op:CmpOp} {r:R2} (ho:OpR X (compareOp op) r) (ha:PE X a ta) (hb:PE X b tb) (hm:behindInMarks op b=false):PE X (.Compare a [op] [b] pos) (tOp r ta tb):=by
 intro pins s σ H Q I h
 exact wpAny_Compare1 (binT ha hb I h fun v u s2 x y H2 I2 rx ry q=>ho pins s2 σ H2 x y v u Q I2 rx ry q) hm
noncomputable def ZFA (t:TE):TT:=fun σ H Q=>t σ H fun x H'=>∃ k,x=.bl k /\ Q k H'
theorem ZAT {op:CmpOp} {r:R2} (ho:OpR X (compareOp op) r) (ha:PE X a ta) (hb:PE X b tb) (hm:behindInMarks op b=false):PT X (.Compare a [op] [b] pos) (ZFA (tOp r ta tb)):=by
 intro pins s σ H Q I h
 refine wpAny_isTrue_Compare1 (thn (ha pins s σ H _ I h) fun v s1 ⟨x,H1,I1,r1,q1⟩=>thn (hb pins s1 σ H1 _ I1 q1) fun u s2 ⟨y,H2,I2,r2,q2⟩=>
  thn (ho pins s2 σ H2 x y v u _ I2 r1 r2 q2) fun c s3 ⟨z,H3,I3,r3,k,e,q3⟩=>?_) hm
 subst e
 cases r3
 exact wpAny_truthy_bool ⟨H3,I3,q3⟩
noncomputable def tChain (r r':R2) (ta tb tc:TE):TE:=fun σ H Q=>ta σ H fun x H1=>tb σ H1 fun y H2=>r x y H2 fun z H3=>∃ k,z=.bl k /\
 (if k=true then tc σ H3 fun w' H4=>r' y w' H4 Q else Q (.bl false) H3)
theorem ZEJ:(sizeLine:Nat) < 2 ^ 63:=by rw [sizeLine_eq];decide
theorem ZEQ {x:V} {us:List Value} (r:Vals [x] us):∃ u,us=[u] /\ RelV x u:=by
 cases r with
 | cons r1 r2=>cases r2;exact ⟨_,rfl,r1⟩
theorem ZEX {x y:V} {us:List Value} (r:Vals [x,y] us):∃ u w',us=[u,w'] /\ RelV x u /\ RelV y w':=by
 cases r with
 | cons r1 r2=>
  cases r2 with
  | cons r3 r4=>cases r4;exact ⟨_,_,rfl,r1,r3⟩
theorem call_max2 (hc:X.calm=true):ZCX X (.builtin "max") (fun xs H Q=>∃ i j,xs=[.int i,.int j] /\ Q (.int (if j > i then j else i)) H):=by
 intro pins s σ H xs us Q I r h
 obtain ⟨i,j,rfl,q⟩:=h
 obtain ⟨u,w',rfl,⟨t,rfl⟩,⟨t',rfl⟩⟩:=ZEX r
 refine max_two_ints (I.ok.hd hc) fun h' tk k=>⟨_,H,I.kept k,?_,q⟩
 by_cases hj:j > i
 .rw [if_pos hj,if_pos hj];exact ⟨_,rfl⟩
 .rw [if_neg hj,if_neg hj];exact ⟨_,rfl⟩
theorem call_min2 (hc:X.calm=true):ZCX X (.builtin "min") (fun xs H Q=>∃ i j,xs=[.int i,.int j] /\ Q (.int (if j < i then j else i)) H):=by
 intro pins s σ H xs us Q I r h
 obtain ⟨i,j,rfl,q⟩:=h
 obtain ⟨u,w',rfl,⟨t,rfl⟩,⟨t',rfl⟩⟩:=ZEX r
 refine min_two_ints (I.ok.hd hc) fun h' tk k=>⟨_,H,I.kept k,?_,q⟩
 by_cases hj:j < i
 .rw [if_pos hj,if_pos hj];exact ⟨_,rfl⟩
 .rw [if_neg hj,if_neg hj];exact ⟨_,rfl⟩
end
structure ObjM (h:Heap) (x dx C:Addr) (mA:Str->Option Value):Prop where
 obj:h.get? x=some (PySem.W.instObj C dx)
 ns:h.Ns1 dx mA
 ne:dx≠x
theorem ZC2 {h:Heap} {dx:Addr} {mA:Str->Option Value} (n:h.Ns1 dx mA):∃ od,h.get? dx=some od /\ ∀ name,PySem.W.lookIn name od=some (mA name):=by
 obtain ⟨o,es,ep,ho,hd,hk,_,hm⟩:=n
 refine ⟨o,ho,fun name=>?_⟩
 have e:=hm name
 unfold nsFind findBy at e
 rw [<- Array.find?_toList] at e
 unfold PySem.W.lookIn
 rw [hd]
 dsimp only
 split
 .rename_i y q
  rw [q] at e
  exact congrArg some e
 .rename_i q
  rw [q] at e
  have a:es.toList.any (·.refKey)=false:=by
   rw [List.any_eq_false]
   intro y hy
   obtain ⟨z,t,hkey⟩:=hk y (Array.mem_toList_iff.mp hy)
   simp [DictEntry.refKey,hkey]
  have a':¬ es.toList.any (·.refKey)=true:=by rw [a];exact yAS
  rw [if_neg a']
  exact congrArg some e
theorem ObjM.look {h:Heap} {x dx C:Addr} {mA:Str->Option Value} (I:ObjM h x dx C mA):∃ od,PySem.W.InstAt h x (PySem.W.instObj C dx) C (some od) /\ ∀ name,PySem.W.lookIn name od=some (mA name) :=
 let ⟨od,ho,hl⟩:=ZC2 I.ns
 ⟨od,⟨I.obj,rfl,rfl,ho⟩,hl⟩
section
variable {prog:Program} {w:World} {A:Around} {E:Value->Shared->Prop} {s:Shared} {K:W.Frag} {x dx C f:Addr} {mA:Str->Option Value} {name:Str} {v:Value}
theorem get_map {expr:Bool} {Q:Value->Shared->Prop} (X:K.In s.heap) (I:ObjM s.heap x dx C mA) (hg:PySem.W.plainGet K C name=true) (hh:PySem.W.hasDictIn K C=true)
  (ha:W.findIn K (.ref C) name=some none) (hv:mA name=some v) (hv':PySem.W.handedIn v=true) (h:Q v { s with toks:=s.toks+1 }) :
  wpAny (model prog w) A (getAttr (.ref x) name expr) Q E s:=by
 obtain ⟨od,J,hl⟩:=I.look
 exact PySem.W.get_value X J (PySem.W.plainGet_of hg).1 (PySem.W.findObj_own hh ha rfl (by rw [hl,hv])) hv' h
theorem get_meth {pl:Sem Bool} {Q:Value×List Value->Shared->Prop} (X:K.In s.heap) (I:ObjM s.heap x dx C mA) (hg:PySem.W.plainGet K C name=true)
  (hf:W.findIn K (.ref C) name=some (some (.ref f))) (ht:PySem.W.isFn K (.ref f)=true) (hv:mA name=none) (h:Q (.ref f,[.ref x]) s) :
  wpAny (model prog w) A (getMethod (.ref x) name pl) Q E s:=by
 obtain ⟨od,J,hl⟩:=I.look
 exact PySem.W.method_fn X J (PySem.W.plainGet_of hg).1 (PySem.W.plainGet_of hg).2 hf (beq_iff_eq.mp ht) (by show (PySem.W.lookIn name od).map (·.isSome)=some false;rw [hl,hv];rfl) h
theorem set_map {ns:List Str} {Q:Unit->Shared->Prop} (X:K.In s.heap) (I:ObjM s.heap x dx C mA)
  (hs:W.findIn K (.ref C) "__setattr__"=some (some (.builtin "object.__setattr__"))) (hp:PySem.W.plainOver K C=true) (ht:PySem.W.takerIn K C name=some none) (hh:PySem.W.hasDictIn K C=true)
  (hw:PySem.Within mA ns) (hsz:ns.length <= sizeLine)
  (h:∀ h',ObjM h' x dx C (fun y=>if y=name then some v else mA y)->Heap.SameBut dx s.heap h'->Q () { s with heap:=h',toks:=s.toks+2 }) :
  wpAny (model prog w) A (setAttr (.ref x) name v) Q E s:=by
 obtain ⟨od,J,hl⟩:=I.look
 refine PySem.W.set_plain X J hs (PySem.W.osa_open (s:={ s with toks:=s.toks+1 }) (r:=none) X J hp ht fun b=>?_)
 obtain ⟨cd,hc,hd'⟩:=PySem.W.any_some hh
 have hx:s.heap.get? x=some ⟨.ref C,some dx,.plain,#[]⟩:=I.obj
 refine wpAny_bind (wpAny_pure (wpAny_bind (wpAny_bind (wpAny_loadPart hx (wpAny_bind (PySem.W.Looks.here (s:={ s with toks:=s.toks+1 }) (PySem.W.looks_clsIn X hc) ?_))))))
 rw [hd']
 refine wpAny_pure (a:=some dx) (wpAny_bind (wpAny_pure (wpAny_bind ?_)))
 refine wpAny_nsSet1 (s:={ s with toks:=s.toks+1 }) I.ns fun h' hn2 hs2=>?_
 obtain ⟨oD,esD,epD,hoD,hdD,hcD⟩:=hn2.count (PySem.Within.cons name v hw)
 refine wpAny_bind (wpAny_lookBehind hoD (by rw [hdD];exact pastItsLine_dict (yAF hcD (by rw [yAR];omega))) ?_)
 exact wpAny_pure (h _ ⟨(hs2.2 _ (Ne.symm I.ne)).trans I.obj,hn2,I.ne⟩ hs2)
theorem make_map {R:Result->Shared->Prop} {vs:List Value} {kw:List (Str×Value)} (X:K.In s.heap) (hm:PySem.W.makesIn K C=true)
  (hi:W.findIn K (.ref C) "__init__"=some (some (.ref f))) (hf:PySem.W.typeIn K (.ref f)=some (.type "function"))
  (h:codeAny (model prog w) (A.under (.builtin "type.__call__" ⟨.ref C::vs,kw⟩)) (.call (.ref f) ⟨.ref (s.heap.objs.size+1)::vs,kw⟩) (PySem.W.InitBack (s.heap.objs.size+1) R)
   { s with heap:=(s.heap.push PySem.W.emptyDict).push (PySem.W.instObj C s.heap.objs.size) }) :
  codeAny (model prog w) A (.call (.ref C) ⟨vs,kw⟩) R s:=by
 obtain ⟨hh,g,d,t,os⟩:=s
 exact PySem.W.make_core (PySem.W.makes_of X hm) (PySem.W.looks_findIn X hi) (fun self=>PySem.W.bind_fn X self hf) (.inl rfl) h
end
noncomputable def putF (f:Str) (v:V):List (Str×V)->List (Str×V)
 | []=>[(f,v)]
 | (g,x)::r=>if g=f then (g,v)::r else (g,x)::putF f v r
theorem ZAR (f g:Str) (v:V):∀ fs:List (Str×V),(putF f v fs).lookup g=if g=f then some v else fs.lookup g
 | []=>by
  show List.lookup g [(f,v)]=_
  by_cases h:g=f
  .have hb:(g == f)=true:=beq_iff_eq.mpr h
   simp only [List.lookup,hb,if_pos h]
  .have hb:(g == f)=false:=beq_eq_false_iff_ne.mpr h
   simp only [List.lookup,hb,if_neg h]
 | (k,x)::r=>by
  have ih:=ZAR f g v r
  rw [show putF f v ((k,x)::r)=(if k=f then (k,v)::r else (k,x)::putF f v r) from rfl]
  by_cases hk:k=f
  .rw [if_pos hk]
   by_cases h:g=k
   .have hb:(g == k)=true:=beq_iff_eq.mpr h
    simp only [List.lookup,hb,if_pos (h.trans hk)]
   .have hb:(g == k)=false:=beq_eq_false_iff_ne.mpr h
    simp only [List.lookup,hb,if_neg (fun e:g=f=>h (e.trans hk.symm))]
  .rw [if_neg hk]
   by_cases h:g=k
   .have hb:(g == k)=true:=beq_iff_eq.mpr h
    simp only [List.lookup,hb,if_neg (fun e:g=f=>hk (h.symm.trans e))]
   .have hb:(g == k)=false:=beq_eq_false_iff_ne.mpr h
    simp only [List.lookup,hb]
    exact ih
theorem ZC5 (f:Str) (v:V):∀ fs:List (Str×V),f∈(putF f v fs).map (·.1) /\ ∀ g,g∈fs.map (·.1)->g∈(putF f v fs).map (·.1)
 | []=>⟨by simp [putF],fun g h=>by simp at h⟩
 | (k,x)::r=>by
  obtain ⟨i1,i2⟩:=ZC5 f v r
  rw [show putF f v ((k,x)::r)=(if k=f then (k,v)::r else (k,x)::putF f v r) from rfl]
  by_cases hk:k=f
  .rw [if_pos hk]
   subst hk
   exact ⟨by simp,fun g h=>by simpa using h⟩
  .rw [if_neg hk]
   refine ⟨?_,fun g h=>?_⟩
   .rw [yAT]
    exact yAJ _ i1
   .rw [yAT] at h ⊢
    rcases yAH.mp h with e | e
    .exact yAH.mpr (.inl e)
    .exact yAJ _ (i2 g e)
theorem ZCU (f:Str) (v:V):∀ fs:List (Str×V),(putF f v fs).length <= fs.length+1
 | []=>by simp [putF]
 | (k,x)::r=>by
  have ih:=ZCU f v r
  rw [show putF f v ((k,x)::r)=(if k=f then (k,v)::r else (k,x)::putF f v r) from rfl]
  by_cases hk:k=f
  .rw [if_pos hk,yAR,yAR];omega
  .rw [if_neg hk,yAR,yAR];omega
theorem RelO.some_of {v:V} {o:Option Value} (r:RelO (some v) o):∃ u,o=some u /\ RelV v u:=by
 cases o with
 | none=>exact (show False from r).elim
 | some u=>exact ⟨u,rfl,r⟩
theorem RelO.none_of {o:Option Value} (r:RelO none o):o=none:=by
 cases o with
 | none=>rfl
 | some u=>exact (show False from r).elim
theorem handed_of {v:V} {u:Value} (r:RelV v u):PySem.W.handedIn u=true:=by
 cases v with
 | non=>cases (show u=Value.none from r);rfl
 | bl b=>cases (show u=Value.bool b from r);rfl
 | int i=>obtain ⟨t,e⟩:=(show ∃ t,u=Value.int i t from r);cases e;rfl
 | str x=>obtain ⟨t,e⟩:=(show ∃ t,u=Value.str x t from r);cases e;rfl
 | byt b=>obtain ⟨t,e⟩:=(show ∃ t,u=Value.bytes b t from r);cases e;rfl
 | flt b=>obtain ⟨t,e⟩:=(show ∃ t,u=Value.float b t from r);cases e;rfl
 | ref a=>cases (show u=Value.ref a from r);rfl
 | ty n=>cases (show u=Value.type n from r);rfl
section
variable {P:Program} {w:World} {H H':Hp} {h h':Heap} {a C dx:Addr} {fs fs':List (Str×V)}
theorem ZD2 (hok:HOk P w H h) (e:H a=some (.ins C dx fs)):∃ mA,ObjM h a dx C mA /\ (∀ f,RelO (fs.lookup f) (mA f)) /\ PySem.Within mA (fs.map (·.1)) /\ fs.length <= 1000 /\ H dx=some (.own a):=by
 obtain ⟨d,z,ne,ob,mA,n,r,q⟩:=(show ObjOk P w H h a (.ins C dx fs) from hok a _ e)
 exact ⟨mA,⟨ob,n,ne⟩,r,q,z,d⟩
end
structure Cls (K:W.Frag) (C:Addr):Prop where
 pg:PySem.W.plainGet K C Str.empty=true
 hd:PySem.W.hasDictIn K C=true
 po:PySem.W.plainOver K C=true
 sa:W.findIn K (.ref C) "__setattr__"=some (some (.builtin "object.__setattr__"))
theorem Cls.get {K:W.Frag} {C:Addr} (c:Cls K C) (f:Str):PySem.W.plainGet K C f=true:=c.pg
noncomputable def NoAttr (K:W.Frag) (C:Addr) (f:Str):Prop:=W.findIn K (.ref C) f=some none
theorem NoAttr.taker {K:W.Frag} {C:Addr} {f:Str} (n:NoAttr K C f):PySem.W.takerIn K C f=some none:=by
 unfold PySem.W.takerIn
 rw [show W.findIn K (.ref C) f=some none from n]
 rfl
structure Meth (K:W.Frag) (C:Addr) (m:Str) (f:Addr):Prop where
 at_:W.findIn K (.ref C) m=some (some (.ref f))
 fn:PySem.W.isFn K (.ref f)=true
 kp:W.keepIn K (.ref f)=true
section
variable {X:Cx} {pins:List (Addr×Obj)} {σ:St} {H:Hp} {s:Shared} {a C dx:Addr} {fs:List (Str×V)} {f:Str} {v:V} {A:Around} {E:Value->Shared->Prop}
theorem getattr_ok {b:Bool} {Q:Value->Shared->Prop} (I:Inv X pins σ H s) (e:H a=some (.ins C dx fs)) (c:Cls X.K C) (n:NoAttr X.K C f) (l:fs.lookup f=some v)
  (h:∀ u s',Inv X pins σ H s'->RelV v u->Q u s'):wpAny (model X.prog X.w) A (getAttr (.ref a) f b) Q E s:=by
 obtain ⟨mA,O,r,_,_,_⟩:=ZD2 I.hok e
 obtain ⟨u,hu,ru⟩:=RelO.some_of (v:=v) (o:=mA f) (by rw [<- l];exact r f)
 exact get_map I.kIn O (c.get f) c.hd n hu (handed_of ru) (h u _ (I.tok _) ru)
theorem getmeth_ok {m:Str} {g:Addr} {pl:Sem Bool} {Q:Value×List Value->Shared->Prop} (I:Inv X pins σ H s) (e:H a=some (.ins C dx fs)) (c:Cls X.K C) (k:Meth X.K C m g) (l:fs.lookup m=none)
  (h:Q (.ref g,[.ref a]) s):wpAny (model X.prog X.w) A (getMethod (.ref a) m pl) Q E s:=by
 obtain ⟨mA,O,r,_,_,_⟩:=ZD2 I.hok e
 have hn:mA m=none:=RelO.none_of (by rw [<- l];exact r m)
 exact get_meth I.kIn O (c.get m) k.at_ k.fn hn h
theorem setattr_ok {y:V} {u:Value} {Q:Unit->Shared->Prop} (I:Inv X pins σ H s) (e:H a=some (.ins C dx fs)) (c:Cls X.K C) (n:NoAttr X.K C f) (hl:fs.length < 1000) (ry:RelV y u)
  (h:∀ s',Inv X pins σ (upd H a (.ins C dx (putF f y fs))) s'->Q () s'):wpAny (model X.prog X.w) A (setAttr (.ref a) f u) Q E s:=by
 obtain ⟨mA,O,r,wi,_,ho⟩:=ZD2 I.hok e
 have hz:(fs.map (·.1)).length <= sizeLine:=by rw [yAB,sizeLine_eq];omega
 refine set_map I.kIn O c.sa c.po n.taker c.hd wi hz fun h' O' sb=>h _ ?_
 have hd:∃ o,h'.get? dx=some o:=let ⟨o,_,_,e',_⟩:=O'.ns;⟨o,e'⟩
 refine I.write (x:=a) (e:=dx) (by rw [e];exact True.intro) (.inr ho) (fun b q hb z=>(sb.2 b hb).trans z) hd ?_
 refine ⟨by rw [ZAG O.ne];exact ho,?_,O.ne,O'.obj,_,O'.ns,fun g=>?_,fun g hg=>?_⟩
 .have:=ZCU f y fs;omega
 .show RelO ((putF f y fs).lookup g) (if g=f then some u else mA g)
  rw [ZAR]
  by_cases q:g=f
  .rw [if_pos q,if_pos q];exact ry
  .rw [if_neg q,if_neg q];exact r g
 .by_cases q:g=f
  .rw [q];exact (ZC5 f y fs).1
  .refine (ZC5 f y fs).2 g (wi g fun z=>hg ?_)
   show (if g=f then some u else mA g)=none
   rw [if_neg q];exact z
theorem Inv.made (I:Inv X pins σ H s):Inv X pins σ (upd (upd H s.heap.objs.size (.own (s.heap.objs.size+1))) (s.heap.objs.size+1) (.ins C s.heap.objs.size []))
  { s with heap:=(s.heap.push PySem.W.emptyDict).push (PySem.W.instObj C s.heap.objs.size) }:=by
 have e1:(s.heap.push PySem.W.emptyDict).get? s.heap.objs.size=some PySem.W.emptyDict:=Heap.get?_push_size s.heap rfl
 have e2:((s.heap.push PySem.W.emptyDict).push (PySem.W.instObj C s.heap.objs.size)).get? (s.heap.objs.size+1)=some (PySem.W.instObj C s.heap.objs.size):=by
  have:=Heap.get?_push_size (s.heap.push PySem.W.emptyDict) (o:=PySem.W.instObj C s.heap.objs.size) rfl
  rwa [Heap.size_push] at this
 have e3:(s.heap.push PySem.W.emptyDict).Ns s.heap.objs.size (fun _=>none):=⟨PySem.W.emptyDict,#[],_,e1,rfl,(fun e he=>absurd he (by simp)),fun _=>rfl⟩
 have I1:=I.laid (a:=s.heap.objs.size) (o:=.own (s.heap.objs.size+1)) (h':=s.heap.push PySem.W.emptyDict) (t':=s.toks) (fun b u q=>Heap.get?_push_of_some _ q) (yAA _) ⟨_,e1⟩
 refine I1.laid (a:=s.heap.objs.size+1) (o:=.ins C s.heap.objs.size []) (t':=s.toks) (fun b u q=>Heap.get?_push_of_some _ q) (Nat.le_of_eq (Heap.size_push _ _)) ?_
 have ne:s.heap.objs.size≠s.heap.objs.size+1:=yAI (yBO _)
 refine ⟨by rw [ZAG ne,ZAF],yAG _,ne,e2,fun _=>none,(Heap.Ns1.of_empty e3).at fun o q=>Heap.get?_push_of_some _ q,fun _=>True.intro,fun y hy=>absurd rfl hy⟩
theorem attr_of {prog:Program} {w:World} {env:Env} {e:Expr} {f:Str} {pos:Pos} {s:Shared} {Q:Value->Shared->Prop} (hb:attributeBase e f env (eval e env)=eval e env)
  (h:wpAny (model prog w) A (eval e env) (fun o s₁=>wpAny (model prog w) A (getAttr o f true) Q E s₁) E s):wpAny (model prog w) A (eval (.Attribute e f pos) env) Q E s :=
 Attribute_any_ h (by rw [arm_eval_Attribute,hb])
end
noncomputable def tFld (K:W.Frag) (ta:TE) (f:Str):TE:=fun σ H Q=>ta σ H fun x H1=>∃ a C dx fs v,x=.ref a /\ H1 a=some (.ins C dx fs) /\ Cls K C /\ NoAttr K C f /\ fs.lookup f=some v /\ Q v H1
noncomputable def sFld (K:W.Frag) (ta tv:TE) (f:Str):TS:=fun D σ H=>tv σ H fun y H1=>ta σ H1 fun x H2=>∃ a C dx fs,x=.ref a /\ H2 a=some (.ins C dx fs) /\ Cls K C /\ NoAttr K C f /\ fs.length < 1000 /\
 D.nx σ (upd H2 a (.ins C dx (putF f y fs)))
noncomputable def InOp (X:Cx) (op:Operator) (rd:V->V->Hp->VK->Prop):Prop :=
 ∀ (pins:List (Addr×Obj)) (s:Shared) (σ:St) (H:Hp) (x y:V) (u v:Value) (Q:VK),Inv X pins σ H s->RelV x u->RelV y v->rd x y H Q->wpAny (model X.prog X.w) X.A (inplaceOp op u v) (EP X pins σ Q) X.xe s
noncomputable def sFldAug (K:W.Frag) (ta tv:TE) (rd:V->V->Hp->VK->Prop) (f:Str):TS:=fun D σ H=>ta σ H fun x H1=>∃ a C dx fs v,x=.ref a /\ H1 a=some (.ins C dx fs) /\ Cls K C /\ NoAttr K C f /\ fs.lookup f=some v /\
 tv σ H1 fun y H2=>rd v y H2 fun z H3=>∃ dx' fs',H3 a=some (.ins C dx' fs') /\ fs'.length < 1000 /\ D.nx σ (upd H3 a (.ins C dx' (putF f z fs')))
section
variable {X:Cx} {o e value:Expr} {f:Str} {pos pos' tpos:Pos} {ta tv:TE}
theorem ZAh (he:PE X e ta) (hb:attributeBase e f X.env (eval e X.env)=eval e X.env):PE X (.Attribute e f pos) (tFld X.K ta f):=by
 intro pins s σ H Q I h
 refine attr_of hb (thn (he pins s σ H _ I h) fun u s1 zz=>?_)
 obtain ⟨x,H1,I1,rx,a,C,dx,fs,v,ex,ea,c,n,l,q⟩:=zz
 subst ex
 obtain rfl:u=Value.ref a:=rx
 exact getattr_ok I1 ea c n l fun u' s2 I2 ru=>⟨v,H1,I2,ru,q⟩
theorem ZBs (ha:PE X o ta) (hv:PE X value tv) (hs:swapsWith value (some (.Attribute o f pos')) pos.line X.env=pure false):PS X (.Assign [.Attribute o f pos'] value pos) (sFld X.K ta tv f):=by
 intro pins s σ H D I h
 refine plainObj_wpAny_Assign_Attribute (thn (hv pins s σ H _ I h) fun u s1 ⟨y,H1,I1,ry,q⟩=>thn (ha pins s1 σ H1 _ I1 q) fun ov s2 zz=>?_) hs
 obtain ⟨x,H2,I2,rx,a,C,dx,fs,ex,ea,c,n,l,q2⟩:=zz
 subst ex
 obtain rfl:ov=Value.ref a:=rx
 exact setattr_ok I2 ea c n l ry fun s3 I3=>⟨σ,_,I3,q2⟩
theorem ps_fldaug {op:Operator} {rd:V->V->Hp->VK->Prop} (ha:PE X o ta) (hv:PE X value tv) (hop:InOp X op rd):PS X (.AugAssign (.Attribute o f tpos) op value pos) (sFldAug X.K ta tv rd f):=by
 intro pins s σ H D I h
 refine wpAny_AugAssign_AttributeAny (thn (ha pins s σ H _ I h) fun ov s1 zz=>?_)
 obtain ⟨x,H1,I1,rx,a,C,dx,fs,v,ex,ea,c,n,l,q⟩:=zz
 subst ex
 obtain rfl:ov=Value.ref a:=rx
 refine getattr_ok I1 ea c n l fun u s2 I2 ru=>thn (hv pins s2 σ H1 _ I2 q) fun w3 s3 ⟨y,H2,I3,ry,q3⟩=>thn (hop pins s3 σ H2 v y u w3 _ I3 ru ry q3) fun w4 s4 zz=>?_
 obtain ⟨z,H3,I4,rz,dx',fs',ea',l',q4⟩:=zz
 exact setattr_ok I4 ea' c n l' rz fun s5 I5=>⟨σ,_,I5,q4⟩
noncomputable def rAdd:V->V->Hp->VK->Prop:=fun x y H Q=>∃ i j,x=.int i /\ y=.int j /\ Q (.int (i+j)) H
theorem in_add:InOp X .Add rAdd:=by
 rintro pins s σ H x y u v Q I rx ry ⟨i,j,rfl,rfl,q⟩
 obtain ⟨t,rfl⟩:=(show ∃ t,u=Value.int i t from rx)
 obtain ⟨t',rfl⟩:=(show ∃ t',v=Value.int j t' from ry)
 exact PyProof.Rows.iadd_int ⟨.int (i+j),H,I.tok _,⟨_,rfl⟩,q⟩
end
section
variable {X:Cx} {pins:List (Addr×Obj)} {σ:St} {H:Hp} {s:Shared} {A:Around} {E:Value->Shared->Prop} {Q:Value->Shared->Prop} {c:Value} {b:Bool}
end
structure Room (k:Nat) (A:Around):Prop where
 hd:A.handled=none
 dp:A.depth+3 * k+5 < recursionLimit
 un:A.units+16 * k+200 < cLine
 gd:A.guards=some []
theorem Room.mono {j k:Nat} {A:Around} (r:Room k A) (h:j <= k):Room j A:=⟨r.hd,by have:=r.dp;omega,by have:=r.un;omega,r.gd⟩
theorem Room.deeper {k:Nat} {A:Around} (r:Room (k+1) A) (env:Env):Room k (A.deeper env) :=
 ⟨r.hd,by have:=r.dp;show A.depth+1+3 * k+5 < _;omega,by have:=r.un;show A.units+3+16 * k+200 < _;omega,r.gd⟩
theorem make_depth {A:Around} {C:Addr} {us:List Value} {kw:List (Str×Value)}:(A.under (.builtin "type.__call__" ⟨.ref C::us,kw⟩)).depth=A.depth+1:=by
 first | rfl | simp [Around.under,Code.weight,Code.isCreation,Code.isGuard,Code.isCaller,Code.frames,Code.isFrame,guardIds]
theorem make_units {A:Around} {C:Addr} {us:List Value} {kw:List (Str×Value)}:(A.under (.builtin "type.__call__" ⟨.ref C::us,kw⟩)).units=A.units+1:=by
 first | rfl | simp [Around.under,Code.cUnits,Code.frames,Code.isFrame]
theorem Room.make {k:Nat} {A:Around} (r:Room (k+1) A) (C:Addr) (us:List Value) (kw:List (Str×Value)):Room k (A.under (.builtin "type.__call__" ⟨.ref C::us,kw⟩)) :=
 ⟨r.hd,by have:=r.dp;rw [make_depth];omega,by have:=r.un;rw [make_units];omega,by have:=r.gd;first | exact this | simp [Around.under,Code.guards,Code.isGuard,guardIds,this]⟩
theorem Room.depth {k:Nat} {A:Around} (r:Room k A):A.depth < recursionLimit:=by have:=r.dp;omega
theorem Room.units {k:Nat} {A:Around} (r:Room k A):A.units+64 < cLine:=by have:=r.un;omega
noncomputable def tNil:TA:=fun _ H Q=>Q [] H
noncomputable def ZCM (ta:TE) (tr:TA):TA:=fun σ H Q=>ta σ H fun x H1=>tr σ H1 fun xs H2=>Q (x::xs) H2
section
variable {X:Cx} {e:Expr} {es:List Expr} {te:TE} {t:TA} {pos:Pos}
theorem ZAE:PA X [] tNil:=fun _ _ _ _ H Q I h=>Calls.spliced_nil ⟨[],H,I,.nil,h⟩
theorem ZAA (ha:PE X e te) (hr:PA X es t) (hs:starEach (e::es) X.env=(false,eval e X.env)::starEach es X.env:=by rfl):PA X (e::es) (ZCM te t):=by
 intro pos pins s σ H Q I h
 rw [hs]
 show wpAny _ _ (spliced ((false,eval e X.env)::backTo pos (starEach es X.env))) _ _ s
 refine Calls.spliced_cons (thn (ha pins s σ H _ I h) fun u s1 zz=>?_)
 obtain ⟨x,H1,I1,r1,q1⟩:=zz
 exact thn (hr pos pins s1 σ H1 _ I1 q1) fun us s2 ⟨xs,H2,I2,r2,q2⟩=>⟨x::xs,H2,I2,.cons r1 r2,q2⟩
noncomputable def tTup (t:TA):TE:=fun σ H Q=>t σ H fun xs H1=>xs.length <= sizeLine /\ ∀ p,H1 p=none->Q (.ref p) (upd H1 p (.tup xs))
noncomputable def tLst (t:TA):TE:=fun σ H Q=>t σ H fun xs H1=>xs.length <= sizeLine /\ ∀ p,H1 p=none->Q (.ref p) (upd H1 p (.lst xs))
theorem ZBV {x1} (h:PA X es t):PE X (.Tuple es x1 pos) (tTup t):=by
 intro pins s σ H Q I hq
 refine wpAny_Tuple_spliced (thn (h pos pins s σ H _ I hq) fun us s1 ⟨xs,H1,I1,r,z,q⟩=>⟨by rw [<- r.length];exact z,?_⟩)
 have hf:H1 s1.heap.objs.size=none:=I1.hok.fresh (yAA _)
 refine ⟨.ref s1.heap.objs.size,upd H1 s1.heap.objs.size (.tup xs),I1.laid (t':=s1.toks) (fun b u e=>Heap.get?_push_of_some _ e) (yAA _) ?_,rfl,q _ hf⟩
 exact ⟨z,us,r,⟨_,Heap.get?_push_size _ rfl,rfl,_,rfl⟩⟩
theorem ZAz (h:PA X es t):PE X (.List es pos) (tLst t):=by
 intro pins s σ H Q I hq
 refine wpAny_List_spliced (thn (h pos pins s σ H _ I hq) fun us s1 ⟨xs,H1,I1,r,z,q⟩=>⟨by rw [<- r.length];exact z,?_⟩)
 have hf:H1 s1.heap.objs.size=none:=I1.hok.fresh (yAA _)
 refine ⟨.ref s1.heap.objs.size,upd H1 s1.heap.objs.size (.lst xs),I1.laid (t':=s1.toks) (fun b u e=>Heap.get?_push_of_some _ e) (yAA _) ?_,rfl,q _ hf⟩
 exact ⟨z,us,0,r,Heap.get?_push_size _ rfl⟩
end
noncomputable abbrev Sp:=List V->Hp->VK->XK->Prop
noncomputable abbrev CXT:=List Env->Hp->Shared->XK->Value->Shared->Prop
structure Env0 (P:Program) (w:World) (K:W.Frag) (mg:Str->Option Value) (base:Heap) (A:Around) (outer:List Env) (s:Shared) (H:Hp):Prop where
 frames:A.frames=some outer
 mod:Mod K mg base
 bs:∀ b o,base.get? b=some o->s.heap.get? b=some o /\ H b=none
 bsz:base.objs.size <= s.heap.objs.size
 funs:s.heap.FunFrames base outer
 frf:∀ b∈frs outer,H b=none
 hok:HOk P w H s.heap
 bare:AllBare s.gens
noncomputable def CE (outer:List Env) (P:Program) (w:World) (H:Hp) (s:Shared) (Q:VK) (u:Value) (s':Shared):Prop :=
 ∃ v H',s'.os=s.os /\ AllBare s'.gens /\ Un (frs outer) [] H H' s.heap s'.heap /\ HOk P w H' s'.heap /\ RelV v u /\ Q v H'
noncomputable def CR (CX:CXT) (outer:List Env) (P:Program) (w:World) (H:Hp) (s:Shared) (Q:VK) (E:XK) (r:Result) (s':Shared):Prop :=
 match r with
 | .ok (.ret u)=>CE outer P w H s Q u s'
 | .ok _=>False
 | .error e=>CX outer H s E e s'
structure FnOk (P:Program) (w:World) (K:W.Frag) (mg:Str->Option Value) (base:Heap) (CX:CXT) (k:Nat) (f:Addr) (fd:FuncData) (ps:List Str) (sp:Sp):Prop where
 len:∀ vs H Q E,sp vs H Q E->vs.length=ps.length
 run:∀ (A:Around) (outer:List Env) (s:Shared) (H:Hp) (args:Args) (us:List Value) (vs:List V) (Q:VK) (E:XK),Room k A->Env0 P w K mg base A outer s H->BindsTo s fd args (ps.zip us)->Vals vs us->sp vs H Q E ->
  codeAny (model P w) A (.call (.ref f) args) (CR CX outer P w H s Q E) s
theorem Env0.make {P:Program} {w:World} {K:W.Frag} {mg:Str->Option Value} {base:Heap} {A:Around} {outer:List Env} {s:Shared} {H:Hp} (e:Env0 P w K mg base A outer s H) (C:Addr) (us:List Value) (kw:List (Str×Value)) :
  Env0 P w K mg base (A.under (.builtin "type.__call__" ⟨.ref C::us,kw⟩)) outer s H:=⟨by first | exact e.frames | (simpa [Around.under,Code.envs,Code.isFrame,pushEnvs] using e.frames),e.mod,e.bs,e.bsz,e.funs,e.frf,e.hok,e.bare⟩
section
variable {X:Cx} {pins:List (Addr×Obj)} {σ:St} {H:Hp} {s s':Shared}
theorem Inv.env0 (I:Inv X pins σ H s):Env0 X.prog X.w X.K X.mg X.base X.A X.stack s H :=
 ⟨I.ok.frames,I.ok.mod,I.bs,yAF I.ok.bsz I.sz,I.stack,I.stkFree,I.hok,I.bare⟩
theorem Inv.after {Q:VK} {u:Value} (I:Inv X pins σ H s) (h:CE X.stack X.prog X.w H s Q u s'):EP X pins σ Q u s':=by
 obtain ⟨v,H',os,bare,un,hok,r,q⟩:=h
 obtain ⟨hh,g,d,t,os'⟩:=s'
 obtain rfl:os'=s.os:=os
 exact ⟨v,H',I.call (h':=hh) (g':=g) (d':=d) (t':=t) (ch:=[]) un hok bare (fun b z=>absurd z (by simp)),r,q⟩
end
noncomputable def ZEf (sp:Sp) (dvs:List V) (E:XK) (t:TA):TE:=fun σ H Q=>t σ H fun vs H1=>sp (vs++dvs) H1 Q E
noncomputable def ZER (C:Addr) (m:Str) (sp:Sp) (dvs:List V) (E:XK) (ta:TE) (t:TA):TE:=fun σ H Q=>ta σ H fun x H1=>∃ a dx fs,x=.ref a /\ H1 a=some (.ins C dx fs) /\ fs.lookup m=none /\
 t σ H1 fun vs H2=>sp (x::(vs++dvs)) H2 Q E
noncomputable def ZEb (C:Addr) (sp:Sp) (dvs:List V) (E:XK) (t:TA):TE:=fun σ H Q=>t σ H fun vs H1=>∀ x dx,H1 x=none->H1 dx=none->dx≠x ->
 sp (.ref x::(vs++dvs)) (upd (upd H1 dx (.own x)) x (.ins C dx [])) (fun v H2=>v=.non /\ Q (.ref x) H2) E
noncomputable def Binds (K:W.Frag) (fd:FuncData) (ps:List Str) (ds:List Value):Prop :=
 ∀ (s:Shared) (us:List Value),K.In s.heap->(us++ds).length=ps.length->BindsTo s fd ⟨us,[]⟩ (ps.zip (us++ds))
theorem Binds.all {K:W.Frag} {fd:FuncData} {ps:List Str} (h:∀ us:List Value,us.length=ps.length->bindArgs fd ⟨us,[]⟩=pure (ps.zip us)):Binds K fd ps []:=fun s us _ hl=>by
 rw [yAY] at hl ⊢
 exact .of_eq (h us hl)
noncomputable def ZA0 (CX:CXT) (X:Cx) (E:XK):Prop:=∀ (pins:List (Addr×Obj)) (σ:St) (H:Hp) (s:Shared) (e:Value) (s':Shared),Inv X pins σ H s->CX X.stack H s E e s'->X.xe e s'
section
variable {X:Cx} {CX:CXT} {k:Nat} {f C:Addr} {fd:FuncData} {ps:List Str} {sp:Sp} {dvs:List V} {ds:List Value} {E:XK} {x m:Str} {p pos apos:Pos} {e o:Expr} {es:List Expr} {ta:TE} {t:TA}
theorem ZEk {pins:List (Addr×Obj)} {σ:St} {H:Hp} {s:Shared} {Q:VK} {us:List Value} {vs:List V} (F:FnOk X.prog X.w X.K X.mg X.base CX k f fd ps sp) (hr:Room k X.A) (hb:Binds X.K fd ps ds) (hd:Vals dvs ds) (hx:ZA0 CX X E)
  (I:Inv X pins σ H s) (r:Vals vs us) (h:sp (vs++dvs) H Q E):wpAny (model X.prog X.w) X.A (call (.ref f) us) (EP X pins σ Q) X.xe s:=by
 have r2:Vals (vs++dvs) (us++ds):=r.append hd
 have hl:(us++ds).length=ps.length:=by rw [<- r2.length];exact F.len _ _ _ _ h
 refine wpAny_call (codeAny_mono (F.run X.A X.stack s H ⟨us,[]⟩ (us++ds) (vs++dvs) Q E hr I.env0 (hb s us I.kIn hl) r2 h) fun r s' hq=>?_)
 cases r with
 | error e=>exact hx pins σ H s e s' I hq
 | ok fl=>
  cases fl with
  | ret u=>exact I.after hq
  | next=>exact False.elim hq
  | brk=>exact False.elim hq
  | cont=>exact False.elim hq
theorem pe_call (F:FnOk X.prog X.w X.K X.mg X.base CX k f fd ps sp) (hr:Room k X.A) (hg:Gl X x) (hm:X.mg x=some (.ref f)) (hk:W.keepIn X.K (.ref f)=true) (hb:Binds X.K fd ps ds) (hd:Vals dvs ds) (hx:ZA0 CX X E)
  (ha:PA X (e::es) t) (hdb:(x == ("__debug__":Str))=false:=by decide) (he:starEach (e::es) X.env=(false,eval e X.env)::starEach es X.env:=by rfl) (hpl:(backTo pos (starEach es X.env)).any (·.1)=false:=by rfl) :
  PE X (.Call (.Name x p) (e::es) [] pos) (ZEf sp dvs E t):=by
 intro pins s σ H Q I h
 refine wpAny_Call_Name_kw (ZB1 I hg hm ?_ hdb)
 refine PySem.W.callWith_K (h₀:=X.base) I.ok.mod.kin hk (thn (ha pos pins s σ H _ I h) fun us s1 ⟨vs,H1,I1,r,q⟩=>⟨I1.kIn,?_⟩) he hpl
 exact ZEk F hr hb hd hx I1 r q
theorem pe_meth {pl:Sem Bool} (he:PE X o ta) (c:Cls X.K C) (hm:Meth X.K C m f) (F:FnOk X.prog X.w X.K X.mg X.base CX k f fd ps sp) (hr:Room k X.A) (hb:Binds X.K fd ps ds) (hd:Vals dvs ds) (hx:ZA0 CX X E) (ha:PA X (e::es) t)
  (hst:starEach (e::es) X.env=(false,eval e X.env)::starEach es X.env:=by rfl) (hpl:(backTo pos (starEach es X.env)).any (·.1)=false:=by rfl)
  (ht:eval (.Call (.Attribute o m apos) (e::es) [] pos) X.env=(do
   let ov <- eval o X.env
   standAt apos.atName
   let (f,first) <- holding [ov] (getMethod ov m pl)
   callWith pos f first (backTo pos (starEach (e::es) X.env)) (backToKw pos (keywordEach [] X.env))):=by rfl) :
  PE X (.Call (.Attribute o m apos) (e::es) [] pos) (ZER C m sp dvs E ta t):=by
 intro pins s σ H Q I h
 refine PySem.W.methodCall_KW (pl:=pl) (thn (he pins s σ H _ I h) fun u s1 zz=>?_) ht
 obtain ⟨x,H1,I1,rx,a,dx,fs,ex,ea,l,q⟩:=zz
 subst ex
 obtain rfl:u=Value.ref a:=rx
 refine getmeth_ok I1 ea c hm l ?_
 refine PySem.W.callWith_K (first:=[.ref a]) (h₀:=X.base) I.ok.mod.kin hm.kp (thn (ha pos pins s1 σ H1 _ I1 q) fun us s2 ⟨vs,H2,I2,r,q2⟩=>⟨I2.kIn,?_⟩) hst hpl
 exact ZEk (us:=.ref a::us) (vs:=.ref a::vs) F hr hb hd hx I2 (.cons rfl r) q2
theorem pe_meth0 {pl:Sem Bool} (he:PE X o ta) (c:Cls X.K C) (hm:Meth X.K C m f) (F:FnOk X.prog X.w X.K X.mg X.base CX k f fd ps sp) (hr:Room k X.A) (hb:Binds X.K fd ps ds) (hd:Vals dvs ds) (hx:ZA0 CX X E)
  (ht:eval (.Call (.Attribute o m apos) [] [] pos) X.env=(do
   let ov <- eval o X.env
   standAt apos.atName
   let (f,first) <- holding [ov] (getMethod ov m pl)
   callWith pos f first (backTo pos (starEach [] X.env)) (backToKw pos (keywordEach [] X.env))):=by rfl) :
  PE X (.Call (.Attribute o m apos) [] [] pos) (ZER C m sp dvs E ta tNil):=by
 intro pins s σ H Q I h
 refine PySem.W.methodCall_KW (pl:=pl) (thn (he pins s σ H _ I h) fun u s1 zz=>?_) ht
 obtain ⟨x,H1,I1,rx,a,dx,fs,ex,ea,l,q⟩:=zz
 subst ex
 obtain rfl:u=Value.ref a:=rx
 refine getmeth_ok I1 ea c hm l ?_
 exact PySem.W.callWith_K0 (first:=[.ref a]) I1.kIn hm.kp (ZEk (us:=[.ref a]) (vs:=[.ref a]) F hr hb hd hx I1 (.cons rfl .nil) q)
structure Mk (K:W.Frag) (C f:Addr):Prop where
 makes:PySem.W.makesIn K C=true
 init:W.findIn K (.ref C) "__init__"=some (some (.ref f))
 fn:PySem.W.isFn K (.ref f)=true
 kp:W.keepIn K (.ref C)=true
theorem run_make {pins:List (Addr×Obj)} {σ:St} {H:Hp} {s:Shared} {Q:VK} {us:List Value} {vs:List V} (M:Mk X.K C f) (F:FnOk X.prog X.w X.K X.mg X.base CX k f fd ps sp) (hr:Room (k+1) X.A) (hb:Binds X.K fd ps ds) (hd:Vals dvs ds)
  (hx:ZA0 CX X E) (I:Inv X pins σ H s) (r:Vals vs us)
  (h:∀ x dx,H x=none->H dx=none->dx≠x->sp (.ref x::(vs++dvs)) (upd (upd H dx (.own x)) x (.ins C dx [])) (fun v H2=>v=.non /\ Q (.ref x) H2) E) :
  wpAny (model X.prog X.w) X.A (call (.ref C) us) (EP X pins σ Q) X.xe s:=by
 have hq:=h (s.heap.objs.size+1) s.heap.objs.size (I.hok.fresh (yAP _)) (I.hok.fresh (yAA _)) (yAI (yBO _))
 have I2:=Inv.made (C:=C) I
 have r2:Vals (V.ref (s.heap.objs.size+1)::(vs++dvs)) (Value.ref (s.heap.objs.size+1)::(us++ds)):=.cons rfl (r.append hd)
 have hl:(Value.ref (s.heap.objs.size+1)::us++ds).length=ps.length:=by
  have e:=r2.length
  rw [F.len _ _ _ _ hq] at e
  exact e.symm
 refine wpAny_call (make_map (f:=f) I.kIn M.makes M.init (beq_iff_eq.mp M.fn) (codeAny_mono (F.run _ X.stack _ _ ⟨Value.ref (s.heap.objs.size+1)::us,[]⟩ (Value.ref (s.heap.objs.size+1)::(us++ds)) _ _ E (hr.make C us [])
  (I2.env0.make C us []) (hb _ (Value.ref (s.heap.objs.size+1)::us) I2.kIn hl) r2 hq) fun r s' hq'=>?_))
 cases r with
 | error e=>exact hx pins σ _ _ e s' I2 hq'
 | ok fl=>
  cases fl with
  | ret u=>
   obtain ⟨v,H',I3,rv,ev,q3⟩:=I2.after hq'
   subst ev
   exact ⟨rv,⟨V.ref (s.heap.objs.size+1),H',I3,rfl,q3⟩⟩
  | next=>exact False.elim hq'
  | brk=>exact False.elim hq'
  | cont=>exact False.elim hq'
theorem pe_make (M:Mk X.K C f) (F:FnOk X.prog X.w X.K X.mg X.base CX k f fd ps sp) (hr:Room (k+1) X.A) (hg:Gl X x) (hm:X.mg x=some (.ref C)) (hb:Binds X.K fd ps ds) (hd:Vals dvs ds) (hx:ZA0 CX X E)
  (ha:PA X (e::es) t) (hdb:(x == ("__debug__":Str))=false:=by decide) (he:starEach (e::es) X.env=(false,eval e X.env)::starEach es X.env:=by rfl) (hpl:(backTo pos (starEach es X.env)).any (·.1)=false:=by rfl) :
  PE X (.Call (.Name x p) (e::es) [] pos) (ZEb C sp dvs E t):=by
 intro pins s σ H Q I h
 refine wpAny_Call_Name_kw (ZB1 I hg hm ?_ hdb)
 refine PySem.W.callWith_K (h₀:=X.base) I.ok.mod.kin M.kp (thn (ha pos pins s σ H _ I h) fun us s1 ⟨vs,H1,I1,r,q⟩=>⟨I1.kIn,?_⟩) he hpl
 exact run_make M F hr hb hd hx I1 r q
end
noncomputable def PK (X:Cx) (kws:List Keyword) (t:TA):Prop :=
 ∀ (pos:Pos) (pins:List (Addr×Obj)) (s:Shared) (σ:St) (H:Hp) (Q:List V->Hp->Prop),Inv X pins σ H s->t σ H Q->wpAny (model X.prog X.w) X.A (evalAll ((backToKw pos (keywordEach kws X.env)).map (·.2))) (AP X pins σ Q) X.xe s
section
variable {X:Cx} {CX:CXT} {k:Nat} {f C:Addr} {fd:FuncData} {ps ks:List Str} {sp:Sp} {E:XK} {x m:Str} {p pos apos kpos:Pos} {e o:Expr} {es:List Expr} {kws:List Keyword} {te ta:TE} {t tk:TA} {nm:Option Str}
theorem pk_nil:PK X [] tNil:=fun _ _ _ _ H Q I h=>wpAny_evalAll_nil ⟨[],H,I,.nil,h⟩
theorem pk_cons (ha:PE X e te) (hr:PK X kws t):PK X (⟨nm,e,kpos⟩::kws) (ZCM te t):=by
 intro pos pins s σ H Q I h
 show wpAny _ _ (evalAll ((do let v <- eval e X.env;standAt pos;pure v)::(backToKw pos (keywordEach kws X.env)).map (·.2))) _ _ s
 refine wpAny_evalAll_cons (wpAny_bind (thn (ha pins s σ H _ I h) fun u s1 ⟨x,H1,I1,r1,q1⟩=>wpAny_bind (wpAny_standAt (wpAny_pure ?_))))
 exact thn (hr pos pins s1 σ H1 _ I1 q1) fun us s2 ⟨xs,H2,I2,r2,q2⟩=>⟨x::xs,H2,I2,.cons r1 r2,q2⟩
variable {g:List Value->List Value->List Value} {gV:List V->List V->List V}
end
structure FnScope (N P:List Str) (sc:Scope):Prop where
 kind:sc.kind=.function
 co:sc.isCoroutine=false
 gen:sc.isGenerator=false
 nd:N.Nodup
 pre:N.take P.length=P
 par:∀ x∈P,sc.names.lookup x=some .local∨sc.names.lookup x=some .cell
 nofree:∀ y∈sc.names,y.2≠.free
theorem bindL_out {kindOf:Str->Option NameKind} {x:Str}:∀ {binds:List (Str×Value)} {m:Str->Option Value},(∀ v,(x,v)∉binds)->bindL kindOf binds m x=m x
 | [],_,_=>rfl
 | (n,v)::r,m,h=>by
  unfold bindL
  rw [bindL_out fun w hw=>h w (yAJ _ hw)]
  split
  .have:x≠n:=by rintro rfl;exact h v yAE
   simp [this]
  .rfl
theorem bindC_out {kindOf:Str->Option NameKind} {x:Str}:∀ {binds:List (Str×Value)} {m:Str->Option Value},(∀ v,(x,v)∉binds)->bindC kindOf binds m x=m x
 | [],_,_=>rfl
 | (n,v)::r,m,h=>by
  unfold bindC
  rw [bindC_out fun w hw=>h w (yAJ _ hw)]
  split
  .rfl
  .have:x≠n:=by rintro rfl;exact h v yAE
   simp [this]
theorem bindL_get {kindOf:Str->Option NameKind} {x:Str} {v:Value}:∀ {P:List Str} {vs:List Value} {i:Nat} {m:Str->Option Value},P.Nodup->P[i]?=some x->vs[i]?=some v->kindOf x=some .local ->
  bindL kindOf (P.zip vs) m x=some v
 | [],_,_,_,_,h,_,_=>by simp at h
 | _::_,[],_,_,_,_,h,_=>by simp at h
 | p::P,w::vs,0,m,nd,h1,h2,hk=>by
  simp at h1 h2;subst h1;subst h2
  show bindL kindOf ((p,w)::P.zip vs) m p=_
  unfold bindL
  rw [bindL_out fun v hv=>(yCC.mp nd).1 (yCJ hv).1,if_pos hk]
  simp
 | p::P,w::vs,i+1,m,nd,h1,h2,hk=>by
  show bindL kindOf ((p,w)::P.zip vs) m x=_
  unfold bindL
  exact bindL_get (i:=i) (yCC.mp nd).2 (by simpa using h1) (by simpa using h2) hk
theorem bindC_get {kindOf:Str->Option NameKind} {x:Str} {v:Value}:∀ {P:List Str} {vs:List Value} {i:Nat} {m:Str->Option Value},P.Nodup->P[i]?=some x->vs[i]?=some v->kindOf x≠some .local ->
  bindC kindOf (P.zip vs) m x=some v
 | [],_,_,_,_,h,_,_=>by simp at h
 | _::_,[],_,_,_,_,h,_=>by simp at h
 | p::P,w::vs,0,m,nd,h1,h2,hk=>by
  simp at h1 h2;subst h1;subst h2
  show bindC kindOf ((p,w)::P.zip vs) m p=_
  unfold bindC
  rw [bindC_out fun v hv=>(yCC.mp nd).1 (yCJ hv).1,if_neg hk]
  simp
 | p::P,w::vs,i+1,m,nd,h1,h2,hk=>by
  show bindC kindOf ((p,w)::P.zip vs) m x=_
  unfold bindC
  exact bindC_get (i:=i) (yCC.mp nd).2 (by simpa using h1) (by simpa using h2) hk
noncomputable def start (N:List Str) (vs:List V):St:=vs.map some++List.replicate (N.length-vs.length) none
noncomputable def cxOf (CX:CXT) (P:Program) (w:World) (K:W.Frag) (mg:Str->Option Value) (base:Heap) (N:List Str) (qual:Str) (scope:Scope) (f:Addr) (cd:Value) (A:Around) (outer:List Env) (s:Shared) (H:Hp) (E:XK):Cx where
 prog:=P
 w:=w
 K:=K
 mg:=mg
 base:=base
 A:=A.deeper (envOfC qual scope s.heap.objs.size f cd)
 N:=N
 s₀:=s
 H₀:=H
 env:=envOfC qual scope s.heap.objs.size f cd
 outer:=outer
 stack:=envOfC qual scope s.heap.objs.size f cd::outer
 ex:=[]
 calm:=true
 fn:=fun _=>true
 pn:=[]
 xe:=fun e s'=>wpAny (model P w) (A.deeper (envOfC qual scope s.heap.objs.size f cd)) (leaving (envOfC qual scope s.heap.objs.size f cd) e) (fun _ s''=>CX outer H s E e s'') (fun e' s''=>CX outer H s E e' s'') s'
theorem ZCv {sc:Scope} {n:Nat} {x:Str} (h:sc.names.lookup x=some .cell):∃ c,(cellsFrom n sc.names []).lookup x=some c:=by
 have q:=PySem.W.cellsFrom_some sc.names n [] (.inl h)
 exact Option.isSome_iff_exists.mp q
theorem ZC6 {CX:CXT} {P:Program} {w:World} {K:W.Frag} {mg:Str->Option Value} {base:Heap} {N ps:List Str} {qual:Str} {scope:Scope} {f:Addr} {cd:Value} {A:Around} {outer:List Env} {s s1:Shared} {H:Hp} {E:XK} {us:List Value} {vs:List V}
  (S:FnScope N ps scope) (hd:A.handled=none) (e0:Env0 P w K mg base A outer s H) (hl:vs.length=ps.length) (r:Vals vs us)
  (x:InCallC s s.heap.objs.size (bindL (envOfC qual scope s.heap.objs.size f cd).kindOf (ps.zip us) fun _=>none) (cellsFrom (s.heap.objs.size+1) scope.names []) (bindC (envOfC qual scope s.heap.objs.size f cd).kindOf (ps.zip us) fun _=>none) s1) :
  Inv (cxOf CX P w K mg base N qual scope f cd A outer s H E) [] (start N vs) H s1:=by
 have hpl:ps.length <= N.length:=by have:=congrArg List.length S.pre;rw [yBC] at this;omega
 obtain ⟨h1,tk,rfl,hk⟩:=x.done
 have noA:∀ b:Addr,b∉(cxOf CX P w K mg base N qual scope f cd A outer s H E).ex:=fun b z=>absurd (show b∈([]:List Addr) from z) (by simp)
 refine ⟨⟨e0.mod,S.kind,rfl,rfl,yAA _,fun y z c h1 h2=>?_,fun y hy=>?_,fun y c _ h=>?_,fun _=>hd,Around.frames_deeper e0.frames,.inr ⟨rfl,rfl⟩,fun b z=>absurd z (noA b),e0.bs,e0.bsz,fun b _ _=>noA b,fun b z=>absurd z (noA b),e0.funs,e0.frf⟩,
  rfl,e0.bare,Un.kept hk,⟨_,x.toInCall.ns,fun i y v h1 h2 h3=>?_⟩,fun y c h=>⟨_,x.cell y c h⟩,e0.hok.fresh (yAA _),fun y c h=>?_,fun p hp=>absurd (show p∈([]:List (Addr×Obj)) from hp) (by simp),e0.hok.kept hk,?_⟩
 .exact name_of_addr x.apart (PySem.mem_of_lookup h1) (PySem.mem_of_lookup h2)
 .have hy:scope.names.lookup y=some .cell∨scope.names.lookup y=some .free:=hy
  rcases hy with hy | hy
  .exact ZCv hy
  .exact absurd rfl (S.nofree _ (PySem.mem_of_lookup hy))
 .exact yBT (x.above y c (PySem.mem_of_lookup h))
 .have hi:i < vs.length:=by
   unfold start at h2
   by_cases hi:i < vs.length
   .exact hi
   .rw [yAZ (by simpa using hi)] at h2
    rw [yCK] at h2
    split at h2 <;> cases h2
  have ha:vs[i]?=some v:=by
   unfold start at h2
   rw [yBA (by simpa using hi),yAU] at h2
   cases e:vs[i]? with
   | none=>rw [e] at h2;cases h2
   | some a=>rw [e] at h2;cases h2;rfl
  obtain ⟨u,hu,rv⟩:=r.get ha
  have hp:ps[i]?=some y:=by
   rw [<- S.pre,yCD (by omega)];exact h1
  have ndP:ps.Nodup:=by rw [<- S.pre];exact S.nd.sublist (List.take_sublist _ _)
  refine ⟨u,rv,?_⟩
  rcases S.par y (yAN hp) with k | k
  .exact .inl ⟨k,bindL_get ndP hp hu k⟩
  .obtain ⟨c,e⟩:=ZCv (n:=s.heap.objs.size+1) k
   refine .inr ⟨.inl k,c,e,?_⟩
   have q:=x.cell y c e
   rw [bindC_get ndP hp hu (by show scope.names.lookup y≠_;rw [k];decide)] at q
   exact q
 .exact e0.hok.fresh (yBT (x.above y c (PySem.mem_of_lookup h)))
 .unfold start
  show _=N.length
  rw [yAC,yAB,yBV]
  omega
theorem ZFR {CX:CXT} {P:Program} {w:World} {K:W.Frag} {mg:Str->Option Value} {base:Heap} {k:Nat} {f:Addr} {name qual:Str} {params:Arguments} {body:List Stmt} {scope:Scope} {dV kV doc pm cdv ct oc:Value} {an od:Option Addr}
  {osl:Array (Option Value)} {N ps:List Str} {sp:Sp} (lk:K.lookup f=some ⟨oc,od,.func (W.fnOf name qual params body scope dV kV doc pm an cdv ct),osl⟩) (hcd:W.codeIn K cdv qual=true) (S:FnScope N ps scope)
  (len:∀ vs H Q E,sp vs H Q E->vs.length=ps.length)
  (hbody:∀ (A:Around) (outer:List Env) (s:Shared) (H:Hp) (vs:List V) (Q:VK) (E:XK),Room k (A.deeper (envOfC qual scope s.heap.objs.size f cdv))->sp vs H Q E ->
   ∃ t,PSs (cxOf CX P w K mg base N qual scope f cdv A outer s H E) body t /\ t { nx:=fun _ H'=>Q .non H',rt:=Q } (start N vs) H) :
  FnOk P w K mg base CX (k+1) f (W.fnOf name qual params body scope dV kV doc pm an cdv ct) ps sp:=by
 refine ⟨len,fun A outer s H args us vs Q E hr e0 hb r hsp=>?_⟩
 have hl:=len _ _ _ _ hsp
 have KX:K.In s.heap:=e0.mod.kin.keeps fun b o e=>(e0.bs b o e).1
 have lim:s.heap.NoLimit:=e0.mod.nolimit.keeps fun b o e=>(e0.bs b o e).1
 have hkind:∀ y∈ps.zip us,scope.names.lookup y.1=some .local∨(scope.names.lookup y.1=some .cell /\ ((cellsFrom (s.heap.objs.size+1) scope.names []).lookup y.1).isSome=true):=fun ⟨n,v⟩ hy=>by
  rcases S.par n (yCJ hy).1 with q | q
  .exact .inl q
  .exact .inr ⟨q,PySem.W.cellsFrom_some _ _ _ (.inl q)⟩
 refine codeAny_call_function hr.depth (KX _ _ lk) rfl S.co S.gen rfl (PySem.W.codeRec_of KX hcd) (hb _ _ _ _ ?_)
 refine wpAny_newFunctionEnv_cells S.kind hkind fun env he s1 x=>?_
 subst he
 refine ⟨lim.keeps x.toInCall.keep,codeAny_func ?_⟩
 obtain ⟨t,ht,hq⟩:=hbody A outer s H vs Q E (hr.deeper _) hsp
 have I:Inv (cxOf CX P w K mg base N qual scope f cdv A outer s H E) [] (start N vs) H s1:=ZC6 S hr.hd e0 hl r x
 refine wpAny_mono (ht [] s1 (start N vs) H _ I hq) (fun fl s' hs=>?_) fun e s' hs=>hs
 have fin:∀ {σ':St} {H':Hp} {v:V} {u:Value},Inv (cxOf CX P w K mg base N qual scope f cdv A outer s H E) [] σ' H' s'->RelV v u->Q v H'->CE outer P w H s Q u s' :=
  fun {σ' H' v u} J rv q=>⟨v,H',J.os,J.bare,J.base,J.hok,rv,q⟩
 cases fl with
 | ret u=>
  obtain ⟨v,σ',H',J,rv,q⟩:=hs
  exact fin J rv q
 | next=>
  obtain ⟨σ',H',J,q⟩:=hs
  exact fin (v:=V.non) (u:=Value.none) J rfl q
 | brk=>
  obtain ⟨_,_,_,q⟩:=hs
  exact False.elim q
 | cont=>
  obtain ⟨_,_,_,q⟩:=hs
  exact False.elim q
section
variable {X:Cx} {x:Str} {p pos:Pos} {e:Expr} {es:List Expr} {t:TA} {id T:String} {r:List V->Hp->VK->Prop}
noncomputable def tCB (r:List V->Hp->VK->Prop) (t:TA):TE:=fun σ H Q=>t σ H fun vs H1=>r vs H1 Q
theorem ZAO (hc:ZCX X (.builtin id) r) (hg:Gl X x) (hm:X.mg x=none) (hv:bootBuiltins x=some (.builtin id)) (ha:PA X (e::es) t) (hn:x≠"__name__":=by decide) (hdb:(x == ("__debug__":Str))=false:=by decide)
  (he:starEach (e::es) X.env=(false,eval e X.env)::starEach es X.env:=by rfl) (hpl:(backTo pos (starEach es X.env)).any (·.1)=false:=by rfl):PE X (.Call (.Name x p) (e::es) [] pos) (tCB r t):=by
 intro pins s σ H Q I h
 refine wpAny_Call_Name_kw (ZDo I hg hm hv ?_ hn hdb)
 exact PyProof.Rows.callWith_builtin1 (thn (ha pos pins s σ H _ I h) fun us s1 ⟨vs,H1,I1,r1,q1⟩=>hc pins s1 σ H1 vs us Q I1 r1 q1) he hpl
theorem ZCd (hc:ZCX X (.type T) r) (hg:Gl X x) (hm:X.mg x=none) (hv:bootBuiltins x=some (.type T)) (ha:PA X (e::es) t) (hn:x≠"__name__":=by decide) (hdb:(x == ("__debug__":Str))=false:=by decide)
  (he:starEach (e::es) X.env=(false,eval e X.env)::starEach es X.env:=by rfl) (hpl:(backTo pos (starEach es X.env)).any (·.1)=false:=by rfl):PE X (.Call (.Name x p) (e::es) [] pos) (tCB r t):=by
 intro pins s σ H Q I h
 refine wpAny_Call_Name_kw (ZDo I hg hm hv ?_ hn hdb)
 exact PyProof.Rows.callWith_type1 (thn (ha pos pins s σ H _ I h) fun us s1 ⟨vs,H1,I1,r1,q1⟩=>hc pins s1 σ H1 vs us Q I1 r1 q1) he hpl
end
end L2
namespace HT
open PySem PyProof.Rows
section
open PySem.SeqAt
open PySem.AutoSeq1 (wpAny_loadPart')
open PySem.MeetsSeq PySem.MeetsSeq2 PySem.MeetsSeq3
end
section
variable {prog:Program} {w:World} {A:Around} {E:Value->Shared->Prop} {s:Shared}
noncomputable def sIx (n d:Nat):Option Int->Nat
 | none=>d
 | some v=>if v < 0 then (v+(n:Int)).toNat else min v.toNat n
end
end HT
namespace L2
open PySem PySem.Spec PyProof.Rows
noncomputable abbrev TO:=St->Hp->(Option Int->Hp->Prop)->Prop
noncomputable def PO (X:Cx) (e:Option Expr) (t:TO):Prop :=
 ∀ (pins:List (Addr×Obj)) (s:Shared) (σ:St) (H:Hp) (Q:Option Int->Hp->Prop),Inv X pins σ H s->t σ H Q ->
  wpAny (model X.prog X.w) X.A (evalPart e X.env) (fun u s'=>∃ o H',Inv X pins σ H' s' /\ IsPart u o /\ Q o H') X.xe s
noncomputable def tNoPart:TO:=fun _ H Q=>Q none H
noncomputable def ZFB (t:TE):TO:=fun σ H Q=>t σ H fun x H1=>∃ i,x=.int i /\ Q (some i) H1
theorem intsAre_of {ns:List Int}:∀ {us:List Value},Vals (ns.map V.int) us->IntsAre us ns:=by
 induction ns with
 | nil=>intro us r;rw [List.map_nil] at r;cases r;exact .nil
 | cons n ns ih=>
  intro us r
  rw [yAT] at r
  cases r with
  | cons r1 r2=>
   obtain ⟨t,e⟩:=r1
   subst e
   exact .cons n t (ih r2)
section
variable {X:Cx} {e:Expr} {te:TE} {lo hi:Option Expr} {tl th:TO} {pos p2:Pos}
theorem po_some (h:PE X e te):PO X (some e) (ZFB te):=by
 intro pins s σ H Q I hw
 rw [evalPart_some]
 refine thn (h pins s σ H _ I hw) fun u s1 zz=>?_
 obtain ⟨x,H1,I1,r1,q1⟩:=zz
 obtain ⟨i,rfl,q⟩:=q1
 obtain ⟨t,rfl⟩:=r1
 exact ⟨some i,H1,I1,.int i t,q⟩
noncomputable def SlR (X:Cx) (r:V->Option Int->Option Int->Hp->VK->Prop):Prop :=
 ∀ (pins:List (Addr×Obj)) (s:Shared) (σ:St) (H:Hp) (x:V) (v vl vu:Value) (lo hi:Option Int) (sl:Addr) (Q:VK),Inv X pins σ H s->RelV x v->s.heap.IsSliceOf sl vl vu .none->IsPart vl lo->IsPart vu hi->r x lo hi H Q ->
  ∃ T id,typeLookup (.type T) "__getitem__"=pure (some (.builtin id)) /\ s.TypeIs v T /\ wpAny (model X.prog X.w) X.A (getItem v (.ref sl)) (EP X pins σ Q) X.xe s
noncomputable def tSl (r:V->Option Int->Option Int->Hp->VK->Prop) (te:TE) (tl th:TO):TE:=fun σ H Q=>te σ H fun x H1=>tl σ H1 fun l H2=>th σ H2 fun u H3=>r x l u H3 Q
theorem pe_slice {r:V->Option Int->Option Int->Hp->VK->Prop} (hr:SlR X r) (he:PE X e te) (hl:PO X lo tl) (hu:PO X hi th):PE X (.Subscript e (.Slice lo hi none p2) pos) (tSl r te tl th):=by
 intro pins s σ H Q I h
 refine Subscript_ (thn (he pins s σ H _ I h) fun v s1 zz=>?_)
 obtain ⟨x,H1,I1,r1,q1⟩:=zz
 refine wpAny_Slice (thn (hl pins s1 σ H1 _ I1 q1) fun vl s2 ⟨l,H2,I2,pl,q2⟩=>thn (hu pins s2 σ H2 _ I2 q2) fun vu s3 zz=>?_)
 obtain ⟨u,H3,I3,pu,q3⟩:=zz
 rw [evalPart_none]
 refine wpAny_pure ?_
 have I4:Inv X pins σ H3 { s3 with heap:=s3.heap.push { cls:=.type "slice",data:=.fields #[vl,vu,.none] } }:=I3.kept (t':=s3.toks) fun b ob q=>Heap.get?_push_of_some _ q
 obtain ⟨T,id,hT,ht,hg⟩:=hr pins { s3 with heap:=s3.heap.push { cls:=.type "slice",data:=.fields #[vl,vu,.none] } } σ H3 x v vl vu l u s3.heap.objs.size Q I4 r1 (Heap.IsSliceOf.new ..) pl pu q3
 show wpAny (model X.prog X.w) X.A (subscriptTail e (.Slice lo hi none p2) v (.ref s3.heap.objs.size)) (EP X pins σ Q) X.xe { s3 with heap:=s3.heap.push { cls:=.type "slice",data:=.fields #[vl,vu,.none] } }
 exact tail_any (ops:=[.ref s3.heap.objs.size,v]) ht hT hg (by with_unfolding_all rfl)
noncomputable def cutV (xs:List V) (lo hi:Option Int):List V:=(xs.drop (HT.sIx xs.length 0 lo)).take (HT.sIx xs.length xs.length hi-HT.sIx xs.length 0 lo)
theorem cutV_length (xs:List V) (lo hi:Option Int):(cutV xs lo hi).length <= xs.length:=by
 unfold cutV
 rw [yBC,List.length_drop]
 omega
end
noncomputable def ixN (n:Nat) (i:Int):Option Nat:=if 0 <= i then (if i < n then some i.toNat else none) else if -(n:Int) <= i then some (i+n).toNat else none
noncomputable def atI {α:Type} (xs:List α) (i:Int):Option α:=(ixN xs.length i).bind fun j=>xs[j]?
theorem ixN_seq {n:Nat} {i:Int} {j:Nat} (h:ixN n i=some j):seqIndex? i n=some j /\ j < n /\ -(n:Int) <= i /\ i < n:=by
 unfold ixN at h
 by_cases h0:0 <= i
 .rw [if_pos h0] at h
  by_cases h1:i < n
  .rw [if_pos h1] at h
   have e:i.toNat=j:=Option.some.inj h
   exact ⟨by rw [seqIndex_of h0 h1,e],by omega,by omega,h1⟩
  .rw [if_neg h1] at h;cases h
 .rw [if_neg h0] at h
  by_cases h1:-(n:Int) <= i
  .rw [if_pos h1] at h
   have e:(i+n).toNat=j:=Option.some.inj h
   exact ⟨by rw [seqIndex_neg (by omega) h1,e],by omega,h1,by omega⟩
  .rw [if_neg h1] at h;cases h
theorem atI_get {α:Type} {xs:List α} {i:Int} {v:α} (h:atI xs i=some v):∃ j,seqIndex? i xs.length=some j /\ xs[j]?=some v /\ j < xs.length /\ -(xs.length:Int) <= i /\ i < xs.length:=by
 unfold atI at h
 cases e:ixN xs.length i with
 | none=>rw [e] at h;cases h
 | some j=>
  rw [e] at h
  obtain ⟨h1,h2,h3,h4⟩:=ixN_seq e
  exact ⟨j,h1,h,h2,h3,h4⟩
theorem atI_nat {α:Type} {xs:List α} {j:Nat} {v:α} (h:xs[j]?=some v):atI xs (j:Int)=some v:=by
 have hj:j < xs.length:=(yAL.mp h).1
 have e:ixN xs.length (j:Int)=some j:=by
  unfold ixN
  rw [if_pos (by omega),if_pos (by omega)];simp
 unfold atI;rw [e];exact h
noncomputable def PlainIx (b:Expr):Prop:=∀ o i,subscripted b false o i=operate [o,i] (getItem o i)
noncomputable def IxR (X:Cx) (r:R2):Prop :=
 ∀ (value slice:Expr) (pins:List (Addr×Obj)) (s:Shared) (σ:St) (H:Hp) (x y:V) (v u:Value) (Q:VK),Inv X pins σ H s->RelV x v->RelV y u->r x y H Q ->
  subscripted slice false v u=operate [v,u] (getItem v u)->wpAny (model X.prog X.w) X.A (subscriptTail value slice v u) (EP X pins σ Q) X.xe s
noncomputable def MtR (X:Cx) (id:String) (r:V->List V->Hp->VK->Prop):Prop :=
 ∀ (pins:List (Addr×Obj)) (s:Shared) (σ:St) (H:Hp) (x:V) (xs:List V) (v:Value) (us:List Value) (Q:VK),Inv X pins σ H s->RelV x v->Vals xs us->r x xs H Q ->
  wpAny (model X.prog X.w) X.A (call (.builtin id) (v::us)) (EP X pins σ Q) X.xe s
section
variable {X:Cx} {a b:Expr} {ta tb:TE} {pos:Pos}
theorem ZA7 {r:R2} (hr:IxR X r) (ha:PE X a ta) (hb:PE X b tb) (hs:PlainIx b):PE X (.Subscript a b pos) (tOp r ta tb):=by
 intro pins s σ H Q I h
 exact Subscript_ (binT ha hb I h fun v u s2 x y H2 I2 rx ry q=>hr a b pins s2 σ H2 x y v u Q I2 rx ry q (hs _ _))
noncomputable def rIxL (K:W.Frag):R2:=fun x y H Q=>∃ p xs i v,x=.ref p /\ y=.int i /\ SqL K H p xs /\ atI xs i=some v /\ Q v H
noncomputable def rIxT (K:W.Frag):R2:=fun x y H Q=>∃ p xs i v,x=.ref p /\ y=.int i /\ SqT K H p xs /\ atI xs i=some v /\ Q v H
theorem ZA1:IxR X (rIxL X.K):=by
 intro value slice pins s σ H x y v u Q I rx ry h hs
 obtain ⟨p,xs,i,z,rfl,rfl,hq,he,q⟩:=h
 cases rx
 obtain ⟨t,rfl⟩:=ry
 obtain ⟨its,r,pl,hz⟩:=I.list hq
 obtain ⟨j,h1,h2,h3,h4,h5⟩:=atI_get he
 obtain ⟨w,ew,rw'⟩:=r.get h2
 have hl:=r.length
 have hn:=ZEJ
 have fin:EP X pins σ Q w s:=⟨z,H,I,rw',q⟩
 by_cases h0:0 <= i
 .have hj:i.toNat=j:=by
   rw [seqIndex_of h0 h5] at h1
   exact Option.some.inj h1
  exact item_listR pl.isList h0 (by omega) (by rw [hj];simpa using ew) fin hs
 .have hj:(i+(its.toArray.size:Int)).toNat=j:=by
   rw [seqIndex_neg (by omega) h4] at h1
   rw [yAV,<- hl]
   exact Option.some.inj h1
  exact subscriptTail_builtinR (x:=w) pl.isList.typeIs slot_list_getitem.lookup
   (wpAny_getItem_list_neg (Q:=fun r s'=>r=w /\ EP X pins σ Q r s') pl.isList (by omega) (by rw [yAV] <;> omega) (by omega) (by rw [hj];simpa using ew) ⟨rfl,fin⟩) hs
theorem ZBd:IxR X (rIxT X.K):=by
 intro value slice pins s σ H x y v u Q I rx ry h hs
 obtain ⟨p,xs,i,z,rfl,rfl,hq,he,q⟩:=h
 cases rx
 obtain ⟨t,rfl⟩:=ry
 obtain ⟨its,r,pl,hz⟩:=I.tuple hq
 obtain ⟨j,h1,h2,h3,h4,h5⟩:=atI_get he
 obtain ⟨w,ew,rw'⟩:=r.get h2
 have hl:=r.length
 have hn:=ZEJ
 have fin:EP X pins σ Q w s:=⟨z,H,I,rw',q⟩
 exact subscriptTail_builtinR (x:=w) pl.typeIs slot_tuple_getitem.lookup
  (getItem_tuple (j:=j) (Q:=fun r s'=>r=w /\ EP X pins σ Q r s') pl (by omega) (by omega) (by rw [yAV,<- hl];exact h1) (by simpa using ew) ⟨rfl,fin⟩) hs
theorem mapSeq_set (its:List Value) (n j:Nat) (u:Value):Obj.mapSeq (·.setIfInBounds j u) { cls:=.type "list",data:=.seq its.toArray n }={ cls:=.type "list",data:=.seq (its.set j u).toArray n }:=by
 simp [Obj.mapSeq]
theorem Inv.lst {pins:List (Addr×Obj)} {σ:St} {H:Hp} {s:Shared} {p:Addr} {xs:List V} (I:Inv X pins σ H s) (h:H p=some (.lst xs)) :
  ∃ (its:List Value) (n:Nat),Vals xs its /\ s.heap.get? p=some { cls:=.type "list",data:=.seq its.toArray n } /\ xs.length <= sizeLine:=by
 obtain ⟨z,its,n,r,e⟩:=I.hok p _ h
 exact ⟨its,n,r,e,z⟩
theorem Inv.lstUpd {pins:List (Addr×Obj)} {σ:St} {H:Hp} {s:Shared} {p:Addr} {xs ys:List V} {its its':List Value} {n n':Nat} {f:Obj->Obj} (I:Inv X pins σ H s) (h:H p=some (.lst xs))
  (ho:s.heap.get? p=some { cls:=.type "list",data:=.seq its.toArray n }) (hf:f { cls:=.type "list",data:=.seq its.toArray n }={ cls:=.type "list",data:=.seq its'.toArray n' }) (r:Vals ys its') (hz:ys.length <= sizeLine) (t:Nat) :
  Inv X pins σ (upd H p (.lst ys)) { s with heap:=s.heap.update p f,toks:=t }:=by
 have e:(s.heap.update p f).get? p=some { cls:=.type "list",data:=.seq its'.toArray n' }:=by
  rw [Heap.get?_update_self f ho (by rw [hf] <;> rfl),hf]
 refine I.write (x:=p) (e:=p) (by rw [h];trivial) (.inl rfl) (fun b u hb q=>(Heap.get?_update_other _ _ (Ne.symm hb)).trans q) ⟨_,e⟩ ?_
 exact ⟨hz,its',n',r,e⟩
noncomputable def rSetL:V->V->V->Hp->(Hp->Prop)->Prop:=fun o i v H Q=>∃ p xs k j,o=.ref p /\ i=.int k /\ H p=some (.lst xs) /\ ixN xs.length k=some j /\ Q (upd H p (.lst (xs.set j v)))
theorem set_list:PSet X rSetL:=by
 intro pins s σ H o i v ov iv u Q I ro ri rv h
 obtain ⟨p,xs,k,j,rfl,rfl,hp,hj,q⟩:=h
 cases ro
 obtain ⟨t,rfl⟩:=ri
 obtain ⟨its,n,r,ho,hz⟩:=I.lst hp
 obtain ⟨h1,h2,h3,h4⟩:=ixN_seq hj
 have hl:=r.length
 have hn:=ZEJ
 have I':Inv X pins σ (upd H p (.lst (xs.set j v))) { s with heap:=s.heap.update p (Obj.mapSeq (·.setIfInBounds j u)) } :=
  I.lstUpd hp ho (mapSeq_set its n j u) (r.set rv j) (by rw [List.length_set];exact hz) s.toks
 by_cases h0:0 <= k
 .have hk:k.toNat=j:=by
   rw [seqIndex_of h0 h4] at h1
   exact Option.some.inj h1
  exact PySem.W.ki_setAt ho h0 (by omega) (by rw [yAV,<- hl];exact h4) (by rw [hk];exact ⟨_,I',q⟩)
 .have hk:(k+(its.toArray.size:Int)).toNat=j:=by
   rw [seqIndex_neg (by omega) h3] at h1
   rw [yAV,<- hl]
   exact Option.some.inj h1
  exact PySem.W.ki_setBack ho (by omega) (by rw [yAV,<- hl];exact h3) (by omega) (by rw [hk];exact ⟨_,I',q⟩)
theorem slice_bounds (lo hi:Option Int) (n:Nat):(sliceBounds lo hi none n).1=((HT.sIx n 0 lo:Nat):Int) /\ (sliceBounds lo hi none n).2.1=((HT.sIx n n hi:Nat):Int) /\ (sliceBounds lo hi none n).2.2=1:=by
 refine ⟨?_,?_,rfl⟩
 .cases lo with
  | none=>simp [sliceBounds,HT.sIx]
  | some i=>
   simp only [sliceBounds,HT.sIx,Option.getD_none,show (1:Int) > 0 by decide,if_true]
   by_cases h:i < 0
   .simp only [h,if_true] <;> omega
   .simp only [h,if_false] <;> omega
 .cases hi with
  | none=>simp [sliceBounds,HT.sIx]
  | some i=>
   simp only [sliceBounds,HT.sIx,Option.getD_none,show (1:Int) > 0 by decide,if_true]
   by_cases h:i < 0
   .simp only [h,if_true] <;> omega
   .simp only [h,if_false] <;> omega
theorem slicePick_cut (its:List Value) (lo hi:Option Int):slicePick its.toArray lo hi none=((its.drop (HT.sIx its.length 0 lo)).take (HT.sIx its.length its.length hi-HT.sIx its.length 0 lo)).toArray:=by
 obtain ⟨h1,h2,h3⟩:=slice_bounds lo hi its.toArray.size
 unfold slicePick
 rw [h1,h2,h3]
 simp only [sliceRange_one,pick_run,yAV] <;> rfl
noncomputable def rSlL (K:W.Frag):V->Option Int->Option Int->Hp->VK->Prop:=fun x lo hi H Q=>∃ a xs,x=.ref a /\ SqL K H a xs /\ ∀ p,H p=none->Q (.ref p) (upd H p (.lst (cutV xs lo hi)))
theorem sl_list:SlR X (rSlL X.K):=by
 intro pins s σ H x v vl vu lo hi sl Q I rx hs pl pu h
 obtain ⟨a,xs,rfl,hx,q⟩:=h
 cases rx
 obtain ⟨its,r,ht,hz⟩:=I.list hx
 have hlen:=r.length
 refine ⟨"list",_,slot_list_getitem.lookup,ht.isList.typeIs,?_⟩
 refine wpAny_getItem_list_slice ht.isList hs pl pu .none (by simp) ?_ (by rw [yAV] <;> omega)
 rw [slicePick_cut,<- hlen]
 refine ⟨.ref s.heap.objs.size,_,I.laid (t':=s.toks) (o:=.lst (cutV xs lo hi)) (fun b ob q=>Heap.get?_push_of_some _ q) (yAA _) ?_,rfl,q _ (I.hok.fresh (yAA _))⟩
 exact ⟨yAF (cutV_length xs lo hi) hz,_,0,(r.drop (HT.sIx xs.length 0 lo)).take (HT.sIx xs.length xs.length hi-HT.sIx xs.length 0 lo),Heap.get?_push_size _ rfl⟩
noncomputable def ZDa:V->Bool
 | .non=>true
 | .bl _=>true
 | .int _=>true
 | .str _=>true
 | _=>false
noncomputable def eqV:V->V->Bool
 | .non,.non=>true
 | .bl a,.bl b=>a == b
 | .bl a,.int b=>(if a then 1 else 0) == b
 | .int a,.bl b=>a == (if b then 1 else 0)
 | .int a,.int b=>a == b
 | .str a,.str b=>a == b
 | _,_=>false
theorem eqAt_V {A:Around} {s:Shared} {y x:V} {u v:Value} (ry:RelV y u) (rx:RelV x v) (fy:ZDa y=true) (fx:ZDa x=true):SeqAt.EqAt A s u v (eqV y x):=by
 cases y with
 | non=>
  cases ry
  cases x with
  | non=>cases rx;exact SeqAt.EqAt.same _
  | bl b=>cases rx;exact SeqAt.EqAt.none_bool b
  | int b=>obtain ⟨t,rfl⟩:=rx;exact SeqAt.EqAt.none_int b t
  | str b=>obtain ⟨t,rfl⟩:=rx;exact SeqAt.EqAt.none_str b t
  | _=>exact absurd (show false=true from fx) yAS
 | bl a=>
  cases ry
  cases x with
  | non=>cases rx;exact SeqAt.EqAt.bool_none a
  | bl b=>cases rx;exact SeqAt.EqAt.bool_bool a b
  | int b=>obtain ⟨t,rfl⟩:=rx;exact SeqAt.EqAt.bool_int a b t
  | str b=>obtain ⟨t,rfl⟩:=rx;exact SeqAt.EqAt.bool_str a b t
  | _=>exact absurd (show false=true from fx) yAS
 | int a=>
  obtain ⟨t',rfl⟩:=ry
  cases x with
  | non=>cases rx;exact SeqAt.EqAt.int_none a t'
  | bl b=>cases rx;exact SeqAt.EqAt.int_bool a t' b
  | int b=>obtain ⟨t,rfl⟩:=rx;exact SeqAt.EqAt.int_int a t' b t
  | str b=>obtain ⟨t,rfl⟩:=rx;exact SeqAt.EqAt.int_str a t' b t
  | _=>exact absurd (show false=true from fx) yAS
 | str a=>
  obtain ⟨t',rfl⟩:=ry
  cases x with
  | non=>cases rx;exact SeqAt.EqAt.str_none a t'
  | bl b=>cases rx;exact SeqAt.EqAt.str_bool a t' b
  | int b=>obtain ⟨t,rfl⟩:=rx;exact SeqAt.EqAt.str_int a t' b t
  | str b=>obtain ⟨t,rfl⟩:=rx;exact SeqAt.EqAt.str_str a t' b t
  | _=>exact absurd (show false=true from fx) yAS
 | _=>exact absurd (show false=true from fy) yAS
noncomputable def eqU (x:V) (u:Value):Bool:=match u with
 | .none=>eqV .non x
 | .bool b=>eqV (.bl b) x
 | .int i _=>eqV (.int i) x
 | .str z _=>eqV (.str z) x
 | _=>false
theorem eqU_of {x y:V} {u:Value} (r:RelV y u) (f:ZDa y=true):eqU x u=eqV y x:=by
 cases y with
 | non=>cases r;rfl
 | bl b=>cases r;rfl
 | int i=>obtain ⟨t,rfl⟩:=r;rfl
 | str z=>obtain ⟨t,rfl⟩:=r;rfl
 | _=>exact absurd (show false=true from f) yAS
theorem ZD9 {x:V}:∀ {xs:List V} {us:List Value},Vals xs us->xs.all ZDa=true->us.any (eqU x)=xs.any fun y=>eqV y x
 | _,_,.nil,_=>rfl
 | y::xs,u::us,.cons r t,f=>by
  rw [List.all_cons,yBJ] at f
  rw [yCL,yCL,eqU_of r f.1,ZD9 t f.2]
theorem ZDX {A:Around} {s:Shared} {x:V} {v:Value} (rx:RelV x v) (fx:ZDa x=true):∀ {xs:List V} {us:List Value},Vals xs us->xs.all ZDa=true->∀ u∈us,SeqAt.EqAt A s u v (eqU x u)
 | _,_,.nil,_=>fun u hu=>by cases hu
 | y::xs,u::us,.cons r t,f=>fun u' hu=>by
  rw [List.all_cons,yBJ] at f
  rcases yAH.mp hu with rfl | hu
  .rw [eqU_of r f.1];exact eqAt_V r rx f.1 fx
  .exact ZDX rx fx t f.2 u' hu
noncomputable def inV (x:V) (xs:List V):Bool:=xs.any fun y=>eqV y x
noncomputable def rIn (K:W.Frag) (neg:Bool):R2:=fun x y H Q=>∃ p xs,y=.ref p /\ (SqL K H p xs∨SqT K H p xs) /\ ZDa x=true /\ xs.all ZDa=true /\ Q (.bl (if neg then !inV x xs else inV x xs)) H
theorem op_notIn_seq:OpR X (compareOp .NotIn) (rIn X.K true):=by
 intro pins s σ H x y v u Q I rx ry h
 obtain ⟨p,xs,rfl,hq,fx,fs,q⟩:=h
 cases ry
 rcases hq with hq | hq
 .obtain ⟨its,r,pl,hz⟩:=I.list hq
  refine SeqAt.notIn_listAt (eqU x) pl.isList (fun w hw=>ZDX rx fx r fs w (by simpa using hw)) ⟨.bl _,H,I,rfl,?_⟩
  rw [show its.toArray.any (eqU x)=its.any (eqU x) by simp,ZD9 r fs]
  exact q
 .obtain ⟨its,r,pl,hz⟩:=I.tuple hq
  refine SeqAt.notIn_tupleAt (eqU x) pl (fun w hw=>ZDX rx fx r fs w (by simpa using hw)) ⟨.bl _,H,I,rfl,?_⟩
  rw [show its.toArray.any (eqU x)=its.any (eqU x) by simp,ZD9 r fs]
  exact q
theorem ZAP:ZCX X (.builtin "len") (fun xs H Q=>∃ p ys,xs=[.ref p] /\ (SqL X.K H p ys∨SqT X.K H p ys) /\ Q (.int ys.length) H):=by
 intro pins s σ H xs us Q I r h
 obtain ⟨p,ys,rfl,hq,q⟩:=h
 obtain ⟨u,rfl,rx⟩:=ZEQ r
 cases rx
 have hn:=ZEJ
 rcases hq with hq | hq
 .obtain ⟨its,r',pl,hz⟩:=I.list hq
  have hlen:=r'.length
  exact Calls.call_len_list pl.isList (by simp only [yAV] <;> omega) ⟨.int ys.length,H,I.tok _,⟨s.toks+1,by rw [yAV,hlen]⟩,q⟩
 .obtain ⟨its,r',pl,hz⟩:=I.tuple hq
  have hlen:=r'.length
  exact len_tuple pl (by simp only [yAV] <;> omega) ⟨.int ys.length,H,I.tok _,⟨s.toks+1,by rw [yAV,hlen]⟩,q⟩
theorem call_list_of:ZCX X (.type "list") (fun xs H Q=>∃ p ys,xs=[.ref p] /\ (SqL X.K H p ys∨SqT X.K H p ys) /\ ∀ l,H l=none->Q (.ref l) (upd H l (.lst ys))):=by
 intro pins s σ H xs us Q I r h
 obtain ⟨p,ys,rfl,hq,q⟩:=h
 obtain ⟨u,rfl,rx⟩:=ZEQ r
 cases rx
 have fin:∀ (its:List Value),Vals ys its->ys.length <= sizeLine->∀ (h':Heap) (c':Nat),(∀ b o',s.heap.get? b=some o'->h'.get? b=some o') ->
   h'.get? s.heap.objs.size=some { cls:=.type "list",dict:=none,data:=.seq its.toArray c',slots:=#[] }->EP X pins σ Q (.ref s.heap.objs.size) { s with heap:=h' }:=fun its r' hz h' c' kp e=>
  ⟨.ref s.heap.objs.size,_,I.laid (t':=s.toks) kp (yAA _) (show ObjOk X.prog X.w _ h' _ (.lst ys) from ⟨hz,its,c',r',e⟩),rfl,q _ (I.hok.fresh (yAA _))⟩
 rcases hq with hq | hq
 .obtain ⟨its,r',pl,hz⟩:=I.list hq
  have hlen:=r'.length
  obtain ⟨o,ho,hc,n,hd⟩:=pl.isList
  exact call_list_seq p (.inl rfl) ho hc hd (fun h' c' kp e=>fin its r' hz h' c' kp e) (by simp only [yAV] <;> omega)
 .obtain ⟨its,r',pl,hz⟩:=I.tuple hq
  have hlen:=r'.length
  obtain ⟨o,ho,hc,n,hd⟩:=pl
  exact call_list_seq p (.inr rfl) ho hc hd (fun h' c' kp e=>fin its r' hz h' c' kp e) (by simp only [yAV] <;> omega)
noncomputable def tyV (K:W.Frag) (T:String) (x:V) (H:Hp):Prop:=match x with
 | .str _=>T="str"
 | .int _=>T="int"
 | .ref p=>(T="list" /\ ∃ xs,SqL K H p xs)∨(T="tuple" /\ ∃ o,K.lookup p=some o /\ o.cls=.type "tuple" /\ o.dict=none) ∨
   (T="dict" /\ ((∃ kvs,H p=some (.dK kvs))∨∃ kvs,H p=some (.dT kvs)))∨(T="set" /\ ∃ S n,H p=some (.set S n))
 | _=>False
theorem tyV_is {pins:List (Addr×Obj)} {σ:St} {H:Hp} {s:Shared} {T:String} {x:V} {v:Value} (I:Inv X pins σ H s) (r:RelV x v) (ty:tyV X.K T x H) :
  s.TypeIs v T /\ ∀ a,v=.ref a->∃ ob,s.heap.get? a=some ob /\ ob.dict=none:=by
 cases x with
 | str z=>
  obtain ⟨t,rfl⟩:=r
  cases (show T="str" from ty)
  exact ⟨typeIs_str s z t,fun _ e=>nomatch e⟩
 | int i=>
  obtain ⟨t,rfl⟩:=r
  cases (show T="int" from ty)
  exact ⟨typeIs_int s i t,fun _ e=>nomatch e⟩
 | ref p=>
  cases r
  rcases ty with ⟨rfl,xs,hq⟩ | ⟨rfl,o,hk,hc,hd⟩ | ⟨rfl,hk⟩ | ⟨rfl,S,n,hk⟩
  .obtain ⟨its,_,pl,_⟩:=I.list hq
   refine ⟨pl.isList.typeIs,fun a e=>?_⟩
   cases e
   obtain ⟨o,n,e,c,hd,_⟩:=pl
   exact ⟨o,e,hd⟩
  .refine ⟨⟨o,I.kIn p o hk,hc⟩,fun a e=>?_⟩
   cases e
   exact ⟨o,I.kIn _ o hk,hd⟩
  .have z:∃ o,s.heap.get? p=some o /\ o.ExactDict:=by
    rcases hk with ⟨kvs,hk⟩ | ⟨kvs,hk⟩
    .obtain ⟨_,_,_,_,o,_,_,e,ex,_⟩:=I.hok p _ hk
     exact ⟨o,e,ex⟩
    .obtain ⟨_,_,_,_,o,_,_,e,ex,_⟩:=I.hok p _ hk
     exact ⟨o,e,ex⟩
   obtain ⟨o,e,ex⟩:=z
   refine ⟨⟨o,e,ex.1⟩,fun a e2=>?_⟩
   cases e2
   exact ⟨o,e,ex.2.1⟩
  .obtain ⟨o,_,_,_,e,ex,_⟩:=I.hok p _ hk
   refine ⟨⟨o,e,ex.1⟩,fun a e2=>?_⟩
   cases e2
   exact ⟨o,e,ex.2.1⟩
 | _=>exact False.elim ty
noncomputable def tBM0 (K:W.Frag) (T:String) (r:V->List V->Hp->VK->Prop) (to:TE):TE:=fun σ H Q=>to σ H fun x H1=>tyV K T x H1 /\ r x [] H1 Q
noncomputable def tBM (K:W.Frag) (T:String) (r:V->List V->Hp->VK->Prop) (to:TE) (t:TA):TE:=fun σ H Q=>to σ H fun x H1=>tyV K T x H1 /\ t σ H1 fun xs H2=>r x xs H2 Q
variable {o e:Expr} {es:List Expr} {to:TE} {t:TA} {name:Str} {apos cpos:Pos} {T id:String} {r:V->List V->Hp->VK->Prop}
theorem ZEn (pa:PlainAttrs T) (slot:Slot T name id) (hty:typeOf (.builtin id)=pure (.type "method_descriptor")) (hm:MtR X id r) (ho:PE X o to) (ha:PA X (e::es) t)
  (hbase:attributeBase o name X.env (eval o X.env)=eval o X.env:=by rfl)
  (hfew:((backTo cpos (starEach (e::es) X.env)).all (fun x=>!x.1) && (backToKw cpos (keywordEach [] X.env)).all (fun x=>x.1.isSome)
   && decide ((e::es).length+([]:List Keyword).length+(if ([]:List Keyword).isEmpty then 0 else 1) < 30))=true:=by rfl)
  (hline:(apos.endLine == cpos.line)=true:=by rfl) (hs:starEach (e::es) X.env=(false,eval e X.env)::starEach es X.env:=by rfl) (hplain:(backTo cpos (starEach es X.env)).any (·.1)=false:=by rfl) :
  PE X (.Call (.Attribute o name apos) (e::es) [] cpos) (tBM X.K T r to t):=by
 intro pins s σ H Q I h
 refine wpAny_Call_method_late hbase hfew hline rfl (thn (ho pins s σ H _ I h) fun v s1 zz=>?_)
 obtain ⟨x,H1,I1,r1,ty,q1⟩:=zz
 obtain ⟨h1,h2⟩:=tyV_is I1 r1 ty
 refine ⟨T,id,pa,slot,hty,h1,h2,?_⟩
 have hA:=ha cpos pins s1 σ H1 _ I1 q1
 rw [hs] at hA ⊢
 refine Calls.callWith_builtin (by show (false || (backTo cpos (starEach es X.env)).any (·.1))=false;rw [hplain] <;> rfl) (Calls.evalArgs_plain ?_)
 exact thn hA fun us s2 ⟨vs,H2,I2,r2,q2⟩=>hm pins s2 σ H2 x vs v us Q I2 r1 r2 q2
end
noncomputable def MtM (X:Cx) (id:String) (r:V->List V->Hp->VK->Prop):Prop :=
 ∀ (pins:List (Addr×Obj)) (s:Shared) (σ:St) (H:Hp) (x:V) (xs:List V) (v:Value) (us:List Value) (Q:VK),Inv X pins σ H s->RelV x v->Vals xs us->r x xs H Q ->
  wpAny (model X.prog X.w) X.A (call (.builtin id) (v::us)) (EP X pins σ Q) X.xe s
theorem Vals.one {x:V} {us:List Value} (r:Vals [x] us):∃ u,us=[u] /\ RelV x u:=ZEQ r
section
variable {X:Cx} {pins:List (Addr×Obj)} {σ:St} {H:Hp} {s:Shared} {l b:Addr} {xs ys zs:List V}
theorem Inv.lset {its its':List Value} {n:Nat} {f:Array Value->Array Value} {t':Nat} (I:Inv X pins σ H s) (hH:H l=some (.lst xs))
  (e:s.heap.get? l=some { cls:=.type "list",data:=.seq its.toArray n }) (hf:f its.toArray=its'.toArray) (hv:Vals ys its') (hz:ys.length <= sizeLine) :
  Inv X pins σ (upd H l (.lst ys)) { s with heap:=s.heap.update l (Obj.mapSeq f),toks:=t' }:=by
 have q:=PySem.IsL.update e f
 rw [hf] at q
 refine I.write (x:=l) (e:=l) (by rw [hH];exact trivial) (.inl rfl) (fun b' u hb hu=>(Heap.get?_update_other s.heap (Obj.mapSeq f) (Ne.symm hb)).trans hu) ⟨_,q⟩ ?_
 exact ⟨hz,its',_,hv,q⟩
theorem Inv.lnew {its:List Value} {t':Nat} (I:Inv X pins σ H s) (hv:Vals ys its) (hz:ys.length <= sizeLine) :
  Inv X pins σ (upd H s.heap.objs.size (.lst ys)) { s with heap:=s.heap.push { cls:=.type "list",data:=.seq its.toArray },toks:=t' } :=
 I.laid (fun _ _ q=>Heap.get?_push_of_some _ q) (yAA _) ⟨hz,its,0,hv,Heap.get?_push_size _ rfl⟩
theorem Inv.fresh (I:Inv X pins σ H s):H s.heap.objs.size=none:=I.hok.fresh (yAA _)
theorem Inv.lstM (I:Inv X pins σ H s) (hH:H l=some (.lst xs)):xs.length <= sizeLine /\ ∃ (its:List Value) (n:Nat),Vals xs its /\ xs.length=its.length /\ s.heap.get? l=some { cls:=.type "list",data:=.seq its.toArray n }:=by
 obtain ⟨z,its,n,r,e⟩:=I.hok l _ hH
 exact ⟨z,its,n,r,r.length,e⟩
end
section
variable {X:Cx}
noncomputable def rAppend:V->List V->Hp->VK->Prop:=fun x vs H Q=>∃ l xs y,x=.ref l /\ vs=[y] /\ H l=some (.lst xs) /\ xs.length < sizeLine /\ Q .non (upd H l (.lst (xs++[y])))
theorem ZCB:MtM X "list.append" rAppend:=by
 intro pins s σ H x vs v us Q I rx rv h
 obtain ⟨l,xs,y,rfl,rfl,hH,hz,q⟩:=h
 cases rx
 obtain ⟨u,rfl,ru⟩:=rv.one
 obtain ⟨z,its,n,r,hl,e⟩:=I.lstM hH
 refine call_meets F.slot_list_append ⟨_,e,rfl⟩ F.entry_list_append (F.args_list_append_2 _ _) (PySem.list_append l its.toArray n u (by rw [yAV];omega)) ⟨e,?_⟩
 refine ⟨.non,_,I.lset (its':=its++[u]) hH e (by simp) (r.append (.cons ru .nil)) ?_,rfl,q⟩
 rw [yAC,yBP]
 omega
noncomputable def rCat:R2:=fun x y H Q=>∃ l b xs zs,x=.ref l /\ y=.ref b /\ H l=some (.lst xs) /\ H b=some (.lst zs) /\ xs.length+zs.length <= sizeLine /\ ∀ p,H p=none->Q (.ref p) (upd H p (.lst (xs++zs)))
theorem op_cat:OpR X (binaryOp .Add) rCat:=by
 intro pins s σ H x y v u Q I rx ry h
 obtain ⟨l,b,xs,zs,rfl,rfl,hH,hB,hz,q⟩:=h
 cases rx
 cases ry
 obtain ⟨z,its,n,r,hl,e⟩:=I.lstM hH
 obtain ⟨z2,its2,n2,r2,hl2,e2⟩:=I.lstM hB
 refine PySem.P.add_list e e2 ?_ (by rw [yAV,yAV];omega)
 have ea:its.toArray++its2.toArray=(its++its2).toArray:=by simp
 rw [ea]
 exact ⟨.ref _,_,I.lnew (t':=s.toks) (r.append r2) (by rw [yAC];omega),rfl,q _ I.fresh⟩
end
section
variable {prog:Program} {w:World} {A:Around} {E:Value->Shared->Prop} {s:Shared}
set_option maxRecDepth 100000 in
end
section
variable {X:Cx}
end
end L2
namespace Att
open PySem PySem.W PySem.Calls PyProof.Rows
theorem ints_of_wellAll {P:Params} {h:Heap}:∀ (ns:List Int) (vs:List Value),WellAll P h vs (ns.map WData.int)->IntsAre vs ns:=by
 intro ns
 induction ns with
 | nil=>
  intro vs w
  rw [List.map_nil] at w
  cases w
  exact .nil
 | cons n ns ih=>
  intro vs w
  rw [yAT] at w
  cases w with
  | cons a b=>
   cases a
   exact .cons _ _ (ih _ b)
theorem script_of {l:OpenLaw} {n:Nat} (hn:l.most=some n) {P:Params} {h:Heap} {args:List WData} {vals:List Value}
  (hpre:l.row.toRowW.claim.pre args=true) (hwl:WellAll P h vals args) :
  ∃ a vs ns,vals=[Value.ref a] /\ args=[WData.list (ns.map WData.int)] /\ h.get? a=some { cls:=.type "list",data:=.seq vs.toArray } /\ IntsAre vs ns /\ ns.length <= n:=by
 have hsh:WShape.hasAll [] args [.list .int]=true:=(pre_splitW hpre).1
 have hc:l.pre.holds [] { args:=args }=true:=(pre_splitW hpre).2
 obtain ⟨d,r,rfl,h1,h2⟩:=hasAllW_cons hsh
 obtain rfl:=hasAllW_nil h2
 obtain ⟨xs,rfl,h3⟩:=hasW_list h1
 obtain ⟨ns,rfl⟩:=items_int h3
 have hlen:ns.length <= n:=by
  unfold OpenLaw.pre at hc
  have h4:(WTm.not (.lt (.lit (.int (n:Int))) (.len (.arg 0)))).holds [] { args:=[.list (ns.map .int)] }=true:=by
   have h4:=(holds_andW hc).1
   rw [hn] at h4
   exact h4
  have h5:=condW_of h4 (w_not (w_lt w_lit (w_len_list (w_arg rfl))))
  rw [yAB] at h5
  refine Nat.le_of_not_lt fun q=>?_
  have q':(n:Int) < ((ns.length:Nat):Int):=by omega
  first
   | (rw [decide_eq_true q'] at h5;exact absurd h5 (by decide))
   | (simp at h5;omega)
 cases hwl with
 | cons w1 w2=>
  cases w2
  cases w1 with
  | list ho hall=>exact ⟨_,_,ns,rfl,rfl,ho,ints_of_wellAll ns _ hall,hlen⟩
theorem post_true (l:OpenLaw) (args:List WData):l.row.toRowW.claim.post args (.bool true) args=true :=
 postW_of (r:=l.row.toRowW) (X:=(true == true))
  (show WShape.has [] (.bool true) .bool=true by first | rfl | decide | simp [WShape.has,WShape.arms,WShape.armsAll])
  (show (WTm.eq .res (.lit (.bool true))).value [] { args:=args,res:=some (.bool true),after:=args }=some (.bool (true == true)) from w_eq_bool (w_res rfl) w_lit) rfl
theorem attach_call {l:OpenLaw} {n:Nat} {q:Program} {loose:List Str} {XP:(Str->Option Value)->Heap->Prop} {YP:World->Heap->Prop} {d:DefRec}
  (hn:l.most=some n) (hdf:d.params.defaults=[])
  (call:∀ (w:World) (s₀ s₁:Shared) (mg mb:Str->Option Value) (fa:Addr) (o:Obj) (pm cd doc:Value) (a:Addr) (vs:List Value) (ns:List Int),
   Ground q loose [] XP w s₀ mg mb s₁.heap->YP w s₁.heap ->
   s₁.heap.get? fa=some o->o.data=.func (docDef d.name d.params d.body d.scope pm cd doc)->s₁.heap.CodeRec cd d.name->mg d.name=some (.ref fa) ->
   s₁.heap.get? a=some { cls:=.type "list",data:=.seq vs.toArray }->IntsAre vs ns->ns.length <= n->s₁.gens=#[] ->
   codeAny (model l.prog w) callerA (.call (.ref fa) ⟨[.ref a],[]⟩) (fun r s'=>r=.ok (.ret (.bool true)) /\ OldK s₁.heap s'.heap /\ s'.os=s₁.os /\ AllBare s'.gens) s₁) :
  WalkO q loose XP YP l.row.toRowW d [] (fun f vs=>PySem.call f vs):=by
 intro w s₀ s₁ mg mb G Y fa o pm cd doc dV kV ho hd hcd hD hmg hg args vals as hpre hlay hrd hwl hlo
 obtain rfl:dV=.none:=Dflts.none hD hdf
 obtain rfl:kV=.none:=Dflts.noKw hD
 obtain ⟨a,vs,ns,rfl,rfl,hobj,hints,hlen⟩:=script_of hn hpre hwl
 refine enter_call (codeAny_mono (call w s₀ s₁ mg mb fa o pm cd doc a vs ns G Y ho (fd_plain hd) hcd hmg hobj hints hlen hg) fun r s' hq=>?_)
 obtain ⟨rfl,h2,h3,h4⟩:=hq
 exact ⟨.inl ⟨.bool true,.bool true,[],rfl,fun _=>rfl,.bool true,post_true l _,fun _=>⟨List.Pairwise.nil,fun _ hm=>(nomatch hm)⟩⟩,h2,h3,h4⟩
section
variable {prog:Program} {w:World} {A:Around} {E:Value->Shared->Prop} {s:Shared} {K:Frag}
end
end Att
namespace L2
open PySem PySem.Spec PyProof.Rows
theorem ZCY:∀ {vs:List Value} {ns:List Int},IntsAre vs ns->Vals (ns.map V.int) vs
 | _,_,.nil=>.nil
 | _,_,.cons n t h=>.cons ⟨t,rfl⟩ (ZCY h)
end L2
namespace L2
open PySem PySem.Spec PyProof.Rows
noncomputable def ZAt (s:Stmt) (j:Nat):Stmt:=match s with
 | .ClassDef _ _ _ body _ _ _ _ _ _ _=>body.getD j (.Pass ⟨0,0,0,0⟩)
 | _=>.Pass ⟨0,0,0,0⟩
noncomputable def ZAM (s:Stmt):Arguments:=match s with
 | .FunctionDef _ a _ _ _ _ _ _ _ _=>a
 | _=>{ posonlyargs:=[],args:=[],vararg:=none,kwonlyargs:=[],kw_defaults:=[],kwarg:=none,defaults:=[] }
noncomputable def ZAL (s:Stmt):List Stmt:=match s with
 | .FunctionDef _ _ b _ _ _ _ _ _ _=>b
 | _=>[]
noncomputable def ZAB (s:Stmt):Scope:=match s with
 | .FunctionDef _ _ _ _ _ _ sc _ _ _=>sc
 | _=>{ kind:=.function,names:=[],isGenerator:=false,isCoroutine:=false }
noncomputable abbrev CX0:CXT:=fun _ _ _ _ _ _=>False
noncomputable abbrev E0:XK:=fun _ _ _=>False
theorem ZAp {X:Cx}:ZA0 CX0 X E0:=fun _ _ _ _ _ _ _ h=>h.elim
structure Fun (K:W.Frag) (x qual:Str) (st:Stmt) (f:Addr) (fd:FuncData):Prop where
 ex:∃ (oc:Value) (od:Option Addr) (kV doc pm:Value) (an:Option Addr) (cdv ct:Value) (osl:Array (Option Value)),
  fd=W.fnOf x qual (ZAM st) (ZAL st) (ZAB st) .none kV doc pm an cdv ct /\ K.lookup f=some ⟨oc,od,.func fd,osl⟩ /\ W.codeIn K cdv qual=true
 kp:W.keepIn K (.ref f)=true
section
variable {P:Program} {w:World} {K:W.Frag} {mg:Str->Option Value} {base:Heap}
theorem Fun.ok {x qual:Str} {st:Stmt} {f:Addr} {fd:FuncData} {N ps:List Str} {k:Nat} {sp:Sp} (F:Fun K x qual st f fd) (S:FnScope N ps (ZAB st)) (len:∀ vs H Q E,sp vs H Q E->vs.length=ps.length)
  (hbody:∀ (cdv:Value) (A:Around) (outer:List Env) (s:Shared) (H:Hp) (vs:List V) (Q:VK) (E:XK),Room k (A.deeper (envOfC qual (ZAB st) s.heap.objs.size f cdv))->sp vs H Q E ->
   ∃ t,PSs (cxOf CX0 P w K mg base N qual (ZAB st) f cdv A outer s H E).nox (ZAL st) t /\ t { nx:=fun _ H'=>Q .non H',rt:=Q } (start N vs) H):FnOk P w K mg base CX0 (k+1) f fd ps sp:=by
 obtain ⟨oc,od,kV,doc,pm,an,cdv,ct,osl,rfl,lk,hcd⟩:=F.ex
 refine ZFR lk hcd S len fun A outer s H vs Q E hr hsp=>?_
 obtain ⟨t,h,q⟩:=hbody cdv A outer s H vs Q E hr hsp
 exact ⟨t,h.nox,q⟩
theorem Fun.binds {x qual:Str} {st:Stmt} {f:Addr} {fd:FuncData} {ps:List Str} (F:Fun K x qual st f fd)
  (h:∀ (kV doc pm:Value) (an:Option Addr) (cdv ct:Value) (us:List Value),us.length=ps.length->bindArgs (W.fnOf x qual (ZAM st) (ZAL st) (ZAB st) .none kV doc pm an cdv ct) ⟨us,[]⟩=pure (ps.zip us)):Binds K fd ps []:=by
 obtain ⟨oc,od,kV,doc,pm,an,cdv,ct,osl,rfl,lk,hcd⟩:=F.ex
 exact .all (h kV doc pm an cdv ct)
theorem ZAi {x qual:Str} {st:Stmt} {f:Addr} {oc:Value} {od an:Option Addr} {osl:Array (Option Value)} {kV doc pm cdv ct:Value} (l:K.lookup f=some ⟨oc,od,.func (W.fnOf x qual (ZAM st) (ZAL st) (ZAB st) .none kV doc pm an cdv ct),osl⟩)
  (c:W.codeIn K cdv qual=true) (k:W.keepIn K (.ref f)=true):Fun K x qual st f (W.fnOf x qual (ZAM st) (ZAL st) (ZAB st) .none kV doc pm an cdv ct):=⟨⟨oc,od,kV,doc,pm,an,cdv,ct,osl,rfl,l,c⟩,k⟩
end
theorem ZEU {A:Around} {k:Nat} (hr:Room k A):A.units+1 < cLine:=Nat.lt_of_le_of_lt (Nat.add_le_add_left (by decide:1 <= 64) _) hr.units
theorem ZBm {n:Nat} (h:n <= 1000):n < sizeLine:=Nat.lt_of_le_of_lt h (by decide)
section
variable {X:Cx}
theorem pv (i:Nat) {x:Str} {pos:Pos} (hN:X.N[i]?=some x:=by rfl) (hv:Vis X.env.scope x:=by first | exact Or.inl rfl | exact Or.inr (Or.inl rfl) | exact Or.inr (Or.inr rfl)) (hd:(x == ("__debug__":Str))=false:=by decide)
  (hcd:(x == ("__classdict__":Str))=false:=by decide):PE X (.Name x pos) (tVar i):=pe_var hN hv hd hcd
end
noncomputable def Same (H H':Hp):Prop:=∀ b o,H b=some o->H' b=some o
theorem Same.refl (H:Hp):Same H H:=fun _ _ h=>h
theorem Same.trans {H H1 H2:Hp} (a:Same H H1) (b:Same H1 H2):Same H H2:=fun c o h=>b c o (a c o h)
theorem Same.free {H H':Hp} (e:Same H H') {l:Addr} (h:H' l=Option.none):H l=Option.none:=by
 cases q:H l with
 | none=>rfl
 | some o=>
  rw [e l o q] at h
  cases h
theorem Same.seq {K:W.Frag} {H H':Hp} {a:Addr} {xs:List V} (e:Same H H') (h:SqL K H a xs):SqL K H' a xs:=by
 rcases h with (h | ⟨o,h⟩) | h
 .exact .inl (.inl (e _ _ h))
 .exact .inl (.inr ⟨o,e _ _ h⟩)
 .exact .inr h
end L2
set_option maxHeartbeats 4000000
namespace L2
open PySem PySem.Spec PyProof.Rows
theorem natlt {a b:Addr} (h:a < b):@LT.lt Nat _ a b:=h
theorem ZB9 {a b:Addr} {n:Nat} (h:a < n) (k:n <= b):a≠b:=yAI (yAO h k)
theorem ZAy:∀ (names:List (Str×NameKind)) (n:Nat) (acc:List (Str×Addr)),cellsFrom n names acc=cellsFrom n names []++acc
 | [],_,_=>rfl
 | (x,k)::r,n,acc=>by
  unfold cellsFrom
  split
  .rw [ZAy r (n+1) ((x,n)::acc),ZAy r (n+1) [(x,n)],yAW];rfl
  .exact ZAy r n acc
theorem ZB6:∀ (names:List (Str×NameKind)) (n:Nat) (acc:List (Str×Addr)) (y:Str) (c:Addr),(y,c)∈cellsFrom n names acc->(y,c)∈acc∨((y,NameKind.cell)∈names /\ n <= c)
 | [],_,_,_,_,h=>.inl h
 | (x,k)::r,n,acc,y,c,h=>by
  unfold cellsFrom at h
  split at h
  .rename_i hk
   have hk':k=.cell:=by simpa using hk
   rcases ZB6 r (n+1) _ y c h with h | ⟨h,l⟩
   .rcases yAH.mp h with e | h
    .cases e;subst hk';exact .inr ⟨yAE,yAA _⟩
    .exact .inl h
   .exact .inr ⟨yAJ _ h,Nat.le_of_succ_le l⟩
  .rcases ZB6 r n _ y c h with h | ⟨h,l⟩
   .exact .inl h
   .exact .inr ⟨yAJ _ h,l⟩
noncomputable def closFrom (cells:List (Str×Addr)):List (Str×NameKind)->List (Str×Addr)->List (Str×Addr)
 | [],acc=>acc
 | (x,k)::r,acc=>if k == .free then closFrom cells r ((x,(cells.lookup x).getD 0)::acc) else closFrom cells r acc
theorem ZBe {cells:List (Str×Addr)}:∀ (names:List (Str×NameKind)) (acc:List (Str×Addr)) (y:Str) (c:Addr),(y,c)∈closFrom cells names acc->(y,c)∈acc∨((y,NameKind.free)∈names /\ c=(cells.lookup y).getD 0)
 | [],_,_,_,h=>.inl h
 | (x,k)::r,acc,y,c,h=>by
  unfold closFrom at h
  split at h
  .rename_i hk
   have hk':k=.free:=by simpa using hk
   rcases ZBe r _ y c h with h | ⟨h,l⟩
   .rcases yAH.mp h with e | h
    .cases e;subst hk';exact .inr ⟨yAE,rfl⟩
    .exact .inl h
   .exact .inr ⟨yAJ _ h,l⟩
  .rcases ZBe r _ y c h with h | ⟨h,l⟩
   .exact .inl h
   .exact .inr ⟨yAJ _ h,l⟩
theorem ZCD {cells:List (Str×Addr)}:∀ (names:List (Str×NameKind)) (acc:List (Str×Addr)) (p:Str×Addr),p∈acc->p∈closFrom cells names acc
 | [],_,_,h=>h
 | (x,k)::r,acc,p,h=>by
  unfold closFrom
  split
  .exact ZCD r _ p (yAJ _ h)
  .exact ZCD r _ p h
theorem ZBf {cells:List (Str×Addr)}:∀ (names:List (Str×NameKind)) (acc:List (Str×Addr)) (y:Str),(y,NameKind.free)∈names->(y,(cells.lookup y).getD 0)∈closFrom cells names acc
 | [],_,_,h=>nomatch h
 | (x,k)::r,acc,y,h=>by
  unfold closFrom
  rcases yAH.mp h with e | h
  .cases e
   rw [if_pos (by rfl)]
   exact ZCD r _ _ yAE
  .split
   .exact ZBf r _ y h
   .exact ZBf r _ y h
theorem ZBM {α:Type}:∀ {l:List (Str×α)} {y:Str} {c:α},(y,c)∈l->∃ c',l.lookup y=some c'
 | (k,v)::r,y,c,h=>by
  rw [yBW]
  cases hb:y == k with
  | true=>exact ⟨v,rfl⟩
  | false=>
   rcases yAH.mp h with e | h
   .cases e;rw [beq_self_eq_true] at hb;cases hb
   .exact ZBM h
theorem ZB4 {env:Env} (f:Str×NameKind->List (Str×Addr)->Sem (ForInStep (List (Str×Addr))))
  (hf:∀ name kind cs,f (name,kind) cs=if kind == .free then (do let a <- cellOf env name;pure (.yield ((name,a)::cs))) else pure (.yield cs)) :
  ∀ (names:List (Str×NameKind)) (acc:List (Str×Addr)),(∀ x,(x,NameKind.free)∈names->∃ c,env.cells.lookup x=some c)->forIn names acc f=(pure (closFrom env.cells names acc):Sem (List (Str×Addr)))
 | [],acc,_=>by rw [List.forIn_nil];rfl
 | (x,k)::r,acc,h=>by
  have hr:∀ x,(x,NameKind.free)∈r->∃ c,env.cells.lookup x=some c:=fun y hy=>h y (yAJ _ hy)
  rw [List.forIn_cons,hf]
  unfold closFrom
  split
  .rename_i hk
   have hk':k=.free:=by simpa using hk
   subst hk'
   obtain ⟨c,hc⟩:=h x yAE
   have e:cellOf env x=(pure c:Sem Addr):=by unfold cellOf;rw [hc]
   rw [e,hc]
   exact ZB4 f hf r ((x,c)::acc) hr
  .exact ZB4 f hf r acc hr
theorem ZB5 {scope:Scope} {env:Env} (h:∀ x,(x,NameKind.free)∈scope.names->∃ c,env.cells.lookup x=some c):closureFor scope env=pure (closFrom env.cells scope.names []):=by
 simp only [closureFor]
 rw [ZB4 _ (fun name kind cs=>by cases hk:kind == NameKind.free <;> simp [hk]) scope.names [] h]
 rfl
section
variable {M:Model} {A:Around} {E:Value->Shared->Prop} {s:Shared}
theorem newEnv_comp {scope:Scope} {globals:Addr} {cl:List (Str×Addr)} {qual:Str} {env:Env} {Q:Env->Shared->Prop}
  (hQ:Q { scope:=scope,locals:=s.heap.objs.size,globals:=globals,cells:=cellsFrom (s.heap.objs.size+1) scope.names cl,qual:=qual,func:=none,code:=env.code,frame:=env.frame,builtins:=env.builtins }
   { s with heap:=pushCells (s.heap.push { cls:=.type "dict",data:=.dict #[] }) scope.names }) :
  wpAny M A (newFunctionEnv scope globals cl [] qual none .none (some env)) Q E s:=by
 simp only [newFunctionEnv,Option.isSome_some,if_true]
 refine wpAny_bind (wpAny_alloc ?_)
 refine wpAny_bind (wpAny_layCells _ (fun name kind cells=>by cases hkc:kind == NameKind.cell <;> simp [hkc]) _ _ _ _ ?_)
 rw [show ({ s with heap:=s.heap.push { cls:=.type "dict",data:=.dict #[] } }:Shared).heap.objs.size=s.heap.objs.size+1 from Heap.size_push ..]
 rw [List.forIn_nil]
 exact wpAny_bind (wpAny_pure (wpAny_pure hQ))
end
theorem relabel_lookup {scope:Scope} {env:Env} (x:Str):(relabel scope env).names.lookup x=(scope.names.lookup x).map fun k=>if (k == .free && env.scope.kind == .function && env.kindOf x == some .cell)=true then NameKind.cell else k:=by
 unfold relabel
 dsimp only
 generalize scope.names=names
 induction names with
 | nil=>rfl
 | cons p r ih=>
  obtain ⟨n,k⟩:=p
  rw [yAT,yBW (as:=r)]
  cases hx:x == n with
  | true=>
   have e:x=n:=beq_iff_eq.mp hx
   subst e
   by_cases hc:(k == NameKind.free && env.scope.kind == .function && env.kindOf x == some .cell)=true
   .simp only [hc,if_true,yBW,hx,yBZ]
   .simp only [hc,yCM,if_false,yBW,hx,yBZ]
  | false=>
   by_cases hc:(k == NameKind.free && env.scope.kind == .function && env.kindOf n == some .cell)=true
   .simp only [hc,if_true,yBW,hx];exact ih
   .simp only [hc,yCM,if_false,yBW,hx];exact ih
noncomputable def ZCh (N:List Str) (osc:Scope) (k:Nat) (js:List Nat) (N':List Str) (sc:Scope):Bool :=
 decide (sc.kind=.function) && decide (N'.length=k+js.length) && decide N'.Nodup &&
 sc.names.all (fun p=>decide (sc.names.lookup p.1=some p.2) && (decide (p.2≠.free) || decide (osc.names.lookup p.1=some .cell) || decide (osc.names.lookup p.1=some .free))) &&
 (List.range js.length).all (fun i=>decide (js[i]?.bind (fun j=>N[j]?)=N'[k+i]?) && decide ((N'[k+i]?).bind (fun y=>sc.names.lookup y)=some .free))
structure CmpOk (N:List Str) (osc:Scope) (k:Nat) (js:List Nat) (N':List Str) (sc:Scope):Prop where
 kind:sc.kind=.function
 len:N'.length=k+js.length
 nd:N'.Nodup
 look:∀ p∈sc.names,sc.names.lookup p.1=some p.2
 fr:∀ y,(y,NameKind.free)∈sc.names->osc.names.lookup y=some .cell∨osc.names.lookup y=some .free
 js:∀ i j,js[i]?=some j->∃ y,N'[k+i]?=some y /\ N[j]?=some y /\ sc.names.lookup y=some .free
theorem ZFS {N:List Str} {osc:Scope} {k:Nat} {js:List Nat} {N':List Str} {sc:Scope} (h:ZCh N osc k js N' sc=true):CmpOk N osc k js N' sc:=by
 unfold ZCh at h
 simp only [yBJ,decide_eq_true_eq,List.all_eq_true,Bool.or_eq_true,yBY] at h
 obtain ⟨⟨⟨⟨h1,h2⟩,h3⟩,h4⟩,h5⟩:=h
 refine ⟨h1,h2,h3,fun p hp=>(h4 p hp).1,fun y hy=>?_,fun i j hj=>?_⟩
 .rcases (h4 _ hy).2 with (z | z) | z
  .exact absurd rfl z
  .exact .inl z
  .exact .inr z
 .have hi:i < js.length:=(yAL.mp hj).1
  obtain ⟨a,b⟩:=h5 i hi
  rw [hj] at a
  cases e:N'[k+i]? with
  | none=>rw [e] at b;cases b
  | some y=>
   rw [e] at a b
   exact ⟨y,rfl,a,b⟩
noncomputable def ZCC (scope:Scope) (cl:List (Str×Addr)) (C:Addr) (env:Env):Env :=
 { scope:=relabel scope env,locals:=C,globals:=env.globals,cells:=cellsFrom (C+1) scope.names cl,qual:=env.qual,func:=none,code:=env.code,frame:=env.frame,builtins:=env.builtins }
noncomputable def ZAo (X:Cx) (N':List Str) (scope:Scope) (C:Addr) (fp:List Addr) (s2:Shared) (H2:Hp):Cx where
 prog:=X.prog
 w:=X.w
 K:=X.K
 mg:=X.mg
 base:=X.base
 A:=X.A
 N:=N'
 s₀:=s2
 H₀:=H2
 env:=ZCC scope (closFrom X.env.cells scope.names []) C X.env
 outer:=X.stack
 stack:=X.stack
 ex:=fp
 fn:=fun x=>decide (scope.names.lookup x=some .cell)
 calm:=X.calm
 pn:=[]
 xe:=fun _ _=>False
noncomputable def up (k:Nat) (js:List Nat) (σ:St):St:=List.replicate k none++js.map fun j=>(σ[j]?).getD none
section
variable {X:Cx} {pins:List (Addr×Obj)} {σ:St} {H:Hp} {s2:Shared} {k:Nat} {js:List Nat} {N':List Str} {scope:Scope} {fp:List Addr}
theorem comp_inv (hc:CmpOk X.N X.env.scope k js N' scope) (I:Inv X pins σ H s2) (hfp:∀ b∈fp,FpOk X pins H b) (hlt:∀ b∈fp,b < s2.heap.objs.size) {h3:Heap} (hz:h3.objs.size=s2.heap.objs.size+1) (hk3:∀ b o,s2.heap.get? b=some o->h3.get? b=some o) :
  Inv (ZAo X N' scope (s2.heap.objs.size+1) fp s2 H) [] (up k js σ) H { s2 with heap:=pushCells (h3.push { cls:=.type "dict",data:=.dict #[] }) scope.names }:=by
 have frLook:∀ y,(y,NameKind.free)∈scope.names->∃ c,X.env.cells.lookup y=some c:=fun y hy=>I.ok.has y (hc.fr y hy)
 have ok0:=cellsFrom_ok scope.names (h3.push { cls:=.type "dict",data:=.dict #[] }) (s2.heap.objs.size+2) [] ⟨fun _ _ hm=>(nomatch hm),List.Pairwise.nil⟩ (by rw [Heap.size_push,hz];exact yAA _)
 rw [Heap.size_push,hz] at ok0
 have parts:∀ y c,(ZCC scope (closFrom X.env.cells scope.names []) (s2.heap.objs.size+1) X.env).cells.lookup y=some c ->
   ((y,c)∈cellsFrom (s2.heap.objs.size+2) scope.names [] /\ (y,NameKind.cell)∈scope.names /\ s2.heap.objs.size+2 <= c)∨((y,NameKind.free)∈scope.names /\ X.env.cells.lookup y=some c):=fun y c e=>by
  have m:=PySem.mem_of_lookup e
  change (y,c)∈cellsFrom (s2.heap.objs.size+1+1) scope.names _ at m
  rw [ZAy] at m
  rcases yAX.mp m with m | m
  .rcases ZB6 _ _ _ _ _ m with z | ⟨z,l⟩
   .cases z
   .exact .inl ⟨m,z,l⟩
  .rcases ZBe _ _ _ _ m with z | ⟨z,l⟩
   .cases z
   .obtain ⟨c',e'⟩:=frLook y z
    rw [e'] at l
    exact .inr ⟨z,by rw [e'];exact congrArg some l.symm⟩
 have old:∀ y c,X.env.cells.lookup y=some c->c < s2.heap.objs.size:=fun y c e=>by
  obtain ⟨v,q⟩:=I.cell y c e
  exact q.lt
 have freeAt:∀ y,(y,NameKind.free)∈scope.names->∀ c,X.env.cells.lookup y=some c->(ZCC scope (closFrom X.env.cells scope.names []) (s2.heap.objs.size+1) X.env).cells.lookup y=some c:=fun y hy c e=>by
  have m:(y,c)∈cellsFrom (s2.heap.objs.size+1+1) scope.names (closFrom X.env.cells scope.names []):=by
   rw [ZAy]
   have q:=ZBf (cells:=X.env.cells) scope.names [] y hy
   rw [e] at q
   exact yAQ _ q
  obtain ⟨c',q⟩:=ZBM m
  rcases parts y c' q with ⟨_,z,_⟩ | ⟨_,z⟩
  .have z1:=hc.look _ z
   have z2:=hc.look _ hy
   rw [z1] at z2
   cases z2
  .rw [e] at z
   cases z
   exact q
 have keepAll:∀ b o,s2.heap.get? b=some o->(pushCells (h3.push { cls:=.type "dict",data:=.dict #[] }) scope.names).get? b=some o:=fun b o e=>pushCells_keeps _ _ b o (Heap.get?_push_of_some _ (hk3 b o e))
 refine ⟨⟨I.ok.mod,hc.kind,I.ok.glob,I.ok.blt,yAP _,fun y z c h1 h2=>?_,fun y hy=>?_,fun y c h1 h2=>?_,I.ok.hd,I.ok.frames,.inl rfl,fun b hb=>⟨?_,fun y c e=>?_⟩,I.bs,yAF I.ok.bsz I.sz,fun b o e hb=>?_,fun b hb hs=>?_,I.stack,I.stkFree⟩,
  rfl,I.bare,Un.kept keepAll,⟨fun _=>none,?_,fun i y v e1 e2 e3=>?_⟩,fun y c e=>?_,I.hok.fresh (yAP _),fun y c e=>?_,fun p hp=>absurd (show p∈([]:List (Addr×Obj)) from hp) (by simp),I.hok.kept keepAll,?_⟩
 .
  rcases parts y c h1 with ⟨a,_,l⟩ | ⟨_,a⟩ <;> rcases parts z c h2 with ⟨b,_,l'⟩ | ⟨_,b⟩
  .exact name_of_addr ok0.apart a b
  .have:=natlt (old z c b);omega
  .have:=natlt (old y c a);omega
  .exact I.ok.inj y z c a b
 .
  have hy':(relabel scope X.env).names.lookup y=some .cell∨(relabel scope X.env).names.lookup y=some .free:=hy
  rw [relabel_lookup] at hy'
  have q:scope.names.lookup y=some .cell∨scope.names.lookup y=some .free:=by
   cases e:scope.names.lookup y with
   | none=>rw [e] at hy';rcases hy' with z | z <;> cases z
   | some kk=>
    rw [e] at hy'
    cases kk <;> first | exact .inl rfl | exact .inr rfl | (rcases hy' with z | z <;> simp at z)
  rcases q with q | q
  .obtain ⟨c,e⟩:=ZCv (n:=s2.heap.objs.size+1+1) q
   have m:(y,c)∈cellsFrom (s2.heap.objs.size+1+1) scope.names (closFrom X.env.cells scope.names []):=by
    rw [ZAy]
    exact yBU _ (PySem.mem_of_lookup e)
   exact ZBM m
  .have m:=PySem.mem_of_lookup q
   obtain ⟨c,e⟩:=frLook y m
   exact ⟨c,freeAt y m c e⟩
 .
  have h1':scope.names.lookup y=some .cell:=of_decide_eq_true h1
  rcases parts y c h2 with ⟨_,_,l⟩ | ⟨z,_⟩
  .show s2.heap.objs.size <= c
   omega
  .have:=hc.look _ z
   rw [h1'] at this
   cases this
 .
  exact ZB9 (hlt b hb) (yAP _)
 .rcases parts y c e with ⟨_,_,l⟩ | ⟨_,z⟩
  .exact (ZB9 (hlt b hb) (yAF (Nat.le_add_right _ 2) l)).symm
  .exact (hfp b hb).2.2.2.2.1 y c z
 .
  rcases (hfp b hb).2.2.2.1 with z | z
  .exact I.ok.noex b o e z
  .exact absurd (yAO (Heap.lt_size e) (yAF I.ok.bsz z)) (yBN _)
 .
  rcases yAH.mp (I.stkSub b hs) with z | z
  .exact (hfp b hb).2.1 z
  .exact (hfp b hb).2.2.1 z
 .
  have q:=(Heap.Ns.new h3 (.type "dict")).keeps (pushCells_keeps scope.names _)
  rw [hz] at q
  exact q
 .
  unfold up at e2
  have hik:k <= i:=by
   by_cases hi:i < k
   .rw [yBA (by simpa using hi),yCK] at e2
    rw [if_pos hi] at e2
    cases e2
   .omega
  rw [yAZ (by simpa using hik),yBV,yAU] at e2
  cases ej:js[i-k]? with
  | none=>rw [ej] at e2;cases e2
  | some j=>
   rw [ej] at e2
   have e2':(σ[j]?).getD none=some v:=Option.some.inj e2
   have e4:σ[j]?=some (some v):=by
    cases q:σ[j]? with
    | none=>rw [q] at e2';cases e2'
    | some z=>rw [q] at e2';exact congrArg some e2'
   obtain ⟨y',n1,n2,n3⟩:=hc.js _ _ ej
   rw [Nat.add_sub_cancel' hik] at n1
   have n0:N'[i]?=some y:=e1
   rw [n1] at n0
   cases n0
   have hm:=PySem.mem_of_lookup n3
   have hvis:Vis X.env.scope y:=.inr (hc.fr y hm)
   obtain ⟨m,hn,hl⟩:=I.loc
   obtain ⟨u,r,l⟩:=hl j y v n2 e4 hvis
   refine ⟨u,r,?_⟩
   rcases l with ⟨kk,_⟩ | ⟨kk,c,ec,ic⟩
   .have kk':X.env.scope.names.lookup y=some .local:=kk
    rcases hc.fr y hm with z | z <;> (rw [kk'] at z;cases z)
   .refine .inr ⟨?_,c,freeAt y hm c ec,ic.keeps keepAll⟩
    show (relabel scope X.env).names.lookup y=some .cell∨(relabel scope X.env).names.lookup y=some .free
    rw [relabel_lookup,n3]
    simp only [yBZ]
    split
    .exact .inl rfl
    .exact .inr rfl
 .
  rcases parts y c e with ⟨a,_,_⟩ | ⟨_,a⟩
  .exact ⟨none,(ok0.empty y c a).1⟩
  .obtain ⟨v,q⟩:=I.cell y c a
   exact ⟨v,q.keeps keepAll⟩
 .rcases parts y c e with ⟨_,_,l⟩ | ⟨_,a⟩
  .exact I.hok.fresh (by omega)
  .exact I.freeC y c a
 .unfold up
  show _=N'.length
  rw [yAC,yBV,yAB,hc.len]
theorem comp_end {σ':St} {H':Hp} {s':Shared} {C D:Addr} {its:List Value} {n:Nat} {ys:List V} (I:Inv X pins σ H s2) (hfp:∀ b∈fp,FpOk X pins H b) (hC:s2.heap.objs.size <= C) (hD:s2.heap.objs.size <= D) (hDC:D≠C)
  (I':Inv (ZAo X N' scope C fp s2 H) [(D,{ cls:=.type "list",data:=.seq its.toArray n })] σ' H' s') (hv:Vals ys its) (hz:ys.length <= sizeLine) :
  H' D=none /\ ∀ h',Heap.SameBut C s'.heap h'->Inv X pins σ (upd H' D (.lst ys)) { s' with heap:=h' }:=by
 obtain ⟨eD,nD,_,_,_⟩:=I'.pin (D,{ cls:=.type "list",data:=.seq its.toArray n }) (yAQ _ yAE)
 dsimp only at eD nD
 have nC:H' C=none:=I'.free
 refine ⟨nD,fun h' hs=>?_⟩
 have neC:∀ b o,s2.heap.get? b=some o->b≠C:=fun b o e=>ZB9 (Heap.lt_size e) hC
 have neD:∀ b o,s2.heap.get? b=some o->b≠D:=fun b o e=>ZB9 (Heap.lt_size e) hD
 have tr:∀ b u,H' b=some u->b≠D:=fun b u e z=>by rw [z,nD] at e;cases e
 have trC:∀ b u,H' b=some u->b≠C:=fun b u e z=>by rw [z,nC] at e;cases e
 have B:=I'.base
 refine I.call' (s':={ s' with heap:=h' }) (ch:=fp) I'.os ⟨fun b o e nn hb hx=>?_,fun b o e nn hb hx=>?_,fun b o e nn hx=>?_,fun b o e hx=>?_,fun b xs e=>?_,fun b o u e=>?_,fun b ps e=>?_⟩ (fun b u e=>?_) I'.bare fun b hb=>?_
 .exact (hs.2 b (neC b o e)).trans (B.keep b o e nn hb hx)
 .obtain ⟨sl,q⟩:=B.slot b o e nn hb hx
  exact ⟨sl,(hs.2 b (neC b o e)).trans q⟩
 .rw [ZAG (neD b o e)]
  exact B.free b o e nn hx
 .obtain ⟨o',q⟩:=B.there b o e hx
  exact ⟨o',(hs.2 b (neC b o e)).trans q⟩
 .have q:=B.tups b xs e
  rw [ZAG (tr b _ q)]
  exact q
 .have q:=B.frzs b o u e
  rw [ZAG (tr b _ q)]
  exact q
 .obtain ⟨more,q⟩:=B.tbls b ps e
  exact ⟨more,by rw [ZAG (tr b _ q)];exact q⟩
 .by_cases hb:b=D
  .subst hb
   rw [ZAF] at e
   cases e
   exact ⟨hz,its,n,hv,(hs.2 b hDC).trans eD⟩
  .rw [ZAG hb] at e
   refine (I'.hok b u e).stay (fun c v hcc q=>(hs.2 c ?_).trans q) (fun c q=>by rw [ZAG (tr c _ q)];exact q) fun c xs q=>by rw [ZAG (tr c _ q)];exact q
   rcases hcc with rfl | hcc
   .exact trC c _ e
   .exact trC c _ hcc
 .obtain ⟨_,f1,_,f3,f4,f5⟩:=hfp b hb
  exact ⟨f3,f1,f4,f5⟩
end
section
variable {prog:Program} {w:World} {A:Around} {R:Result->Shared->Prop} {s:Shared}
theorem codeAny_compLoop_any {elt target iter:Expr} {ifs:List Expr} {scope:Scope} {pos:Pos} {it acc:Value} {env:Env} (I:Nat->Shared->Prop)
  (turn:∀ n s,I n s->wpAny (model prog w) A (pyNext it) (fun r s₁=>match r with
   | none=>R (.ok .next) s₁
   | some v=>wpAny (model prog w) A (letOwnedTupleGo target it v) (fun _ s₁'=>wpAny (model prog w) A (assign target env v) (fun _ s₂=>
     wpAny (model prog w) A (forIn ifs true fun c r=>if r=true then do let ok <- isTrue c env (eval c env);pure (ForInStep.yield ok) else pure (ForInStep.yield r)) (fun ok s₃=>
      if ok=true then wpAny (model prog w) A (eval elt env) (fun x s₄=>
       wpAny (model prog w) A (call (.builtin "list.append") [acc,x]) (fun _ s₅=>∃ m,m < n /\ I m s₅) (notedBy (model prog w) A env fun e s'=>R (.error e) s') s₄) (notedBy (model prog w) A env fun e s'=>R (.error e) s') s₃
      else ∃ m,m < n /\ I m s₃) (notedBy (model prog w) A env fun e s'=>R (.error e) s') s₂) (notedBy (model prog w) A env fun e s'=>R (.error e) s') s₁') (notedBy (model prog w) A env fun e s'=>R (.error e) s') s₁) (notedBy (model prog w) A env fun e s'=>R (.error e) s') s)
  (n:Nat) (h:I n s) :
  codeAny (model prog w) A (.compLoop (.ListComp elt [⟨target,iter,ifs,0⟩] scope pos) 0 it acc env) R s:=by
 refine codeAny_loop rfl I (fun n s hI=>?_) n h
 show wpAny _ A ((compTurn (.ListComp elt [⟨target,iter,ifs,0⟩] scope pos) 0 it acc env).onRaise (fun x=>do noteFrame x env;theTreesLotGoes x)) _ _ s
 refine wpAny_noted ?_
 rw [compTurn_list]
 refine wpAny_bind (wpAny_standAt (wpAny_bind (wpAny_mono (turn n s hI) (fun r s₁ h₁=>?_) fun _ _ h'=>h')))
 cases r with
 | none=>exact wpAny_pure h₁
 | some v=>
  refine wpAny_bind (wpAny_mono h₁ (fun _ s₁' h₁'=>?_) fun _ _ h'=>h')
  refine wpAny_bind (wpAny_mono h₁' (fun _ s₂ h₂=>wpAny_bind (wpAny_mono h₂ (fun ok s₃ h₃=>?_) fun _ _ h'=>h')) fun _ _ h'=>h')
  cases ok with
  | false=>exact wpAny_pure ⟨rfl,h₃⟩
  | true=>exact wpAny_bind (wpAny_bind (wpAny_mono h₃ (fun x s₄ h₄=>wpAny_bind (wpAny_mono h₄ (fun _ s₅ h₅=>wpAny_pure (wpAny_pure ⟨rfl,h₅⟩)) fun _ _ h'=>h')) fun _ _ h'=>h'))
end
noncomputable def PIfs (X:Cx) (ifs:List Expr) (t:TT):Prop :=
 ∀ (pins:List (Addr×Obj)) (s:Shared) (σ:St) (H:Hp) (Q:Bool->Hp->Prop),Inv X pins σ H s->t σ H Q ->
  wpAny (model X.prog X.w) X.A (forIn ifs true fun c r=>if r=true then do let ok <- isTrue c X.env (eval c X.env);pure (ForInStep.yield ok) else pure (ForInStep.yield r)) (TP X pins σ Q) X.xe s
noncomputable def tYes:TT:=fun _ H Q=>Q true H
theorem ZCF {X:Cx}:PIfs X [] tYes:=fun _ _ _ H _ I h=>wpAny_tests_nil ⟨H,I,h⟩
theorem pifs_one {X:Cx} {c:Expr} {t:TT} (hc:PT X c t):PIfs X [c] t:=fun pins s σ H Q I h=>wpAny_tests_one (hc pins s σ H Q I h)
noncomputable def ZDM (k:Nat) (js:List Nat) (wi:TI) (g:TG) (tt:TT) (te:TE):TE:=fun σ H Q=>wi σ H fun J H1=>∃ W:Nat->Nat->List V->St->Hp->Prop,(∃ m,W 0 m [] (up k js σ) H1) /\ ∀ i m ys σ H,W i m ys σ H ->
 (J.stop i H /\ ys.length <= sizeLine /\ ∀ p,H p=none->Q (.ref p) (upd H p (.lst ys))) ∨
 (J.go i H /\ ys.length < sizeLine /\ ∀ x H',J.yld i H x H'->g x σ H' fun σ2 H2=>tt σ2 H2 fun b H3=>if b=true then te σ2 H3 fun y H4=>∃ m',m' < m /\ W (i+1) m' (ys++[y]) σ2 H4 else ∃ m',m' < m /\ W (i+1) m' ys σ2 H3)
section
variable {X:Cx} {k:Nat} {js:List Nat} {N':List Str} {scope:Scope} {tg iter elt:Expr} {ifs:List Expr} {wi:TI} {g:TG} {tt:TT} {te:TE} {pos:Pos}
theorem comp_core {use:Option (Value->Sem Unit)} {Q':Value->Shared->Prop} (hcalm:X.calm=true) (hc:CmpOk X.N X.env.scope k js N' scope) (hi:PI X tg iter wi)
  (hg:∀ C fp s2 H2,PG (ZAo X N' scope C fp s2 H2) tg g) (ht:∀ C fp s2 H2,PIfs (ZAo X N' scope C fp s2 H2) ifs tt) (he:∀ C fp s2 H2,PE (ZAo X N' scope C fp s2 H2) elt te)
  {pins:List (Addr×Obj)} {s:Shared} {σ:St} {H:Hp} {Q:VK} (I:Inv X pins σ H s) (h:ZDM k js wi g tt te σ H Q)
  (fin:∀ (C D:Addr) (s':Shared) (m:Str->Option Value) (H':Hp) (ys:List V),s'.heap.Ns C m->C≠X.env.locals->C∉X.fs->D≠C->H' C=none->X.s₀.heap.objs.size <= C->(∀ x c,X.env.cells.lookup x=some c->c≠C)->(∀ p∈X.pn++pins,p.1≠C)->(∀ h',Heap.SameBut C s'.heap h'->Inv X pins σ (upd H' D (.lst ys)) { s' with heap:=h' })->Q (.ref D) (upd H' D (.lst ys)) ->
   compPost (model X.prog X.w) X.A X.xe use Q' (.ref D) C (.ok .next) s')
  (hs:∀ x,foldedSetIterable iter X.env x=pure x) (p':Pos) :
  wpAny (model X.prog X.w) X.A (comprehension (.ListComp elt [⟨tg,iter,ifs,0⟩] scope pos) scope X.env p' (newList []) false (eval iter X.env) use) Q' X.xe s:=by
 have hclos:closureFor scope X.env=pure (closFrom X.env.cells scope.names []):=ZB5 fun y hy=>I.ok.has y (hc.fr y hy)
 refine wpAny_comprehension_free (g:=⟨tg,iter,ifs,0⟩) (gs:=[]) rfl hs hclos hc.kind (fun x hx hl=>by rw [hc.look x hx,hl]) ?_
 refine thn (hi pins s σ H _ I h) fun v s1 h1=>thn h1 fun itv s2 h2=>?_
 obtain ⟨it,fp,tn,J,H2,e,I2,T,st2,f2,W,⟨m0,w0⟩,turn⟩:=h2
 subst e
 have hlt:∀ b∈fp,b < s2.heap.objs.size:=fun b hb=>by
  obtain ⟨o,e,_⟩:=T.obj _ _ st2 b hb
  exact Heap.lt_size e
 refine wpAny_newObj_type (newEnv_comp ?_)
 have hz3:(s2.heap.push { cls:=.type "list",dict:=none,data:=.seq ([]:List Value).toArray }).objs.size=s2.heap.objs.size+1:=Heap.size_push ..
 have I3:=comp_inv (h3:=s2.heap.push { cls:=.type "list",dict:=none,data:=.seq ([]:List Value).toArray }) hc I2 f2 hlt hz3 (fun b o e=>Heap.get?_push_of_some _ e)
 dsimp only
 rw [hz3]
 generalize hS4:({ s2 with heap:=pushCells ((s2.heap.push { cls:=.type "list",dict:=none,data:=.seq ([]:List Value).toArray }).push { cls:=.type "dict",data:=.dict #[] }) scope.names }:Shared)=s4 at I3 ⊢
 have keep4:∀ b o,s2.heap.get? b=some o->s4.heap.get? b=some o:=fun b o e=>by
  rw [<- hS4]
  exact pushCells_keeps _ _ b o (Heap.get?_push_of_some _ (Heap.get?_push_of_some _ e))
 have eD4:s4.heap.get? s2.heap.objs.size=some { cls:=.type "list",data:=.seq ([]:List Value).toArray 0 }:=by
  rw [<- hS4]
  exact pushCells_keeps _ _ _ _ (Heap.get?_push_of_some _ (Heap.get?_push_size _ rfl))
 generalize hX':ZAo X N' scope (s2.heap.objs.size+1) fp s2 H2=X' at I3
 have hC':X'.env.locals=s2.heap.objs.size+1:=by rw [<- hX'];rfl
 have hfs':X'.fs=frs X.stack:=by rw [<- hX'];rfl
 have nofsD:∀ a,s2.heap.objs.size <= a->a∉frs X.stack:=fun a ha hb=>by
  rcases yAH.mp (I2.stkSub a hb) with z | z
  .exact absurd z.symm (ZB9 I2.lt ha)
  .exact I2.nofs ha z
 have cellD:∀ x c,X'.env.cells.lookup x=some c->c≠s2.heap.objs.size:=fun x c e z=>by
  obtain ⟨v,o,ho,hd⟩:=I3.cell x c e
  rw [z,eD4] at ho
  cases ho
  cases hd
 have pinD:∀ {σ':St} {H':Hp} {s':Shared} {its:List Value} {n:Nat},Inv X' [] σ' H' s'->s'.heap.get? s2.heap.objs.size=some { cls:=.type "list",data:=.seq its.toArray n }->H' s2.heap.objs.size=none ->
   Inv X' [(s2.heap.objs.size,{ cls:=.type "list",data:=.seq its.toArray n })] σ' H' s':=fun {σ' H' s' its n} J e nn=>J.pins_of fun p hp=>by
  have e':p=(s2.heap.objs.size,{ cls:=.type "list",data:=.seq its.toArray n }):=by simpa using hp
  subst e'
  refine ⟨e,nn,?_,?_,fun v z=>nomatch z⟩
  .rw [hC'];exact yAI (yBO _)
  .rw [hfs'];exact nofsD _ (yAA _)
 have I4:=pinD I3 eD4 (I2.hok.fresh (yAA _))
 have stat:∀ {H':Hp} {o:Obj},(∀ b∈fp,H' b=none)->∀ b∈fp,FpOk X' [(s2.heap.objs.size,o)] H' b:=fun {H' o} hn b hb=>by
  have hb':=hlt b hb
  refine ⟨hn b hb,?_,?_,.inl (by rw [<- hX'];exact hb),fun x c e z=>?_,fun p hp z=>?_⟩
  .rw [hC'];exact ZB9 hb' (yAP _)
  .rw [hfs']
   intro z
   rcases yAH.mp (I2.stkSub b z) with q | q
   .exact (f2 b hb).2.1 q
   .exact (f2 b hb).2.2.1 q
  .have q:=I3.ok.exf b (by rw [<- hX'];exact hb)
   exact q.2 x c e z
  .rw [show X'.pn=[] by rw [<- hX'];rfl] at hp
   have e':p=(s2.heap.objs.size,o):=by simpa using hp
   subst e'
   exact absurd hb' (by rw [<- z];exact yBN _)
 have hfin:∀ {σ':St} {H':Hp} {s':Shared} {its:List Value} {n:Nat} {ys:List V},Inv X' [(s2.heap.objs.size,{ cls:=.type "list",data:=.seq its.toArray n })] σ' H' s'->Vals ys its->ys.length <= sizeLine->(∀ p,H' p=none->Q (.ref p) (upd H' p (.lst ys))) ->
   compPost (model X.prog X.w) X.A X.xe use Q' (.ref s2.heap.objs.size) (s2.heap.objs.size+1) (.ok .next) s':=fun {σ' H' s' its n ys} J hv hz hq=>by
  obtain ⟨m,hn,_⟩:=id J.loc
  rw [hC'] at hn
  have nC:H' (s2.heap.objs.size+1)=none:=by rw [<- hC'];exact J.free
  have J':Inv (ZAo X N' scope (s2.heap.objs.size+1) fp s2 H2) [(s2.heap.objs.size,{ cls:=.type "list",data:=.seq its.toArray n })] σ' H' s':=by rw [hX'];exact J
  obtain ⟨nD,E⟩:=comp_end I2 f2 (yAP _) (yAA _) (yAI (yBO _)) J' hv hz
  refine fin _ _ s' m H' ys hn ?_ (I2.nofs (yAP _)) (yAI (yBO _)) nC (yAF I2.sz (yAP _)) (fun x c e z=>?_) (fun p hp z=>?_) E (hq _ nD)
  .exact (ZB9 I2.lt (yAP _)).symm
  .obtain ⟨v,q⟩:=I2.cell x c e
   exact absurd z (ZB9 q.lt (yAP _))
  .exact absurd z (ZB9 (Heap.lt_size (I2.pin p hp).1) (yAP _))
 have hprog:X'.prog=X.prog:=by rw [<- hX'];rfl
 have hw:X'.w=X.w:=by rw [<- hX'];rfl
 have hK:X'.K=X.K:=by rw [<- hX'];rfl
 have hcalm':X'.calm=true:=by rw [<- hX'];exact hcalm
 have hA:X'.A=X.A:=by rw [<- hX'];rfl
 have henv:ZCC scope (closFrom X.env.cells scope.names []) (s2.heap.objs.size+1) X.env=X'.env:=by rw [<- hX'];rfl
 have hgX:=hg (s2.heap.objs.size+1) fp s2 H2
 have htX:=ht (s2.heap.objs.size+1) fp s2 H2
 have heX:=he (s2.heap.objs.size+1) fp s2 H2
 rw [hX'] at hgX htX heX
 have hxe:∀ e s',X'.xe e s'->False:=fun e s' z=>by rw [<- hX'] at z;exact z
 have hXA:X'.pn=[]:=by rw [<- hX'];rfl
 have hs0:X'.s₀.heap.objs.size=s2.heap.objs.size:=by rw [<- hX'];rfl
 have loop:codeAny (model X.prog X.w) X.A (.compLoop (.ListComp elt [⟨tg,iter,ifs,0⟩] scope pos) 0 (.ref it) (.ref s2.heap.objs.size) X'.env) (compPost (model X.prog X.w) X.A X.xe use Q' (.ref s2.heap.objs.size) (s2.heap.objs.size+1)) s4:=by
  refine codeAny_compLoop_any (fun n s'=>∃ i σ' H' its nn ys,Inv X' [(s2.heap.objs.size,{ cls:=.type "list",data:=.seq its.toArray nn })] σ' H' s' /\ tn i s'.heap /\ (∀ b∈fp,H' b=none) /\ Vals ys its /\ W i n ys σ' H') ?_ m0
   ⟨0,_,H2,[],0,[],I4,T.keep _ _ _ st2 (fun b _ o e=>keep4 b o e),fun b hb=>(f2 b hb).1,.nil,w0⟩
  rintro n s5 ⟨i,σ5,H5,its,nn,ys,I5,st5,fr5,hv,w5⟩
  rcases turn i n ys σ5 H5 w5 with ⟨stop,hz,hq⟩ | ⟨go,hz,step⟩
  .have d:=T.done X' hprog hw hK hcalm' i _ s5 σ5 H5 (fun _ _=>False) I5 (stat fr5) st5 stop
   rw [hA] at d
   refine wpAny_mono d (fun r s6 ⟨hr,I6⟩=>?_) fun _ _ z=>z.elim
   subst hr
   exact hfin I6 hv hz hq
  .have d:=T.item X' hprog hw hK hcalm' i _ s5 σ5 H5 (fun _ _=>False) I5 (stat fr5) st5 go
   rw [hA] at d
   refine wpAny_mono d (fun r s6 ⟨u,hr,h6⟩=>?_) fun _ _ z=>z.elim
   subst hr
   refine wpAny_mono h6 (fun _ s7 zz=>?_) fun _ _ z=>z.elim
   obtain ⟨x,H7,I7,r7,y7,st7,fr7⟩:=zz
   have I7':=I7.pinned (stat fr7) (T.obj _ _ st7)
   have a1:=hgX _ s7 σ5 H7 x u _ I7' r7 (step x H7 y7)
   rw [hprog,hw,hA] at a1
   refine wpAny_mono a1 (fun _ s8 zz=>?_) fun _ _ z=>(hxe _ _ z).elim
   obtain ⟨σ8,H8,I8,q8⟩:=zz
   have a2:=htX _ s8 σ8 H8 _ I8 q8
   rw [hprog,hw,hA] at a2
   refine wpAny_mono a2 (fun ok s9 ⟨H9,I9,q9⟩=>?_) fun _ _ z=>(hxe _ _ z).elim
   have back:∀ {σ':St} {H':Hp} {s':Shared},Inv X' ([(s2.heap.objs.size,({ cls:=.type "list",data:=.seq its.toArray nn }:Obj))]++ZDG fp s7.heap) σ' H' s'->tn (i+1) s'.heap /\ (∀ b∈fp,H' b=none):=fun {σ' H' s'} J=>by
    refine ⟨T.keep _ _ _ st7 fun b hb o e=>(J.pin (b,o) (yAQ _ (yAQ _ (ZBR hb e)))).1,fun b hb=>?_⟩
    obtain ⟨o,e,d⟩:=T.obj _ _ st7 b hb
    exact (J.pin (b,o) (yAQ _ (yAQ _ (ZBR hb e)))).2.1
   cases ok with
   | false=>
    rw [if_neg yAS] at q9 ⊢
    obtain ⟨m',hm,w9⟩:=q9
    obtain ⟨t9,f9⟩:=back I9
    exact ⟨m',hm,i+1,σ8,H9,its,nn,ys,I9.unpinned,t9,f9,hv,w9⟩
   | true=>
    rw [if_pos rfl] at q9 ⊢
    have a3:=heX _ s9 σ8 H9 _ I9 q9
    rw [hprog,hw,hA] at a3
    refine wpAny_mono a3 (fun uy s10 zz=>?_) fun _ _ z=>(hxe _ _ z).elim
    obtain ⟨y,H10,I10,r10,m',hm,w10⟩:=zz
    obtain ⟨t10,f10⟩:=back I10
    have I11:=I10.unpinned
    obtain ⟨eD,nD,_,_,_⟩:=I11.pin (s2.heap.objs.size,{ cls:=.type "list",data:=.seq its.toArray nn }) (yAQ _ yAE)
    dsimp only at eD nD
    have hsz:its.length < sizeLine:=by rw [<- hv.length];exact hz
    refine wpAny_list_append_plain ⟨nn,eD⟩ (fun h' hpl hsb=>?_) (by rw [yAV];omega)
    obtain ⟨n',e'⟩:=hpl
    have e'':h'.get? s2.heap.objs.size=some { cls:=.type "list",data:=.seq (its++[uy]).toArray n' }:=by rw [e'];simp
    have I12:Inv X' [] σ8 H10 s10:=I11.pins_of fun p hp=>absurd hp (by simp)
    have I13:=I12.turned (h':=h') (t':=s10.toks) (it:=s2.heap.objs.size) (fun b o hb e=>(hsb.2 b hb).trans e) nD (by rw [hC'];exact yAI (yBO _)) (.inr (by rw [hs0];exact yAA _)) cellD (fun p hp=>absurd hp (by rw [hXA];simp))
    refine ⟨m',hm,i+1,σ8,H10,its++[uy],n',ys++[y],pinD I13 e'' nD,T.keep _ _ _ t10 fun b hb o e=>?_,f10,hv.append (.cons r10 .nil),w10⟩
    exact (hsb.2 b (ZB9 (hlt b hb) (yAA _))).trans e
 have hst:codeAny (model X.prog X.w) X.A (.compStart (.ListComp elt [⟨tg,iter,ifs,0⟩] scope pos) 0 (.ref it) (.ref s2.heap.objs.size) X'.env) (compPost (model X.prog X.w) X.A X.xe use Q' (.ref s2.heap.objs.size) (s2.heap.objs.size+1)) s4 :=
  codeAny_compStart_list loop (T.self X.A 0 s4 _ _ (T.keep _ _ _ st2 (fun b _ o e=>keep4 b o e)) loop)
 rw [<- henv] at hst
 exact hst
theorem ZDS (hcalm:X.calm=true) (hc:ZCh X.N X.env.scope k js N' scope=true) (hi:PI X tg iter wi)
  (hg:∀ C fp s2 H2,PG (ZAo X N' scope C fp s2 H2) tg g) (ht:∀ C fp s2 H2,PIfs (ZAo X N' scope C fp s2 H2) ifs tt) (he:∀ C fp s2 H2,PE (ZAo X N' scope C fp s2 H2) elt te)
  (hs:∀ x,foldedSetIterable iter X.env x=pure x:=by intro _;rfl):PE X (.ListComp elt [⟨tg,iter,ifs,0⟩] scope pos) (ZDM k js wi g tt te):=by
 intro pins s σ H Q I h
 rw [eval_ListComp]
 refine comp_core (use:=none) hcalm (ZFS hc) hi hg ht he I h (fun C D s' m H' ys hn _ _ _ _ _ _ _ E q=>?_) hs _
 exact ⟨m,hn,fun h' hsb=>⟨.ref D,_,E h' hsb,rfl,q⟩⟩
theorem ZCl {i:Nat} {x:Str} {px spos:Pos} (hN:X.N.Nodup) (hix:X.N[i]?=some x) (hx:Loc X.env.scope x) (hcalm:X.calm=true) (hc:ZCh X.N X.env.scope k js N' scope=true) (hi:PI X tg iter wi)
  (hg:∀ C fp s2 H2,PG (ZAo X N' scope C fp s2 H2) tg g) (ht:∀ C fp s2 H2,PIfs (ZAo X N' scope C fp s2 H2) ifs tt) (he:∀ C fp s2 H2,PE (ZAo X N' scope C fp s2 H2) elt te)
  (hs:∀ x,foldedSetIterable iter X.env x=pure x:=by intro _;rfl) (hsw:swapsWith (.ListComp elt [⟨tg,iter,ifs,0⟩] scope pos) (some (.Name x px)) spos.line X.env=pure true:=by rfl)
  (hf:X.fn x=true∨X.env.scope.names.lookup x=some .local:=by first | exact .inl rfl | exact .inr rfl | assumption) :
  PS X (.Assign [.Name x px] (.ListComp elt [⟨tg,iter,ifs,0⟩] scope pos) spos) (tAsg (ZDM k js wi g tt te) (ZEs i)):=by
 intro pins s σ H D I h
 rw [exec_Assign_Name_used _ _ _ _ hsw]
 refine wpAny_bind (wpAny_standAt (wpAny_bind ?_))
 show wpAny _ X.A (do let _ <- comprehension (.ListComp elt [⟨tg,iter,ifs,0⟩] scope pos) scope X.env _ (newList []) false (eval iter X.env) (some (assign (.Name x px) X.env))) _ _ s
 refine wpAny_bind (wpAny_mono (comp_core (use:=some (assign (.Name x px) X.env)) (Q':=fun _ s'=>SP X pins D .next s') hcalm (ZFS hc) hi hg ht he I h (fun C Dd s' m H' ys hn c1 c2 c3 c4 c5 c6 c7 E q=>?_) hs _) (fun _ s' hq=>wpAny_pure (wpAny_pure hq)) fun _ _ e=>e)
 have J:=E s'.heap (.refl ..)
 obtain ⟨oC,es,ep,eC,dC,rC⟩:=id hn
 have J':Inv X (pins++[(C,oC)]) σ (upd H' Dd (.lst ys)) s':=J.pins_of fun p hp=>by
  rcases yAX.mp hp with z | z
  .exact J.pin p (yAQ _ z)
  .have e':p=(C,oC):=by simpa using z
   subst e'
   refine ⟨eC,?_,c1,c2,fun v z=>?_⟩
   .show upd H' Dd _ C=none
    rw [ZAG (Ne.symm c3)]
    exact c4
   .have z':oC.data=.cell v:=z
    rw [dC] at z'
    cases z'
 show wpAny _ X.A (assign (.Name x px) X.env (.ref Dd)) _ _ _
 refine wpAny_assign_Name (ZCp (Q:=fun _ s''=>∃ m,s''.heap.Ns C m /\ ∀ h',Heap.SameBut C s''.heap h'->SP X pins D .next { s'' with heap:=h' }) J' hN hix hx (v:=.ref Dd) (u:=.ref Dd) rfl (fun s'' K'=>?_) hf)
 obtain ⟨e2,n2,_,_,_⟩:=K'.pin (C,oC) (yAQ _ (yAQ _ yAE))
 dsimp only at e2 n2
 refine ⟨m,⟨oC,es,ep,e2,dC,rC⟩,fun h' hsb=>⟨_,_,K'.unpinned.turned (it:=C) (t':=s''.toks) (fun b o hb e=>(hsb.2 b hb).trans e) n2 c1 (.inr c5) c6 c7,q⟩⟩
end
mutual
noncomputable def Dp (K:W.Frag) (H:Hp):PyData->V->Prop
 | .none,v=>v=.non
 | .bool b,v=>v=.bl b
 | .int i,v=>v=.int i
 | .str x,v=>v=.str x
 | .list ds,v=>∃ a xs,v=.ref a /\ SqL K H a xs /\ DpAll K H ds xs
 | .tuple ds,v=>∃ a xs,v=.ref a /\ SqT K H a xs /\ DpAll K H ds xs
 | .dict _,_=>False
noncomputable def DpAll (K:W.Frag) (H:Hp):List PyData->List V->Prop
 | [],vs=>vs=[]
 | d::ds,vs=>∃ v r,vs=v::r /\ Dp K H d v /\ DpAll K H ds r
end
theorem DpAll.nil {K:W.Frag} {H:Hp}:DpAll K H [] []:=by unfold DpAll;rfl
theorem DpAll.cons {K:W.Frag} {H:Hp} {d:PyData} {ds:List PyData} {v:V} {vs:List V} (a:Dp K H d v) (t:DpAll K H ds vs):DpAll K H (d::ds) (v::vs):=by unfold DpAll;exact ⟨v,vs,rfl,a,t⟩
theorem DpAll.two {K:W.Frag} {H:Hp} {d e:PyData} {v u:V} (a:Dp K H d v) (b:Dp K H e u):DpAll K H [d,e] [v,u]:=.cons a (.cons b .nil)
theorem DpAll.ints {K:W.Frag} {H:Hp}:∀ (ns:List Int),DpAll K H (ns.map PyData.int) (ns.map V.int)
 | []=>.nil
 | n::r=>.cons (by unfold Dp;rfl) (DpAll.ints r)
theorem ZEN {K:W.Frag} {H:Hp} (i:Int):Dp K H (.int i) (.int i):=by unfold Dp;rfl
theorem ZEV {K:W.Frag} {H:Hp} (i:Bool):Dp K H (.bool i) (.bl i):=by unfold Dp;rfl
theorem ZC9 {K:W.Frag} {H:Hp} {a:Addr} {xs:List V} {ds:List PyData} (h:SqL K H a xs) (t:DpAll K H ds xs):Dp K H (.list ds) (.ref a):=by unfold Dp;exact ⟨a,xs,rfl,h,t⟩
theorem dp_tup {K:W.Frag} {H:Hp} {a:Addr} {xs:List V} {ds:List PyData} (h:SqT K H a xs) (t:DpAll K H ds xs):Dp K H (.tuple ds) (.ref a):=by unfold Dp;exact ⟨a,xs,rfl,h,t⟩
section
variable {X:Cx} {pins:List (Addr×Obj)} {σ:St} {H:Hp} {s:Shared}
mutual
theorem Inv.reads (I:Inv X pins σ H s):∀ {d:PyData} {v:V} {u:Value},Dp X.K H d v->RelV v u->∃ as,Reads s.heap u d as
 | .none,_,_,h,r=>by unfold Dp at h;subst h;cases (show _=Value.none from r);exact ⟨_,.none⟩
 | .bool b,_,_,h,r=>by unfold Dp at h;subst h;cases (show _=Value.bool b from r);exact ⟨_,.bool b⟩
 | .int i,_,_,h,r=>by unfold Dp at h;subst h;obtain ⟨t,q⟩:=(show ∃ t,_=Value.int i t from r);subst q;exact ⟨_,.int i t⟩
 | .str x,_,_,h,r=>by unfold Dp at h;subst h;obtain ⟨t,q⟩:=(show ∃ t,_=Value.str x t from r);subst q;exact ⟨_,.str x t⟩
 | .list ds,_,_,h,r=>by
  unfold Dp at h
  obtain ⟨a,xs,q,sq,t⟩:=h
  subst q
  cases (show _=Value.ref a from r)
  obtain ⟨its,rv,pl,_⟩:=I.list sq
  obtain ⟨as,ra⟩:=Inv.readsAll I t rv
  obtain ⟨o,n,e1,e2,_,e3⟩:=pl
  exact ⟨_,.list e1 e2 e3 (by simpa using ra)⟩
 | .tuple ds,_,_,h,r=>by
  unfold Dp at h
  obtain ⟨a,xs,q,sq,t⟩:=h
  subst q
  cases (show _=Value.ref a from r)
  obtain ⟨its,rv,pl,_⟩:=I.tuple sq
  obtain ⟨as,ra⟩:=Inv.readsAll I t rv
  obtain ⟨o,e1,e2,n,e3⟩:=pl
  exact ⟨_,.tuple e1 e2 e3 (by simpa using ra)⟩
 | .dict _,_,_,h,_=>by unfold Dp at h;exact h.elim
theorem Inv.readsAll (I:Inv X pins σ H s):∀ {ds:List PyData} {vs:List V} {us:List Value},DpAll X.K H ds vs->Vals vs us->∃ as,ReadsAll s.heap us ds as
 | [],_,_,h,r=>by unfold DpAll at h;subst h;cases r;exact ⟨_,.nil⟩
 | _::_,_,_,h,r=>by
  unfold DpAll at h
  obtain ⟨v,q,e,a,t⟩:=h
  subst e
  cases r with
  | cons r1 r2=>
   obtain ⟨as,h1⟩:=Inv.reads I a r1
   obtain ⟨bs,h2⟩:=Inv.readsAll I t r2
   exact ⟨_,.cons h1 h2⟩
end
noncomputable def rEqD (K:W.Frag):R2:=fun x y H Q=>∃ d e,Dp K H d x /\ Dp K H e y /\ d.canLay0=true /\ e.canLay0=true /\ d.depth <= 64 /\ Q (.bl (PyData.eqv d e)) H
noncomputable def rNeD (K:W.Frag):R2:=fun x y H Q=>∃ d e,Dp K H d x /\ Dp K H e y /\ d.canLay0=true /\ e.canLay0=true /\ d.depth <= 64 /\ Q (.bl (!PyData.eqv d e)) H
theorem ZEI (hu:X.A.units+64 < cLine):OpR X (compareOp .Eq) (rEqD X.K):=by
 intro pins s σ H x y v u Q I rx ry h
 obtain ⟨d,e,h1,h2,c1,c2,dp,q⟩:=h
 obtain ⟨as,ra⟩:=I.reads h1 rx
 obtain ⟨bs,rb⟩:=I.reads h2 ry
 exact SeqAt.compareEq_reads ra rb c1 c2 (by omega) ⟨.bl _,H,I,rfl,q⟩
theorem op_neD (hu:X.A.units+64 < cLine):OpR X (compareOp .NotEq) (rNeD X.K):=by
 intro pins s σ H x y v u Q I rx ry h
 obtain ⟨d,e,h1,h2,c1,c2,dp,q⟩:=h
 obtain ⟨as,ra⟩:=I.reads h1 rx
 obtain ⟨bs,rb⟩:=I.reads h2 ry
 exact SeqAt.compareNe_reads ra rb c1 c2 (by omega) ⟨.bl _,H,I,rfl,q⟩
end
section
variable {X:Cx} {x:Str} {pos:Pos}
theorem ZBy {C:Addr} (hg:Gl X x) (h:X.mg x=some (.ref C)) (hd:(x == ("__debug__":Str))=false:=by decide):PE X (.Name x pos) (tC (.ref C)):=pe_glob hg h rfl hd
theorem pe_bty {n:String} (hg:Gl X x) (hm:X.mg x=none) (hv:bootBuiltins x=some (.type n)) (hn:x≠"__name__":=by decide) (hd:(x == ("__debug__":Str))=false:=by decide):PE X (.Name x pos) (tC (.ty n)):=pe_bltn hg hm hv rfl hn hd
end
structure Fn (P:Program) (w:World) (K:W.Frag) (mg:Str->Option Value) (base:Heap) (CX:CXT) (x:Str) (k:Nat) (ps:List Str) (sp:Sp):Prop where
 ex:∃ f fd,FnOk P w K mg base CX k f fd ps sp /\ Binds K fd ps [] /\ W.keepIn K (.ref f)=true /\ mg x=some (.ref f)
structure Mt (P:Program) (w:World) (K:W.Frag) (mg:Str->Option Value) (base:Heap) (CX:CXT) (C:Addr) (m:Str) (k:Nat) (ps:List Str) (sp:Sp):Prop where
 cl:Cls K C
 ex:∃ f fd,FnOk P w K mg base CX k f fd ps sp /\ Binds K fd ps [] /\ Meth K C m f
structure Kl (P:Program) (w:World) (K:W.Frag) (mg:Str->Option Value) (base:Heap) (CX:CXT) (x:Str) (C:Addr) (k:Nat) (ps:List Str) (sp:Sp):Prop where
 mgC:mg x=some (.ref C)
 ex:∃ f fd,FnOk P w K mg base CX k f fd ps sp /\ Binds K fd ps [] /\ Mk K C f
section
variable {X:Cx} {CX:CXT} {k:Nat} {ps:List Str} {sp:Sp} {E:XK} {x m:Str} {C:Addr} {p pos apos:Pos} {e o:Expr} {es:List Expr} {ta:TE} {t:TA}
theorem ZBJ (F:Fn X.prog X.w X.K X.mg X.base CX x k ps sp) (hr:Room k X.A) (hg:Gl X x) (hx:ZA0 CX X E) (ha:PA X (e::es) t) (hdb:(x == ("__debug__":Str))=false:=by decide) (he:starEach (e::es) X.env=(false,eval e X.env)::starEach es X.env:=by rfl) (hpl:(backTo pos (starEach es X.env)).any (·.1)=false:=by rfl) :
  PE X (.Call (.Name x p) (e::es) [] pos) (ZEf sp [] E t):=by
 obtain ⟨f,fd,h1,h2,h3,h4⟩:=F.ex
 exact pe_call h1 hr hg h4 h3 h2 .nil hx ha hdb he hpl
theorem ZDB {pl:Sem Bool} (F:Mt X.prog X.w X.K X.mg X.base CX C m k ps sp) (hr:Room k X.A) (hx:ZA0 CX X E) (he:PE X o ta) (ha:PA X (e::es) t)
  (hst:starEach (e::es) X.env=(false,eval e X.env)::starEach es X.env:=by rfl) (hpl:(backTo pos (starEach es X.env)).any (·.1)=false:=by rfl)
  (ht:eval (.Call (.Attribute o m apos) (e::es) [] pos) X.env=(do
   let ov <- eval o X.env
   standAt apos.atName
   let (f,first) <- holding [ov] (getMethod ov m pl)
   callWith pos f first (backTo pos (starEach (e::es) X.env)) (backToKw pos (keywordEach [] X.env))):=by rfl) :
  PE X (.Call (.Attribute o m apos) (e::es) [] pos) (ZER C m sp [] E ta t):=by
 obtain ⟨f,fd,h1,h2,h3⟩:=F.ex
 exact pe_meth he F.cl h3 h1 hr h2 .nil hx ha hst hpl ht
theorem ZCz {pl:Sem Bool} (F:Mt X.prog X.w X.K X.mg X.base CX C m k ps sp) (hr:Room k X.A) (hx:ZA0 CX X E) (he:PE X o ta)
  (ht:eval (.Call (.Attribute o m apos) [] [] pos) X.env=(do
   let ov <- eval o X.env
   standAt apos.atName
   let (f,first) <- holding [ov] (getMethod ov m pl)
   callWith pos f first (backTo pos (starEach [] X.env)) (backToKw pos (keywordEach [] X.env))):=by rfl) :
  PE X (.Call (.Attribute o m apos) [] [] pos) (ZER C m sp [] E ta tNil):=by
 obtain ⟨f,fd,h1,h2,h3⟩:=F.ex
 exact pe_meth0 he F.cl h3 h1 hr h2 .nil hx ht
theorem ZDy (F:Kl X.prog X.w X.K X.mg X.base CX x C k ps sp) (hr:Room (k+1) X.A) (hg:Gl X x) (hx:ZA0 CX X E) (ha:PA X (e::es) t) (hdb:(x == ("__debug__":Str))=false:=by decide) (he:starEach (e::es) X.env=(false,eval e X.env)::starEach es X.env:=by rfl) (hpl:(backTo pos (starEach es X.env)).any (·.1)=false:=by rfl) :
  PE X (.Call (.Name x p) (e::es) [] pos) (ZEb C sp [] E t):=by
 obtain ⟨f,fd,h1,h2,h3⟩:=F.ex
 exact pe_make h3 h1 hr hg F.mgC h2 .nil hx ha hdb he hpl
end
noncomputable def ZE6:V->Bool
 | .ty _=>true
 | .ref _=>true
 | _=>false
noncomputable def cval:V->Value
 | .ty n=>.type n
 | .ref a=>.ref a
 | _=>.none
section
variable {X:Cx}
end
theorem ZAd {v:V} {σ:St} {H:Hp} {Q:VK}:tVar 0 (some v::σ) H Q=Q v H:=by
 apply propext;unfold tVar;simp
theorem ZAf {i:Nat} {a:Option V} {σ:St} {H:Hp} {Q:VK}:tVar (i+1) (a::σ) H Q=tVar i σ H Q:=by
 apply propext;unfold tVar;simp
theorem rI0_int {g:Int->Int->V} {i j:Int} {H:Hp} {Q:VK}:rI0 g (.int i) (.int j) H Q=Q (g i j) H:=by
 apply propext;unfold rI0;simp
theorem rI_int {C:Int->Int->Prop} {g:Int->Int->V} {i j:Int} {H:Hp} {Q:VK}:rI C g (.int i) (.int j) H Q=(C i j /\ Q (g i j) H):=by
 apply propext;unfold rI;simp
theorem rU_int {g:Int->V} {i:Int} {H:Hp} {Q:VK}:rU g (.int i) H Q=Q (g i) H:=by
 apply propext;unfold rU;simp
theorem rEq_int {i j:Int} {H:Hp} {Q:VK}:rEq (.int i) (.int j) H Q=Q (.bl (decide (i=j))) H:=by
 exact propext ⟨fun h=>by simpa using h.2,fun h=>⟨rfl,by simpa using h⟩⟩
theorem rNe_int {i j:Int} {H:Hp} {Q:VK}:rNe (.int i) (.int j) H Q=Q (.bl (!decide (i=j))) H:=by
 exact propext ⟨fun h=>by simpa using h.2,fun h=>⟨rfl,by simpa using h⟩⟩
theorem rEq_bl {i j:Bool} {H:Hp} {Q:VK}:rEq (.bl i) (.bl j) H Q=Q (.bl (decide (i=j))) H:=by
 exact propext ⟨fun h=>by simpa using h.2,fun h=>⟨rfl,by simpa using h⟩⟩
theorem rNe_bl {i j:Bool} {H:Hp} {Q:VK}:rNe (.bl i) (.bl j) H Q=Q (.bl (!decide (i=j))) H:=by
 exact propext ⟨fun h=>by simpa using h.2,fun h=>⟨rfl,by simpa using h⟩⟩
theorem rEq_str {i j:Str} {H:Hp} {Q:VK}:rEq (.str i) (.str j) H Q=Q (.bl (decide (i=j))) H:=by
 exact propext ⟨fun h=>by simpa using h.2,fun h=>⟨rfl,by simpa using h⟩⟩
theorem rNe_str {i j:Str} {H:Hp} {Q:VK}:rNe (.str i) (.str j) H Q=Q (.bl (!decide (i=j))) H:=by
 exact propext ⟨fun h=>by simpa using h.2,fun h=>⟨rfl,by simpa using h⟩⟩
theorem ex_bl {c:Bool} {Q:Bool->Prop}:(∃ k,V.bl c=V.bl k /\ Q k)=Q c:=by
 apply propext;simp
theorem ex_int {c:Int} {Q:Int->Prop}:(∃ k,V.int c=V.int k /\ Q k)=Q c:=by
 apply propext;simp
theorem ZAS {n:Nat} (h:n <= 1000):n <= sizeLine:=yBT (ZBm h)
theorem ZAK {H:Hp} {p:Addr} (h:H p=none) (o:HO):Same H (upd H p o):=fun b u q=>by rw [ZAG (ZAC q h)];exact q
noncomputable def getF (K:W.Frag) (f:Str) (x:V) (H:Hp) (Q:VK):Prop:=∃ a C dx fs v,x=.ref a /\ H a=some (.ins C dx fs) /\ Cls K C /\ NoAttr K C f /\ fs.lookup f=some v /\ Q v H
theorem tFld_eq {K:W.Frag} {ta:TE} {f:Str} {σ:St} {H:Hp} {Q:VK}:tFld K ta f σ H Q=ta σ H (fun x H1=>getF K f x H1 Q):=rfl
theorem getF_of {K:W.Frag} {f:Str} {a C dx:Addr} {fs:List (Str×V)} {v:V} {H:Hp} {Q:VK} (h:H a=some (.ins C dx fs)) (cl:Cls K C) (n:NoAttr K C f) (l:fs.lookup f=some v) (q:Q v H):getF K f (.ref a) H Q:=⟨a,C,dx,fs,v,rfl,h,cl,n,l,q⟩
noncomputable def setF (K:W.Frag) (f:Str) (x y:V) (H:Hp) (Q:Hp->Prop):Prop:=∃ a C dx fs,x=.ref a /\ H a=some (.ins C dx fs) /\ Cls K C /\ NoAttr K C f /\ fs.length < 1000 /\ Q (upd H a (.ins C dx (putF f y fs)))
theorem sFld_eq {K:W.Frag} {ta tv:TE} {f:Str} {D:Ends} {σ:St} {H:Hp}:sFld K ta tv f D σ H=tv σ H (fun y H1=>ta σ H1 fun x H2=>setF K f x y H2 (D.nx σ)):=rfl
theorem setF_of {K:W.Frag} {f:Str} {a C dx:Addr} {fs:List (Str×V)} {y:V} {H:Hp} {Q:Hp->Prop} (h:H a=some (.ins C dx fs)) (cl:Cls K C) (n:NoAttr K C f) (l:fs.length < 1000) (q:Q (upd H a (.ins C dx (putF f y fs)))):setF K f (.ref a) y H Q:=⟨a,C,dx,fs,rfl,h,cl,n,l,q⟩
theorem ZBX {K:W.Frag} {p:Addr} {xs:List V} {i:Int} {v:V} {H:Hp} {Q:VK} (h:SqL K H p xs) (e:atI xs i=some v) (q:Q v H):rIxL K (.ref p) (.int i) H Q:=⟨p,xs,i,v,rfl,rfl,h,e,q⟩
theorem ZBW {K:W.Frag} {p:Addr} {xs:List V} {i:Int} {v:V} {H:Hp} {Q:VK} (h:SqT K H p xs) (e:atI xs i=some v) (q:Q v H):rIxT K (.ref p) (.int i) H Q:=⟨p,xs,i,v,rfl,rfl,h,e,q⟩
theorem ZAY {α:Type} {xs:List α} {i:Int} {v:α} (h0:0 <= i) (h:xs[i.toNat]?=some v):atI xs i=some v:=by
 have q:=atI_nat h
 rwa [Int.toNat_of_nonneg h0] at q
theorem atI_ints {xs:List Int} {i:Int} {v:Int} (h0:0 <= i) (h:xs[i.toNat]?=some v):atI (xs.map V.int) i=some (.int v):=ZAY h0 (by rw [yAU,h];rfl)
noncomputable def Nxt (P:Nat->List V->St->Hp->Prop) (n i:Nat) (ys:List V) (σ:St) (H:Hp):Prop:=∃ m',m' < n-i /\ m'=n-(i+1) /\ i+1 <= n /\ P (i+1) ys σ H
theorem Nxt.of {P:Nat->List V->St->Hp->Prop} {n i:Nat} {ys:List V} {σ:St} {H:Hp} (h:i < n) (p:P (i+1) ys σ H):Nxt P n i ys σ H:=⟨n-(i+1),by omega,rfl,h,p⟩
theorem comp_list {K:W.Frag} {a:Addr} {xs:List V} {g:TG} {tt:TT} {te:TE} {Q:VK} {σ0:St} {H:Hp} (P:Nat->List V->St->Hp->Prop) (h0:P 0 [] σ0 H) (hl:∀ i ys σ H,i <= xs.length->P i ys σ H->SqL K H a xs /\ ys.length <= i) (hz:xs.length <= sizeLine)
  (hs:∀ i ys x σ H,i < xs.length->xs[i]?=some x->P i ys σ H->g x σ H fun σ2 H2=>tt σ2 H2 fun b H3=>if b=true then te σ2 H3 fun y H4=>Nxt P xs.length i (ys++[y]) σ2 H4 else Nxt P xs.length i ys σ2 H3)
  (hd:∀ ys σ H,P xs.length ys σ H->∀ p,H p=none->Q (.ref p) (upd H p (.lst ys))) :
  ∃ W:Nat->Nat->List V->St->Hp->Prop,(∃ m,W 0 m [] σ0 H) /\ ∀ i m ys σ H,W i m ys σ H ->
   ((Itl K a).stop i H /\ ys.length <= sizeLine /\ ∀ p,H p=none->Q (.ref p) (upd H p (.lst ys))) ∨
   ((Itl K a).go i H /\ ys.length < sizeLine /\ ∀ x H',(Itl K a).yld i H x H'->g x σ H' fun σ2 H2=>tt σ2 H2 fun b H3=>if b=true then te σ2 H3 fun y H4=>∃ m',m' < m /\ W (i+1) m' (ys++[y]) σ2 H4 else ∃ m',m' < m /\ W (i+1) m' ys σ2 H3):=by
 refine ⟨fun i m ys σ H=>m=xs.length-i /\ i <= xs.length /\ P i ys σ H,⟨xs.length,by simp,yAG _,h0⟩,?_⟩
 rintro i m ys σ H ⟨rfl,hi,p⟩
 obtain ⟨q,ly⟩:=hl i ys σ H hi p
 by_cases hlt:i < xs.length
 .refine .inr ⟨⟨xs,xs[i],q,by simp [hlt]⟩,by omega,fun x H' y=>?_⟩
  obtain ⟨e,y⟩:=y
  subst e
  exact hs i ys x σ _ hlt (y xs q) p
 .have e:i=xs.length:=by omega
  subst e
  exact .inl ⟨⟨xs,q,yAA _⟩,by omega,hd ys σ H p⟩
theorem comp_range {lo:Int} {n:Nat} {g:TG} {tt:TT} {te:TE} {Q:VK} {σ0:St} {H:Hp} (P:Nat->List V->St->Hp->Prop) (h0:P 0 [] σ0 H) (hl:∀ i ys σ H,P i ys σ H->ys.length <= i) (hz:n <= sizeLine)
  (hs:∀ i ys σ H,i < n->P i ys σ H->g (.int (lo+i)) σ H fun σ2 H2=>tt σ2 H2 fun b H3=>if b=true then te σ2 H3 fun y H4=>Nxt P n i (ys++[y]) σ2 H4 else Nxt P n i ys σ2 H3)
  (hd:∀ ys σ H,P n ys σ H->∀ p,H p=none->Q (.ref p) (upd H p (.lst ys))) :
  ∃ W:Nat->Nat->List V->St->Hp->Prop,(∃ m,W 0 m [] σ0 H) /\ ∀ i m ys σ H,W i m ys σ H ->
   ((Itr lo n).stop i H /\ ys.length <= sizeLine /\ ∀ p,H p=none->Q (.ref p) (upd H p (.lst ys))) ∨
   ((Itr lo n).go i H /\ ys.length < sizeLine /\ ∀ x H',(Itr lo n).yld i H x H'->g x σ H' fun σ2 H2=>tt σ2 H2 fun b H3=>if b=true then te σ2 H3 fun y H4=>∃ m',m' < m /\ W (i+1) m' (ys++[y]) σ2 H4 else ∃ m',m' < m /\ W (i+1) m' ys σ2 H3):=by
 refine ⟨fun i m ys σ H=>m=n-i /\ i <= n /\ P i ys σ H,⟨n,by simp,yAG _,h0⟩,?_⟩
 rintro i m ys σ H ⟨rfl,hi,p⟩
 have ly:=hl i ys σ H p
 by_cases hlt:i < n
 .refine .inr ⟨hlt,by omega,fun x H' y=>?_⟩
  obtain ⟨e,y⟩:=y
  subst e y
  exact hs i ys σ _ hlt p
 .have e:i=n:=by omega
  subst e
  exact .inl ⟨yAA _,by omega,hd ys σ H p⟩
theorem Same.upd {H H':Hp} {p:Addr} {o:HO} (e:Same H H') (h:H p=none):Same H (upd H' p o):=fun b u q=>by rw [ZAG (ZAC q h)];exact e b u q
theorem Same.new {H H':Hp} {p:Addr} {o:HO} (e:Same H H') (h:H' p=none):Same H (L2.upd H' p o):=e.upd (e.free h)
theorem cutV_ints (ns:List Int) (lo hi:Option Int):cutV (ns.map V.int) lo hi=(((ns.drop (HT.sIx ns.length 0 lo)).take (HT.sIx ns.length ns.length hi-HT.sIx ns.length 0 lo)).map V.int):=by
 unfold cutV
 rw [yAB,List.map_take,List.map_drop]
theorem get_ints {ns:List Int} {i:Nat} {x:V} (h:(ns.map V.int)[i]?=some x):∃ n,ns[i]?=some n /\ x=.int n:=by
 rw [yAU] at h
 cases e:ns[i]? with
 | none=>rw [e] at h;cases h
 | some n=>rw [e] at h;exact ⟨n,rfl,(Option.some.inj h).symm⟩
theorem ixN_of {n:Nat} {i:Int} (h0:0 <= i) (h:i < n):ixN n i=some i.toNat:=by unfold ixN;rw [if_pos h0,if_pos h]
theorem slL_of {K:W.Frag} {a:Addr} {xs:List V} {lo hi:Option Int} {H:Hp} {Q:VK} (h:SqL K H a xs) (q:∀ p,H p=none->Q (.ref p) (upd H p (.lst (cutV xs lo hi)))):rSlL K (.ref a) lo hi H Q:=⟨a,xs,rfl,h,q⟩
noncomputable def forL (K:W.Frag) (g:TG) (tb:TS) (D:Ends) (σ:St) (x:V) (H1:Hp):Prop:=∃ a,x=.ref a /\ (∃ xs,SqL K H1 a xs) /\ ∃ W:Nat->Nat->St->Hp->Prop,(∃ m,W 0 m σ H1) /\ ∀ i m σ H,W i m σ H ->
 ((Itl K a).stop i H /\ D.nx σ H)∨((Itl K a).go i H /\ ∃ N:St->Hp->Prop,(∀ σ' H',N σ' H'->∃ m',m' < m /\ W (i+1) m' σ' H') /\ ∀ x H',(Itl K a).yld i H x H'->g x σ H' fun σ2 H2=>tb { D with nx:=N,ct:=N,bk:=D.nx } σ2 H2)
theorem tForL_eq {K:W.Frag} {tl:TE} {g:TG} {tb:TS} {D:Ends} {σ:St} {H:Hp}:tFor (ZFP K tl) g tb D σ H=tl σ H (fun x H1=>forL K g tb D σ x H1):=rfl
theorem forL_of {K:W.Frag} {g:TG} {tb:TS} {D:Ends} {σ:St} {H:Hp} {a:Addr} {xs:List V} (h:SqL K H a xs) (Pv:Nat->St->Hp->Prop) (h0:Pv 0 σ H) (hl:∀ i σ H,i <= xs.length->Pv i σ H->SqL K H a xs)
  (hs:∀ i x σ H,xs[i]?=some x->Pv i σ H->g x σ H fun σ2 H2=>tb { D with nx:=Pv (i+1),ct:=Pv (i+1),bk:=D.nx } σ2 H2) (hd:∀ σ H,Pv xs.length σ H->D.nx σ H):forL K g tb D σ (.ref a) H :=
 ⟨a,rfl,⟨xs,h⟩,for_list Pv h0 hl hs hd⟩
noncomputable def forR (lo:Int) (g:TG) (tb:TS) (D:Ends) (σ:St) (n:Nat) (H1:Hp):Prop:=∃ W:Nat->Nat->St->Hp->Prop,(∃ m,W 0 m σ H1) /\ ∀ i m σ H,W i m σ H ->
 ((Itr lo n).stop i H /\ D.nx σ H)∨((Itr lo n).go i H /\ ∃ N:St->Hp->Prop,(∀ σ' H',N σ' H'->∃ m',m' < m /\ W (i+1) m' σ' H') /\ ∀ x H',(Itr lo n).yld i H x H'->g x σ H' fun σ2 H2=>tb { D with nx:=N,ct:=N,bk:=D.nx } σ2 H2)
noncomputable def forR1 (g:TG) (tb:TS) (D:Ends) (σ:St) (x:V) (H1:Hp):Prop:=∃ j:Int,[x]=[.int j] /\ -(2 ^ 62) <= j /\ j < 2 ^ 62 /\ forR 0 g tb D σ j.toNat H1
noncomputable def forR2 (g:TG) (tb:TS) (D:Ends) (σ:St) (x y:V) (H1:Hp):Prop:=∃ i j:Int,[x,y]=[.int i,.int j] /\ (-(2 ^ 62) <= i /\ i < 2 ^ 62 /\ -(2 ^ 62) <= j /\ j < 2 ^ 62) /\ forR i g tb D σ (j-i).toNat H1
theorem tForR1_eq {t:TE} {g:TG} {tb:TS} {D:Ends} {σ:St} {H:Hp}:tFor (ZFO (ZCM t tNil)) g tb D σ H=t σ H (fun x H1=>forR1 g tb D σ x H1):=rfl
theorem tForR2_eq {t u:TE} {g:TG} {tb:TS} {D:Ends} {σ:St} {H:Hp}:tFor (iRng2 (ZCM t (ZCM u tNil))) g tb D σ H=t σ H (fun x H1=>u σ H1 fun y H2=>forR2 g tb D σ x y H2):=rfl
theorem ZD5 {lo:Int} {n:Nat} {g:TG} {tb:TS} {D:Ends} {σ:St} {H:Hp} (Pv:Nat->St->Hp->Prop) (h0:Pv 0 σ H)
  (hs:∀ i σ H,i < n->Pv i σ H->g (.int (lo+i)) σ H fun σ2 H2=>tb { D with nx:=Pv (i+1),ct:=Pv (i+1),bk:=D.nx } σ2 H2) (hd:∀ σ H,Pv n σ H->D.nx σ H):forR lo g tb D σ n H:=for_range Pv h0 hs hd
theorem ZDZ {j:Int} {g:TG} {tb:TS} {D:Ends} {σ:St} {H:Hp} (h:-1000 <= j /\ j <= 1000) (q:forR 0 g tb D σ j.toNat H):forR1 g tb D σ (.int j) H:=⟨j,rfl,by omega,by omega,q⟩
noncomputable def compL (K:W.Frag) (g:TG) (tt:TT) (te:TE) (σ0:St) (Q:VK) (x:V) (H1:Hp):Prop:=∃ a,x=.ref a /\ (∃ xs,SqL K H1 a xs) /\ ∃ W:Nat->Nat->List V->St->Hp->Prop,(∃ m,W 0 m [] σ0 H1) /\ ∀ i m ys σ H,W i m ys σ H ->
 ((Itl K a).stop i H /\ ys.length <= sizeLine /\ ∀ p,H p=none->Q (.ref p) (upd H p (.lst ys))) ∨
 ((Itl K a).go i H /\ ys.length < sizeLine /\ ∀ x H',(Itl K a).yld i H x H'->g x σ H' fun σ2 H2=>tt σ2 H2 fun b H3=>if b=true then te σ2 H3 fun y H4=>∃ m',m' < m /\ W (i+1) m' (ys++[y]) σ2 H4 else ∃ m',m' < m /\ W (i+1) m' ys σ2 H3)
theorem tCompL_eq {k:Nat} {js:List Nat} {K:W.Frag} {tl:TE} {g:TG} {tt:TT} {te:TE} {σ:St} {H:Hp} {Q:VK}:ZDM k js (ZFP K tl) g tt te σ H Q=tl σ H (fun x H1=>compL K g tt te (up k js σ) Q x H1):=rfl
theorem ZCu {K:W.Frag} {a:Addr} {xs:List V} {g:TG} {tt:TT} {te:TE} {Q:VK} {σ0:St} {H:Hp} (h:SqL K H a xs) (hz:xs.length <= 1000) (P:Nat->List V->St->Hp->Prop) (h0:P 0 [] σ0 H) (hl:∀ i ys σ H,i <= xs.length->P i ys σ H->SqL K H a xs /\ ys.length <= i)
  (hs:∀ i ys x σ H,i < xs.length->xs[i]?=some x->P i ys σ H->g x σ H fun σ2 H2=>tt σ2 H2 fun b H3=>if b=true then te σ2 H3 fun y H4=>Nxt P xs.length i (ys++[y]) σ2 H4 else Nxt P xs.length i ys σ2 H3)
  (hd:∀ ys σ H,P xs.length ys σ H->∀ p,H p=none->Q (.ref p) (upd H p (.lst ys))):compL K g tt te σ0 Q (.ref a) H:=⟨a,rfl,⟨xs,h⟩,comp_list P h0 hl (ZAS hz) hs hd⟩
noncomputable def compR (lo:Int) (g:TG) (tt:TT) (te:TE) (σ0:St) (Q:VK) (n:Nat) (H1:Hp):Prop:=∃ W:Nat->Nat->List V->St->Hp->Prop,(∃ m,W 0 m [] σ0 H1) /\ ∀ i m ys σ H,W i m ys σ H ->
 ((Itr lo n).stop i H /\ ys.length <= sizeLine /\ ∀ p,H p=none->Q (.ref p) (upd H p (.lst ys))) ∨
 ((Itr lo n).go i H /\ ys.length < sizeLine /\ ∀ x H',(Itr lo n).yld i H x H'->g x σ H' fun σ2 H2=>tt σ2 H2 fun b H3=>if b=true then te σ2 H3 fun y H4=>∃ m',m' < m /\ W (i+1) m' (ys++[y]) σ2 H4 else ∃ m',m' < m /\ W (i+1) m' ys σ2 H3)
noncomputable def compR1 (g:TG) (tt:TT) (te:TE) (σ0:St) (Q:VK) (x:V) (H1:Hp):Prop:=∃ j:Int,[x]=[.int j] /\ -(2 ^ 62) <= j /\ j < 2 ^ 62 /\ compR 0 g tt te σ0 Q j.toNat H1
theorem tCompR1_eq {k:Nat} {js:List Nat} {t:TE} {g:TG} {tt:TT} {te:TE} {σ:St} {H:Hp} {Q:VK}:ZDM k js (ZFO (ZCM t tNil)) g tt te σ H Q=t σ H (fun x H1=>compR1 g tt te (up k js σ) Q x H1):=rfl
theorem ZCg {j:Int} {g:TG} {tt:TT} {te:TE} {Q:VK} {σ0:St} {H:Hp} (h:-1000 <= j /\ j <= 1000) (P:Nat->List V->St->Hp->Prop) (h0:P 0 [] σ0 H) (hl:∀ i ys σ H,P i ys σ H->ys.length <= i)
  (hs:∀ i ys σ H,i < j.toNat->P i ys σ H->g (.int (0+i)) σ H fun σ2 H2=>tt σ2 H2 fun b H3=>if b=true then te σ2 H3 fun y H4=>Nxt P j.toNat i (ys++[y]) σ2 H4 else Nxt P j.toNat i ys σ2 H3)
  (hd:∀ ys σ H,P j.toNat ys σ H->∀ p,H p=none->Q (.ref p) (upd H p (.lst ys))):compR1 g tt te σ0 Q (.int j) H:=⟨j,rfl,by omega,by omega,comp_range P h0 hl (ZAS (by omega)) hs hd⟩
section
variable {X:Cx}
end
theorem gCons_eq {t:TG} {u:TGs} {v:V} {r:List V} {σ:St} {H:Hp} {Q:St->Hp->Prop}:ZFQ t u (v::r) σ H Q=t v σ H (fun σ' H'=>u r σ' H' Q):=by
 apply propext;unfold ZFQ;constructor
 .rintro ⟨v',r',e,q⟩;cases e;exact q
 .exact fun q=>⟨v,r,rfl,q⟩
theorem gNil_eq {σ:St} {H:Hp} {Q:St->Hp->Prop}:gNil [] σ H Q=Q σ H:=by
 apply propext;unfold gNil;simp
theorem ZC8 {K:W.Frag} {n:Nat} {t:TGs} {a:Addr} {xs:List V} {σ:St} {H:Hp} {Q:St->Hp->Prop} (h:SqT K H a xs) (l:xs.length=n) (q:t xs σ H Q):gTup K n t (.ref a) σ H Q:=⟨a,xs,rfl,h,l,q⟩
section
variable {X:Cx} {tg l e o:Expr} {es:List Expr} {tl te to:TE} {t:TA} {pos apos cpos:Pos} {f:Str}
theorem ix_listK (K:W.Frag) (h:X.K=K:=by rfl):IxR X (rIxL K):=h ▸ ZA1
theorem ix_tupK (K:W.Frag) (h:X.K=K:=by rfl):IxR X (rIxT K):=h ▸ ZBd
theorem call_list_ofK (K:W.Frag) (h:X.K=K:=by rfl):ZCX X (.type "list") (fun xs H Q=>∃ p ys,xs=[.ref p] /\ (SqL K H p ys∨SqT K H p ys) /\ ∀ l,H l=none->Q (.ref l) (upd H l (.lst ys))):=h ▸ call_list_of
end
section
variable {X:Cx}
theorem tAug_eq {i:Nat} {te:TE} {ti:TIp} {D:Ends} {σ:St} {H:Hp}:tAug i te ti D σ H=tVar i σ H (fun x H0=>te σ H0 fun y H1=>ti x y H1 fun z H2=>D.nx (σ.set i (some z)) H2):=rfl
theorem ipI_int {f:Int->Int->Int} {i j:Int} {H:Hp} {Q:VK}:ipI f (.int i) (.int j) H Q=Q (.int (f i j)) H:=by
 refine propext ⟨?_,fun q=>⟨i,j,rfl,rfl,q⟩⟩
 rintro ⟨a,b,e1,e2,q⟩
 cases e1;cases e2;exact q
theorem cx_K {CX:CXT} {P:Program} {w:World} {K:W.Frag} {mg:Str->Option Value} {base:Heap} {N:List Str} {qual:Str} {scope:Scope} {f:Addr} {cd:Value} {A:Around} {outer:List Env} {s:Shared} {H:Hp} {E:XK}:(cxOf CX P w K mg base N qual scope f cd A outer s H E).K=K:=rfl
end
structure Enc {α:Type} [DecidableEq α] (e:α->PyData) (n:Nat):Prop where
 eq:∀ a b,PyData.eqv (e a) (e b)=decide (a=b)
 lay:∀ a,(e a).canLay0=true
 dep:∀ a,(e a).depth <= n
theorem Enc.int:Enc PyData.int 0:=⟨fun a b=>by unfold PyData.eqv;rw [yCI];simp,fun a=>by unfold PyData.canLay0;rfl,fun a=>by unfold PyData.depth;exact yAA _⟩
theorem Enc.bl:Enc PyData.bool 0:=⟨fun a b=>by unfold PyData.eqv;rw [yCI];simp,fun a=>by unfold PyData.canLay0;rfl,fun a=>by unfold PyData.depth;exact yAA _⟩
section
variable {α β γ:Type} [DecidableEq α] [DecidableEq β] [DecidableEq γ] {e:α->PyData} {f:β->PyData} {g:γ->PyData} {n m k:Nat}
theorem Enc.all (h:Enc e n):∀ xs ys:List α,PyData.eqvAll (xs.map e) (ys.map e)=decide (xs=ys)
 | [],[]=>by simp [PyData.eqvAll]
 | x::xs,[]=>by simp [PyData.eqvAll]
 | [],y::ys=>by simp [PyData.eqvAll]
 | x::xs,y::ys=>by
  rw [yAT,yAT]
  unfold PyData.eqvAll
  rw [h.eq,h.all xs ys,<- Bool.decide_and]
  exact decide_eq_decide.mpr (by rw [List.cons.injEq])
theorem Enc.layAll (h:Enc e n):∀ xs:List α,PyData.canLayAll0 (xs.map e)=true
 | []=>by simp [PyData.canLayAll0]
 | x::xs=>by rw [yAT];unfold PyData.canLayAll0;rw [h.lay,h.layAll xs];rfl
theorem Enc.depAll (h:Enc e n):∀ xs:List α,PyData.depthAll (xs.map e) <= n
 | []=>by simp [PyData.depthAll]
 | x::xs=>by
  rw [yAT];unfold PyData.depthAll
  have a:=h.dep x
  have b:=h.depAll xs
  omega
theorem Enc.list (h:Enc e n):Enc (fun xs:List α=>PyData.list (xs.map e)) (n+1) :=
 ⟨fun a b=>by unfold PyData.eqv;exact h.all a b,fun a=>by unfold PyData.canLay0;exact h.layAll a,fun a=>by unfold PyData.depth;have:=h.depAll a;omega⟩
theorem Enc.two (h:Enc e n) (h2:Enc f m):Enc (fun p:α×β=>PyData.tuple [e p.1,f p.2]) (max n m+1) where
 eq:=fun a b=>by
  unfold PyData.eqv PyData.eqvAll PyData.eqvAll PyData.eqvAll
  rw [h.eq,h2.eq,Bool.and_true,<- Bool.decide_and]
  exact decide_eq_decide.mpr (by rw [Prod.ext_iff])
 lay:=fun a=>by unfold PyData.canLay0 PyData.canLayAll0 PyData.canLayAll0 PyData.canLayAll0;rw [h.lay,h2.lay];rfl
 dep:=fun a=>by
  unfold PyData.depth PyData.depthAll PyData.depthAll PyData.depthAll
  have:=h.dep a.1
  have:=h2.dep a.2
  omega
theorem ZEx {K:W.Frag} {H:Hp} {x y:V} {a b:α} {Q:VK} (h:Enc e n) (hn:n <= 64) (dx:Dp K H (e a) x) (dy:Dp K H (e b) y) (q:Q (.bl (decide (a=b))) H):rEqD K x y H Q :=
 ⟨_,_,dx,dy,h.lay a,h.lay b,yAF (h.dep a) hn,by rw [h.eq];exact q⟩
theorem neD_of {K:W.Frag} {H:Hp} {x y:V} {a b:α} {Q:VK} (h:Enc e n) (hn:n <= 64) (dx:Dp K H (e a) x) (dy:Dp K H (e b) y) (q:Q (.bl (!decide (a=b))) H):rNeD K x y H Q :=
 ⟨_,_,dx,dy,h.lay a,h.lay b,yAF (h.dep a) hn,by rw [h.eq];exact q⟩
end
theorem ZDd {K:W.Frag} {H:Hp} {a:Addr} {xs:List Int} (h:SqL K H a (xs.map V.int)):Dp K H (.list (xs.map PyData.int)) (.ref a):=ZC9 h (DpAll.ints xs)
section
variable {K:W.Frag} {H:Hp} {R:Bool->Prop}
end
structure FunD (K:W.Frag) (x qual:Str) (st:Stmt) (f:Addr) (fd:FuncData) (dv:List Value):Prop where
 ex:∃ (oc:Value) (od:Option Addr) (T:Addr) (kV doc pm:Value) (an:Option Addr) (cdv ct:Value) (osl:Array (Option Value)),
  fd=W.fnOf x qual (ZAM st) (ZAL st) (ZAB st) (.ref T) kV doc pm an cdv ct /\ K.lookup f=some ⟨oc,od,.func fd,osl⟩ /\ W.codeIn K cdv qual=true /\ ∃ o n,K.lookup T=some o /\ o.data=.seq dv.toArray n
 kp:W.keepIn K (.ref f)=true
section
variable {P:Program} {w:World} {K:W.Frag} {mg:Str->Option Value} {base:Heap}
theorem FunD.ok {x qual:Str} {st:Stmt} {f:Addr} {fd:FuncData} {dv:List Value} {N ps:List Str} {k:Nat} {sp:Sp} (F:FunD K x qual st f fd dv) (S:FnScope N ps (ZAB st)) (len:∀ vs H Q E,sp vs H Q E->vs.length=ps.length)
  (hbody:∀ (cdv:Value) (A:Around) (outer:List Env) (s:Shared) (H:Hp) (vs:List V) (Q:VK) (E:XK),Room k (A.deeper (envOfC qual (ZAB st) s.heap.objs.size f cdv))->sp vs H Q E ->
   ∃ t,PSs (cxOf CX0 P w K mg base N qual (ZAB st) f cdv A outer s H E).nox (ZAL st) t /\ t { nx:=fun _ H'=>Q .non H',rt:=Q } (start N vs) H):FnOk P w K mg base CX0 (k+1) f fd ps sp:=by
 obtain ⟨oc,od,T,kV,doc,pm,an,cdv,ct,osl,rfl,lk,hcd,_⟩:=F.ex
 refine ZFR lk hcd S len fun A outer s H vs Q E hr hsp=>?_
 obtain ⟨t,h,q⟩:=hbody cdv A outer s H vs Q E hr hsp
 exact ⟨t,h.nox,q⟩
theorem FunD.binds {x qual:Str} {st:Stmt} {f:Addr} {fd:FuncData} {dv ds:List Value} {ps:List Str} (F:FunD K x qual st f fd dv)
  (h:∀ (T:Addr) (kV doc pm:Value) (an:Option Addr) (cdv ct:Value) (us:List Value),(us++ds).length=ps.length->∃ k,bindArgs (W.fnOf x qual (ZAM st) (ZAL st) (ZAB st) (.ref T) kV doc pm an cdv ct) ⟨us,[]⟩=seqItems? (.ref T) >>= k /\ k (some dv.toArray)=pure (ps.zip (us++ds))):Binds K fd ps ds:=by
 obtain ⟨oc,od,T,kV,doc,pm,an,cdv,ct,osl,rfl,lk,hcd,o,n,hT,ho⟩:=F.ex
 intro s us KX hl
 obtain ⟨k,h1,h2⟩:=h T kV doc pm an cdv ct us hl
 exact PySem.W.binds_K KX rfl hT ho h1 h2
theorem funD_mk {x qual:Str} {st:Stmt} {f T:Addr} {oc:Value} {od an:Option Addr} {osl:Array (Option Value)} {kV doc pm cdv ct:Value} {dv:List Value} {ocT:Value} {odT:Option Addr} {nT:Nat} {slT:Array (Option Value)} (l:K.lookup f=some ⟨oc,od,.func (W.fnOf x qual (ZAM st) (ZAL st) (ZAB st) (.ref T) kV doc pm an cdv ct),osl⟩)
  (c:W.codeIn K cdv qual=true) (k:W.keepIn K (.ref f)=true) (t:K.lookup T=some ⟨ocT,odT,.seq dv.toArray nT,slT⟩):FunD K x qual st f (W.fnOf x qual (ZAM st) (ZAL st) (ZAB st) (.ref T) kV doc pm an cdv ct) dv:=⟨⟨oc,od,T,kV,doc,pm,an,cdv,ct,osl,rfl,l,c,_,nT,t,rfl⟩,k⟩
end
structure KlD (P:Program) (w:World) (K:W.Frag) (mg:Str->Option Value) (base:Heap) (CX:CXT) (x:Str) (C:Addr) (k:Nat) (ps:List Str) (sp:Sp) (dvs:List V):Prop where
 mgC:mg x=some (.ref C)
 ex:∃ f fd ds,FnOk P w K mg base CX k f fd ps sp /\ Binds K fd ps ds /\ Vals dvs ds /\ Mk K C f
section
variable {X:Cx} {CX:CXT} {k:Nat} {ps:List Str} {sp:Sp} {dvs:List V} {E:XK} {x m:Str} {C:Addr} {p pos apos:Pos} {e o:Expr} {es:List Expr} {ta:TE} {t:TA}
theorem pe_mkD (F:KlD X.prog X.w X.K X.mg X.base CX x C k ps sp dvs) (hr:Room (k+1) X.A) (hg:Gl X x) (hx:ZA0 CX X E) (ha:PA X (e::es) t) (hdb:(x == ("__debug__":Str))=false:=by decide) (he:starEach (e::es) X.env=(false,eval e X.env)::starEach es X.env:=by rfl) (hpl:(backTo pos (starEach es X.env)).any (·.1)=false:=by rfl) :
  PE X (.Call (.Name x p) (e::es) [] pos) (ZEb C sp dvs E t):=by
 obtain ⟨f,fd,ds,h1,h2,hv,h3⟩:=F.ex
 exact pe_make h3 h1 hr hg F.mgC h2 hv hx ha hdb he hpl
end
section
variable {X:Cx}
end
theorem Same.get {H H':Hp} {b:Addr} {o:HO} (s:Same H H') (h:H b=some o):H' b=some o:=s b o h
theorem newH {H:Hp} {p:Addr} (h:H p=none) (o:HO):∃ H',upd H p o=H' /\ Same H H' /\ H' p=some o:=⟨_,rfl,ZAK h o,ZAF⟩
section
variable {K:W.Frag} {a:Addr} {xs:List V} {te:TE} {Q:VK} {σ0 rest:St} {H:Hp}
end
section
variable {X:Cx} {pins:List (Addr×Obj)} {σ:St} {H:Hp} {s:Shared}
end
noncomputable def Ite (K:W.Frag) (a:Addr):It :=
 ⟨fun i H=>∃ xs x,SqL K H a xs /\ xs[i]?=some x,fun i H v H'=>∃ p x,H p=none /\ (∀ xs,SqL K H a xs->xs[i]?=some x) /\ H'=upd H p (.tup [.int i,x]) /\ v=.ref p,fun i H=>∃ xs,SqL K H a xs /\ xs.length <= i⟩
section
variable {X:Cx}
noncomputable def iEnum (K:W.Frag) (ta:TA):TI:=fun σ H R=>ta σ H fun vs H1=>∃ a,vs=[.ref a] /\ (∃ xs,SqL K H1 a xs) /\ R (Ite K a) H1
end
section
variable {K:W.Frag} {a:Addr} {xs:List V} {g:TG} {tb:TS} {D:Ends} {σ:St} {H:Hp}
noncomputable def forE (K:W.Frag) (g:TG) (tb:TS) (D:Ends) (σ:St) (x:V) (H1:Hp):Prop:=∃ a,[x]=[.ref a] /\ (∃ xs,SqL K H1 a xs) /\ ∃ W:Nat->Nat->St->Hp->Prop,(∃ m,W 0 m σ H1) /\ ∀ i m σ H,W i m σ H ->
 ((Ite K a).stop i H /\ D.nx σ H)∨((Ite K a).go i H /\ ∃ N:St->Hp->Prop,(∀ σ' H',N σ' H'->∃ m',m' < m /\ W (i+1) m' σ' H') /\ ∀ x H',(Ite K a).yld i H x H'->g x σ H' fun σ2 H2=>tb { D with nx:=N,ct:=N,bk:=D.nx } σ2 H2)
theorem tForE_eq {t:TE}:tFor (iEnum K (ZCM t tNil)) g tb D σ H=t σ H (fun x H1=>forE K g tb D σ x H1):=rfl
variable {tt:TT} {te:TE} {Q:VK} {σ0:St}
noncomputable def compE (K:W.Frag) (g:TG) (tt:TT) (te:TE) (σ0:St) (Q:VK) (x:V) (H1:Hp):Prop:=∃ a,[x]=[.ref a] /\ (∃ xs,SqL K H1 a xs) /\ ∃ W:Nat->Nat->List V->St->Hp->Prop,(∃ m,W 0 m [] σ0 H1) /\ ∀ i m ys σ H,W i m ys σ H ->
 ((Ite K a).stop i H /\ ys.length <= sizeLine /\ ∀ p,H p=none->Q (.ref p) (upd H p (.lst ys))) ∨
 ((Ite K a).go i H /\ ys.length < sizeLine /\ ∀ x H',(Ite K a).yld i H x H'->g x σ H' fun σ2 H2=>tt σ2 H2 fun b H3=>if b=true then te σ2 H3 fun y H4=>∃ m',m' < m /\ W (i+1) m' (ys++[y]) σ2 H4 else ∃ m',m' < m /\ W (i+1) m' ys σ2 H3)
theorem tCompE_eq {k:Nat} {js:List Nat} {t:TE}:ZDM k js (iEnum K (ZCM t tNil)) g tt te σ H Q=t σ H (fun x H1=>compE K g tt te (up k js σ) Q x H1):=rfl
end
noncomputable abbrev FZ (o:Obj):HO:=.frz o (.ext fun _=>True)
theorem ZEt {P:Program} {w:World} {H:Hp} {h:Heap} {a:Addr} {o:Obj} (e:h.get? a=some o):ObjOk P w H h a (FZ o):=⟨e,trivial,⟨o,e⟩,fun _ _ _ _=>trivial⟩
theorem ZDH {P:Program} {w:World} {H:Hp} {h:Heap} {a:Addr} {o:Obj} (x:HOk P w H h) (e:H a=some (FZ o)):h.get? a=some o:=(x a _ e).1
noncomputable def CodeAt (H:Hp) (c:Addr) (qual:Str):Prop:=∃ oc vs t,H c=some (FZ oc) /\ oc.data=.fields vs /\ vs[1]?=some (.str qual t)
theorem CodeAt.rec {P:Program} {w:World} {H:Hp} {h:Heap} {c:Addr} {qual:Str} (x:HOk P w H h) (k:CodeAt H c qual):h.CodeRec (.ref c) qual :=
 let ⟨oc,vs,t,e,d,v⟩:=k;⟨c,oc,vs,t,rfl,ZDH x e,d,v⟩
structure CloL (H:Hp) (g:Addr) (iname iq:Str) (ip:Arguments) (ib:List Stmt) (isc:Scope) (fr:List Str) (cs:List V) (cl:List (Str×Addr)):Prop where
 obj:∃ (doc pm ctv:Value) (c':Addr),H g=some (FZ (PySem.W.fnMade iname iq ip ib isc cl doc pm c' ctv)) /\ CodeAt H c' iq
 keys:∀ x c,cl.lookup x=some c->x∈fr
 inj:∀ x y c,cl.lookup x=some c->cl.lookup y=some c->x=y
 cell:∀ (i:Nat) (x:Str),fr[i]?=some x->∃ v c u o,cs[i]?=some v /\ cl.lookup x=some c /\ RelV v u /\ H c=some (FZ o) /\ o.data=.cell (some u)
 len:cs.length=fr.length
noncomputable def Clo (H:Hp) (g:Addr) (iname iq:Str) (ip:Arguments) (ib:List Stmt) (isc:Scope) (fr:List Str) (cs:List V):Prop:=∃ cl,CloL H g iname iq ip ib isc fr cs cl
noncomputable def ZEP (H H':Hp):Prop:=∀ b o,H b=some (FZ o)->H' b=some (FZ o)
theorem CodeAt.mono {H H':Hp} {c:Addr} {q:Str} (e:ZEP H H') (k:CodeAt H c q):CodeAt H' c q:=let ⟨oc,vs,t,a,d,v⟩:=k;⟨oc,vs,t,e _ _ a,d,v⟩
theorem CloL.mono {H H':Hp} {g:Addr} {iname iq:Str} {ip:Arguments} {ib:List Stmt} {isc:Scope} {fr:List Str} {cs:List V} {cl:List (Str×Addr)} (e:ZEP H H') (k:CloL H g iname iq ip ib isc fr cs cl):CloL H' g iname iq ip ib isc fr cs cl where
 obj:=let ⟨doc,pm,ctv,c',a,b⟩:=k.obj;⟨doc,pm,ctv,c',e _ _ a,b.mono e⟩
 keys:=k.keys
 inj:=k.inj
 cell:=fun i x h=>let ⟨v,c,u,o,a1,a2,a3,a4,a5⟩:=k.cell i x h;⟨v,c,u,o,a1,a2,a3,e _ _ a4,a5⟩
 len:=k.len
theorem Clo.mono {H H':Hp} {g:Addr} {iname iq:Str} {ip:Arguments} {ib:List Stmt} {isc:Scope} {fr:List Str} {cs:List V} (e:ZEP H H') (k:Clo H g iname iq ip ib isc fr cs):Clo H' g iname iq ip ib isc fr cs:=let ⟨cl,x⟩:=k;⟨cl,x.mono e⟩
theorem CloL.inj' {H:Hp} {g:Addr} {iname iq:Str} {ip:Arguments} {ib:List Stmt} {isc:Scope} {fr:List Str} {cs cs':List V} {cl cl':List (Str×Addr)} (k:CloL H g iname iq ip ib isc fr cs cl) (k':CloL H g iname iq ip ib isc fr cs' cl'):cs=cs':=by
 obtain ⟨d1,p1,t1,c1,e1,_⟩:=k.obj
 obtain ⟨d2,p2,t2,c2,e2,_⟩:=k'.obj
 rw [e1] at e2
 have ecl:cl=cl':=by
  have:=Option.some.inj e2
  injection this with h1 h2
  injection h1 with h3 h4 h5
  injection h5 with h6
  injection h6
 subst ecl
 refine yCN fun i=>?_
 by_cases hi:i < fr.length
 .obtain ⟨v,c,u,o,a1,a2,a3,a4,a5⟩:=k.cell i _ (yAD hi)
  obtain ⟨v',c',u',o',b1,b2,b3,b4,b5⟩:=k'.cell i _ (yAD hi)
  rw [a2] at b2
  cases b2
  rw [a4] at b4
  have eo:o=o':=by
   have:=Option.some.inj b4
   injection this
  subst eo
  rw [a5] at b5
  have eu:u=u':=by injection b5 with h;injection h
  subst eu
  rw [a1,b1,a3.inj b3]
 .rw [yBG (by rw [k.len];omega),yBG (by rw [k'.len];omega)]
open Classical in
noncomputable def hid (cl:List (Str×Addr)) (H:Hp):Hp:=fun b=>if ∃ x,cl.lookup x=some b then none else H b
open Classical in
noncomputable def back (cl:List (Str×Addr)) (H H1:Hp):Hp:=fun b=>if ∃ x,cl.lookup x=some b then H b else H1 b
theorem ZD3 {cl:List (Str×Addr)} {H:Hp} {x:Str} {b:Addr} (h:cl.lookup x=some b):hid cl H b=none:=by unfold hid;rw [if_pos ⟨x,h⟩]
theorem ZC7 {cl:List (Str×Addr)} {H:Hp} {b:Addr} (h:¬ ∃ x,cl.lookup x=some b):hid cl H b=H b:=by unfold hid;rw [if_neg h]
theorem ZDJ {cl:List (Str×Addr)} {H H1:Hp} {x:Str} {b:Addr} (h:cl.lookup x=some b):back cl H H1 b=H b:=by unfold back;rw [if_pos ⟨x,h⟩]
theorem ZCL {cl:List (Str×Addr)} {H H1:Hp} {b:Addr} (h:¬ ∃ x,cl.lookup x=some b):back cl H H1 b=H1 b:=by unfold back;rw [if_neg h]
theorem hid_le {cl:List (Str×Addr)} {H:Hp} {b:Addr} {o:HO} (h:hid cl H b=some o):H b=some o:=by
 by_cases q:∃ x,cl.lookup x=some b
 .obtain ⟨x,q⟩:=q;rw [ZD3 q] at h;cases h
 .rw [ZC7 q] at h;exact h
noncomputable def ZFU (cl:List (Str×Addr)) (H:Hp):Prop:=∀ x c,cl.lookup x=some c->∃ u o,H c=some (FZ o) /\ o.data=.cell u
theorem CloL.cells {H:Hp} {g:Addr} {iname iq:Str} {ip:Arguments} {ib:List Stmt} {isc:Scope} {fr:List Str} {cs:List V} {cl:List (Str×Addr)} (k:CloL H g iname iq ip ib isc fr cs cl):ZFU cl H:=fun x c h=>by
 obtain ⟨i,hi⟩:=yBH (k.keys x c h)
 obtain ⟨v,c2,u,o,_,h2,_,h4,h5⟩:=k.cell i x hi
 rw [h] at h2
 cases h2
 exact ⟨_,o,h4,h5⟩
theorem ZB3 {cl:List (Str×Addr)} {H:Hp} {b:Addr} {o:HO} (C:ZFU cl H) (h:H b=some o) (n:∀ ob,o≠FZ ob):hid cl H b=some o:=by
 rw [ZC7,h]
 rintro ⟨x,q⟩
 obtain ⟨u,ob,e,_⟩:=C x b q
 rw [h] at e
 exact n ob (Option.some.inj e)
theorem hid_none {cl:List (Str×Addr)} {H:Hp} {b:Addr} (C:ZFU cl H) (h:hid cl H b=none) (n:¬ ∃ x,cl.lookup x=some b):H b=none:=by rw [ZC7 n] at h;exact h
theorem back_upd {cl:List (Str×Addr)} {H H1:Hp} {l:Addr} {o:HO} (n:¬ ∃ x,cl.lookup x=some l):back cl H (upd H1 l o)=upd (back cl H H1) l o:=by
 funext b
 by_cases q:∃ x,cl.lookup x=some b
 .have:b≠l:=fun e=>n (e ▸ q)
  obtain ⟨x,q⟩:=q
  rw [ZDJ q,ZAG this,ZDJ q]
 .rw [ZCL q]
  by_cases e:b=l
  .subst e;rw [ZAF,ZAF]
  .rw [ZAG e,ZAG e,ZCL q]
theorem back_hid {cl:List (Str×Addr)} {H:Hp}:back cl H (hid cl H)=H:=by
 funext b
 by_cases q:∃ x,cl.lookup x=some b
 .obtain ⟨x,q⟩:=q;rw [ZDJ q]
 .rw [ZCL q,ZC7 q]
noncomputable def NoC (cl:List (Str×Addr)) (H:Hp):Prop:=∀ x c,cl.lookup x=some c->H c=none
structure CloScope (N ps fr:List Str) (sc:Scope):Prop where
 kind:sc.kind=.function
 co:sc.isCoroutine=false
 gen:sc.isGenerator=false
 nd:N.Nodup
 pre:N.take ps.length=ps
 suf:N.drop (N.length-fr.length)=fr
 two:ps.length+fr.length <= N.length
 par:∀ x∈ps,sc.names.lookup x=some .local
 nocell:∀ y∈sc.names,y.2≠.cell
 free:∀ x∈fr,sc.names.lookup x=some .free
 only:∀ x,sc.names.lookup x=some .free->x∈fr
noncomputable def ZCa (N:List Str) (vs cs:List V):St:=vs.map some++(List.replicate (N.length-vs.length-cs.length) none++cs.map some)
noncomputable def ZEW (P:Program) (w:World) (K:W.Frag) (mg:Str->Option Value) (base:Heap) (N:List Str) (qual:Str) (scope:Scope) (f:Addr) (cd:Value) (cl:List (Str×Addr)) (A:Around) (outer:List Env) (s:Shared) (H:Hp):Cx where
 prog:=P
 w:=w
 K:=K
 mg:=mg
 base:=base
 A:=A.deeper (PySem.W.envX qual scope s.heap.objs.size f cd cl)
 N:=N
 s₀:=s
 H₀:=H
 env:=PySem.W.envX qual scope s.heap.objs.size f cd cl
 outer:=outer
 stack:=PySem.W.envX qual scope s.heap.objs.size f cd cl::outer
 ex:=[]
 calm:=true
 fn:=fun _=>false
 pn:=[]
 xe:=fun _ _=>False
theorem startC_get {N:List Str} {vs cs:List V} {i:Nat} {v:V} (hl:vs.length+cs.length <= N.length) (h:(ZCa N vs cs)[i]?=some (some v)) :
  vs[i]?=some v∨(N.length-cs.length <= i /\ cs[i-(N.length-cs.length)]?=some v):=by
 unfold ZCa at h
 by_cases h1:i < vs.length
 .rw [yBA (by simpa using h1),yAU] at h
  cases e:vs[i]? with
  | none=>rw [e] at h;cases h
  | some a=>rw [e] at h;cases h;exact .inl rfl
 .rw [yAZ (by simpa using Nat.le_of_not_lt h1),yAB] at h
  by_cases h2:i-vs.length < N.length-vs.length-cs.length
  .rw [yBA (by simpa using h2),yCK,if_pos h2] at h
   cases h
  .rw [yAZ (by simpa using Nat.le_of_not_lt h2),yBV,yAU] at h
   right
   refine ⟨by omega,?_⟩
   rw [show i-(N.length-cs.length)=i-vs.length-(N.length-vs.length-cs.length) by omega]
   cases e:cs[i-vs.length-(N.length-vs.length-cs.length)]? with
   | none=>rw [e] at h;cases h
   | some a=>rw [e] at h;cases h;rfl
theorem zip_fst_sub:∀ (ps:List Str) (us:List Value),((ps.zip us).map (·.1)).Sublist ps
 | [],_=>by simp
 | p::ps,[]=>by simp
 | p::ps,u::us=>by rw [List.zip_cons_cons,yAT];exact (zip_fst_sub ps us).cons₂ p
theorem lookup_nodup {α:Type}:∀ {cs:List (Str×α)} {n:Str} {c:α},(cs.map (·.1)).Nodup->(n,c)∈cs->cs.lookup n=some c
 | (m,d)::r,n,c,hn,h=>by
  rw [yAT] at hn
  have hn':=yCC.mp hn
  rw [yBW]
  rcases yAH.mp h with e | h
  .cases e;simp
  .have:n≠m:=fun z=>hn'.1 (z ▸ List.mem_map_of_mem (f:=(·.1)) h)
   have:(n == m)=false:=by simpa using this
   rw [this]
   exact lookup_nodup hn'.2 h
theorem zip_lookup {ps:List Str} {us:List Value} (nd:ps.Nodup) {i:Nat} {x:Str} {u:Value} (h1:ps[i]?=some x) (h2:us[i]?=some u):((ps.zip us).reverse).lookup x=some u:=by
 have hm:(x,u)∈(ps.zip us).reverse:=by
  rw [List.mem_reverse]
  refine yAN (i:=i) ?_
  rw [List.getElem?_zip_eq_some]
  exact ⟨h1,h2⟩
 have hnd:((ps.zip us).reverse.map (·.1)).Nodup:=by
  rw [List.map_reverse]
  exact List.pairwise_reverse.mpr (List.Pairwise.imp (fun h=>Ne.symm h) (nd.sublist (zip_fst_sub ps us)))
 exact lookup_nodup hnd hm
section
variable {P:Program} {w:World} {K:W.Frag} {mg:Str->Option Value} {base:Heap} {A:Around} {outer:List Env} {s:Shared} {H:Hp} {g:Addr} {iname iq:Str} {ip:Arguments} {ib:List Stmt} {isc:Scope} {N ps fr:List Str} {cs vs:List V} {us:List Value} {cl:List (Str×Addr)} {k:Nat}
theorem clo_call {Q:VK} (C:CloL H g iname iq ip ib isc fr cs cl) (S:CloScope N ps fr isc) (hr:Room (k+1) A) (e0:Env0 P w K mg base A outer s H) (hl:vs.length=ps.length) (r:Vals vs us)
  (hbind:∀ (doc pm ctv:Value) (c':Addr),bindArgs (PySem.W.fnX iname iq ip ib isc cl .none .none doc pm none (.ref c') ctv) ⟨us,[]⟩=pure (ps.zip us))
  (hbody:∀ (cd:Value) (A':Around),Room k A'->∃ t,PSs (ZEW P w K mg base N iq isc g cd cl A outer s (hid cl H)) ib t /\ t { nx:=fun _ H'=>NoC cl H'->Q .non (back cl H H'),rt:=fun v H'=>NoC cl H'->Q v (back cl H H') } (ZCa N vs cs) (hid cl H)) :
  codeAny (model P w) A (.call (.ref g) ⟨us,[]⟩) (fun r s'=>match r with | .ok (.ret u)=>CE outer P w H s Q u s' | _=>False) s:=by
 obtain ⟨doc,pm,ctv,c',hg,hc⟩:=C.obj
 have hget:=ZDH e0.hok hg
 have lim:s.heap.NoLimit:=e0.mod.nolimit.keeps fun b o e=>(e0.bs b o e).1
 have hnd:ps.Nodup:=by rw [<- S.pre];exact S.nd.sublist (List.take_sublist _ _)
 refine codeAny_call_def (o:=PySem.W.fnMade iname iq ip ib isc cl doc pm c' ctv) (fd:=PySem.W.fnX iname iq ip ib isc cl .none .none doc pm none (.ref c') ctv) (body:=ib) (binds:=ps.zip us) hr.depth hget rfl lim (hc.rec e0.hok) rfl (.of_eq (hbind doc pm ctv c')) S.nocell (fun y hy=>S.par _ (yCJ hy).1) (fun h₁ hns hk₁=>?_) S.co S.gen S.kind
 obtain ⟨t,ht,hq⟩:=hbody (.ref c') _ (hr.deeper (PySem.W.envX iq isc s.heap.objs.size g (.ref c') cl))
 have cellAt:∀ x c,cl.lookup x=some c->∃ o u,H c=some (FZ o) /\ s.heap.get? c=some o /\ o.data=.cell u:=fun x c h=>by
  obtain ⟨u,o,e,d⟩:=C.cells x c h
  exact ⟨o,u,e,ZDH e0.hok e,d⟩
 have cfs:∀ x c,cl.lookup x=some c->c∉frs outer:=fun x c h hb=>by
  obtain ⟨o,u,e,_⟩:=cellAt x c h
  rw [e0.frf c hb] at e;cases e
 have hpl:ps.length <= N.length:=by have:=S.two;omega
 have I:Inv (ZEW P w K mg base N iq isc g (.ref c') cl A outer s (hid cl H)) [] (ZCa N vs cs) (hid cl H) { s with heap:=h₁,toks:=s.toks+(ps.zip us).length }:=by
  refine ⟨⟨e0.mod,S.kind,rfl,rfl,yAA _,C.inj,fun x hx=>?_,fun y c h=>absurd h (by simp [ZEW]),fun _=>hr.hd,Around.frames_deeper e0.frames,.inr ⟨rfl,rfl⟩,fun b z=>absurd (show b∈([]:List Addr) from z) (by simp),fun b o e=>?_,e0.bsz,fun b _ _ z=>absurd (show b∈([]:List Addr) from z) (by simp),fun b z=>absurd (show b∈([]:List Addr) from z) (by simp),e0.funs,fun b hb=>?_⟩,
   rfl,e0.bare,Un.kept hk₁,⟨_,hns,fun i x v h1 h2 h3=>?_⟩,fun x c h=>?_,?_,fun x c h=>ZD3 h,fun p hp=>absurd (show p∈([]:List (Addr×Obj)) from hp) (by simp),?_,?_⟩
  .have hx:isc.names.lookup x=some .cell∨isc.names.lookup x=some .free:=hx
   rcases hx with hx | hx
   .exact absurd rfl (S.nocell _ (PySem.mem_of_lookup hx))
   .obtain ⟨i,hi⟩:=yBH (S.only x hx)
    obtain ⟨v,c,u,o,_,h2,_⟩:=C.cell i x hi
    exact ⟨c,h2⟩
  .refine ⟨(e0.bs b o e).1,?_⟩
   show hid cl H b=none
   by_cases q:∃ x,cl.lookup x=some b
   .obtain ⟨x,q⟩:=q;exact ZD3 q
   .rw [ZC7 q];exact (e0.bs b o e).2
  .show hid cl H b=none
   rw [ZC7]
   .exact e0.frf b hb
   .rintro ⟨x,q⟩;exact cfs x b q hb
  .have h1:N[i]?=some x:=h1
   have hcl:=C.len
   rcases startC_get (by rw [hl,hcl];exact S.two) h2 with h4 | ⟨h4,h5⟩
   .obtain ⟨u,hu,rv⟩:=r.get h4
    have hi:i < vs.length:=(yAL.mp h4).1
    have hp:ps[i]?=some x:=by rw [<- S.pre,yCD (by omega)];exact h1
    exact ⟨u,rv,.inl ⟨S.par x (yAN hp),zip_lookup hnd hp hu⟩⟩
   .have hf:fr[i-(N.length-cs.length)]?=some x:=by
     rw [<- S.suf,yCO,<- hcl,show N.length-cs.length+(i-(N.length-cs.length))=i by omega]
     exact h1
    obtain ⟨v',c,u,o,a1,a2,a3,a4,a5⟩:=C.cell _ x hf
    rw [h5] at a1
    cases a1
    refine ⟨u,a3,.inr ⟨.inr (S.free x (yAN hf)),c,a2,o,hk₁ _ _ (ZDH e0.hok a4),a5⟩⟩
  .obtain ⟨o,u,e,e2,d⟩:=cellAt x c h
   exact ⟨u,o,hk₁ _ _ e2,d⟩
  .show hid cl H s.heap.objs.size=none
   have hn:=e0.hok.fresh (yAA _)
   rw [ZC7]
   .exact hn
   .rintro ⟨x,q⟩
    obtain ⟨o,u,e,_⟩:=cellAt x _ q
    rw [hn] at e;cases e
  .intro b o e
   have e':=hid_le e
   refine (e0.hok b o e').stay (fun c v _ q=>hk₁ c v q) (fun c q=>?_) fun c xs q=>?_
   .exact ZB3 C.cells q (fun ob z=>by cases z)
   .exact ZB3 C.cells q (fun ob z=>by cases z)
  .unfold ZCa
   show _=N.length
   have:=S.two
   have:=C.len
   simp only [yAC,yAB,yBV]
   omega
 refine wpAny_mono (ht [] _ (ZCa N vs cs) (hid cl H) _ I hq) (fun fl s' hs=>?_) fun e s' hs=>False.elim hs
 have fin:∀ {σ':St} {H':Hp} {v:V} {u:Value},Inv (ZEW P w K mg base N iq isc g (.ref c') cl A outer s (hid cl H)) [] σ' H' s'->RelV v u->(NoC cl H'->Q v (back cl H H'))->CE outer P w H s Q u s' :=
  fun {σ' H' v u} J rv q=>by
   have un:Un (frs outer) [] (hid cl H) H' s.heap s'.heap:=J.base
   have nex:∀ b:Addr,b∉([]:List Addr):=fun b=>by simp
   have keepC:∀ x c o,cl.lookup x=some c->s.heap.get? c=some o->s'.heap.get? c=some o:=fun x c o h e=>un.keep c o e (ZD3 h) (cfs x c h) (nex c)
   have freeC:∀ x c,cl.lookup x=some c->H' c=none:=fun x c h=>by
    obtain ⟨o,u,e,e2,d⟩:=cellAt x c h
    exact un.free c o e2 (ZD3 h) (nex c)
   refine ⟨v,back cl H H',J.os,J.bare,⟨fun b o e n hb hx=>?_,fun b o e n hb hx=>?_,fun b o e n hx=>?_,un.there,fun b xs e=>?_,fun b o u' e=>?_,fun b ps' e=>?_⟩,fun b o e=>?_,rv,q freeC⟩
   .refine un.keep b o e ?_ hb hx
    by_cases q:∃ x,cl.lookup x=some b
    .obtain ⟨x,q⟩:=q;exact ZD3 q
    .rw [ZC7 q];exact n
   .refine un.slot b o e ?_ hb hx
    by_cases q:∃ x,cl.lookup x=some b
    .obtain ⟨x,q⟩:=q;exact ZD3 q
    .rw [ZC7 q];exact n
   .have nc:¬ ∃ x,cl.lookup x=some b:=by
     rintro ⟨x,q⟩
     obtain ⟨o,u,e,_⟩:=cellAt x b q
     rw [n] at e;cases e
    rw [ZCL nc]
    exact un.free b o e (by rw [ZC7 nc];exact n) hx
   .have e2:=un.tups b xs (ZB3 C.cells e (fun ob z=>by cases z))
    rw [ZCL]
    .exact e2
    .rintro ⟨x,q⟩;rw [freeC x b q] at e2;cases e2
   .by_cases q:∃ x,cl.lookup x=some b
    .obtain ⟨x,q⟩:=q;rw [ZDJ q];exact e
    .rw [ZCL q];exact un.frzs b o u' (by rw [ZC7 q];exact e)
   .obtain ⟨more,e2⟩:=un.tbls b ps' (ZB3 C.cells e (fun ob z=>by cases z))
    refine ⟨more,?_⟩
    rw [ZCL]
    .exact e2
    .rintro ⟨x,q⟩;rw [freeC x b q] at e2;cases e2
   .have up:∀ c oc,H' c=some oc->back cl H H' c=some oc:=fun c oc q=>by
     rw [ZCL]
     .exact q
     .rintro ⟨x,z⟩;rw [freeC x c z] at q;cases q
    by_cases q:∃ x,cl.lookup x=some b
    .obtain ⟨x,q⟩:=q
     rw [ZDJ q] at e
     obtain ⟨o2,u2,e2,e3,d⟩:=cellAt x b q
     rw [e] at e2
     cases e2
     exact ZEt (keepC x b _ q e3)
    .rw [ZCL q] at e
     exact (J.hok b o e).stay (fun c v _ q=>q) (fun c q=>up c _ q) fun c xs q=>up c _ q
 cases fl with
 | ret u=>
  obtain ⟨v,σ',H',J,rv,q⟩:=hs
  exact fin J rv q
 | next=>
  obtain ⟨σ',H',J,q⟩:=hs
  exact fin (v:=V.non) (u:=Value.none) J rfl q
 | brk=>
  obtain ⟨_,_,_,q⟩:=hs
  exact False.elim q
 | cont=>
  obtain ⟨_,_,_,q⟩:=hs
  exact False.elim q
end
noncomputable def ZEd (r:V->List V->Hp->VK->Prop) (ta:TE) (t:TA):TE:=fun σ H Q=>ta σ H fun f H1=>(∃ g o,f=.ref g /\ H1 g=some (FZ o) /\ ∃ fd,o.data=.func fd) /\ t σ H1 fun vs H2=>r f vs H2 Q
noncomputable def CloR (X:Cx) (r:V->List V->Hp->VK->Prop):Prop :=
 ∀ (pins:List (Addr×Obj)) (s:Shared) (σ:St) (H:Hp) (f:Addr) (vs:List V) (us:List Value) (Q:VK),Inv X pins σ H s->Vals vs us->r (.ref f) vs H Q ->
  PySem.W.FnAt f s.heap /\ wpAny (model X.prog X.w) X.A (call (.ref f) us) (EP X pins σ Q) X.xe s
theorem fnAt_of {h:Heap} {g:Addr} {o:Obj} {fd:FuncData} (e:h.get? g=some o) (d:o.data=.func fd):PySem.W.FnAt g h:=by
 obtain ⟨oc,od,dt,sl⟩:=o
 have d':dt=.func fd:=d
 subst d'
 exact ⟨oc,od,fd,sl,e⟩
theorem pe_callV {X:Cx} {x:Str} {p pos:Pos} {e:Expr} {es:List Expr} {ta:TE} {t:TA} {r:V->List V->Hp->VK->Prop} (hc:CloR X r) (hx:PE X (.Name x p) ta) (ha:PA X (e::es) t)
  (he:starEach (e::es) X.env=(false,eval e X.env)::starEach es X.env:=by rfl) (hpl:(backTo pos (starEach es X.env)).any (·.1)=false:=by rfl):PE X (.Call (.Name x p) (e::es) [] pos) (ZEd r ta t):=by
 intro pins s σ H Q I h
 refine wpAny_Call_Name_kw (thn (hx pins s σ H _ I h) fun v s1 zz=>?_)
 obtain ⟨f,H1,I1,rf,⟨g,o,eg,hg,fd,hd⟩,q⟩:=zz
 subst eg
 cases rf
 refine PySem.W.callWith_F (fnAt_of (ZDH I1.hok hg) hd) (thn (ha pos pins s1 σ H1 _ I1 q) fun us s2 zz=>?_) he hpl
 obtain ⟨vs,H2,I2,r2,q2⟩:=zz
 exact hc pins s2 σ H2 g vs us Q I2 r2 q2
structure CloOk (P:Program) (w:World) (K:W.Frag) (mg:Str->Option Value) (base:Heap) (k:Nat) (r:V->List V->Hp->VK->Prop):Prop where
 run:∀ (A:Around) (outer:List Env) (s:Shared) (H:Hp) (f:Addr) (vs:List V) (us:List Value) (Q:VK),Room k A->Env0 P w K mg base A outer s H->Vals vs us->r (.ref f) vs H Q ->
  PySem.W.FnAt f s.heap /\ codeAny (model P w) A (.call (.ref f) ⟨us,[]⟩) (fun r s'=>match r with | .ok (.ret u)=>CE outer P w H s Q u s' | _=>False) s
theorem CloOk.at {X:Cx} {k:Nat} {r:V->List V->Hp->VK->Prop} (C:CloOk X.prog X.w X.K X.mg X.base k r) (hr:Room k X.A):CloR X r:=by
 intro pins s σ H f vs us Q I rv h
 obtain ⟨h1,h2⟩:=C.run X.A X.stack s H f vs us Q hr I.env0 rv h
 refine ⟨h1,wpAny_call (codeAny_mono h2 fun r s' hq=>?_)⟩
 cases r with
 | error e=>exact False.elim hq
 | ok fl=>
  cases fl with
  | ret u=>exact I.after hq
  | next=>exact False.elim hq
  | brk=>exact False.elim hq
  | cont=>exact False.elim hq
theorem Clo.fnAt {P:Program} {w:World} {H:Hp} {h:Heap} {g:Addr} {iname iq:Str} {ip:Arguments} {ib:List Stmt} {isc:Scope} {fr:List Str} {cs:List V} {cl:List (Str×Addr)} (x:HOk P w H h) (C:CloL H g iname iq ip ib isc fr cs cl):PySem.W.FnAt g h:=by
 obtain ⟨doc,pm,ctv,c',e,_⟩:=C.obj
 exact fnAt_of (ZDH x e) rfl
theorem clo_of {P:Program} {w:World} {K:W.Frag} {mg:Str->Option Value} {base:Heap} {iname iq:Str} {ip:Arguments} {ib:List Stmt} {isc:Scope} {N ps fr:List Str} {k:Nat} {r:V->List V->Hp->VK->Prop} (S:CloScope N ps fr isc)
  (hcl:∀ f vs H Q,r f vs H Q->∃ g cs,f=.ref g /\ Clo H g iname iq ip ib isc fr cs) (len:∀ f vs H Q,r f vs H Q->vs.length=ps.length)
  (hbind:∀ (cl:List (Str×Addr)) (doc pm ctv:Value) (c':Addr) (us:List Value),us.length=ps.length->bindArgs (PySem.W.fnX iname iq ip ib isc cl .none .none doc pm none (.ref c') ctv) ⟨us,[]⟩=pure (ps.zip us))
  (hbody:∀ (g:Addr) (cs:List V) (cl:List (Str×Addr)) (cd:Value) (A:Around) (outer:List Env) (s:Shared) (H:Hp) (vs:List V) (Q:VK),Room k (A.deeper (PySem.W.envX iq isc s.heap.objs.size g cd cl))->CloL H g iname iq ip ib isc fr cs cl->r (.ref g) vs H Q ->
   ∃ t,PSs (ZEW P w K mg base N iq isc g cd cl A outer s (hid cl H)) ib t /\ t { nx:=fun _ H'=>NoC cl H'->Q .non (back cl H H'),rt:=fun v H'=>NoC cl H'->Q v (back cl H H') } (ZCa N vs cs) (hid cl H)):CloOk P w K mg base (k+1) r:=by
 refine ⟨fun A outer s H f vs us Q hr e0 rv h=>?_⟩
 obtain ⟨g,cs,eg,cl,C⟩:=hcl _ _ _ _ h
 cases eg
 have hl:=len _ _ _ _ h
 refine ⟨Clo.fnAt e0.hok C,clo_call (k:=k) C S hr e0 hl rv (fun doc pm ctv c'=>hbind cl doc pm ctv c' us (by rw [<- rv.length];exact hl)) fun cd A' hr'=>?_⟩
 exact hbody f cs cl cd A outer s H vs Q (hr.deeper _) C h
theorem NoC.ne {cl:List (Str×Addr)} {H:Hp} {b:Addr} {o:HO} (n:NoC cl H) (h:H b=some o):¬ ∃ x,cl.lookup x=some b:=fun ⟨x,e⟩=>by rw [n x b e] at h;cases h
noncomputable def TabSt (H:Hp) (Pt:Addr) (pos:Pos) (iq:Str):Prop:=H Pt=some (.tbl #[])∨∃ c',H Pt=some (.tbl #[rawInt pos.line,rawInt pos.col,.ref c']) /\ CodeAt H c' iq
theorem TabSt.mono {H H':Hp} {Pt:Addr} {pos:Pos} {iq:Str} (e:H' Pt=H Pt) (f:ZEP H H') (k:TabSt H Pt pos iq):TabSt H' Pt pos iq:=by
 rcases k with k | ⟨c',k,q⟩
 .exact .inl (e.trans k)
 .exact .inr ⟨c',e.trans k,q.mono f⟩
noncomputable def ZDs (mg:Str->Option Value) (h:Heap):Prop:=∃ bm ob,mg "__builtins__"=some (.ref bm) /\ bm≠builtinsNs /\ h.get? bm=some ob /\ ob.cls=.type "module" /\ ob.dict=some builtinsNs /\ ob.data=.plain
structure MadeDef (H H':Hp) (Pt:Addr) (pos:Pos) (g:Addr) (iname iq:Str) (ip:Arguments) (ib:List Stmt) (isc:Scope) (fr:List Str) (cs:List V):Prop where
 same:∀ b o,b≠Pt->H b=some o->H' b=some o
 tab:TabSt H' Pt pos iq
 clo:Clo H' g iname iq ip ib isc fr cs
 fresh:H g=none
section
variable {X:Cx} {pins:List (Addr×Obj)} {σ:St} {H:Hp} {s:Shared}
structure MadeMid (H H':Hp) (Pt:Addr) (pos:Pos) (g:Addr) (iname iq:Str) (ip:Arguments) (ib:List Stmt) (isc:Scope) (cl:List (Str×Addr)):Prop where
 same:∀ b o,b≠Pt->H b=some o->H' b=some o
 tab:TabSt H' Pt pos iq
 obj:∃ (doc pm ctv:Value) (c':Addr),H' g=some (FZ (PySem.W.fnMade iname iq ip ib isc cl doc pm c' ctv)) /\ CodeAt H' c' iq
 fresh:H g=none
theorem Inv.made3 (I:Inv X pins σ H s) {Pt c':Addr} {ps more:Array Value} {h':Heap} {oc fo:Obj} {tk:Nat} (hP:H Pt=some (.tbl ps)) (hx:Heap.ExtBut Pt s.heap h') (hge:s.heap.objs.size <= c') (hlt:c' < h'.objs.size) (hoc:h'.get? c'=some oc)
  (hPt:h'.get? Pt=some (PySem.W.tabObj (ps++more))) (hfo:fo.isFreed=false):Inv X pins σ (upd (upd (upd H Pt (.tbl (ps++more))) c' (FZ oc)) h'.objs.size (FZ fo)) { s with heap:=h'.push fo,toks:=tk }:=by
 have gn:∀ b o,s.heap.get? b=some o->b≠h'.objs.size /\ b≠c':=fun b o e=>by
  have l:=Heap.lt_size e
  exact ⟨yAI (Nat.lt_trans (yAO l hge) hlt),yAI (yAO l hge)⟩
 have gt:∀ b o,H b=some o->b≠h'.objs.size /\ b≠c':=fun b o e=>by
  have l:=I.hok.lt e
  exact ⟨yAI (Nat.lt_trans (yAO l hge) hlt),yAI (yAO l hge)⟩
 have np:∀ b,H b=none->b≠Pt:=fun b n z=>by rw [z,hP] at n;cases n
 have cg:c'≠h'.objs.size:=yAI hlt
 have old:∀ b o,b≠Pt->H b=some o->upd (upd (upd H Pt (.tbl (ps++more))) c' (FZ oc)) h'.objs.size (FZ fo) b=some o:=fun b o n e=>by
  rw [ZAG (gt b o e).1,ZAG (gt b o e).2,ZAG n];exact e
 have atP:upd (upd (upd H Pt (.tbl (ps++more))) c' (FZ oc)) h'.objs.size (FZ fo) Pt=some (.tbl (ps++more)):=by
  rw [ZAG (gt Pt _ hP).1,ZAG (gt Pt _ hP).2,ZAF]
 refine I.un (h':=h'.push fo) (t':=tk) ⟨fun b o e n _ _=>?_,fun b o e n _ _=>?_,fun b o e n _=>?_,fun b o e _=>?_,fun b xs e=>?_,fun b o u e=>?_,fun b qs e=>?_⟩ fun b o e=>?_
 .exact Heap.get?_push_of_some _ (hx b o (np b n) e)
 .exact ⟨o.slots,Heap.get?_push_of_some _ (hx b o (np b n) e)⟩
 .rw [ZAG (gn b o e).1,ZAG (gn b o e).2,ZAG (np b n)];exact n
 .by_cases q:b=Pt
  .subst q;exact ⟨_,Heap.get?_push_of_some _ hPt⟩
  .exact ⟨o,Heap.get?_push_of_some _ (hx b o q e)⟩
 .exact old b _ (fun z=>by rw [z,hP] at e;cases e) e
 .exact old b _ (fun z=>by rw [z,hP] at e;cases e) e
 .by_cases q:b=Pt
  .subst q
   rw [hP] at e
   cases e
   exact ⟨more,atP⟩
  .exact ⟨#[],by rw [old b _ q e];simp⟩
 .by_cases q1:b=h'.objs.size
  .subst q1;rw [ZAF] at e;cases e;exact ZEt (Heap.get?_push_size _ hfo)
  .rw [ZAG q1] at e
   by_cases q2:b=c'
   .subst q2;rw [ZAF] at e;cases e;exact ZEt (Heap.get?_push_of_some _ hoc)
   .rw [ZAG q2] at e
    by_cases q3:b=Pt
    .subst q3;rw [ZAF] at e;cases e;exact Heap.get?_push_of_some _ hPt
    .rw [ZAG q3] at e
     refine (I.hok b o e).stay (fun c u hc q=>?_) (fun c q=>?_) fun c xs q=>?_
     .refine Heap.get?_push_of_some _ (hx c u ?_ q)
      rcases hc with z | z
      .rw [z];exact q3
      .intro z2;rw [z2,hP] at z;cases z
     .exact old c _ (fun z=>by rw [z,hP] at q;cases q) q
     .exact old c _ (fun z=>by rw [z,hP] at q;cases q) q
theorem Inv.made1 (I:Inv X pins σ H s) {h':Heap} {fo:Obj} {tk:Nat} (hk:∀ b o,s.heap.get? b=some o->h'.get? b=some o) (hsz:s.heap.objs.size <= h'.objs.size) (hfo:fo.isFreed=false):Inv X pins σ (upd H h'.objs.size (FZ fo)) { s with heap:=h'.push fo,toks:=tk } :=
 I.laid (fun b u q=>Heap.get?_push_of_some _ (hk b u q)) hsz (ZEt (Heap.get?_push_size _ hfo))
noncomputable def tDef (i:Nat) (Pt:Addr) (pos:Pos) (iname iq:Str) (ip:Arguments) (ib:List Stmt) (isc:Scope) (cl:List (Str×Addr)):TS:=fun D σ H=>TabSt H Pt pos iq /\ ∀ g H',MadeMid H H' Pt pos g iname iq ip ib isc cl->D.nx (σ.set i (some (.ref g))) H'
theorem ps_def {i:Nat} {Pt c:Addr} {pos:Pos} {iname iq:Str} {ip:Arguments} {ib:List Stmt} {isc:Scope} (hN:X.N.Nodup) (hi:X.N[i]?=some iname) (hx:Loc X.env.scope iname) (hf:X.fn iname=true∨X.env.scope.names.lookup iname=some .local)
  (hcode:X.env.code=.ref c) (C:PySem.W.CodeHd X.base c Pt) (B:ZDs X.mg X.base) (hq:qualnameIn X.env iname iname=iq) (hd0:ip.defaults=[]) (hk0:ip.kw_defaults=[]) (ha:annTrees ip none X.env=[])
  (hfr:∀ x,(x,NameKind.free)∈isc.names->∃ c,X.env.cells.lookup x=some c) :
  PS X (.FunctionDef iname ip ib [] none [] isc none iname pos) (tDef i Pt pos iname iq ip ib isc (closFrom X.env.cells isc.names [])):=by
 intro pins s σ H D I h
 obtain ⟨ht,h⟩:=h
 refine PySem.W.nestDef_K hd0 hk0 ha ?_
 rw [hq]
 have hgs:=I.ok.mod.glob.keeps I.bk
 have hC:=C.keeps I.bk
 have hcl:=ZB5 (scope:=isc) (env:=X.env) hfr
 obtain ⟨bm,ob,b1,b2,b3,b4,b5,b6⟩:=B
 have hbG:bm≠mainGlobals:=fun q=>by
  obtain ⟨o,es,ep,e,hd,_⟩:=I.ok.mod.glob
  rw [q,e] at b3;cases b3;rw [hd] at b6;cases b6
 have apart:∀ {qs:Array Value},s.heap.get? Pt=some (PySem.W.tabObj qs)->mainGlobals≠Pt /\ s.heap.BuiltinsAt X.mg Pt:=fun {qs} hm=>by
  refine ⟨fun q=>?_,bm,ob,b1,b2,hbG,fun q=>?_,I.bk _ _ b3,b4,b5,b6⟩
  .obtain ⟨o,es,ep,e,hd,_⟩:=hgs
   rw [q,hm] at e;cases e;cases hd
  .have e:=I.bk _ _ b3
   rw [q,hm] at e;cases e;cases b4
 have fin:∀ {g:Addr} {H':Hp} {s':Shared},Inv X pins σ H' s'->MadeMid H H' Pt pos g iname iq ip ib isc (closFrom X.env.cells isc.names []) ->
   wpAny (model X.prog X.w) X.A (storeName X.env iname (.ref g)) (fun _ s''=>SP X pins D .next s'') X.xe s':=fun {g H' s'} J M=>
  ZCp J hN hi hx (v:=.ref g) rfl (fun s'' J'=>⟨_,H',J',h g H' M⟩) hf
 rcases ht with ht | ⟨c1,ht,hc1⟩
 .have hP:s.heap.get? Pt=some (PySem.W.tabObj #[]):=I.hok Pt _ ht
  obtain ⟨a1,a2⟩:=apart hP
  refine PySem.W.makeFunction_K hcl I.ok.glob hgs hcode hC hP trivial rfl a1 a2 fun c' ctv doc h' tk hx2 hge hlt hrec htb=>?_
  obtain ⟨c2,oc,vs,t,e2,hoc,hd,hv⟩:=hrec
  cases e2
  have J:=I.made3 (tk:=tk) (fo:=PySem.W.fnMade iname iq ip ib isc (closFrom X.env.cells isc.names []) doc ((X.mg "__name__").getD .none) c' ctv) ht hx2 hge hlt hoc htb rfl
  have gt:∀ b o,H b=some o->b≠h'.objs.size /\ b≠c':=fun b o e=>by
   have l:=I.hok.lt e
   exact ⟨yAI (Nat.lt_trans (yAO l hge) hlt),yAI (yAO l hge)⟩
  have hcc:CodeAt (upd (upd (upd H Pt (.tbl (#[]++#[rawInt pos.line,rawInt pos.col,.ref c']))) c' (FZ oc)) h'.objs.size (FZ (PySem.W.fnMade iname iq ip ib isc (closFrom X.env.cells isc.names []) doc ((X.mg "__name__").getD .none) c' ctv))) c' iq :=
   ⟨oc,vs,t,by rw [ZAG (yAI hlt),ZAF],hd,hv⟩
  refine fin J ⟨fun b o n e=>?_,.inr ⟨c',?_,hcc⟩,⟨doc,_,ctv,c',ZAF,hcc⟩,?_⟩
  .rw [ZAG (gt b o e).1,ZAG (gt b o e).2,ZAG n];exact e
  .rw [ZAG (gt Pt _ ht).1,ZAG (gt Pt _ ht).2,ZAF];rfl
  .exact I.hok.fresh (yAF hge (yBT hlt))
 .have hP:s.heap.get? Pt=some (PySem.W.tabObj #[rawInt pos.line,rawInt pos.col,.ref c1]):=I.hok Pt _ ht
  obtain ⟨a1,a2⟩:=apart hP
  refine PySem.W.makeFunction_hit (cv:=.ref c1) hcl I.ok.glob hgs hcode hC hP trivial ?_ a2 fun ctv doc h' tk hk hsz=>?_
  .simp [codeAmong,rawInt]
  have J:=I.made1 (tk:=tk) (fo:=PySem.W.fnMade iname iq ip ib isc (closFrom X.env.cells isc.names []) doc ((X.mg "__name__").getD .none) c1 ctv) hk hsz rfl
  have gt:∀ b o,H b=some o->b≠h'.objs.size:=fun b o e=>yAI (yAO (I.hok.lt e) hsz)
  have old:∀ b o,H b=some o->upd H h'.objs.size (FZ (PySem.W.fnMade iname iq ip ib isc (closFrom X.env.cells isc.names []) doc ((X.mg "__name__").getD .none) c1 ctv)) b=some o:=fun b o e=>by rw [ZAG (gt b o e)];exact e
  have hcc:=hc1.mono (H':=upd H h'.objs.size (FZ (PySem.W.fnMade iname iq ip ib isc (closFrom X.env.cells isc.names []) doc ((X.mg "__name__").getD .none) c1 ctv))) fun b o e=>old b _ e
  exact fin J ⟨fun b o _ e=>old b o e,.inr ⟨c1,old _ _ ht,hcc⟩,⟨doc,_,ctv,c1,ZAF,hcc⟩,I.hok.fresh hsz⟩
end
noncomputable def ZDD (Pt:Addr) (pos:Pos) (iname iq:Str) (ip:Arguments) (ib:List Stmt) (isc:Scope) (fr:List Str) (ix:List Nat) (n:Nat):Sp:=fun vs H Q _=>
 vs.length=n /\ TabSt H Pt pos iq /\ ∀ g H',MadeDef H H' Pt pos g iname iq ip ib isc fr (ix.map fun i=>vs.getD i .non)->Q (.ref g) H'
theorem teller_ok {P:Program} {w:World} {K:W.Frag} {mg:Str->Option Value} {base:Heap} {x qual:Str} {st:Stmt} {f c Pt:Addr} {fd:FuncData} {ps:List Str} {iname iq:Str} {ip:Arguments} {ib:List Stmt} {isc:Scope} {pos rp rpos:Pos} {fr:List Str} {ix:List Nat}
  (F:Fun K x qual st f fd) (S:FnScope (ps++[iname]) ps (ZAB st)) (hcd:fd.code=.ref c) (C:PySem.W.CodeHd base c Pt) (B:ZDs mg base)
  (hb:ZAL st=[.FunctionDef iname ip ib [] none [] isc none iname pos,.Return (some (.Name iname rp)) rpos]) (hiq:∀ L cd,qualnameIn (envOfC qual (ZAB st) L f cd) iname iname=iq) (hd0:ip.defaults=[]) (hk0:ip.kw_defaults=[]) (ha:∀ L cd,annTrees ip none (envOfC qual (ZAB st) L f cd)=[])
  (hloc:(ZAB st).names.lookup iname=some .local) (hdb:(iname == ("__debug__":Str))=false) (hcdn:(iname == ("__classdict__":Str))=false)
  (hfree:∀ y∈isc.names,y.2=.free->y.1∈fr) (hhas:∀ y∈fr,(y,NameKind.free)∈isc.names) (hfc:∀ y∈fr,(ZAB st).names.lookup y=some .cell) (hix:∀ (j:Nat) (y:Str),fr[j]?=some y->∃ i,ix[j]?=some i /\ ps[i]?=some y) (hixl:ix.length=fr.length) :
  FnOk P w K mg base CX0 1 f fd ps (ZDD Pt pos iname iq ip ib isc fr ix ps.length):=by
 obtain ⟨oc,od,kV,doc,pm,an,cdv,ct,osl,rfl,lk,hcd2⟩:=F.ex
 have hcd':cdv=.ref c:=hcd
 refine ⟨fun vs H Q E h=>h.1,fun A outer s H args us vs Q E hr e0 hbn r hsp=>?_⟩
 obtain ⟨hl,hT,hQ⟩:=hsp
 have KX:K.In s.heap:=e0.mod.kin.keeps fun b o e=>(e0.bs b o e).1
 have lim:s.heap.NoLimit:=e0.mod.nolimit.keeps fun b o e=>(e0.bs b o e).1
 have hkind:∀ y∈ps.zip us,(ZAB st).names.lookup y.1=some .local∨((ZAB st).names.lookup y.1=some .cell /\ ((cellsFrom (s.heap.objs.size+1) (ZAB st).names []).lookup y.1).isSome=true):=fun ⟨n,v⟩ hy=>by
  rcases S.par n (yCJ hy).1 with q | q
  .exact .inl q
  .exact .inr ⟨q,PySem.W.cellsFrom_some _ _ _ (.inl q)⟩
 refine codeAny_call_function hr.depth (KX _ _ lk) rfl S.co S.gen rfl (PySem.W.codeRec_of KX hcd2) (hbn _ _ _ _ ?_)
 refine wpAny_newFunctionEnv_cells S.kind hkind fun env he s1 xx=>?_
 subst he
 refine ⟨lim.keeps xx.toInCall.keep,codeAny_func ?_⟩
 have I:Inv (cxOf CX0 P w K mg base (ps++[iname]) qual (ZAB st) f cdv A outer s H E).nox [] (start (ps++[iname]) vs) H s1:=(ZC6 S hr.hd e0 hl r xx).wish _
 have cellHas:∀ y∈fr,∃ cc,(cellsFrom (s.heap.objs.size+1) (ZAB st).names []).lookup y=some cc:=fun y hy=>ZCv (hfc y hy)
 rw [hb]
 have hiN:(ps++[iname])[ps.length]?=some iname:=by simp
 have d1:=ps_def (X:=(cxOf CX0 P w K mg base (ps++[iname]) qual (ZAB st) f cdv A outer s H E).nox) (i:=ps.length) (pos:=pos) (Pt:=Pt) (c:=c) (iq:=iq) (ip:=ip) (ib:=ib) (isc:=isc) S.nd hiN (.inl hloc) (.inr hloc) hcd' C B (hiq _ _) hd0 hk0 (ha _ _) fun y hy=>cellHas y (hfree _ hy rfl)
 have hlen:(start (ps++[iname]) vs).length=ps.length+1:=by
  unfold start
  simp only [yAC,yAB,yBV,yAR,yBK]
  omega
 have run:=d1 [] s1 (start (ps++[iname]) vs) H { nx:=fun σ' H'=>∃ g,σ'=(start (ps++[iname]) vs).set ps.length (some (.ref g)) /\ MadeMid H H' Pt pos g iname iq ip ib isc (closFrom (cellsFrom (s.heap.objs.size+1) (ZAB st).names []) isc.names []),rt:=fun _ _=>False } I ⟨hT,fun g H' M=>⟨g,rfl,M⟩⟩
 refine wpAny_execs_cons (wpAny_mono run (fun fl s2 q=>?_) fun e s' z=>z.elim)
 cases fl with
 | ret v=>obtain ⟨_,_,_,_,_,q⟩:=q;exact q.elim
 | brk=>obtain ⟨_,_,_,q⟩:=q;exact q.elim
 | cont=>obtain ⟨_,_,_,q⟩:=q;exact q.elim
 | next=>
  obtain ⟨σ',H',J,g,rfl,M⟩:=q
  have v1:=pe_var (pos:=rp) (X:=(cxOf CX0 P w K mg base (ps++[iname]) qual (ZAB st) f cdv A outer s H E).nox) hiN (.inl hloc) hdb hcdn [] s2 _ H' (fun v H2=>v=.ref g /\ H2=H') J ⟨.ref g,by rw [List.getElem?_set_self (by rw [hlen];omega)],rfl,rfl⟩
  refine wpAny_execs_cons (wpAny_Return_some (wpAny_mono v1 (fun u s3 q=>?_) fun e s' z=>z.elim))
  obtain ⟨v,H2,J2,rv,rfl,rfl⟩:=q
  cases rv
  have un:Un (frs outer) [] H H2 s.heap s3.heap:=J2.base
  have nex:∀ b:Addr,b∉([]:List Addr):=fun b=>by simp
  have inj:=J2.ok.inj
  have cAt:∀ (j:Nat) (y:Str),fr[j]?=some y->∃ v cc uu,(ix.map fun i=>vs.getD i .non)[j]?=some v /\ (cellsFrom (s.heap.objs.size+1) (ZAB st).names []).lookup y=some cc /\ RelV v uu /\ s3.heap.IsCell cc (some uu):=fun j y hj=>by
   obtain ⟨i,h1,h2⟩:=hix j y hj
   have hi:i < ps.length:=(yAL.mp h2).1
   obtain ⟨v,hv⟩:∃ v,vs[i]?=some v:=⟨_,yAD (by omega)⟩
   obtain ⟨m,_,hm⟩:=J2.loc
   have hs:((start (ps++[iname]) vs).set ps.length (some (.ref g)))[i]?=some (some v):=by
    rw [List.getElem?_set_ne (by omega)]
    unfold start
    rw [yBA (by rw [yAB];omega),yAU,hv]
    rfl
   have hN:(ps++[iname])[i]?=some y:=by rw [yBA hi];exact h2
   obtain ⟨uu,ru,lk2⟩:=hm i y v hN hs (.inr (.inl (hfc y (yAN hj))))
   refine ⟨v,?_⟩
   rcases lk2 with ⟨k1,_⟩ | ⟨_,cc,e1,e2⟩
   .have k2:(ZAB st).names.lookup y=some .local:=k1
    rw [hfc y (yAN hj)] at k2
    cases k2
   .refine ⟨cc,uu,?_,e1,ru,e2⟩
    rw [yAU,h1]
    show some (vs.getD i .non)=some v
    rw [yBI,hv]
    rfl
  have clk:∀ y cc,(closFrom (cellsFrom (s.heap.objs.size+1) (ZAB st).names []) isc.names []).lookup y=some cc->y∈fr /\ (cellsFrom (s.heap.objs.size+1) (ZAB st).names []).lookup y=some cc:=fun y cc h=>by
   rcases ZBe _ _ y cc (PySem.mem_of_lookup h) with z | ⟨z1,z2⟩
   .cases z
   .have hy:=hfree _ z1 rfl
    obtain ⟨c3,h3⟩:=cellHas y hy
    rw [h3] at z2
    exact ⟨hy,by rw [h3];exact congrArg some z2.symm⟩
  have clh:∀ y cc,y∈fr->(cellsFrom (s.heap.objs.size+1) (ZAB st).names []).lookup y=some cc->(closFrom (cellsFrom (s.heap.objs.size+1) (ZAB st).names []) isc.names []).lookup y=some cc:=fun y cc hy h=>by
   obtain ⟨c3,h3⟩:=ZBM (ZBf (cells:=cellsFrom (s.heap.objs.size+1) (ZAB st).names []) isc.names [] y (hhas y hy))
   have:=(clk y c3 h3).2
   rw [h] at this
   rw [h3,Option.some.inj this]
  have cnew:∀ y cc,(closFrom (cellsFrom (s.heap.objs.size+1) (ZAB st).names []) isc.names []).lookup y=some cc->s.heap.objs.size <= cc /\ H2 cc=none /\ ∃ o u,s3.heap.get? cc=some o /\ o.data=.cell u:=fun y cc h=>by
   obtain ⟨hy,h2⟩:=clk y cc h
   obtain ⟨u,o,e1,e2⟩:=J2.cell y cc h2
   exact ⟨yBT (xx.above y cc (PySem.mem_of_lookup h2)),J2.freeC y cc h2,o,u,e1,e2⟩
  generalize closFrom (cellsFrom (s.heap.objs.size+1) (ZAB st).names []) isc.names []=cl at M clk clh cnew
  have tr:∀ b,¬ (∃ y,cl.lookup y=some b)->back cl (fun b=>(s3.heap.get? b).map FZ) H2 b=H2 b:=fun b n=>ZCL n
  have tc:∀ y b o,cl.lookup y=some b->s3.heap.get? b=some o->back cl (fun b=>(s3.heap.get? b).map FZ) H2 b=some (FZ o):=fun y b o h e=>by rw [ZDJ h,e];rfl
  have oldn:∀ b,b < s.heap.objs.size->¬ ∃ y,cl.lookup y=some b:=fun b hb ⟨y,z⟩=>absurd (cnew y b z).1 (Nat.not_le.mpr hb)
  have up:∀ b o,H2 b=some o->back cl (fun b=>(s3.heap.get? b).map FZ) H2 b=some o:=fun b o e=>by
   rw [tr b fun ⟨y,z⟩=>by rw [(cnew y b z).2.1] at e;cases e];exact e
  refine ⟨.ref g,back cl (fun b=>(s3.heap.get? b).map FZ) H2,J2.os,J2.bare,⟨un.keep,un.slot,fun b o e n hx=>?_,un.there,fun b xs e=>up _ _ (un.tups b xs e),fun b o u e=>up _ _ (un.frzs b o u e),fun b qs e=>?_⟩,fun b o e=>?_,rfl,hQ g _ ⟨fun b o n e=>up _ _ (M.same b o n e),?_,⟨cl,?_,fun y cc h=>(clk y cc h).1,fun y z cc h1 h2=>inj y z cc (clk y cc h1).2 (clk z cc h2).2,fun j y hj=>?_,?_⟩,M.fresh⟩⟩
  .rw [tr b (oldn b (Heap.lt_size e))];exact un.free b o e n hx
  .obtain ⟨more,e2⟩:=un.tbls b qs e
   exact ⟨more,up _ _ e2⟩
  .by_cases q:∃ y,cl.lookup y=some b
   .obtain ⟨y,q⟩:=q
    obtain ⟨_,_,o2,u2,e2,_⟩:=cnew y b q
    rw [tc y b o2 q e2] at e
    cases e
    exact ZEt e2
   .rw [tr b q] at e
    exact (J2.hok b o e).stay (fun c v _ q=>q) (fun c q=>up c _ q) fun c xs q=>up c _ q
  .exact M.tab.mono (by
    rcases M.tab with z | ⟨_,z,_⟩
    .rw [z];exact up _ _ z
    .rw [z];exact up _ _ z) fun b o e=>up b _ e
  .obtain ⟨d1,d2,d3,c3,e1,e2⟩:=M.obj
   exact ⟨d1,d2,d3,c3,up _ _ e1,e2.mono fun b o e=>up b _ e⟩
  .obtain ⟨v,cc,uu,a1,a2,a3,o,a4,a5⟩:=cAt j y hj
   have hl2:=clh y cc (yAN hj) a2
   exact ⟨v,cc,uu,o,a1,hl2,a3,tc y cc o hl2 a4,a5⟩
  .rw [yAB];exact hixl
noncomputable def ZFT (tabs:List (Addr×Addr)) (H:Hp):Prop:=∀ q∈tabs,H q.2=some (.tbl #[])
theorem law_callT {P:Program} {w:World} {K:W.Frag} {mg mb:Str->Option Value} {CX:CXT} {k:Nat} {fa a:Addr} {fd:FuncData} {x:Str} {sp:Sp} {s₁:Shared} {vs:List Value} {ns:List Int} {tabs:List (Addr×Addr)}
  (KX:K.In s₁.heap) (hns:s₁.heap.Ns mainGlobals mg) (hb:s₁.heap.Ns builtinsNs mb) (hbb:∀ x:Str,x≠"__name__"->mb x=bootBuiltins x) (hlim:s₁.heap.NoLimit) (hg:s₁.gens=#[])
  (ha:s₁.heap.get? a=some { cls:=.type "list",data:=.seq vs.toArray }) (hi:IntsAre vs ns) (hl:ns.length <= sizeLine) (hr:Room k callerA)
  (hT:∀ q∈tabs,PySem.W.CodeHd s₁.heap q.1 q.2 /\ s₁.heap.get? q.2=some (PySem.W.tabObj #[])) (nt:PySem.W.noTabs K=true) (hbm:ZDs mg s₁.heap)
  (F:∀ base:Heap,K.In base->base.Ns mainGlobals mg->(∀ q∈tabs,PySem.W.CodeHd base q.1 q.2)->ZDs mg base->FnOk P w K mg base CX k fa fd [x] sp) (hbind:∀ (s:Shared) (u:Value),BindsTo s fd ⟨[u],[]⟩ [(x,u)])
  (hsp:∀ H:Hp,ZFT tabs H->SqL K H a (ns.map V.int)->sp [.ref a] H (fun v _=>v=.bl true) fun _ _ _=>False)
  (hCX:∀ H e s',CX [] H s₁ (fun _ _ _=>False) e s'->False) :
  codeAny (model P w) callerA (.call (.ref fa) ⟨[.ref a],[]⟩) (fun r s'=>r=.ok (.ret (.bool true)) /\ OldK s₁.heap s'.heap /\ s'.os=s₁.os /\ AllBare s'.gens) s₁:=by
 have rv:=ZCY hi
 have lenV:=hi.length
 have core:∀ H:Hp,SqL K H a (ns.map V.int)->HOk P w H s₁.heap->(∀ b o,H b=some o->(b=a /\ K.lookup a=none /\ ∃ ob xs,o=.frz ob (.lst xs))∨(o=.tbl #[] /\ ∃ q∈tabs,q.2=b))->ZFT tabs H ->
   codeAny (model P w) callerA (.call (.ref fa) ⟨[.ref a],[]⟩) (fun r s'=>r=.ok (.ret (.bool true)) /\ OldK s₁.heap s'.heap /\ s'.os=s₁.os /\ AllBare s'.gens) s₁:=by
  intro H hS hok hA hO
  have base_of:∀ {b:Addr} {o:Obj},s₁.heap.get? b=some o->H b=none->(hidT s₁.heap H).get? b=some o:=fun e n=>hidT_get e n
  have noObj:∀ {b:Addr} {o:Obj},s₁.heap.get? b=some o->(∀ vs' n',o.data≠.seq vs' n')->(o.cls=.none->∀ vs',o.data≠.fields vs')->H b=none:=fun {b o} e d1 d2=>by
   cases q:H b with
   | none=>rfl
   | some u=>
    rcases hA b u q with ⟨e',_⟩ | ⟨_,q',hq,e'⟩
    .subst e'
     rw [ha] at e;cases e
     exact absurd rfl (d1 _ _)
    .subst e'
     rw [(hT q' hq).2] at e;cases e
     exact absurd rfl (d2 rfl _)
  have nsK:∀ {b:Addr} {m:Str->Option Value},s₁.heap.Ns b m->(hidT s₁.heap H).Ns b m:=fun {b m} ⟨o,es,ep,e,d,r⟩=>⟨o,es,ep,base_of e (noObj e (by rw [d];intro _ _ z;cases z) (fun _=>by rw [d];intro _ z;cases z)),d,r⟩
  have hKb:K.In (hidT s₁.heap H):=fun b o e=>base_of (KX b o e) (by
   cases q:H b with
   | none=>rfl
   | some u=>
    rcases hA b u q with ⟨e',n,_⟩ | ⟨_,q',hq,e'⟩
    .subst e';rw [n] at e;cases e
    .subst e'
     have e2:=KX _ _ e
     rw [(hT q' hq).2] at e2
     cases e2
     have h2:=List.all_eq_true.mp nt _ (PySem.W.mem_of_lookupK e)
     exact absurd (show false=true from h2) yAS)
  have hM:Mod K mg (hidT s₁.heap H):=⟨hKb,nsK hns,⟨mb,nsK hb,hbb⟩,let ⟨mc,h1,h2⟩:=hlim;⟨mc,nsK h1,h2⟩⟩
  have e0:Env0 P w K mg (hidT s₁.heap H) callerA [] s₁ H:=⟨rfl,hM,fun b o e=>of_hidT e,Nat.le_of_eq (hidT_size _ _),trivial,fun b hb=>absurd (show b∈([]:List Addr) from hb) (by simp),hok,.of_eq hg⟩
  have hC:∀ q∈tabs,PySem.W.CodeHd (hidT s₁.heap H) q.1 q.2:=fun q hq=>by
   obtain ⟨o,vs,file,tf,flags,tg,inF,text,tt,e1,e2,e3,r⟩:=(hT q hq).1
   exact ⟨o,vs,file,tf,flags,tg,inF,text,tt,base_of e1 (noObj e1 (by rw [e3];intro _ _ z;cases z) (fun z=>by rw [e2] at z;cases z)),e2,e3,r⟩
  have hB:ZDs mg (hidT s₁.heap H):=by
   obtain ⟨bm,ob,b1,b2,b3,b4,b5,b6⟩:=hbm
   exact ⟨bm,ob,b1,b2,base_of b3 (noObj b3 (by rw [b6];intro _ _ z;cases z) (fun z=>by rw [b4] at z;cases z)),b4,b5,b6⟩
  refine codeAny_mono ((F _ hKb (nsK hns) hC hB).run callerA [] s₁ H ⟨[.ref a],[]⟩ [.ref a] [.ref a] _ _ hr e0 (hbind s₁ (.ref a)) (.cons rfl .nil) (hsp H hO hS)) fun r s' h=>?_
  cases r with
  | error e=>exact (hCX H e s' h).elim
  | ok fl=>
   cases fl with
   | next=>exact False.elim h
   | brk=>exact False.elim h
   | cont=>exact False.elim h
   | ret u=>
    obtain ⟨v,H',os,bare,un,hok',r',q⟩:=h
    have q':v=.bl true:=q
    subst q'
    obtain rfl:u=Value.bool true:=r'
    have nfs:∀ b:Addr,b∉frs ([]:List Env):=fun b z=>absurd (show b∈([]:List Addr) from z) (by simp)
    refine ⟨rfl,⟨fun b o e=>?_,fun b o e=>un.there b o e (by simp)⟩,os,bare⟩
    cases q:H b with
    | none=>exact .inl (un.keep b o e q (nfs b) (by simp))
    | some u=>
     rcases hA b u q with ⟨_,_,ob,xs,z⟩ | ⟨z,q',hq,e'⟩
     .subst z
      have z2:=un.frzs b ob _ q
      obtain ⟨e1,_⟩:=hok b _ q
      obtain ⟨e2,_⟩:=hok' b _ z2
      rw [e] at e1;cases e1
      exact .inl e2
     .subst z
      subst e'
      obtain ⟨more,z2⟩:=un.tbls _ _ q
      have e2:s'.heap.get? q'.2=some (PySem.W.tabObj (#[]++more)):=hok' _ _ z2
      have e3:=(hT q' hq).2
      rw [e] at e3
      have e4:o=PySem.W.tabObj #[]:=Option.some.inj e3
      subst e4
      exact .inr (.inl ⟨((hT q' hq).1.tab (hT q' hq).2).isCodeTable,rfl,#[],more,rfl,e2⟩)
 have tabA:∀ q∈tabs,q.2≠a:=fun q hq z=>by
  have e:=(hT q hq).2
  rw [z,ha] at e;cases e
 cases hk:K.lookup a with
 | some o=>
  have e:=KX a o hk
  rw [ha] at e
  cases e
  refine core (fun b=>if b∈tabs.map (·.2) then some (.tbl #[]) else none) (.inr ⟨_,vs.toArray,_,hk,rfl,rfl,rfl,by rw [yAV,lenV];exact hl,by simpa using rv⟩) (fun b u z=>?_) (fun b u z=>?_) fun q hq=>if_pos (List.mem_map_of_mem hq)
  .by_cases hb:b∈tabs.map (·.2)
   .have z':=(if_pos hb).symm.trans z
    cases z'
    obtain ⟨q,hq,rfl⟩:=yBF.mp hb
    exact (hT q hq).2
   .have z':=(if_neg hb).symm.trans z
    cases z'
  .by_cases hb:b∈tabs.map (·.2)
   .have z':=(if_pos hb).symm.trans z
    cases z'
    obtain ⟨q,hq,e⟩:=yBF.mp hb
    exact .inr ⟨rfl,q,hq,e⟩
   .have z':=(if_neg hb).symm.trans z
    cases z'
 | none=>
  refine core (fun b=>if b∈tabs.map (·.2) then some (.tbl #[]) else if b=a then some (.frz { cls:=.type "list",data:=.seq vs.toArray } (.lst (ns.map V.int))) else none) (.inl (.inr ⟨{ cls:=.type "list",data:=.seq vs.toArray },?_⟩)) (fun b u z=>?_) (fun b u z=>?_) fun q hq=>if_pos (List.mem_map_of_mem hq)
  .dsimp only
   rw [if_neg,if_pos rfl]
   intro z
   obtain ⟨q,hq,e⟩:=yBF.mp z
   exact tabA q hq e
  .by_cases hb:b∈tabs.map (·.2)
   .have z':=(if_pos hb).symm.trans z
    cases z'
    obtain ⟨q,hq,rfl⟩:=yBF.mp hb
    exact (hT q hq).2
   .have z':=(if_neg hb).symm.trans z
    by_cases hba:b=a
    .have z':=(if_pos hba).symm.trans z'
     cases z'
     subst hba
     exact ⟨ha,by rw [yAB];exact hl,vs,_,rv,ha⟩
    .have z':=(if_neg hba).symm.trans z'
     cases z'
  .by_cases hb:b∈tabs.map (·.2)
   .have z':=(if_pos hb).symm.trans z
    cases z'
    obtain ⟨q,hq,e⟩:=yBF.mp hb
    exact .inr ⟨rfl,q,hq,e⟩
   .have z':=(if_neg hb).symm.trans z
    by_cases hba:b=a
    .have z':=(if_pos hba).symm.trans z'
     cases z'
     exact .inl ⟨hba,hk,_,_,rfl⟩
    .have z':=(if_neg hba).symm.trans z'
     cases z'
noncomputable def ZEi (K:W.Frag) (tabs:List (Addr×Addr)):Sp:=fun vs H Q _=>∃ (a:Addr) (ns:List Int),vs=[.ref a] /\ SqL K H a (ns.map V.int) /\ ns.length <= 63 /\ ZFT tabs H /\ ∀ H',Q (.bl true) H'
theorem tabIn_of {K:W.Frag} {x:Str} {f c Pt:Addr} {oc oc2:Value} {od od2:Option Addr} {fd:FuncData} {sl sl2:Array (Option Value)} {vs:Array Value} (a:W.nsIn K mainGlobals x=some (some (.ref f))) (l:K.lookup f=some ⟨oc,od,.func fd,sl⟩) (hc:fd.code=.ref c)
  (lc:K.lookup c=some ⟨oc2,od2,.fields vs,sl2⟩) (tp:vs[11]?=some (.ref Pt)):PySem.W.tabIn K x=some (c,Pt):=by
 unfold PySem.W.tabIn
 rw [a]
 dsimp only
 rw [l]
 dsimp only
 rw [hc]
 dsimp only
 rw [lc]
 dsimp only
 rw [tp]
theorem walk_ofT2 {l:PySem.W.OpenLaw} {k:Nat} {q:Program} {loose:List Str} {XP:(Str->Option Value)->Heap->Prop} {YP:World->Heap->Prop} {d:DefRec} {K:Params->W.Frag} {x:Str} {names:List Str}
  (hn:l.most=some 63) (hdf:d.params.defaults=[]) (hr:Room k callerA)
  (hY:∀ (w:World) (h:Heap),YP w h->(K w.params).In h) (hrec:∀ y∈names,∃ dr,(recsOf q).find? (fun e=>e.name == y)=some dr)
  (F:∀ (w:World) (mg:Str->Option Value) (fa:Addr) (h:Heap),(K w.params).In h->h.Ns mainGlobals mg->mg d.name=some (.ref fa) ->
   ∃ (tabs:List (Addr×Addr)) (fd:FuncData),PySem.W.noTabs (K w.params)=true /\ (∀ t∈tabs,∃ y∈names,PySem.W.tabIn (K w.params) y=some t) /\ (∀ (s:Shared) (u:Value),BindsTo s fd ⟨[u],[]⟩ [(x,u)]) /\
    ∀ base:Heap,(K w.params).In base->base.Ns mainGlobals mg->(∀ t∈tabs,PySem.W.CodeHd base t.1 t.2)->ZDs mg base->FnOk l.prog w (K w.params) mg base CX0 k fa fd [x] (ZEi (K w.params) tabs)) :
  PySem.W.WalkO q loose XP YP l.row.toRowW d [] (fun f vs=>PySem.call f vs):=by
 refine Att.attach_call hn hdf fun w s₀ s₁ mg mb fa o pm cd doc a vs ns G Y ho hd hcd hmg hobj hints hlen hg=>?_
 have KX:=hY w _ Y
 obtain ⟨tabs,fd,nt,ht,hb,hF⟩:=F w mg fa _ KX G.T.g hmg
 refine law_callT (tabs:=tabs) KX G.T.g G.T.b G.T.builtins G.T.nolimit hg hobj hints (yAF hlen (by decide)) hr (fun t h2=>?_) nt G.T.bmain hF hb (fun H hO hS=>⟨a,ns,rfl,hS,hlen,hO,fun _=>rfl⟩) fun H e s' z=>z
 obtain ⟨y,hy,e2⟩:=ht t h2
 obtain ⟨dr,e1⟩:=hrec y hy
 exact PySem.W.tab_of G.T KX e1 e2
theorem hix_of {ix:List Nat} {ps fr:List Str} (h:ix.map (fun i=>ps[i]?)=fr.map some):∀ (j:Nat) (y:Str),fr[j]?=some y->∃ i,ix[j]?=some i /\ ps[i]?=some y:=fun j y e=>by
 have:=congrArg (fun l=>l[j]?) h
 simp only [yAU,e,yBZ] at this
 cases q:ix[j]? with
 | none=>rw [q] at this;cases this
 | some i=>rw [q] at this;exact ⟨i,rfl,by simpa using this⟩
noncomputable def inBody (s:Stmt) (j:Nat):Stmt:=(ZAL s).getD j (.Pass ⟨0,0,0,0⟩)
noncomputable def ZDI (s:Stmt):Pos:=match s with
 | .FunctionDef _ _ _ _ _ _ _ _ _ pos=>pos
 | _=>⟨0,0,0,0⟩
theorem cx_cloK {P:Program} {w:World} {K:W.Frag} {mg:Str->Option Value} {base:Heap} {N:List Str} {qual:Str} {scope:Scope} {f:Addr} {cd:Value} {cl:List (Str×Addr)} {A:Around} {outer:List Env} {s:Shared} {H:Hp}:(ZEW P w K mg base N qual scope f cd cl A outer s H).K=K:=rfl
section
variable {prog:Program} {w:World} {A:Around} {R:Result->Shared->Prop} {I:Addr} {fp wr:List Addr} {n:Nat} {P:Nat->Value->Prop} {St:Nat->Heap->Prop}
end
section
variable {prog:Program} {w:World} {A:Around} {E:Value->Shared->Prop} {s:Shared} {l:Addr}
end
noncomputable def maxD (d:Int):List Int->Int
 | []=>d
 | x::r=>r.foldl (fun m y=>if m < y then y else m) x
section
variable {X:Cx} {e d:Expr} {te td:TE} {p pos:Pos} {kpos:Pos}
noncomputable def tMaxD (K:W.Frag) (te td:TE):TE:=fun σ H Q=>te σ H fun x H1=>td σ H1 fun y H2=>∃ a ns dd,x=.ref a /\ y=.int dd /\ SqL K H2 a (ns.map V.int) /\ Q (.int (maxD dd ns)) H2
end
theorem lkc {k k':Str} {v:V} {r:List (Str×V)}:List.lookup k ((k',v)::r)=if k=k' then some v else List.lookup k r:=by
 rw [yBW]
 by_cases h:k=k'
 .subst h;simp
 .have:(k == k')=false:=by simpa using h
  rw [this,if_neg h]
theorem ZBI {f:Str} {v u:V}:∀ {fs:List (Str×V)},fs.lookup f=some u->(putF f v fs).length=fs.length
 | [],h=>by cases h
 | (g,w)::r,h=>by
  unfold putF
  by_cases e:g=f
  .rw [if_pos e];rfl
  .rw [if_neg e,yAR,yAR]
   rw [lkc,if_neg (fun z=>e z.symm)] at h
   rw [ZBI h]
structure Ins (H:Hp) (a C:Addr) (fl:List (Str×V)):Prop where
 ex:∃ dx fs,H a=some (.ins C dx fs) /\ fs.length <= 50 /\ ∀ f,fs.lookup f=fl.lookup f
theorem Ins.of {H:Hp} {a C dx:Addr} {fl:List (Str×V)} (h:H a=some (.ins C dx fl)) (hl:fl.length <= 50):Ins H a C fl:=⟨dx,fl,h,hl,fun _=>rfl⟩
theorem Ins.congr {H:Hp} {a C:Addr} {fl fl':List (Str×V)} (h:Ins H a C fl) (e:∀ f,fl.lookup f=fl'.lookup f):Ins H a C fl':=let ⟨dx,fs,h1,h2,h3⟩:=h.ex;⟨dx,fs,h1,h2,fun f=>(h3 f).trans (e f)⟩
theorem Ins.mono {H H':Hp} {a C:Addr} {fl:List (Str×V)} (h:Ins H a C fl) (s:Same H H'):Ins H' a C fl:=let ⟨dx,fs,h1,h2,h3⟩:=h.ex;⟨dx,fs,s _ _ h1,h2,h3⟩
theorem Ins.keep {H H':Hp} {a C:Addr} {fl:List (Str×V)} (h:Ins H a C fl) (s:H' a=H a):Ins H' a C fl:=let ⟨dx,fs,h1,h2,h3⟩:=h.ex;⟨dx,fs,s.trans h1,h2,h3⟩
theorem Ins.ne {H:Hp} {a b C:Addr} {fl:List (Str×V)} {o:HO} (h:Ins H a C fl) (hb:H b=some o) (n:∀ C dx fs,o≠.ins C dx fs):b≠a:=fun z=>by
 obtain ⟨dx,fs,h1,_⟩:=h.ex
 rw [z,h1] at hb
 exact n _ _ _ (Option.some.inj hb).symm
theorem Ins.neN {H:Hp} {a b C:Addr} {fl:List (Str×V)} (h:Ins H a C fl) (hb:H b=none):b≠a:=fun z=>by
 obtain ⟨dx,fs,h1,_⟩:=h.ex
 rw [z,h1] at hb;cases hb
section
variable {K:W.Frag} {f:Str} {a C:Addr} {fl:List (Str×V)} {v:V} {H:Hp}
theorem Ins.get {Q:VK} (h:Ins H a C fl) (cl:Cls K C) (n:NoAttr K C f) (l:fl.lookup f=some v) (q:Q v H):getF K f (.ref a) H Q:=by
 obtain ⟨dx,fs,h1,h2,h3⟩:=h.ex
 exact getF_of h1 cl n ((h3 f).trans l) q
theorem Ins.set {Q:Hp->Prop} (h:Ins H a C fl) (cl:Cls K C) (n:NoAttr K C f) (q:∀ H',Ins H' a C (putF f v fl)->(∀ b,b≠a->H' b=H b)->Q H') (hl:∃ u,fl.lookup f=some u):setF K f (.ref a) v H Q:=by
 obtain ⟨dx,fs,h1,h2,h3⟩:=h.ex
 obtain ⟨u,hu⟩:=hl
 refine setF_of h1 cl n (by omega) (q _ ⟨dx,_,ZAF,?_,fun g=>?_⟩ fun b hb=>ZAG hb)
 .rw [ZBI ((h3 f).trans hu)];exact h2
 .rw [ZAR,ZAR,h3]
theorem Ins.meth {m:Str} {R:Prop} (h:Ins H a C fl) (l:fl.lookup m=none) (q:R):∃ b dx fs,V.ref a=.ref b /\ H b=some (.ins C dx fs) /\ fs.lookup m=none /\ R:=by
 obtain ⟨dx,fs,h1,h2,h3⟩:=h.ex
 exact ⟨a,dx,fs,rfl,h1,(h3 m).trans l,q⟩
end
noncomputable def augA (K:W.Frag) (tv:TE) (rd:V->V->Hp->VK->Prop) (f:Str) (D:Ends) (σ:St) (x:V) (H1:Hp):Prop:=∃ a C dx fs v,x=.ref a /\ H1 a=some (.ins C dx fs) /\ Cls K C /\ NoAttr K C f /\ fs.lookup f=some v /\
 tv σ H1 fun y H2=>rd v y H2 fun z H3=>∃ dx' fs',H3 a=some (.ins C dx' fs') /\ fs'.length < 1000 /\ D.nx σ (upd H3 a (.ins C dx' (putF f z fs')))
theorem sFldAug_eq {K:W.Frag} {ta tv:TE} {rd:V->V->Hp->VK->Prop} {f:Str} {D:Ends} {σ:St} {H:Hp}:sFldAug K ta tv rd f D σ H=ta σ H (fun x H1=>augA K tv rd f D σ x H1):=rfl
theorem Ins.aug {K:W.Frag} {f:Str} {a C:Addr} {fl:List (Str×V)} {i j:Int} {H:Hp} {D:Ends} {σ:St} (h:Ins H a C fl) (cl:Cls K C) (n:NoAttr K C f) (l:fl.lookup f=some (.int i))
  (q:∀ H',Ins H' a C (putF f (.int (i+j)) fl)->(∀ b,b≠a->H' b=H b)->D.nx σ H'):augA K (tC (.int j)) rAdd f D σ (.ref a) H:=by
 obtain ⟨dx,fs,h1,h2,h3⟩:=h.ex
 refine ⟨a,C,dx,fs,_,rfl,h1,cl,n,(h3 f).trans l,i,j,rfl,rfl,dx,fs,h1,by omega,q _ ⟨dx,_,ZAF,?_,fun g=>?_⟩ fun b hb=>ZAG hb⟩
 .rw [ZBI ((h3 f).trans l)];exact h2
 .rw [ZAR,ZAR,h3]
theorem setX {K:W.Frag} {f:Str} {a C dx:Addr} {fs:List (Str×V)} {v:V} {H:Hp} {Q:Hp->Prop} (h:H a=some (.ins C dx fs)) (cl:Cls K C) (n:NoAttr K C f) (hl:fs.length <= 20) (q:∀ H',H' a=some (.ins C dx (putF f v fs))->(∀ b,b≠a->H' b=H b)->Q H'):setF K f (.ref a) v H Q :=
 setF_of h cl n (by omega) (q _ ZAF fun b hb=>ZAG hb)
theorem ZAq {f:Str} {v:V} {fs:List (Str×V)} {n:Nat} (h:fs.length <= n):(putF f v fs).length <= n+1:=yAF (ZCU f v fs) (Nat.succ_le_succ h)
theorem ZFM {f0:Str} {v0:V}:(putF f0 v0 []).length <= 20:=yAF (ZAq (yAA 0)) (by decide)
theorem ZFL {f0 f1:Str} {v0 v1:V}:(putF f1 v1 (putF f0 v0 [])).length <= 20:=yAF (ZAq (ZAq (yAA 0))) (by decide)
theorem ZFK {f0 f1 f2:Str} {v0 v1 v2:V}:(putF f2 v2 (putF f1 v1 (putF f0 v0 []))).length <= 20:=yAF (ZAq (ZAq (ZAq (yAA 0)))) (by decide)
theorem putL4 {f0 f1 f2 f3:Str} {v0 v1 v2 v3:V}:(putF f3 v3 (putF f2 v2 (putF f1 v1 (putF f0 v0 [])))).length <= 20:=yAF (ZAq (ZAq (ZAq (ZAq (yAA 0))))) (by decide)
theorem putL5 {f0 f1 f2 f3 f4:Str} {v0 v1 v2 v3 v4:V}:(putF f4 v4 (putF f3 v3 (putF f2 v2 (putF f1 v1 (putF f0 v0 []))))).length <= 20:=yAF (ZAq (ZAq (ZAq (ZAq (ZAq (yAA 0)))))) (by decide)
theorem mx_eq (p q:Int):(if q > p then q else p)=max p q:=by split <;> omega
theorem mn_eq (p q:Int):(if q < p then q else p)=min p q:=by split <;> omega
end L2
namespace PySem
open Sem (wp)
theorem ZBY (o : Obj) (f) : (o.mapFields f).dict = o.dict := by
  unfold Obj.mapFields
  split <;> rfl
structure Kpo (o o' : Obj) : Prop where
  fr : o'.isFreed = o.isFreed
  di : o'.dict = o.dict
theorem Kpo.refl (o : Obj) : Kpo o o := ⟨rfl, rfl⟩
theorem Kpo.set (i : Nat) (v : Value) (o : Obj) : Kpo o (o.mapFields (·.setIfInBounds i v)) := by
  unfold Obj.mapFields
  split
  · exact ⟨rfl, rfl⟩
  · exact .refl _
def Kph (h h' : Heap) : Prop := ∀ b o, h.get? b = some o → ∃ u, h'.get? b = some u ∧ Kpo o u
theorem Kph.trans {h h' k : Heap} (x : Kph h h') (y : Kph h' k) : Kph h k := fun b o e => by
  obtain ⟨u, e1, q1⟩ := x b o e
  obtain ⟨w, e2, q2⟩ := y b u e1
  exact ⟨w, e2, q2.fr.trans q1.fr, q2.di.trans q1.di⟩
theorem Kph.upd (h : Heap) (a : Addr) {f : Obj → Obj} (hf : ∀ o, Kpo o (f o)) : Kph h (h.update a f) := fun b o e => by
  by_cases q : a = b
  · subst q
    exact ⟨_, Heap.get?_update_self f e ((hf o).fr.trans (Heap.get?_some_iff.mp e).2), hf o⟩
  · exact ⟨o, (Heap.get?_update_other h f q).trans e, .refl o⟩
inductive Tame {α : Type} : Sem α → Prop
  | pure (a) : Tame (.pure a)
  | no (w) : Tame (.unsupported w)
  | load {a p k} : (∀ o, Tame (k o)) → Tame (.load a p k)
  | upd {a p f k} : (∀ o, Kpo o (f o)) → Tame (k ()) → Tame (.update a p f k)
  | new {o k} : (∀ a, Tame (k a)) → Tame (.alloc o k)
  | stack {k} : (∀ l, Tame (k l)) → Tame (.stack k)
section
variable {α β : Type} {M : Model} {Γ : Ctx} {A : Around} {E : Value → Shared → Prop} {s : Shared}
theorem Tame.wp {t : Sem α} (T : Tame t) {Q : α → Pos → Shared → Prop} {E : Value → Pos → Shared → Prop} {p : Pos} : ∀ {s : Shared}, wp M Γ t Q E p s → wp M Γ t (fun a p z => Q a p z ∧ Kph s.heap z.heap) E p s := by
  have go : ∀ {t : Sem α} {s s1 : Shared}, Kph s.heap s1.heap → (∀ {s : Shared}, Sem.wp M Γ t Q E p s → Sem.wp M Γ t (fun a p z => Q a p z ∧ Kph s.heap z.heap) E p s) → Sem.wp M Γ t Q E p s1 → Sem.wp M Γ t (fun a p z => Q a p z ∧ Kph s.heap z.heap) E p s1 :=
    fun k ih h => Sem.wp_mono M Γ _ (fun _ _ _ z => ⟨z.1, k.trans z.2⟩) (fun _ _ _ z => z) _ _ (ih h)
  induction T with
  | pure => exact fun h => ⟨h, fun b o e => ⟨o, e, .refl o⟩⟩
  | no => exact id
  | load _ ih => exact fun ⟨o, e, h⟩ => ⟨o, e, ih o h⟩
  | upd f _ ih => exact fun ⟨e, h⟩ => ⟨e, go (Kph.upd _ _ f) ih h⟩
  | @new o k _ ih => exact fun {s} h => go (t := k s.heap.objs.size) (s1 := { s with heap := s.heap.push o }) (fun b u e => ⟨u, Heap.get?_push_of_some _ e, .refl u⟩) (ih _) h
  | stack _ ih => exact fun h => ih _ h
theorem Tame.any {t : Sem α} (T : Tame t) {Q : α → Shared → Prop} (h : wpAny M A t Q E s) : wpAny M A t (fun a z => Q a z ∧ Kph s.heap z.heap) E s := fun Γ p hΓ => T.wp (h Γ p hΓ)
theorem Tame.bind {m : Sem α} {f : α → Sem β} (x : Tame m) (y : ∀ a, Tame (f a)) : Tame (m >>= f) := by
  show Tame (m.bind f)
  induction x with
  | pure a => exact y a
  | no w => exact .no w
  | load _ ih => exact .load ih
  | upd h _ ih => exact .upd h ih
  | new _ ih => exact .new ih
  | stack _ ih => exact .stack ih
theorem Tame.ite {c : Prop} [Decidable c] {x y : Sem α} (hx : Tame x) (hy : Tame y) : Tame (if c then x else y) := by split <;> assumption
theorem tame_field (v : Value) (i : Nat) : Tame (field v i) := by
  refine .bind (m := fieldsOf v) ?_ fun a => ?_
  · unfold fieldsOf
    split
    · refine .bind (.load fun o => .pure o) fun o => ?_
      split
      · exact .pure _
      · exact .no _
    · exact .no _
  · split
    · exact .pure _
    · exact .no _
theorem tame_setField (i : Nat) (v x : Value) : Tame (setField v i x) := by
  unfold setField
  split
  · unfold updateField
    refine .bind (.load fun o => .pure o) fun o => ?_
    split
    · exact .ite (.upd (Kpo.set i x) (.pure _)) (.no _)
    · exact .no _
  · exact .no _
theorem tame_ready (l : List Env) : Tame (readyFrames l) := by
  induction l with
  | nil => exact .pure _
  | cons env r ih =>
    unfold readyFrames
    split
    next f hf =>
      refine .bind (.load fun o => .pure o) fun o => .ite (.pure _) (.bind ?_ fun b => .bind ?_ fun c => .bind (.upd (fun o => ⟨by cases o with | mk a b d c => cases d <;> rfl, rfl⟩) (.pure _)) fun _ => ih)
      · unfold behindIsImport
        exact .ite (.pure _) (.ite (.pure _) (.bind (tame_field _ _) fun _ => .pure _))
      · unfold keptBack
        split
        · exact .ite (.pure _) (.bind (.bind (.stack fun l => .pure l) fun _ => .pure _) fun _ => .pure _)
        · exact .pure _
    · exact .no _
theorem tame_note (e : Value) (env : Env) : Tame (noteFrame e env) := by
  unfold noteFrame
  split
  next f hf =>
    have rest : ∀ head b, Tame (do setField e 1 (← EntryCells.newEntry head (← frameOf env) .none (rawInt f) .none (← entryPlaceOf f b))) := fun head b => by
      refine .bind ?_ fun a => .bind ?_ fun pl => .bind ?_ fun n => tame_setField _ _ _
      · unfold frameOf
        refine .bind (.bind (.stack fun l => .pure l) fun _ => .pure _) fun l => .bind ?_ fun o => ?_
        · unfold frameObject
          split
          · exact .pure _
          · exact .bind (tame_ready _) fun _ => .pure _
        · split
          · exact .pure _
          · exact .no _
      · unfold entryPlaceOf
        refine .bind (.stack fun l => .pure l) fun l => ?_
        split <;> exact .pure _
      · unfold EntryCells.newEntry newFields newObj
        exact .ite (.bind (.no _) fun _ => .bind (.new fun a => .pure a) fun a => .pure _) (.bind (.new fun a => .pure a) fun a => .pure _)
    refine .bind (tame_field _ _) fun head => .ite (.bind (tame_field _ _) fun y => .ite (.pure _) (.bind (tame_setField _ _ _) fun _ => rest _ _)) (rest _ _)
  · exact .no _
theorem tame_flight (e : Value) (o : Option Addr) : Tame (setFlight e o) := .bind (tame_field _ _) fun _ => .ite (tame_setField _ _ _) (.pure _)
theorem tame_leaving (env : Env) (e : Value) : Tame (leaving env e) := .bind (tame_note _ _) fun _ => tame_flight _ _
def Heap.Dx (h : Heap) (e : Addr) (d : Option Addr) : Prop := ∃ o, h.get? e = some o ∧ o.dict = d
theorem Heap.Dx.kept {h h' : Heap} {e : Addr} {d : Option Addr} (x : h.Dx e d) (k : Kph h h') : h'.Dx e d := by
  obtain ⟨o, h1, h3⟩ := x
  obtain ⟨u, h5, q⟩ := k e o h1
  exact ⟨u, h5, q.di.trans h3⟩
def Heap.TracedAtD (h base : Heap) (e : Addr) (cls : Value) (a0 : Value × Option Addr) (fl : Value) : Prop := h.TracedAtW base e cls a0.1 fl ∧ h.Dx e a0.2
abbrev Heap.TracedD (h base : Heap) (e : Addr) (cls : Value) (a0 : Value × Option Addr) : Prop := h.TracedAtD base e cls a0 .none
abbrev Heap.FlyD (base : Heap) (l : List Env) (e : Addr) (cls : Value) (a0 : Value × Option Addr) (fl : Value) (h : Heap) : Prop := base.StaysIn h ∧ base.get? e = none ∧ h.FunFrames base l ∧ h.TracedAtD base e cls a0 fl
abbrev Heap.FlyingD (base : Heap) (l : List Env) (e : Addr) (cls : Value) (a0 : Value × Option Addr) (h : Heap) : Prop := Heap.FlyD base l e cls a0 .none h
abbrev Heap.HeldD (base : Heap) (l : List Env) (e : Addr) (cls : Value) (a0 : Value × Option Addr) (L : Addr) (h : Heap) : Prop := Heap.FlyD base l e cls a0 (rawInt L) h
theorem Heap.FlyingD.thereD {base h : Heap} {l : List Env} {e : Addr} {cls : Value} {a0 : Value × Option Addr} (x : Heap.FlyingD base l e cls a0 h) : ∃ ob, h.get? e = some ob ∧ ob.cls = cls ∧ ob.dict = a0.2 ∧ ∃ vs, ob.data = .fields vs := by
  obtain ⟨_, _, _, ⟨oe, vs, _, _, _, he, hc, hd, _⟩, o, h1, h2⟩ := x
  rw [he] at h1
  cases h1
  exact ⟨oe, he, hc.1, h2, vs, hd⟩
theorem Heap.FlyingD.there {base h : Heap} {l : List Env} {e : Addr} {cls : Value} {a0 : Value × Option Addr} (x : Heap.FlyingD base l e cls a0 h) : ∃ ob, h.get? e = some ob ∧ ob.cls = cls :=
  let ⟨ob, h1, h2, _⟩ := Heap.FlyingD.thereD x
  ⟨ob, h1, h2⟩
variable {base : Heap} {env : Env} {l outer : List Env} {L e : Addr} {cls : Value} {a0 : Value × Option Addr} {Q : Unit → Shared → Prop}
theorem Tame.go {t : Sem Unit} (T : Tame t) {P : Heap → Prop} (w : wpAny M A t (fun _ z => ∃ h', z = { s with heap := h' } ∧ P h') E s) (hQ : ∀ h', P h' → Kph s.heap h' → Q () { s with heap := h' }) : wpAny M A t Q E s :=
  wpAny_mono (T.any w) (fun _ _ z => by
    obtain ⟨⟨h', rfl, p⟩, k⟩ := z
    exact hQ h' p k) fun _ _ z => z
theorem wpAny_leaves_onD (hfr : A.frames = some (env :: outer)) (hf : env.frame = some L) (x : Heap.FlyingD base (env :: outer) e cls a0 s.heap) (hQ : ∀ h', Heap.FlyingD base outer e cls a0 h' → s.heap.UpToSlots h' → Q () { s with heap := h' }) : wpAny M A (leaving env (.ref e)) Q E s := by
  obtain ⟨f1, f2, f3, f4, d⟩ := x
  refine (tame_leaving _ _).go (P := fun h' => Heap.FlyingW base outer e cls a0.1 h' ∧ s.heap.UpToSlots h') (wpAny_leaves_onW hfr hf ⟨f1, f2, f3, f4⟩ fun h' y u => ⟨h', rfl, y, u⟩) fun h' ⟨⟨y1, y2, y3, y4⟩, u⟩ k => hQ h' ⟨y1, y2, y3, y4, d.kept k⟩ u
theorem ZBS (hfr : A.frames = some (env :: outer)) (hf : env.frame = some L) (x : Heap.FlyingD base (env :: outer) e cls a0 s.heap) (hQ : ∀ h', Heap.HeldD base (env :: outer) e cls a0 L h' → s.heap.UpToSlots h' → Q () { s with heap := h' }) : wpAny M A (noteFrame (.ref e) env) Q E s := by
  obtain ⟨f1, f2, f3, f4, d⟩ := x
  refine (tame_note _ _).go (P := fun h' => Heap.HeldW base (env :: outer) e cls a0.1 L h' ∧ s.heap.UpToSlots h') (wpAny_looks_onW hfr hf ⟨f1, f2, f3, f4⟩ fun h' y u => ⟨h', rfl, y, u⟩) fun h' ⟨⟨y1, y2, y3, y4⟩, u⟩ k => hQ h' ⟨y1, y2, y3, y4, d.kept k⟩ u
theorem wpAny_noteFrame_againD (hf : env.frame = some L) (x : s.heap.TracedAtD base e cls a0 (rawInt L)) (h : Q () s) : wpAny M A (noteFrame (.ref e) env) Q E s := wpAny_noteFrame_againW hf x.1 h
theorem flightD_ {fl : Value} (o : Option Addr) (f1 : base.StaysIn s.heap) (f3 : s.heap.FunFrames base l) (f4 : s.heap.TracedAtD base e cls a0 fl)
    (hQ : ∀ h', base.StaysIn h' → h'.FunFrames base l → h'.TracedAtD base e cls a0 (o.elim .none fun f => rawInt f) → (∀ b o, s.heap.get? b = some o → (∀ vs, o.data ≠ .fields vs) → h'.get? b = some o) → Q () { s with heap := h' }) : wpAny M A (setFlight (.ref e) o) Q E s := by
  obtain ⟨⟨oe, vs, T, oT, ts, he, hc, hd, h1, hnT, hTe, hT, hdT, h3⟩, d⟩ := f4
  refine (tame_flight _ _).go (P := fun h' => h' = s.heap.update T (Obj.mapFields (·.setIfInBounds 3 (o.elim .none fun f => rawInt f)))) ?_ fun h' z k => ?_
  · refine wpAny_bind (wpAny_field he hd h1 ?_)
    show wpAny M A (setField (.ref T) 3 _) _ E s
    exact wpAny_setField hT hdT (Array.getElem?_eq_some_iff.mp h3).1 ⟨_, rfl, rfl⟩
  · subst z
    have ot : ∀ b u, s.heap.get? b = some u → b ≠ T → (s.heap.update T (Obj.mapFields (·.setIfInBounds 3 (o.elim .none fun f => rawInt f)))).get? b = some u := fun b u h n => (Heap.get?_update_other _ _ (Ne.symm n)).trans h
    have nt : ∀ b u, s.heap.get? b = some u → (∀ vs, u.data ≠ .fields vs) → b ≠ T := fun b u h n z => by
      subst z
      rw [hT] at h
      cases h
      exact n ts hdT
    exact hQ _ (fun b u h => ot b u (f1 b u h) (fun z => by subst z; rw [hnT] at h; cases h)) (f3.of_keeps fun b u h n => ⟨u, ot b u h (nt b u h n), rfl⟩)
      ⟨⟨oe, vs, T, _, _, ot e oe he (Ne.symm hTe), hc, hd, h1, hnT, hTe, Heap.get?_update_self _ hT (Obj.isFreed_of_fields (Obj.data_mapFields hdT _)), Obj.data_mapFields hdT _, by
        have := (Array.getElem?_eq_some_iff.mp h3).1
        simp [this]⟩, d.kept k⟩ fun b u h n => ot b u h (nt b u h n)
theorem wpAny_landsD (hh : Heap.HeldD base l e cls a0 L s.heap) (hQ : ∀ h', Heap.FlyingD base l e cls a0 h' → s.heap.UpToSlots h' → Q () { s with heap := h' }) : wpAny M A (setFlight (.ref e) none) Q E s :=
  flightD_ none hh.1 hh.2.2.1 hh.2.2.2 fun h' k1 k2 k3 k4 => hQ h' ⟨k1, hh.2.1, k2, k3⟩ fun b o y n => ⟨o.slots, k4 b o y n⟩
theorem LANDS2_ (hh : Heap.FlyingD base l e cls a0 s.heap) (hQ : ∀ h', Heap.FlyingD base l e cls a0 h' → s.heap.UpToSlots h' → Q () { s with heap := h' }) : wpAny M A (setFlight (.ref e) none) Q E s :=
  flightD_ none hh.1 hh.2.2.1 hh.2.2.2 fun h' k1 k2 k3 k4 => hQ h' ⟨k1, hh.2.1, k2, k3⟩ fun b o y n => ⟨o.slots, k4 b o y n⟩
theorem wpAny_setFlight_someD {fl : Value} (hkb : base.StaysIn s.heap) (hl : s.heap.FunFrames base l) (ht : s.heap.TracedAtD base e cls a0 fl)
    (h : ∀ h', base.StaysIn h' → h'.FunFrames base l → h'.TracedAtD base e cls a0 (rawInt L) → (∀ b o, s.heap.get? b = some o → (∀ vs, o.data ≠ .fields vs) → h'.get? b = some o) → Q () { s with heap := h' }) : wpAny M A (setFlight (.ref e) (some L)) Q E s := flightD_ (some L) hkb hl ht h
theorem wpAny_leaving_firstD {oe : Obj} {vs : Array Value} (hfr : A.frames = some (env :: outer)) (hl : s.heap.FunFrames base (env :: outer)) (hf : env.frame = some L) (he : s.heap.get? e = some oe) (hkb : base.StaysIn s.heap) (hen : base.get? e = none) (hd : oe.data = .fields vs) (h1 : vs[1]? = some .none)
    (h0 : vs[0]? = some a0.1 ∧ oe.dict = a0.2) (hQ : ∀ h', (base.StaysIn h' ∧ h'.FunFrames base (env :: outer) ∧ h'.TracedD base e oe.cls a0 ∧ s.heap.UpToSlots h') → Q () { s with heap := h' }) : wpAny M A (leaving env (.ref e)) Q E s :=
  (tame_leaving _ _).go (P := fun h' => Heap.LeftW base (env :: outer) e oe.cls a0.1 s.heap h') (wpAny_leaving_firstW hfr hl hf he hkb hen hd h1 h0.1 fun h' y => ⟨h', rfl, y⟩) fun h' ⟨y1, y2, y3, y4⟩ k => hQ h' ⟨y1, y2, ⟨y3, Heap.Dx.kept ⟨oe, he, h0.2⟩ k⟩, y4⟩
end
end PySem
namespace L2
open PySem PySem.Spec PyProof.Rows
noncomputable def Fly (l:List Env) (H:Hp) (h0:Heap) (e:Addr) (cls:Value) (dd:Option Addr) (h:Heap):Prop :=
 ∃ B a0,Heap.FlyingD B l e cls (a0,dd) h /\ H e=none /\ h0.get? e=none /\ ∀ b o,h.get? b=some o->b∉frs l->(H b≠none∨∃ o0,h0.get? b=some o0)->B.get? b=some o
noncomputable def CXE (P:Program) (w:World):CXT:=fun outer H s E e s'=>
 ∃ ea cls dd H',e=.ref ea /\ s'.os=s.os /\ AllBare s'.gens /\ Un (frs outer) [] H H' s.heap s'.heap /\ HOk P w H' s'.heap /\ Fly outer H' s.heap ea cls dd s'.heap /\ E cls dd H'
theorem passE {P:Program} {w:World} {X:Cx}:ZA0 (CXE P w) X E0:=fun _ _ _ _ _ _ _ z=>by
 obtain ⟨_,_,_,_,_,_,_,_,_,_,h⟩:=z
 exact h.elim
section
variable {P:Program} {w:World} {l:List Env} {H H':Hp} {h h1 h2 B base:Heap}
theorem Un.fly (u:Un (frs l) [] H H' h h1) (hB:∀ b o,h1.get? b=some o->b∉frs l->(H' b≠none∨∃ o0,h.get? b=some o0)->B.get? b=some o) (st:B.StaysIn h2) (up:h1.UpToSlots h2) (hf:h1.FunFrames base l):Un (frs l) [] H H' h h2 where
 keep b o e n hb hx:=st b o (hB b o (u.keep b o e n hb hx) hb (.inr ⟨o,e⟩))
 slot b o e n hb hx:=by
  obtain ⟨sl,e1⟩:=u.slot b o e n hb hx
  obtain ⟨_,o',ho',hd⟩:=hf.mem hb
  rw [e1] at ho'
  cases ho'
  obtain ⟨sl2,e2⟩:=up b _ e1 hd
  exact ⟨sl2,e2⟩
 free:=u.free
 there b o e hx:=by
  obtain ⟨o',e1⟩:=u.there b o e hx
  by_cases hb:b∈frs l
  .obtain ⟨_,o2,ho2,hd⟩:=hf.mem hb
   rw [e1] at ho2
   cases ho2
   obtain ⟨sl,e2⟩:=up b _ e1 hd
   exact ⟨_,e2⟩
  .exact ⟨o',st b o' (hB b o' e1 hb (.inr ⟨o,e⟩))⟩
 tups:=u.tups
 frzs:=u.frzs
 tbls:=u.tbls
theorem HOk.fly (x:HOk P w H' h1) (hB:∀ b o,h1.get? b=some o->b∉frs l->(H' b≠none∨∃ o0,h.get? b=some o0)->B.get? b=some o) (st:B.StaysIn h2) (hn:∀ b∈frs l,H' b=none):HOk P w H' h2:=fun a o e=>by
 have k:∀ b o,H' b=some o->b∉frs l:=fun b o z m=>by rw [hn b m] at z;cases z
 refine (x a o e).stay (fun b v hc q=>?_) (fun _ q=>q) fun _ _ q=>q
 rcases hc with z | z
 .exact st b v (hB b v q (by rw [z];exact k _ _ e) (.inl (by rw [z,e];exact fun y=>nomatch y)))
 .exact st b v (hB b v q (k _ _ z) (.inl (by rw [z];exact fun y=>nomatch y)))
theorem Inv.stkFree2 {X:Cx} {pins:List (Addr×Obj)} {σ:St} {s:Shared} (I:Inv X pins σ H s) (u:Un (frs X.stack) [] H H' s.heap h1):∀ b∈frs X.stack,H' b=none:=fun b hb=>by
 obtain ⟨_,o,ho,_⟩:=I.stack.mem hb
 exact u.free b o ho (I.stkFree b hb) yBL
end
section
variable {P:Program} {w:World} {K:W.Frag} {mg:Str->Option Value} {base:Heap} {N:List Str} {qual:Str} {scope:Scope} {f:Addr} {cd:Value} {A:Around} {outer:List Env} {s:Shared} {H:Hp} {E:XK}
theorem ZEO {pins:List (Addr×Obj)} {σ:St} {H1 H':Hp} {s1 s2:Shared} {hm h' B B':Heap} {ea:Addr} {cls a0:Value} {dd:Option Addr} (I:Inv (cxOf (CXE P w) P w K mg base N qual scope f cd A outer s H E) pins σ H1 s1)
  (un:Un (frs (cxOf (CXE P w) P w K mg base N qual scope f cd A outer s H E).stack) [] H1 H' s1.heap hm) (hok:HOk P w H' hm)
  (hB:∀ b o,hm.get? b=some o->b∉frs (cxOf (CXE P w) P w K mg base N qual scope f cd A outer s H E).stack->(H' b≠none∨∃ o0,s1.heap.get? b=some o0)->B.get? b=some o)
  (ff:hm.FunFrames B' (cxOf (CXE P w) P w K mg base N qual scope f cd A outer s H E).stack) (up:hm.UpToSlots h') (fl:Heap.FlyingD B outer ea cls (a0,dd) h') (hout:H' ea=none) (hnew:s1.heap.get? ea=none) (os:s2.os=s1.os) (bare:AllBare s2.gens) (hE:E cls dd H') :
  CXE P w outer H s E (.ref ea) { s2 with heap:=h' }:=by
 have fr:=I.stkFree2 un
 have un2:=un.fly hB fl.1 up ff
 have hok2:=hok.fly hB fl.1 fr
 have I2:=I.call' (s':={ s2 with heap:=h' }) os un2 hok2 bare fun b z=>nomatch z
 have old:∀ b o,s.heap.get? b=some o->∃ o1,s1.heap.get? b=some o1:=fun b o q=>I.base.there b o q (fun z=>nomatch z)
 refine ⟨ea,cls,dd,H',rfl,I2.os,bare,I2.base,hok2,⟨B,a0,fl,hout,?_,fun b o ho hb hor=>?_⟩,hE⟩
 .cases q:s.heap.get? ea with
  | none=>rfl
  | some o=>
   obtain ⟨o1,h1⟩:=old ea o q
   rw [hnew] at h1;cases h1
 .have hb2:b∉frs (cxOf (CXE P w) P w K mg base N qual scope f cd A outer s H E).stack:=fun m=>by
   rcases yAH.mp (I2.stkSub b m) with z | z
   .rcases hor with y | ⟨o0,y⟩
    .exact y (by rw [z];exact I2.free)
    .exact absurd (yAO (Heap.lt_size y) I.ok.above) (by rw [z];exact yBN _)
   .exact hb z
  have:∃ o1,hm.get? b=some o1 /\ (H' b≠none∨∃ o0,s1.heap.get? b=some o0):=by
   rcases hor with y | ⟨o0,y⟩
   .obtain ⟨u,hu⟩:=Option.ne_none_iff_exists'.mp y
    have:=(hok b u hu).lt
    cases z:hm.get? b with
    | some o1=>exact ⟨o1,rfl,.inl y⟩
    | none=>
     exfalso
     have st2:=hok b u hu
     cases u with
     | lst xs=>obtain ⟨_,_,_,_,e⟩:=st2;rw [z] at e;cases e
     | tup xs=>obtain ⟨_,_,_,ob,e,_⟩:=st2;rw [z] at e;cases e
     | dK kvs=>obtain ⟨_,_,_,_,ob,es,ep,e,_⟩:=st2;rw [z] at e;cases e
     | dT kvs=>obtain ⟨_,_,_,_,ob,es,ep,e,_⟩:=st2;rw [z] at e;cases e
     | set S n=>obtain ⟨ob,es,ep,t,e,_⟩:=st2;rw [z] at e;cases e
     | ins C dx fs=>obtain ⟨_,_,_,e,_⟩:=st2;rw [z] at e;cases e
     | own y=>obtain ⟨_,e⟩:=st2;rw [z] at e;cases e
     | xd fs=>obtain ⟨_,⟨_,_,_,e,_⟩,_⟩:=st2;rw [z] at e;cases e
     | rng lo hi=>obtain ⟨_,_,_,e⟩:=st2;rw [z] at e;cases e
     | frz ob u=>obtain ⟨e,_⟩:=st2;rw [z] at e;cases e
     | tbl ps=>have e:hm.get? b=some _:=st2;rw [z] at e;cases e
     | met f y=>have e:hm.get? b=some _:=st2;rw [z] at e;cases e
     | ext φ=>obtain ⟨_,⟨_,e⟩,_⟩:=st2;rw [z] at e;cases e
   .obtain ⟨o1,h1⟩:=old b o0 y
    obtain ⟨o2,h2⟩:=un.there b o1 h1 (fun z=>nomatch z)
    exact ⟨o2,h2,.inr ⟨o1,h1⟩⟩
  obtain ⟨o1,q1,q2⟩:=this
  have q3:=hB b o1 q1 hb2 q2
  have q4:=fl.1 b o1 q3
  rw [ho] at q4
  cases q4
  exact q3
theorem ZDz:ZA0 (CXE P w) (cxOf (CXE P w) P w K mg base N qual scope f cd A outer s H E) E:=by
 intro pins σ H1 s1 e s2 I hc
 obtain ⟨ea,cls,dd,H',rfl,os,bare,un,hok,⟨B,a0,fl,hout,hnew,hB⟩,hE⟩:=hc
 refine wpAny_leaves_onD (base:=B) I.ok.frames rfl fl fun h' fl' up=>?_
 exact ZEO I un hok hB fl.2.2.1 up fl' hout hnew os bare hE
theorem raisedD {pins:List (Addr×Obj)} {σ:St} {H1 H2:Hp} {s1 s2:Shared} {ea:Addr} {oe:Obj} {vs:Array Value} {cls a0:Value} {dd:Option Addr} (I:Inv (cxOf (CXE P w) P w K mg base N qual scope f cd A outer s H E) pins σ H1 s1)
  (un:Un (frs (cxOf (CXE P w) P w K mg base N qual scope f cd A outer s H E).stack) [] H1 H2 s1.heap s2.heap) (hok:HOk P w H2 s2.heap) (os:s2.os=s1.os) (bare:AllBare s2.gens) (hnew:s1.heap.get? ea=none) (hout:H2 ea=none)
  (he:s2.heap.get? ea=some oe) (hc:oe.cls=cls) (hd:oe.dict=dd) (hv:oe.data=.fields vs) (h1:vs[1]?=some .none) (h0:vs[0]?=some a0) (hE:E cls dd H2) :
  (cxOf (CXE P w) P w K mg base N qual scope f cd A outer s H E).xe (.ref ea) s2:=by
 have I2:=I.call' (s':=s2) os un hok bare fun b z=>nomatch z
 have hin:∀ env∈(cxOf (CXE P w) P w K mg base N qual scope f cd A outer s H E).stack,∀ b,env.frame=some b->b∈ea::frs (cxOf (CXE P w) P w K mg base N qual scope f cd A outer s H E).stack:=fun env he b hb=>yAJ _ (List.mem_filterMap.mpr ⟨env,he,hb⟩)
 subst hc
 have eh:∀ b∈ea::frs (cxOf (CXE P w) P w K mg base N qual scope f cd A outer s H E).stack,(PySem.W.hideAll s2.heap (ea::frs (cxOf (CXE P w) P w K mg base N qual scope f cd A outer s H E).stack)).get? b=none:=fun b hb=>by
  exact PySem.W.hideAll_none _ hb
 refine wpAny_leaving_firstD (a0:=(a0,dd)) (base:=PySem.W.hideAll s2.heap (ea::frs (cxOf (CXE P w) P w K mg base N qual scope f cd A outer s H E).stack)) I.ok.frames (PySem.W.funFrames_hide I2.stack hin) rfl he (fun b o q=>PySem.W.of_hideAll _ q) (eh ea yAE) hv h1 ⟨h0,hd⟩ fun h' hL=>?_
 obtain ⟨k1,⟨_,_,k2⟩,k3,k4⟩:=hL
 refine ZEO (s2:=s2) (B:=PySem.W.hideAll s2.heap (ea::frs (cxOf (CXE P w) P w K mg base N qual scope f cd A outer s H E).stack)) I un hok (fun b o q nb hor=>PySem.W.hideAll_get _ q fun z=>?_) I2.stack k4 ⟨k1,eh ea yAE,k2,k3⟩ hout hnew os bare hE
 rcases yAH.mp z with z | z
 .subst z
  rcases hor with y | ⟨o0,y⟩
  .exact y hout
  .rw [hnew] at y;cases y
 .exact nb z
theorem raisedX {pins:List (Addr×Obj)} {σ:St} {H1:Hp} {s1:Shared} {h1:Heap} {ea:Addr} {cls:Value} (I:Inv (cxOf (CXE P w) P w K mg base N qual scope f cd A outer s H E) pins σ H1 s1) (hx:Heap.MadeExcOf s1.heap h1 ea cls []) (hE:E cls none H1) :
  (cxOf (CXE P w) P w K mg base N qual scope f cd A outer s H E).xe (.ref ea) { s1 with heap:=h1 }:=by
 obtain ⟨t,he,_⟩:=hx.there
 refine raisedD (s2:={ s1 with heap:=h1 }) I (Un.kept hx.keeps) (I.hok.kept hx.keeps) rfl I.bare hx.new ?_ he rfl rfl rfl rfl rfl hE
 cases q:H1 ea with
 | none=>rfl
 | some o=>
  exfalso
  have x:=I.hok ea o q
  have e:=hx.new
  cases o with
  | lst xs=>obtain ⟨_,_,_,_,z⟩:=x;rw [e] at z;cases z
  | tup xs=>obtain ⟨_,_,_,ob,z,_⟩:=x;rw [e] at z;cases z
  | dK kvs=>obtain ⟨_,_,_,_,ob,es,ep,z,_⟩:=x;rw [e] at z;cases z
  | dT kvs=>obtain ⟨_,_,_,_,ob,es,ep,z,_⟩:=x;rw [e] at z;cases z
  | set S n=>obtain ⟨ob,es,ep,t,z,_⟩:=x;rw [e] at z;cases z
  | ins C dx fs=>obtain ⟨_,_,_,z,_⟩:=x;rw [e] at z;cases z
  | own y=>obtain ⟨_,z⟩:=x;rw [e] at z;cases z
  | xd fs=>obtain ⟨_,⟨_,_,_,z,_⟩,_⟩:=x;rw [e] at z;cases z
  | rng lo hi=>obtain ⟨_,_,_,z⟩:=x;rw [e] at z;cases z
  | frz ob u=>obtain ⟨z,_⟩:=x;rw [e] at z;cases z
  | tbl ps=>have z:s1.heap.get? ea=some _:=x;rw [e] at z;cases z
  | met f y=>have z:s1.heap.get? ea=some _:=x;rw [e] at z;cases z
  | ext φ=>obtain ⟨_,⟨_,z⟩,_⟩:=x;rw [e] at z;cases z
end
open PySem PySem.Spec PySem.W PySem.Calls PyProof.Rows Builtin.Getset_descriptor Builtin.ObjectAttr
structure ExcC (K:W.Frag) (C:Addr):Prop where
 ga:W.findIn K (.ref C) "__getattribute__"=some (some (.builtin "BaseException.__getattribute__"))
 gt:W.findIn K (.ref C) "__getattr__"=some none
 ca:W.findIn K (.ref C) "__class__"=some (some (.builtin "object.__class__"))
 sg:PySem.W.specialIn K (.builtin "object.__class__") "__get__"=some (some (.builtin "getset_descriptor.__get__"))
 tk:PySem.W.takesIn K (.builtin "object.__class__")=some true
 mo:PySem.W.mroIn K C (.type "object")=some true
 mb:PySem.W.mroIn K C (.type "BaseException")=some true
section
variable {prog:Program} {w:World} {A:Around} {E:Value->Shared->Prop} {K:W.Frag} {a C:Addr} {o:Obj} {h:Heap} {g:Array GenState} {d:Drawn} {t:Nat} {os:OsState}
theorem ZEM {M:Model} (hx:h.get? a=some o) (hc:o.cls=.ref C):Looks M h (typeOf (.ref a)) (.ref C):=hc ▸ (Looks.ld hx).andThen .now
theorem exc_get {R:Result->Shared->Prop} (X:K.In h) (F:ExcC K C) (hx:h.get? a=some o) (hc:o.cls=.ref C) (hq:R (.ok (.ret (.ref C))) ⟨h,g,d,t,os⟩) :
  codeAny (model prog w) A (.call (.builtin "getset_descriptor.__get__") ⟨[.builtin "object.__class__",.ref a,.ref C],[]⟩) R ⟨h,g,d,t,os⟩:=by
 have y0:=ZEM (M:=model prog w) hx hc
 have y1:=looks_mroIn (M:=model prog w) X F.mo
 refine codeAny_call_builtin KF.slot_gs.plain KF.entry_gs (KF.slot_gs.check _ _ _ _ _ _ _ _ KF.type_class (KF.args_gs _ _ _) ?_)
 simp only [Builtin.«getset_descriptor.__get__»,descrGet]
 rw [dga_obj]
 refine wpAny_bind (wpAny_pure ?_)
 simp only [descrGetter,descrCheckInstance,descrNameAndClass,isInstance,KF.owner_class]
 repeat lk
 refine ⟨Code.quiet_builtin _ (by decide +kernel),codeAny_builtin KF.entry_class ?_⟩
 simp only [Builtin.«object.__class__»,shownTypeOf]
 repeat lk
 exact hq
theorem exc_ga_check {M:Model} {nameV:Value} {Q:Unit->Shared->Prop} (X:K.In h) (F:ExcC K C) (hx:h.get? a=some o) (hc:o.cls=.ref C) (hq:Q () ⟨h,g,d,t,os⟩) :
  wpAny M A (checkBuiltinCall "BaseException.__getattribute__" ⟨[.ref a,nameV],[]⟩) Q E ⟨h,g,d,t,os⟩:=by
 have y0:=ZEM (M:=M) hx hc
 have y1:=looks_mroIn (M:=M) X F.mb
 have k1:builtinKind "BaseException.__getattribute__"=some .slot:=by decide +kernel
 have k2:splitId "BaseException.__getattribute__"=some ("BaseException","__getattribute__"):=by decide +kernel
 have k3:=PySem.F.args_bexc_ga (.ref a) nameV
 simp only [checkBuiltinCall,k1,k2]
 refine wpAny_bind ?_
 unfold isInstance
 repeat lk
 exact hq
theorem exc_class {Q:Option Value->Shared->Prop} (X:K.In h) (F:ExcC K C) (hx:h.get? a=some o) (hc:o.cls=.ref C) (hq:Q (some (.ref C)) ⟨h,g,d,t+1,os⟩) :
  wpAny (model prog w) A (getAttr? (.ref a) "__class__") Q E ⟨h,g,d,t,os⟩:=by
 have y0:=ZEM (M:=model prog w) hx hc
 have y1:=looks_findIn (M:=model prog w) X F.ga
 have y2:=looks_findIn (M:=model prog w) X F.gt
 have y3:=looks_findIn (M:=model prog w) X F.ca
 have y4:=looks_specialIn (M:=model prog w) X F.sg
 have y5:=looks_takesIn (M:=model prog w) X F.tk
 have bd:=PySem.F.attr_ValueError.ga.bind (.ref a)
 simp only [getAttr?,getAttrBy?,getAttrBy]
 refine wpAny_bind (wpAny_mkText (wpAny_bind (wpAny_attempt (wpAny_holding (wpAny_bind (y0.at (wpAny_bind (y1.at ?_))))))))
 show wpAny _ _ (getAttrByItsOwn _ _ _ _ _ _) _ _ _
 unfold getAttrByItsOwn
 refine wpAny_bind ?_
 show wpAny _ _ (typeLookup (.ref C) "__getattr__") _ _ _
 refine y2.at (wpAny_bind (wpAny_attempt (wpAny_holding ?_)))
 show wpAny _ _ (boundAndCalled _ _ _) _ _ _
 unfold boundAndCalled
 rw [bd]
 refine wpAny_bind (wpAny_pure (wpAny_call (codeAny_call_builtin PySem.F.attr_ValueError.ga.plain PySem.F.entry_bexc_ga (exc_ga_check X F hx hc ?_))))
 unfold Builtin.«object.__getattribute__»
 refine wpAny_bind (wpAny_pure (wpAny_bind (wpAny_pure (wpAny_bind (y0.at (wpAny_bind ?_))))))
 unfold find
 refine wpAny_bind (y3.at (wpAny_bind ?_))
 show wpAny _ _ (specialOf (.builtin "object.__class__") "__get__") _ _ _
 refine y4.at (wpAny_bind ?_)
 unfold dataDescriptor?
 refine wpAny_bind (y5.at ?_)
 rw [if_pos rfl]
 refine wpAny_pure (wpAny_bind (wpAny_rule (wpAny_pure ?_)))
 show wpAny _ _ (holding [_] (call (.builtin "getset_descriptor.__get__") [.builtin "object.__class__",.ref a,.ref C]) >>= ret) _ _ _
 refine wpAny_bind (wpAny_holding (wpAny_call (exc_get X F hx hc ?_)))
 exact wpAny_pure (handed_on rfl (wpAny_pure hq))
theorem kitx_exc {D:Addr} (F:ExcC K D) (hdct:hasDictIn K D=true):KitX K (.ref a) (.ref D) (fun h=>∃ o,h.get? a=some o /\ o.cls=.ref D) where
 ty:=fun _ _ _ ⟨_,h1,h2⟩=>ZEM h1 h2
 it:=fun _ _ X _=>by
  obtain ⟨cdD,hcD,_⟩:=any_some hdct
  unfold clsIn at hcD
  split at hcD
  .rename_i z
   intro A1 Q1 E1 s1 k1 q1
   simp only [isType,loadHead]
   exact wpAny_bind (wpAny_loadPart (k1 _ _ (X _ _ z)) (wpAny_pure q1))
  .cases hcD
 ne:=fun h tp dd its n sl X htp=>by
  obtain ⟨cdD,hcD,_⟩:=any_some hdct
  refine Bool.eq_false_iff.mpr fun q=>?_
  cases Value.ref.inj (beq_iff_eq.mp q)
  unfold clsIn at hcD
  split at hcD
  .rename_i z
   have y:=(X _ _ z).symm.trans htp
   cases y
  .cases hcD
 ca:=fun {_ _ _ _ _ s} X ⟨_,h1,h2⟩ k=>by
  obtain ⟨hh,g,d,t,os⟩:=s
  exact exc_class X F h1 h2 k
end
noncomputable def excO (a:Addr) (cls:Value) (dd:Option Addr):HO:=.ext fun h=>∃ o,h.get? a=some o /\ o.cls=cls /\ o.dict=dd /\ ∃ vs,o.data=.fields vs
section
variable {X:Cx}
theorem call_isExc:ZCX X (.builtin "isinstance") (fun xs H Q=>∃ a C c b dd,xs=[.ref a,c] /\ ZE6 c=true /\ H a=some (excO a (.ref C) dd) /\ ExcC X.K C /\ PySem.W.hasDictIn X.K C=true /\ PySem.W.kitOne X.K (.ref C) (cval c)=some b /\ Q (.bl b) H):=by
 intro pins s σ H xs us Q I r h
 obtain ⟨a,C,c,b,dd,rfl,hc,ha,F,hd,e,q⟩:=h
 obtain ⟨u,w',rfl,r1,r2⟩:=ZEX r
 have e2:w'=cval c:=by
  cases c <;> first | (cases hc;done) | exact r2
 subst e2
 cases (show u=Value.ref a from r1)
 obtain ⟨⟨o,z1,z2,_⟩,_,_⟩:=(show ObjOk X.prog X.w H s.heap a (excO a (.ref C) dd) from I.hok a _ ha)
 have z:∃ o,s.heap.get? a=some o /\ o.cls=.ref C:=⟨o,z1,z2⟩
 exact kia_one (kitx_exc F hd) I.kIn z e (fun z=>nomatch z) fun tk=>⟨.bl b,H,I.tok tk,rfl,q⟩
end
open PySem PySem.Spec PySem.W PySem.Calls PyProof.Rows
theorem boot_ValueError:bootBuiltins "ValueError"=some (.type "ValueError"):=by decide +kernel
theorem ZAm {X:Cx} (K:W.Frag) (h:X.K=K:=by rfl):ZCX X (.builtin "isinstance") (fun xs H Q=>∃ a C c b dd,xs=[.ref a,c] /\ ZE6 c=true /\ H a=some (excO a (.ref C) dd) /\ ExcC K C /\ PySem.W.hasDictIn K C=true /\ PySem.W.kitOne K (.ref C) (cval c)=some b /\ Q (.bl b) H):=h ▸ call_isExc
section
variable {X:Cx}
end
abbrev bmV:List Value:=[.type "ValueError",.type "Exception",.type "BaseException",.type "object"]
theorem exc_obj {K:W.Frag} {h:Heap} {C:Addr} {bmB:List Value} {newId:String} (X:K.In h) (q:excIn K C bmB newId=true):∃ bm N nm qn bs hdct sn sub ab col dd k0 k1 k2 k3 k5 mN,
  h.get? C=some (excClassObj nm qn C N bs bm hdct sn sub ab col dd k0 k1 k2 k3 k5 newId) /\ h.Ns N mN /\ mN "__init__"=none /\ OwnTail h bmB bm:=by
 unfold excIn at q
 split at q
 next dd cd sl ho=>
  split at q
  next C1 bm k0 k1 k2 k3 n1 k5 hm hs=>
   simp only [yBJ,beq_iff_eq,Bool.not_eq_true'] at q
   obtain ⟨⟨⟨⟨⟨y1,y2⟩,y3⟩,y4⟩,y5⟩,y6⟩:=q
   subst y1 y2
   obtain ⟨nm,bs,mro,ns,qn,hd,sn,sub,ab,col,del⟩:=cd
   dsimp only at hm y3 y5 y6
   subst hm y3
   have z:sl=#[k0,k1,k2,k3,some (.builtin n1),k5]:=by
    cases sl
    simp only at hs
    rw [hs]
   subst z
   exact ⟨bm,ns,nm,qn,bs,hd,sn,sub,ab,col,dd,k0,k1,k2,k3,k5,_,X _ _ ho,.of_isNs (isNs_of_in X y5),nsMap_none_of_in X y5 y6,tail_of_in X y4⟩
  next=>cases q
 next=>cases q
noncomputable def ZEa (E:XK) (C:Addr):TS:=fun _ _ H=>E (.ref C) none H
section
variable {P:Program} {w:World} {K:W.Frag} {mg:Str->Option Value} {base:Heap} {N:List Str} {qual:Str} {scope:Scope} {f:Addr} {cd:Value} {A:Around} {outer:List Env} {s:Shared} {H:Hp} {E:XK}
theorem ps_raise0 {x:Str} {C:Addr} {np cpos pos:Pos} (hq:excIn K C bmV "ValueError.__new__"=true) (hm:mg x=some (.ref C)) (hg:Gl (cxOf (CXE P w) P w K mg base N qual scope f cd A outer s H E) x) (hdb:(x == ("__debug__":Str))=false:=by decide) :
  PS (cxOf (CXE P w) P w K mg base N qual scope f cd A outer s H E) (.Raise (some (.Call (.Name x np) [] [] cpos)) none pos) (ZEa E C):=by
 intro pins s1 σ H1 D I hE
 obtain ⟨bm,N',nm,qn,bs,hdct,sn,sub,ab,col,dd,k0,k1,k2,k3,k5,mN,hC,hN,hni,T⟩:=exc_obj I.kIn hq
 refine wpAny_Raise_call_subU (C:=C) (N:=N') (nm:=nm) (q:=qn) (bs:=bs) (bm:=bm) (hdct:=hdct) (sn:=sn) (sub:=sub) (ab:=ab) (col:=col) (dd:=dd) (k0:=k0) (k1:=k1) (k2:=k2) (k3:=k3) (k5:=k5) (mN:=mN)
  PySem.F.excBase_ValueError PySem.F.excBase_ValueError.hasB PySem.F.excBase_ValueError (T.hasType PySem.F.excBase_ValueError.hasBase) (I.ok.hd rfl) rfl hni (ZB1 I hg hm ⟨rfl,?_⟩ hdb)
 exact evalArgs_empty ⟨rfl,yAG _,hC,hN,T,fun h' e hx=>raisedX I hx hE⟩
theorem Fun.okX {x:Str} {st:Stmt} {fd:FuncData} {ps:List Str} {k:Nat} {sp:Sp} (F:Fun K x qual st f fd) (S:FnScope N ps (ZAB st)) (len:∀ vs H Q E,sp vs H Q E->vs.length=ps.length)
  (hbody:∀ (cdv:Value) (A:Around) (outer:List Env) (s:Shared) (H:Hp) (vs:List V) (Q:VK) (E:XK),Room k (A.deeper (envOfC qual (ZAB st) s.heap.objs.size f cdv))->sp vs H Q E ->
   ∃ t,PSs (cxOf (CXE P w) P w K mg base N qual (ZAB st) f cdv A outer s H E) (ZAL st) t /\ t { nx:=fun _ H'=>Q .non H',rt:=Q } (start N vs) H):FnOk P w K mg base (CXE P w) (k+1) f fd ps sp:=by
 obtain ⟨oc,od,kV,doc,pm,an,cdv,ct,osl,rfl,lk,hcd⟩:=F.ex
 exact ZFR lk hcd S len fun A outer s H vs Q E hr hsp=>hbody cdv A outer s H vs Q E hr hsp
end
theorem PS.nox {X:Cx} {st:Stmt} {t:TS} (h:PS X.nox st t):PS X st t:=fun pins s σ H D I hw=>
 wpAny_mono (h pins s σ H D (I.wish _) hw) (fun _ _ q=>q.unwish) fun _ _ z=>False.elim z
noncomputable def PassesS (CX:CXT) (X:Cx) (E:St->XK):Prop:=∀ (pins:List (Addr×Obj)) (σ:St) (H:Hp) (s:Shared) (e:Value) (s':Shared),Inv X pins σ H s->CX X.stack H s (E σ) e s'->X.xe e s'
noncomputable def ZEe (sp:Sp) (dvs:List V) (E:St->XK) (t:TA):TE:=fun σ H Q=>t σ H fun vs H1=>sp (vs++dvs) H1 Q (E σ)
section
variable {X:Cx} {CX:CXT} {k:Nat} {f:Addr} {fd:FuncData} {ps:List Str} {sp:Sp} {dvs:List V} {ds:List Value} {E:St->XK} {x:Str} {p pos:Pos} {e:Expr} {es:List Expr} {t:TA}
theorem run_fnS {pins:List (Addr×Obj)} {σ:St} {H:Hp} {s:Shared} {Q:VK} {E:XK} {us:List Value} {vs:List V} (F:FnOk X.prog X.w X.K X.mg X.base CX k f fd ps sp) (hr:Room k X.A) (hb:Binds X.K fd ps ds) (hd:Vals dvs ds) (hx:∀ e s',CX X.stack H s E e s'->X.xe e s')
  (I:Inv X pins σ H s) (r:Vals vs us) (h:sp (vs++dvs) H Q E):wpAny (model X.prog X.w) X.A (call (.ref f) us) (EP X pins σ Q) X.xe s:=by
 have r2:Vals (vs++dvs) (us++ds):=r.append hd
 have hl:(us++ds).length=ps.length:=by rw [<- r2.length];exact F.len _ _ _ _ h
 refine wpAny_call (codeAny_mono (F.run X.A X.stack s H ⟨us,[]⟩ (us++ds) (vs++dvs) Q E hr I.env0 (hb s us I.kIn hl) r2 h) fun r s' hq=>?_)
 cases r with
 | error e=>exact hx e s' hq
 | ok fl=>
  cases fl with
  | ret u=>exact I.after hq
  | next=>exact False.elim hq
  | brk=>exact False.elim hq
  | cont=>exact False.elim hq
theorem pe_fnS (F:Fn X.prog X.w X.K X.mg X.base CX x k ps sp) (hr:Room k X.A) (hg:Gl X x) (hx:PassesS CX X E)
  (ha:PA X (e::es) t) (hdb:(x == ("__debug__":Str))=false:=by decide) (he:starEach (e::es) X.env=(false,eval e X.env)::starEach es X.env:=by rfl) (hpl:(backTo pos (starEach es X.env)).any (·.1)=false:=by rfl) :
  PE X (.Call (.Name x p) (e::es) [] pos) (ZEe sp [] E t):=by
 obtain ⟨f,fd,h1,h2,h3,h4⟩:=F.ex
 intro pins s σ H Q I h
 refine wpAny_Call_Name_kw (ZB1 I hg h4 ?_ hdb)
 refine PySem.W.callWith_K (h₀:=X.base) I.ok.mod.kin h3 (thn (ha pos pins s σ H _ I h) fun us s1 ⟨vs,H1,I1,r,q⟩=>⟨I1.kIn,?_⟩) he hpl
 exact run_fnS h1 hr h2 .nil (fun e s' z=>hx pins σ H1 s1 e s' I1 z) I1 r q
end
noncomputable abbrev Cx.tries (X:Cx) (pn:List (Addr×Obj)) (xe:Value->Shared->Prop):Cx:={ X with pn:=pn,xe:=xe }
noncomputable abbrev Cx.handles (X:Cx) (e:Addr):Cx:={ X with A:=X.A.mark (some (.ref e)),calm:=false,xe:=fun _ _=>False }
section
variable {X:Cx} {pins pins':List (Addr×Obj)} {σ:St} {H:Hp} {s:Shared} {xe:Value->Shared->Prop} {e:Addr}
theorem Inv.toTry (I:Inv X pins σ H s):Inv (X.tries (X.pn++pins) xe) [] σ H s :=
 ⟨⟨I.ok.mod,I.ok.kind,I.ok.glob,I.ok.blt,I.ok.above,I.ok.inj,I.ok.has,I.ok.cab,I.ok.hd,I.ok.frames,I.ok.stk,I.ok.exf,I.ok.bs,I.ok.bsz,I.ok.noex,I.ok.exfs,I.ok.funs,I.ok.frf⟩,I.os,I.bare,I.base,I.loc,I.cell,I.free,I.freeC,fun p hp=>I.pin p (by simpa using hp),I.hok,I.len⟩
theorem Inv.ofTry (I:Inv (X.tries (X.pn++pins) xe) pins' σ H s):Inv X pins σ H s :=
 ⟨⟨I.ok.mod,I.ok.kind,I.ok.glob,I.ok.blt,I.ok.above,I.ok.inj,I.ok.has,I.ok.cab,I.ok.hd,I.ok.frames,I.ok.stk,I.ok.exf,I.ok.bs,I.ok.bsz,I.ok.noex,I.ok.exfs,I.ok.funs,I.ok.frf⟩,I.os,I.bare,I.base,I.loc,I.cell,I.free,I.freeC,fun p hp=>I.pin p (yBU _ hp),I.hok,I.len⟩
theorem Inv.toH (I:Inv X pins σ H s) (e:Addr):Inv (X.handles e) pins σ H s :=
 ⟨⟨I.ok.mod,I.ok.kind,I.ok.glob,I.ok.blt,I.ok.above,I.ok.inj,I.ok.has,I.ok.cab,(fun z=>nomatch z),I.ok.frames,I.ok.stk,I.ok.exf,I.ok.bs,I.ok.bsz,I.ok.noex,I.ok.exfs,I.ok.funs,I.ok.frf⟩,I.os,I.bare,I.base,I.loc,I.cell,I.free,I.freeC,I.pin,I.hok,I.len⟩
theorem Inv.ofH (I:Inv (X.handles e) pins σ H s) (ok:X.Ok):Inv X pins σ H s:=⟨ok,I.os,I.bare,I.base,I.loc,I.cell,I.free,I.freeC,I.pin,I.hok,I.len⟩
theorem SP.ofTry {D:Ends} {f:Flow} (h:SP (X.tries (X.pn++pins) xe) pins' D f s):SP X pins D f s:=by
 cases f with
 | next=>obtain ⟨σ',H',I,q⟩:=h;exact ⟨σ',H',I.ofTry,q⟩
 | brk=>obtain ⟨σ',H',I,q⟩:=h;exact ⟨σ',H',I.ofTry,q⟩
 | cont=>obtain ⟨σ',H',I,q⟩:=h;exact ⟨σ',H',I.ofTry,q⟩
 | ret u=>obtain ⟨v,σ',H',I,r,q⟩:=h;exact ⟨v,σ',H',I.ofTry,r,q⟩
theorem Inv.track {o:HO} (I:Inv X pins σ H s) (h0:X.s₀.heap.get? e=none) (hL:e≠X.env.locals) (hC:∀ x c,X.env.cells.lookup x=some c->c≠e) (hp:∀ p∈X.pn++pins,p.1≠e) (hn:H e=none) (new:ObjOk X.prog X.w (upd H e o) s.heap e o):Inv X pins σ (upd H e o) s:=by
 have k:∀ b u,H b=some u->upd H e o b=some u:=fun b u q=>by rw [ZAG (ZAC q hn)];exact q
 refine ⟨I.ok,I.os,I.bare,⟨I.base.keep,I.base.slot,fun b ob q n hx=>?_,I.base.there,fun b xs q=>k _ _ (I.base.tups b xs q),fun b ob u q=>k _ _ (I.base.frzs b ob u q),fun b ps q=>?_⟩,I.loc,I.cell,?_,fun x c q=>?_,fun p hp'=>?_,fun b u q=>?_,I.len⟩
 .rw [ZAG (fun z=>by rw [z,h0] at q;cases q)]
  exact I.base.free b ob q n hx
 .obtain ⟨m,hm⟩:=I.base.tbls b ps q
  exact ⟨m,k _ _ hm⟩
 .rw [ZAG (Ne.symm hL)];exact I.free
 .rw [ZAG (hC x c q)];exact I.freeC x c q
 .obtain ⟨q1,q2,q3,q4,q5⟩:=I.pin p hp'
  exact ⟨q1,by rw [ZAG (hp p hp')];exact q2,q3,q4,q5⟩
 .by_cases z:b=e
  .subst z
   rw [ZAF] at q
   cases q
   exact new
  .rw [ZAG z] at q
   exact (I.hok b u q).stay (fun _ _ _ y=>y) (fun c y=>k _ _ y) fun c xs y=>k _ _ y
theorem Inv.gone {i t':Nat} {x:Str} {m:Str->Option Value} {v:Option Value} {h':Heap} (I:Inv X pins σ H s) (hN:X.N.Nodup) (hi:X.N[i]?=some x) (hn:s.heap.Ns X.env.locals m) (hn':h'.Ns X.env.locals (fun y=>if y=x then v else m y)) (hs:Heap.SameBut X.env.locals s.heap h') :
  Inv X pins (σ.set i none) H { s with heap:=h',toks:=t' }:=by
 obtain ⟨m0,hn0,hl⟩:=I.loc
 obtain ⟨oL,_,_,hoL,_⟩:=id hn
 have hm:m0=m:=by
  obtain ⟨o1,es1,ep1,ho1,hd1,_,hf1⟩:=hn0
  obtain ⟨o2,es2,ep2,ho2,hd2,_,hf2⟩:=hn
  rw [ho1] at ho2
  cases ho2
  rw [hd1] at hd2
  cases hd2
  funext y
  rw [<- hf1 y,<- hf2 y]
 subst hm
 have nL:∀ b ob,X.s₀.heap.get? b=some ob->b≠X.env.locals:=fun b ob q=>yAI (yAO (Heap.lt_size q) I.ok.above)
 refine ⟨I.ok,I.os,I.bare,⟨fun b o q n hb hx=>(hs.2 b (nL b o q)).trans (I.base.keep b o q n hb hx),fun b o q n hb hx=>?_,I.base.free,fun b o q hx=>?_,I.base.tups,I.base.frzs,I.base.tbls⟩,⟨_,hn',fun j y v' q1 q2 q3=>?_⟩,fun y c q=>?_,I.free,I.freeC,fun p hp=>?_,fun b u q=>?_,by simpa using I.len⟩
 .obtain ⟨sl,q1⟩:=I.base.slot b o q n hb hx
  exact ⟨sl,(hs.2 b (nL b o q)).trans q1⟩
 .obtain ⟨o',q1⟩:=I.base.there b o q hx
  exact ⟨o',(hs.2 b (nL b o q)).trans q1⟩
 .by_cases hj:j=i
  .subst hj
   by_cases hlen:j < σ.length
   .rw [List.getElem?_set_self hlen] at q2;cases q2
   .rw [yBG (by rw [List.length_set];omega)] at q2;cases q2
  .rw [List.getElem?_set_ne (Ne.symm hj)] at q2
   obtain ⟨u',r',q⟩:=hl j y v' q1 q2 q3
   refine ⟨u',r',?_⟩
   rcases q with ⟨k,q⟩ | ⟨k,c,q,z⟩
   .have:y≠x:=fun z=>hj (ZDV hN q1 (z ▸ hi))
    exact .inl ⟨k,by simp [this,q]⟩
   .exact .inr ⟨k,c,q,z.sameBut hs (I.cne y c q)⟩
 .obtain ⟨w',z⟩:=I.cell y c q
  exact ⟨w',z.sameBut hs (I.cne y c q)⟩
 .obtain ⟨q,n,ne,nf,d⟩:=I.pin p hp
  exact ⟨(hs.2 p.1 ne).trans q,n,ne,nf,d⟩
 .refine (I.hok b u q).stay (fun c w' hc z=>(hs.2 c ?_).trans z) (fun _ z=>z) fun _ _ z=>z
  rintro rfl
  rcases hc with y | y
  .rw [<- y,I.free] at q;cases q
  .rw [I.free] at y;cases y
end
noncomputable def Ehit (K:W.Frag) (HC:Addr) (i:Nat) (ts:TS) (D:Ends):St->XK:=fun σ cls dd H'=>exmOne K cls (.ref HC)=some true /\ ∀ ea,H' ea=none ->
 ts { nx:=fun σ' H''=>D.nx (σ'.set i none) H'',rt:=D.rt,bk:=fun σ' H''=>D.bk (σ'.set i none) H'',ct:=fun σ' H''=>D.ct (σ'.set i none) H'' } (σ.set i (some (.ref ea))) (upd H' ea (excO ea cls dd))
noncomputable def tTry (K:W.Frag) (HC:Addr) (i:Nat) (tb:(St->XK)->TS) (ts:TS):TS:=fun D σ H=>tb (Ehit K HC i ts D) D σ H
theorem ps_try {X:Cx} {body suite:List Stmt} {b₀:Stmt} {x n:Str} {i:Nat} {HC:Addr} {np hpos pos:Pos} {tb:(St->XK)->TS} {ts:TS} (hstk:X.stack=X.env::X.outer /\ X.env.frame=some X.env.locals) (hex:X.ex=[]) (hg:Gl X x) (hm:X.mg x=some (.ref HC))
  (hN:X.N.Nodup) (hi:X.N[i]?=some n) (hl:X.env.scope.names.lookup n=some .local)
  (hb:∀ (pn:List (Addr×Obj)) (xe:Value->Shared->Prop) (E:St->XK),PassesS (CXE X.prog X.w) (X.tries pn xe) E->PSs (X.tries pn xe) body (tb E)) (hs:∀ e,PSs (X.handles e) (b₀::suite) ts) (hdb:(x == ("__debug__":Str))=false:=by decide) :
  PS X (.Try body [.ExceptHandler (some (.Name x np)) (some n) (b₀::suite) hpos] [] [] pos) (tTry X.K HC i tb ts):=by
 intro pins s σ H D I hw
 refine wpAny_Try_except ?_
 refine wpAny_mono (hb (X.pn++pins) _ (Ehit X.K HC i ts D) ?_ [] s σ H D I.toTry hw) (fun f s1 q=>?_) fun e s1 q=>q
 .intro pins' σ1 H1 s1 e s2 I1 hc
  obtain ⟨ea,cls,dd,H',rfl,os,bare,un,hok,⟨B,a0,fl,hout,hnew,hB⟩,hmt,hE⟩:=hc
  have J:Inv X pins σ1 H1 s1:=I1.ofTry
  obtain ⟨e1,e2⟩:=hstk
  have un:Un (frs X.stack) [] H1 H' s1.heap s2.heap:=un
  have fr:=J.stkFree2 un
  have af:X.A.frames=some (X.env::X.outer):=by rw [<- e1];exact J.ok.frames
  have fl:Heap.FlyingD B (X.env::X.outer) ea cls (a0,dd) s2.heap:=by rw [<- e1];exact fl
  have ff:s2.heap.FunFrames B X.stack:=by rw [e1];exact fl.2.2.1
  have nx:∀ h5,Heap.FlyingD B (X.env::X.outer) ea cls (a0,dd) h5->s2.heap.UpToSlots h5->Inv X pins σ1 H' { s2 with heap:=h5 }:=fun h5 f5 u5=>J.call' os (un.fly hB f5.1 u5 ff) (hok.fly hB f5.1 fr) bare fun b z=>nomatch z
  refine ZBS af e2 fl fun h3 held up3=>?_
  refine wpAny_landsD held fun h4 fl4 up4=>?_
  have I4:=nx h4 fl4 (up3.trans up4)
  obtain ⟨ob,hob,hcl⟩:=fl4.there
  refine wpAny_handleBy_cons (codeAny_handlers_test ?_) (by intro q;cases q)
  refine ZB1 (X:=X.handles ea) (I4.toH ea) hg hm ?_ hdb
  refine (exm_one I4.kIn (hcl ▸ (Looks.ld hob).andThen .now) hmt).here ?_
  refine codeAny_handlers_suite_as ?_
  refine PySem.LANDS2_ fl4 fun h6 fl6 up6=>?_
  have I6:=nx h6 fl6 ((up3.trans up4).trans up6)
  obtain ⟨ob6,hob6,hcl6,hdd6⟩:=fl6.thereD
  refine store_ok2 I6 hN hi (.inl hl) (show RelV (.ref ea) (.ref ea) from rfl) (fun s7 I7 hsb=>?_) (.inr hl)
  have nL:ea≠X.env.locals:=fun z=>by
   obtain ⟨m,⟨o,_,_,ho,_⟩,_⟩:=J.loc
   rw [<- z,hnew] at ho;cases ho
  have nC:∀ x c,X.env.cells.lookup x=some c->c≠ea:=fun x c q z=>by
   obtain ⟨v,o,ho,_⟩:=J.cell x c q
   rw [z,hnew] at ho;cases ho
  have hob7:s7.heap.get? ea=some ob6:=by
   obtain ⟨a,sb,z⟩:=hsb
   refine (sb.2 ea ?_).trans hob6
   rcases z with z | z
   .rw [z];exact nL
   .exact Ne.symm (nC _ _ z)
  have I8:=(I7.track (e:=ea) (o:=excO ea cls dd) (by
   cases q:X.s₀.heap.get? ea with
   | none=>rfl
   | some o=>
    obtain ⟨o1,z⟩:=J.base.there ea o q (by rw [hex];exact yBL)
    rw [hnew] at z;cases z) nL nC (fun p hp z=>by
   have:=(J.pin p hp).1
   rw [z,hnew] at this;cases this) hout ⟨⟨ob6,hob7,hcl6,hdd6⟩,⟨ob6,hob7⟩,fun g1 g2 ⟨o,z1,z2⟩ k=>⟨o,k o z1,z2⟩⟩).toH ea
  refine wpAny_mono (hs ea pins s7 _ _ _ I8 (hE ea hout)) (fun f s8 q8=>?_) fun _ _ z=>z.elim
  have kd:(X.env.scope.kind == .class || (X.env.scope.kind == .module && X.env.locals != X.env.globals))=false:=by rw [J.ok.kind];rfl
  cases f with
  | next=>
   obtain ⟨σ',H'',I',q⟩:=q8
   have I':=I'.ofH J.ok
   obtain ⟨m,hn,_⟩:=I'.loc
   exact wpAny_nameGoes_keeps hl hn kd fun h9 v hn9 sb9=>⟨_,_,I'.gone hN hi hn hn9 sb9,q⟩
  | brk=>
   obtain ⟨σ',H'',I',q⟩:=q8
   have I':=I'.ofH J.ok
   obtain ⟨m,hn,_⟩:=I'.loc
   exact wpAny_nameGoes_keeps hl hn kd fun h9 v hn9 sb9=>⟨_,_,I'.gone hN hi hn hn9 sb9,q⟩
  | cont=>
   obtain ⟨σ',H'',I',q⟩:=q8
   have I':=I'.ofH J.ok
   obtain ⟨m,hn,_⟩:=I'.loc
   exact wpAny_nameGoes_keeps hl hn kd fun h9 v hn9 sb9=>⟨_,_,I'.gone hN hi hn hn9 sb9,q⟩
  | ret u=>
   obtain ⟨v',σ',H'',I',r,q⟩:=q8
   have I':=I'.ofH J.ok
   obtain ⟨m,hn,_⟩:=I'.loc
   exact wpAny_nameGoes_keeps hl hn kd fun h9 v hn9 sb9=>⟨_,_,_,I'.gone hN hi hn hn9 sb9,r,q⟩
 .have q':SP X pins D f s1:=q.ofTry
  cases f with
  | next=>exact wpAny_execs_nil q'
  | brk=>exact q'
  | cont=>exact q'
  | ret u=>exact q'
open PySem PySem.Spec PySem.W PySem.Calls PyProof.Rows Builtin.Getset_descriptor Builtin.ObjectAttr
section
variable {prog:Program} {w:World} {A:Around} {E:Value->Shared->Prop} {K:W.Frag} {a C:Addr} {o:Obj} {h:Heap} {g:Array GenState} {d:Drawn} {t:Nat} {os:OsState}
theorem exc_value {name:Str} {v:Value} {od:Option Obj} {expr:Bool} {Q:Value->Shared->Prop} (X:K.In h) (F:ExcC K C) (I:PySem.W.InstAt h a o C od) (hf:findObj K C od name=some (.value v)) (hv:handedIn v=true) (hq:Q v ⟨h,g,d,t+1,os⟩) :
  wpAny (model prog w) A (getAttr (.ref a) name expr) Q E ⟨h,g,d,t,os⟩:=by
 have y0:=I.type (M:=model prog w)
 have y1:=looks_findIn (M:=model prog w) X F.ga
 have y2:=looks_findIn (M:=model prog w) X F.gt
 have y3:=looks_find (M:=model prog w) X I hf
 have bd:=PySem.F.attr_ValueError.ga.bind (.ref a)
 have hx0:(expr && onTheHeap (Value.builtin "BaseException.__getattribute__"))=false:=by cases expr <;> rfl
 simp only [getAttr,getAttrBy]
 refine wpAny_bind (wpAny_mkText (wpAny_holding (wpAny_bind (y0.at (wpAny_bind (y1.at ?_))))))
 show wpAny _ _ (getAttrByItsOwn _ _ _ _ _ _) _ _ _
 unfold getAttrByItsOwn
 refine wpAny_bind ?_
 show wpAny _ _ (typeLookup (.ref C) "__getattr__") _ _ _
 refine y2.at (wpAny_bind (wpAny_attempt (wpAny_holding ?_)))
 unfold callGetattribute
 rw [hx0]
 show wpAny _ _ (boundAndCalled _ _ _) _ _ _
 unfold boundAndCalled
 rw [bd]
 refine wpAny_bind (wpAny_pure (wpAny_call (codeAny_call_builtin PySem.F.attr_ValueError.ga.plain PySem.F.entry_bexc_ga (exc_ga_check X F I.at_ I.cls ?_))))
 unfold Builtin.«object.__getattribute__»
 refine wpAny_bind (wpAny_pure (wpAny_bind (wpAny_pure (wpAny_bind (y0.at (wpAny_bind (y3.at ?_)))))))
 refine wpAny_pure ?_
 show wpAny _ _ (handedOut v) _ _ _
 rw [handedOut_of hv]
 exact wpAny_pure hq
end
open PySem PySem.Spec PySem.W PySem.Calls PyProof.Rows
section
variable {prog:Program} {w:World} {A:Around} {E:Value->Shared->Prop} {h:Heap} {g:Array GenState} {d:Drawn} {t:Nat} {os:OsState}
variable {nm q:Str} {C N:Addr} {bs bm bmB:List Value} {hdct:Bool} {sn:List Str} {sub:List Value} {ab:Bool} {col:Option Bool} {dd:Option Addr} {k0 k1 k2 k3 k5:Option Value} {B Bn newId nid initId inN:String} {bmN:List Value}
theorem type_call_initU (Fn:ExcBaseFacts Bn newId inN bmN) (hBn:bmB.contains (.type Bn)=true) (F:ExcBaseFacts B nid initId bmB) (T:OwnTail h bmB bm) {mN:Str->Option Value} {rest:List Value} {fI:Addr} {oI:Obj} {Q:Fin->Shared->Prop}
  (hC:h.get? C=some (excClassObj nm q C N bs bm hdct sn sub ab col dd k0 k1 k2 k3 k5 newId)) (hn:h.Ns N mN) (hi:mN "__init__"=some (.ref fI)) (hfI:h.get? fI=some oI) (hfc:oI.cls=.type "function")
  (hq:∀ h' e,Heap.MadeExcOf h h' e (.ref C) rest->e=h.objs.size+1->wpAny (model prog w) A (call (.ref fI) (.ref e::rest)) (fun r s'=>r=.none /\ Q (.done (.ret (.ref e))) s') E ⟨h',g,d,t,os⟩) (hrest:rest.length <= sizeLine:=by size_fits) :
  wpAny (model prog w) A (Builtin.«type.__call__» ⟨.ref C::rest,[]⟩) Q E ⟨h,g,d,t,os⟩:=by
 repeat (first | with_reducible refine wpAny_loadPart_at hC ?_ | with_reducible refine wpAny_madeBy_exc hC ?_ | wp_step)
 refine codeAny_call_builtin_code (Code.quiet_builtin _ Fn.quiet) (wpAny_check_new_subU Fn hBn T hC ?_)
 refine codeAny_exc_new_subU Fn hBn F T hC ?_ hrest
 show wpAny _ _ _ _ _ _
 have kp:∀ b o,h.get? b=some o->((h.push { cls:=.type "tuple",data:=.seq rest.toArray }).push { cls:=.ref C,data:=.fields #[.ref h.objs.size,.none,.none,.none,.bool false,.none] }).get? b=some o:=fun b o e=>Heap.get?_push_of_some _ (Heap.get?_push_of_some _ e)
 have hC₁:=kp _ _ hC
 have hfI₁:=kp _ _ hfI
 have hn₁:=hn.keeps kp
 have hget:((h.push { cls:=.type "tuple",data:=.seq rest.toArray }).push
   { cls:=.ref C,data:=.fields #[.ref h.objs.size,.none,.none,.none,.bool false,.none] }).get? (h.objs.size+1)=some
   { cls:=.ref C,data:=.fields #[.ref h.objs.size,.none,.none,.none,.bool false,.none] }:=by heap_get
 have hcC:(Value.ref C::bm).contains (.ref C)=true:=by simp
 have T₁:=T.keeps kp
 unfold isInstance
 repeat (first | with_reducible refine wpAny_loadPart_at hget ?_ | (with_reducible refine wpAny_isSubtype_exc hC₁ ?_;rw [hcC]) | wp_step)
 show wpAny _ _ (typeLookup (.ref C) _) _ _ _
 refine wpAny_typeLookup_tail hC₁ hn₁ T₁ F.mroIs F.init.lookup ?_
 rw [hi]
 refine wpAny_holding (wpAny_bind ?_)
 unfold bindSpecial
 refine wpAny_bind (wpAny_typeOf (T:="function") ⟨_,hfI₁,hfc⟩ ?_)
 rw [if_pos (by decide)]
 refine wpAny_pure (wpAny_bind (wpAny_mono (hq _ (h.objs.size+1) ⟨kp,Heap.get?_none_of_le (yAP _),h.objs.size,hget,Heap.get?_none_of_le (yAA _),?_⟩ rfl) (fun r s' hr=>?_) fun _ _ x=>x))
 .exact Heap.get?_push_of_some _ (Heap.get?_push_at rfl rfl)
 .obtain ⟨rfl,hQ⟩:=hr
  wp_walk
  exact hQ
theorem call_exc_initU (Fn:ExcBaseFacts Bn newId inN bmN) (hBn:bmB.contains (.type Bn)=true) (F:ExcBaseFacts B nid initId bmB) (T:OwnTail h bmB bm) {mN:Str->Option Value} {rest:List Value} {fI:Addr} {oI:Obj} {Q:Value->Shared->Prop}
  (hC:h.get? C=some (excClassObj nm q C N bs bm hdct sn sub ab col dd k0 k1 k2 k3 k5 newId)) (hn:h.Ns N mN) (hi:mN "__init__"=some (.ref fI)) (hfI:h.get? fI=some oI) (hfc:oI.cls=.type "function")
  (hq:∀ h' e,Heap.MadeExcOf h h' e (.ref C) rest->e=h.objs.size+1->wpAny (model prog w) (A.under (.builtin "type.__call__" ⟨.ref C::rest,[]⟩)) (call (.ref fI) (.ref e::rest)) (fun r s'=>r=.none /\ Q (.ref e) s') E ⟨h',g,d,t,os⟩) (hrest:rest.length <= sizeLine:=by size_fits) :
  wpAny (model prog w) A (call (.ref C) rest) Q E ⟨h,g,d,t,os⟩:=by
 have f1:=tc_lookup
 have f2:=tc_bind (.ref C)
 have hT:(⟨h,g,d,t,os⟩:Shared).TypeIs (.ref C) "type":=⟨_,hC,rfl⟩
 refine wpAny_call (codeAny_of_tree ?_)
 show wpAny _ _ (callAny (.ref C) _) _ _ _
 repeat (any_goals (first | assumption | with_reducible refine wpAny_loadPart_at hC ?_ | wp_step))
 refine ⟨rfl,?_⟩
 refine codeAny_call_builtin_at (Code.quiet_builtin _ (by decide +kernel)) entry_typeCall (wpAny_check_type_call_sub hC (type_call_initU (hrest:=hrest) Fn hBn F T hC hn hi hfI hfc fun h' e hm he=>?_))
 exact hq h' e hm he
end
section
variable {M:Model} {A:Around} {E:Value->Shared->Prop} {env:Env}
variable {nm q:Str} {C N:Addr} {bs bm:List Value} {hdct:Bool} {sn:List Str} {sub:List Value} {ab:Bool} {col:Option Bool} {dd:Option Addr} {k0 k1 k2 k3 k5:Option Value} {newId:String}
theorem raiseStmt_madeD {s:Shared} {x:Sem Value} {Q:Flow->Shared->Prop} (hbase:bm.contains (.type "BaseException")=true) (hh:A.handled=none)
  (h:wpAny M A x (fun v s₁=>∃ e oe vs,v=.ref e /\ s₁.heap.get? C=some (excClassObj nm q C N bs bm hdct sn sub ab col dd k0 k1 k2 k3 k5 newId) /\
   s₁.heap.get? e=some oe /\ oe.cls=.ref C /\ oe.data=.fields vs /\ vs[1]?=some .none /\ E (.ref e) s₁) E s) :
  wpAny M A (raiseStmt env (some x) none) Q E s:=by
 have hcB:(Value.ref C::bm).contains (.type "BaseException")=true:=by rw [List.contains_cons,hbase,Bool.or_true]
 unfold raiseStmt
 refine wpAny_bind (wpAny_mono h (fun v s₁ h₁=>?_) fun _ _ x=>x)
 obtain ⟨e,oe,vs,rfl,hC,he,hc,hd,h1,hE⟩:=h₁
 obtain ⟨oc,od,odt,osl⟩:=oe
 dsimp only at hc hd
 subst hc hd
 obtain ⟨hp,g,d,tk,os⟩:=s₁
 repeat (first | with_reducible refine wpAny_loadPart_at he ?_ | with_reducible refine wpAny_loadPart_at hC ?_ | (with_reducible refine wpAny_isSubtype_exc hC ?_;rw [hcB]) | wp_step)
 rw [h1]
 exact wpAny_pure (by rw [if_neg (by decide)];exact wpAny_pure (wpAny_raiseNew_none hh hE))
end
noncomputable def ZCo (K:W.Frag) (C fI:Addr) (bmB:List Value) (newId:String):Bool:=match K.lookup C with
 | none=>false
 | some o=>match o.data with
  | .cls cd=>o.cls == .type "type" && cd.mro.head? == some (.ref C) && o.slots.size == 6 && o.slots[4]? == some (some (.builtin newId)) && !cd.hasDel && tailIn K bmB cd.mro.tail && nsOkIn K cd.ns && nsIn K cd.ns "__init__" == some (some (.ref fI))
  | _=>false
theorem ns_some_of {K:W.Frag} {h:Heap} {N:Addr} {mg:Str->Option Value} {n:Str} {v:Value} (X:K.In h) (G:h.Ns N mg) (e:W.nsIn K N n=some (some v)):mg n=some v:=by
 obtain ⟨o,es,ep,ho,hd,_,hf⟩:=G
 unfold nsIn at e
 split at e
 .rename_i hl
  rw [X _ _ hl] at ho
  cases ho
  cases hd
  split at e
  .rename_i y he
   rw [<- hf]
   unfold nsFind findBy
   rw [<- Array.find?_toList,he]
   exact (Option.some.inj e)
  .split at e <;> cases e
 .cases e
theorem six_of {α:Type} {l:List α} {x:α} (h:l.length=6) (e:l[4]?=some x):∃ k0 k1 k2 k3 k5,l=[k0,k1,k2,k3,x,k5]:=by
 rcases l with _ | ⟨k0,_ | ⟨k1,_ | ⟨k2,_ | ⟨k3,_ | ⟨k4,_ | ⟨k5,_ | ⟨k6,l⟩⟩⟩⟩⟩⟩⟩
 case cons.cons.cons.cons.cons.cons.nil=>cases e;exact ⟨_,_,_,_,_,rfl⟩
 all_goals simp at h
theorem ZDc {K:W.Frag} {h:Heap} {C fI:Addr} {bmB:List Value} {newId:String} (X:K.In h) (q:ZCo K C fI bmB newId=true):∃ bm N nm qn bs hdct sn sub ab col dd k0 k1 k2 k3 k5 mN,
  h.get? C=some (excClassObj nm qn C N bs bm hdct sn sub ab col dd k0 k1 k2 k3 k5 newId) /\ h.Ns N mN /\ mN "__init__"=some (.ref fI) /\ OwnTail h bmB bm /\ K.lookup C=some (excClassObj nm qn C N bs bm hdct sn sub ab col dd k0 k1 k2 k3 k5 newId):=by
 unfold ZCo at q
 cases ho:K.lookup C with
 | none=>rw [ho] at q;cases q
 | some o=>
  rw [ho] at q
  obtain ⟨oc,dd,dt,⟨sl⟩⟩:=o
  cases dt with
  | cls cd=>
   simp only [yBJ,beq_iff_eq,Bool.not_eq_true'] at q
   obtain ⟨⟨⟨⟨⟨⟨⟨y0,y1⟩,y2⟩,y7⟩,y3⟩,y4⟩,y5⟩,y6⟩:=q
   obtain ⟨nm,bs,mro,ns,qn,hd,sn,sub,ab,col,del⟩:=cd
   dsimp only at y0 y1 y3 y4 y5 y6
   subst y0 y3
   obtain ⟨bm,rfl⟩:∃ bm,mro=.ref C::bm:=by
    cases mro with
    | nil=>cases y1
    | cons m bm=>cases y1;exact ⟨bm,rfl⟩
   obtain ⟨k0,k1,k2,k3,k5,rfl⟩:∃ k0 k1 k2 k3 k5,sl=[k0,k1,k2,k3,some (.builtin newId),k5]:=six_of (by simpa using y2) (by simpa using y7)
   have G:h.Ns ns (h.nsMap ns):=.of_isNs (isNs_of_in X y5)
   exact ⟨bm,ns,nm,qn,bs,hd,sn,sub,ab,col,dd,k0,k1,k2,k3,k5,_,X _ _ ho,G,ns_some_of X G y6,tail_of_in X y4,rfl⟩
  | _=>cases q
open PySem PySem.Spec PySem.W PySem.Calls PyProof.Rows Builtin.Getset_descriptor Builtin.ObjectAttr
noncomputable def excM (a:Addr) (cls:Value) (dd:Option Addr):HO:=.ext fun h=>∃ o,h.get? a=some o /\ o.cls=cls /\ o.dict=dd /\ ∃ vs,o.data=.fields vs /\ vs[1]?=some .none /\ ∃ a0,vs[0]?=some a0
theorem ZD8 {P:Program} {w:World} {H:Hp} {h:Heap} {a:Addr} {cls:Value} {dd:Option Addr} {o:Obj} {vs:Array Value} {a0:Value} (e:h.get? a=some o) (e1:o.cls=cls) (e2:o.dict=dd) (e3:o.data=.fields vs) (e4:vs[1]?=some .none) (e5:vs[0]?=some a0):ObjOk P w H h a (excM a cls dd) :=
 ⟨⟨o,e,e1,e2,vs,e3,e4,a0,e5⟩,⟨o,e⟩,fun h1 h2 ⟨o,z1,z2⟩ k=>⟨o,k o z1,z2⟩⟩
theorem ZCe {P:Program} {w:World} {H:Hp} {h:Heap} {a:Addr} {cls:Value} {dd:Option Addr} (x:HOk P w H h) (e:H a=some (excM a cls dd)):∃ o vs a0,h.get? a=some o /\ o.cls=cls /\ o.dict=dd /\ o.data=.fields vs /\ vs[1]?=some .none /\ vs[0]?=some a0 :=
 let ⟨⟨o,e1,e2,e3,vs,e4,e5,a0,e6⟩,_⟩:=x a _ e;⟨o,vs,a0,e1,e2,e3,e4,e5,e6⟩
theorem upd_self {H:Hp} {a:Addr} {o:HO} (h:H a=some o):upd H a o=H:=funext fun b=>by
 by_cases z:b=a
 .rw [z,ZAF,h]
 .rw [ZAG z]
section
variable {X:Cx}
theorem call_verr (fI:Addr):ZCX X (.builtin "ValueError.__init__") (fun xs H Q=>∃ e C dd v,xs=[.ref e,v] /\ H e=some (excM e (.ref C) dd) /\ ZCo X.K C fI bmV "ValueError.__new__"=true /\ Q .non H):=by
 intro pins s σ H xs us Q I r h
 obtain ⟨e,C,dd,v,rfl,he,hm,q⟩:=h
 obtain ⟨u,w',rfl,r1,r2⟩:=ZEX r
 cases (show u=Value.ref e from r1)
 obtain ⟨o,vs,a0,z1,z2,z3,z4,z5,z6⟩:=ZCe I.hok he
 have F:=PySem.F.excBase_ValueError
 obtain ⟨bm,N',nm,qn,bs,hdct,sn,sub,ab,col,d0,k0,k1,k2,k3,k5,mN,hC,hN,hni,T,hKC⟩:=ZDc I.kIn hm
 obtain ⟨h0,g,d,t,os⟩:=s
 refine wpAny_call (codeAny_call_builtin F.init.plain F.initEntry (wpAny_check_init_subU F T hC z1 z2 ?_))
 show wpAny _ _ (do Builtin.BaseException.bexcPut (.ref e) 0 (<- newTuple [w']);ret .none) _ _ _
 refine wpAny_bind (wpAny_newTuple ?_ (by rw [sizeLine_eq];simp))
 have z1':(h0.push { cls:=.type "tuple",data:=.seq [w'].toArray }).get? e=some o:=Heap.get?_push_of_some _ z1
 have hsz:0 < vs.size:=by
  cases hv:vs.size with
  | zero=>rw [Array.getElem?_eq_none (by omega)] at z6;cases z6
  | succ n=>omega
 unfold Builtin.BaseException.bexcPut
 refine wpAny_bind (wpAny_bind (wpAny_field z1' z4 z6 (wpAny_bind (wpAny_setField z1' z4 hsz ?_))))
 have h2:((h0.push { cls:=.type "tuple",data:=.seq [w'].toArray }).update e (Obj.mapFields (·.setIfInBounds 0 (.ref h0.objs.size)))).get? e=some (o.mapFields (·.setIfInBounds 0 (.ref h0.objs.size))) :=
  Heap.get?_update_self _ z1' (by obtain ⟨oc,od,odt,osl⟩:=o;cases z4;rfl)
 have fin:∀ tk,EP X pins σ Q .none ⟨(h0.push { cls:=.type "tuple",data:=.seq [w'].toArray }).update e (Obj.mapFields (·.setIfInBounds 0 (.ref h0.objs.size))),g,d,tk,os⟩:=fun tk=>by
  refine ⟨.non,H,?_,rfl,q⟩
  have J:=I.write (x:=e) (e:=e) (o:=excM e (.ref C) dd) (t':=tk) (h':=(h0.push { cls:=.type "tuple",data:=.seq [w'].toArray }).update e (Obj.mapFields (·.setIfInBounds 0 (.ref h0.objs.size)))) (by rw [he];exact True.intro) (.inl rfl)
   (fun b u hb q=>(Heap.get?_update_ne _ _ _ _ hb).trans (Heap.get?_push_of_some _ q)) ⟨_,h2⟩ (ZD8 (vs:=vs.setIfInBounds 0 (.ref h0.objs.size)) (a0:=.ref h0.objs.size) h2 (by rw [Obj.cls_mapFields];exact z2) (by rw [ZBY];exact z3) (Obj.data_mapFields z4 _) (by rw [Array.getElem?_setIfInBounds_ne (by decide)];exact z5) (by rw [Array.getElem?_setIfInBounds_self_of_lt hsz]))
  rw [upd_self he] at J
  exact J
 cases a0 with
 | ref b=>exact wpAny_letGo (wpAny_pure (fin t))
 | _=>exact wpAny_pure (wpAny_pure (fin t))
end
section
variable {X:Cx} {x name:Str} {C:Addr} {np apos pos:Pos} {e:Expr} {es:List Expr} {t:TA} {r:List V->Hp->VK->Prop} {id:String}
theorem pe_clsB {pl:Sem Bool} (hc:ZCX X (.builtin id) r) (hg:Gl X x) (hm:X.mg x=some (.ref C)) (hgs:specialIn X.K (.ref C) "__getattribute__"=some (some (.builtin "type.__getattribute__"))) (hr:readsIn X.K C (.type "type")=true)
  (hf:findCls X.K (.ref C) (.type "type") name=some (.val (.builtin id))) (hid:handedIn (.builtin id)=true) (ha:PA X (e::es) t) (hdb:(x == ("__debug__":Str))=false:=by decide)
  (he:starEach (e::es) X.env=(false,eval e X.env)::starEach es X.env:=by rfl) (hpl:(backTo pos (starEach es X.env)).any (·.1)=false:=by rfl)
  (ht:eval (.Call (.Attribute (.Name x np) name apos) (e::es) [] pos) X.env=(do
   let ov <- eval (.Name x np) X.env
   standAt apos.atName
   let (f,first) <- holding [ov] (getMethod ov name pl)
   callWith pos f first (backTo pos (starEach (e::es) X.env)) (backToKw pos (keywordEach [] X.env))):=by rfl):PE X (.Call (.Attribute (.Name x np) name apos) (e::es) [] pos) (tCB r t):=by
 intro pins s σ H Q I h
 refine PySem.W.methodCall_KW (pl:=pl) (ZB1 I hg hm ?_ hdb) ht
 refine method_cls I.kIn hgs (cls_value I.kIn hr hf hid ?_)
 exact PyProof.Rows.callWith_builtin1 (thn (ha pos pins _ σ H _ (I.tok _) h) fun us s1 ⟨vs,H1,I1,r1,q1⟩=>hc pins s1 σ H1 vs us Q I1 r1 q1) he hpl
end
noncomputable def tFS (te:TE):TE:=fun σ H Q=>te σ H fun x H1=>∃ i:Int,x=.int i /\ i.natAbs.log2 < 1920 /\ ∀ y,Q (.str y) H1
section
variable {X:Cx} {v c1 c2:Expr} {s1 s2:Str} {te:TE} {p pos:Pos}
theorem pe_fs1 (h1:PE X c1 (tC (.str s1))) (hv:PE X v te) (hl:s1.length <= 1000:=by decide):PE X (.JoinedStr [c1,.FormattedValue v (-1) none p] pos) (tFS te):=by
 intro pins s σ H Q I h
 refine JoinedStr_many (joinParts_cons (thn (h1 pins s σ H (fun x H1=>x=.str s1 /\ H1=H) I ⟨rfl,rfl⟩) fun u st1 zz=>?_))
 obtain ⟨y,H1,I1,ry,e1,e2⟩:=zz
 subst e1 e2
 obtain ⟨tk,rfl⟩:=(show ∃ t,u=Value.str s1 t from ry)
 refine ⟨by rw [strLen_append,sizeLine_eq];show 0+s1.length <= _;omega,joinParts_cons (FormattedValue_plain (thn (hv pins st1 σ H1 _ I1 h) fun u2 st2 zz=>?_))⟩
 obtain ⟨y,H2,I2,ry,i,e1,hi,q⟩:=zz
 subst e1
 obtain ⟨tk2,rfl⟩:=(show ∃ t,u2=Value.int i t from ry)
 refine formatField_int_small hi ?_
 have hz:=int_text_length_le (k:=1920) (by decide) hi
 have hz':(Str.empty++s1++Str.ofString (toString i)).length <= sizeLine:=by rw [strLen_append,strLen_append,PySem.ofString_length,sizeLine_eq];show 0+s1.length+_ <= _;omega
 exact ⟨hz',joinParts_nil ⟨.str _,H2,I2.tok _,⟨_,rfl⟩,q _⟩ hz'⟩
end
noncomputable def ZCs:List Value->Bool
 | .ref c::r=>ZCs r
 | l=>l == bmV
theorem over_pass (self:Value):∀ {l:List Value},ZCs l=true->refuseLoop self "__setattr__" l=pure ()
 | .ref c::r,e=>by rw [refuseLoop_ref];exact over_pass self e
 | [],e=>by cases (beq_iff_eq.mp (show ([] == bmV)=true from e))
 | .type n::r,e=>by rw [show (Value.type n::r)=bmV from beq_iff_eq.mp e];exact PySem.F.store_ValueError.passes self
 | .none::r,e=>by cases (beq_iff_eq.mp (show (Value.none::r == bmV)=true from e))
 | .bool b::r,e=>by cases (beq_iff_eq.mp (show (Value.bool b::r == bmV)=true from e))
 | .int i t::r,e=>by cases (beq_iff_eq.mp (show (Value.int i t::r == bmV)=true from e))
 | .float b t::r,e=>by cases (beq_iff_eq.mp (show (Value.float b t::r == bmV)=true from e))
 | .str x t::r,e=>by cases (beq_iff_eq.mp (show (Value.str x t::r == bmV)=true from e))
 | .bytes x t::r,e=>by cases (beq_iff_eq.mp (show (Value.bytes x t::r == bmV)=true from e))
 | .ellipsis::r,e=>by cases (beq_iff_eq.mp (show (Value.ellipsis::r == bmV)=true from e))
 | .notImplemented::r,e=>by cases (beq_iff_eq.mp (show (Value.notImplemented::r == bmV)=true from e))
 | .builtin n::r,e=>by cases (beq_iff_eq.mp (show (Value.builtin n::r == bmV)=true from e))
theorem ZDT:∀ {l:List Value},ZCs l=true->l.contains (.type "object")=true /\ l.isEmpty=false
 | .ref c::r,e=>⟨by rw [List.contains_cons,(ZDT (l:=r) e).1,Bool.or_true],rfl⟩
 | [],e=>by cases (beq_iff_eq.mp (show ([] == bmV)=true from e))
 | .type n::r,e=>by rw [show (Value.type n::r)=bmV from beq_iff_eq.mp e];exact ⟨by decide,rfl⟩
 | .none::r,e=>by cases (beq_iff_eq.mp (show (Value.none::r == bmV)=true from e))
 | .bool b::r,e=>by cases (beq_iff_eq.mp (show (Value.bool b::r == bmV)=true from e))
 | .int i t::r,e=>by cases (beq_iff_eq.mp (show (Value.int i t::r == bmV)=true from e))
 | .float b t::r,e=>by cases (beq_iff_eq.mp (show (Value.float b t::r == bmV)=true from e))
 | .str x t::r,e=>by cases (beq_iff_eq.mp (show (Value.str x t::r == bmV)=true from e))
 | .bytes x t::r,e=>by cases (beq_iff_eq.mp (show (Value.bytes x t::r == bmV)=true from e))
 | .ellipsis::r,e=>by cases (beq_iff_eq.mp (show (Value.ellipsis::r == bmV)=true from e))
 | .notImplemented::r,e=>by cases (beq_iff_eq.mp (show (Value.notImplemented::r == bmV)=true from e))
 | .builtin n::r,e=>by cases (beq_iff_eq.mp (show (Value.builtin n::r == bmV)=true from e))
noncomputable def ZD7 (K:Frag) (C:Addr):Bool:=(clsIn K C).any fun cd=>ZCs cd.mro
section
variable {prog:Program} {w:World} {A:Around} {R:Result->Shared->Prop} {s:Shared} {K:Frag} {x C:Addr}
theorem osa_openX {ox:Obj} {od:Option Obj} {name:Str} {tk:Tok} {v:Value} {r:Option Value} (X:K.In s.heap) (I:InstAt s.heap x ox C od) (hp:ZD7 K C=true) (ht:takerIn K C name=some r)
  (h:∀ b,wpAny (model prog w) A.in1 (match r with | some a=>setByDescriptor a (.ref x) v | none=>storeInOwnDict (.ref x) (.ref C) (.str name tk) name v b)
   (fun fin s'=>match fin with | Fin.done f=>R (.ok f) s' | Fin.again c'=>c'.quiet=true /\ codeAny (model prog w) A c' R s') (fun e s'=>R (.error e) s') s) :
  codeAny (model prog w) A (.call (.builtin "object.__setattr__") ⟨[.ref x,.str name tk,v],[]⟩) R s:=by
 have SF:=PySem.F.store_object
 obtain ⟨cd,hc,ho⟩:=any_some hp
 have ne:cd.mro.isEmpty=false:=(ZDT ho).2
 have sub:Looks (model prog w) s.heap (isInstance (.ref x) (.type "object")) true:=I.type.andThen (looks_mroIn X (by unfold mroIn;rw [hc,Option.bind_some,if_neg (by rw [ne];decide),(ZDT ho).1]))
 refine codeAny_call_builtin SF.slot.plain SF.entry (@check_slot (model prog w) _ _ s "object.__setattr__" "object" "__setattr__" (.ref x) [.str name tk,v] [] _ SF.kind SF.split sub (SF.args (.ref x) (.str name tk) v) ?_)
 obtain ⟨attr,ha,hr⟩:=Option.bind_eq_some_iff.mp ht
 have hm:Looks (model prog w) s.heap (mroOf (.ref C)) cd.mro:=(looks_clsIn X hc).andThen .now
 have L3:Looks (model prog w) s.heap (storeTaker? attr) r:=by
  cases attr with
  | none=>cases hr;exact .now
  | some a=>
   obtain ⟨b,hb,rfl⟩:=yBR.mp hr
   refine (looks_takesIn X hb).andThen ?_
   cases b <;> exact .now
 rw [osa_eq,refuse_eq]
 refine wpAny_bind (wpAny_bind (I.type.here (wpAny_bind (hm.here ?_))))
 rw [over_pass _ ho]
 refine wpAny_pure (wpAny_bind (I.type.here (wpAny_bind ((looks_findIn X ha).here (wpAny_bind (L3.here ?_))))))
 exact h _
end
noncomputable def xdM (d:Addr) (fs:List (Str×V)):HO:=.ext fun h=>∃ mA,h.Ns1 d mA /\ ∀ f,RelO (fs.lookup f) (mA f)
theorem xdM_ok {P:Program} {w:World} {H:Hp} {h:Heap} {d:Addr} {fs:List (Str×V)} {mA:Str->Option Value} (n:h.Ns1 d mA) (r:∀ f,RelO (fs.lookup f) (mA f)):ObjOk P w H h d (xdM d fs) :=
 ⟨⟨mA,n,r⟩,let ⟨o,_,_,e,_⟩:=n;⟨o,e⟩,fun h1 h2 ⟨mA,⟨o,es,ep,e,c⟩,r⟩ k=>⟨mA,⟨o,es,ep,k _ e,c⟩,r⟩⟩
structure XCls (K:Frag) (C:Addr):Prop where
 hd:hasDictIn K C=true
 ov:ZD7 K C=true
 sa:findIn K (.ref C) "__setattr__"=some (some (.builtin "object.__setattr__"))
section
variable {X:Cx} {pins:List (Addr×Obj)} {σ:St} {H:Hp} {s:Shared} {A:Around} {E:Value->Shared->Prop} {a C:Addr} {f:Str}
theorem excset0 {y:V} {u:Value} {Q:Unit->Shared->Prop} (I:Inv X pins σ H s) (e:H a=some (excM a (.ref C) none)) (c:XCls X.K C) (n:NoAttr X.K C f) (ry:RelV y u)
  (h:∀ d s',H d=none->d≠a->Inv X pins σ (upd (upd H d (xdM d [(f,y)])) a (excM a (.ref C) (some d))) s'->Q () s'):wpAny (model X.prog X.w) A (setAttr (.ref a) f u) Q E s:=by
 obtain ⟨o,vs,a0,z1,z2,z3,z4,z5,z6⟩:=ZCe I.hok e
 have J:InstAt s.heap a o C none:=⟨z1,z2,by unfold notCls;rw [z4],by rw [z3];trivial⟩
 refine set_plain I.kIn J c.sa (osa_openX (s:={ s with toks:=s.toks+1 }) (r:=none) I.kIn J c.ov n.taker fun b=>?_)
 obtain ⟨cd,hc,hd'⟩:=any_some c.hd
 obtain ⟨oc,od,odt,osl⟩:=o
 dsimp only at z2 z3 z4
 subst z2 z3 z4
 refine wpAny_bind (wpAny_pure (wpAny_bind (wpAny_bind (wpAny_loadPart (s:={ s with toks:=s.toks+1 }) z1 (wpAny_bind (Looks.here (s:={ s with toks:=s.toks+1 }) (looks_clsIn I.kIn hc) ?_))))))
 rw [hd']
 have hax:a≠s.heap.objs.size:=yAI (Heap.lt_size z1)
 have hx1:(s.heap.push { cls:=.type "dict",data:=.dict #[] }).get? a=some ⟨.ref C,none,.fields vs,osl⟩:=Heap.get?_push_of_some _ z1
 rw [if_neg (by decide)]
 show wpAny _ _ (do
  let d <- alloc { cls:=Value.type "dict",data:=Data.dict #[] }
  update a fun o=>{ cls:=o.cls,dict:=some d,data:=o.data,slots:=o.slots }
  dictMade (.ref C) a d) _ _ _
 refine wpAny_bind (wpAny_alloc' ?_)
 refine wpAny_bind (wpAny_update' hx1 ?_)
 refine wpAny_pure ?_
 have hgd:((s.heap.push { cls:=.type "dict",data:=.dict #[] }).update a fun o=>{ cls:=o.cls,dict:=some s.heap.objs.size,data:=o.data,slots:=o.slots }).get? s.heap.objs.size=some { cls:=.type "dict",data:=.dict #[] } :=
  (Heap.get?_update_ne _ _ _ _ (Ne.symm hax)).trans (Heap.get?_push_at rfl rfl)
 have hnd:((s.heap.push { cls:=.type "dict",data:=.dict #[] }).update a fun o=>{ cls:=o.cls,dict:=some s.heap.objs.size,data:=o.data,slots:=o.slots }).Ns s.heap.objs.size (fun _=>none) :=
  ⟨_,#[],_,hgd,rfl,fun e he=>absurd he (by simp),fun _=>rfl⟩
 have hga:((s.heap.push { cls:=.type "dict",data:=.dict #[] }).update a fun o=>{ cls:=o.cls,dict:=some s.heap.objs.size,data:=o.data,slots:=o.slots }).get? a=some ⟨.ref C,some s.heap.objs.size,.fields vs,osl⟩:=Heap.get?_update_self _ hx1 rfl
 show wpAny _ _ (storeInDict s.heap.objs.size (.str f s.toks) f u) _ _ _
 unfold storeInDict newKeyGuard
 refine wpAny_bind (wpAny_pure (wpAny_bind (wpAny_nsSet1 (Heap.Ns1.of_empty hnd) fun h' hn' hs=>?_)))
 obtain ⟨oD,esD,epD,hoD,hdD,hcD⟩:=hn'.count (Within.cons f u Within.nil)
 refine wpAny_bind (wpAny_lookBehind hoD (by rw [hdD];exact pastItsLine_dict (yAF hcD (by rw [yAR,yBK,sizeLine_eq];omega))) ?_)
 refine wpAny_pure ?_
 have hfr:H s.heap.objs.size=none:=I.hok.fresh (yAA _)
 have keepB:∀ b ob,b≠a->s.heap.get? b=some ob->h'.get? b=some ob:=fun b ob hb q=>(hs.2 b (yAI (Heap.lt_size q))).trans ((Heap.get?_update_ne _ _ _ _ hb).trans (Heap.get?_push_of_some _ q))
 have ha':h'.get? a=some ⟨.ref C,some s.heap.objs.size,.fields vs,osl⟩:=(hs.2 a hax).trans hga
 have rel:∀ g,RelO ([(f,y)].lookup g) (if g=f then some u else none):=fun g=>by
  by_cases q:g=f
  .rw [if_pos q,q,List.lookup_cons_self];exact ry
  .rw [if_neg q,yBW,show (g == f)=false from by simpa using q];trivial
 have J1:=I.write (x:=a) (e:=a) (o:=excM a (.ref C) (some s.heap.objs.size)) (t':=s.toks+1+1) (h':=(s.heap.update a fun o=>{ cls:=o.cls,dict:=some s.heap.objs.size,data:=o.data,slots:=o.slots })) (by rw [e];exact True.intro) (.inl rfl)
  (fun b ob hb q=>(Heap.get?_update_ne _ _ _ _ hb).trans q) ⟨_,Heap.get?_update_self _ z1 rfl⟩ (ZD8 (Heap.get?_update_self _ z1 rfl) rfl rfl rfl z5 z6)
 have hsz:(s.heap.update a fun o=>{ cls:=o.cls,dict:=some s.heap.objs.size,data:=o.data,slots:=o.slots }).objs.size=s.heap.objs.size:=Heap.size_update ..
 have J2:=J1.laid (a:=s.heap.objs.size) (o:=xdM s.heap.objs.size [(f,y)]) (t':=s.toks+1+1) (h':=h') (fun b ob q=>?_) (by rw [show ({ s with heap:=(s.heap.update a fun o=>{ cls:=o.cls,dict:=some s.heap.objs.size,data:=o.data,slots:=o.slots }),toks:=s.toks+1+1 }:Shared).heap.objs.size=_ from hsz];exact yAA _) (xdM_ok hn' rel)
 .have:=h s.heap.objs.size _ hfr (Ne.symm hax) (by
   have e2:upd (upd H s.heap.objs.size (xdM s.heap.objs.size [(f,y)])) a (excM a (.ref C) (some s.heap.objs.size))=upd (upd H a (excM a (.ref C) (some s.heap.objs.size))) s.heap.objs.size (xdM s.heap.objs.size [(f,y)]):=funext fun b=>by
    by_cases q1:b=a
    .rw [q1,ZAF,ZAG hax,ZAF]
    .rw [ZAG q1]
     by_cases q2:b=s.heap.objs.size
     .rw [q2,ZAF,ZAF]
     .rw [ZAG q2,ZAG q2,ZAG q1]
   rw [e2]
   exact J2)
  exact this
 .by_cases hb:b=a
  .rw [hb] at q ⊢
   rw [Heap.get?_update_self _ z1 rfl] at q
   rw [ha',<- q]
  .exact keepB b ob hb ((Heap.get?_update_ne _ _ _ _ hb).symm.trans q)
theorem excset1 {y:V} {u:Value} {Q:Unit->Shared->Prop} {d:Addr} {fs:List (Str×V)} (I:Inv X pins σ H s) (e:H a=some (excM a (.ref C) (some d))) (hda:d≠a) (ed:H d=some (xdM d fs)) (hl:fs.length < 1000) (c:XCls X.K C) (n:NoAttr X.K C f) (ry:RelV y u)
  (h:∀ s',Inv X pins σ (upd H d (xdM d (putF f y fs))) s'->Q () s'):wpAny (model X.prog X.w) A (setAttr (.ref a) f u) Q E s:=by
 obtain ⟨o,vs,a0,z1,z2,z3,z4,z5,z6⟩:=ZCe I.hok e
 obtain ⟨⟨mA,hns,r⟩,_,_⟩:=(show ObjOk X.prog X.w H s.heap d (xdM d fs) from I.hok d _ ed)
 obtain ⟨od,hod,hlk⟩:=ZC2 hns
 have J:InstAt s.heap a o C (some od):=⟨z1,z2,by unfold notCls;rw [z4],by rw [z3];exact hod⟩
 refine set_plain I.kIn J c.sa (osa_openX (s:={ s with toks:=s.toks+1 }) (r:=none) I.kIn J c.ov n.taker fun b=>?_)
 obtain ⟨cd,hc,hd'⟩:=any_some c.hd
 obtain ⟨oc,odd,odt,osl⟩:=o
 dsimp only at z2 z3 z4
 subst z2 z3 z4
 refine wpAny_bind (wpAny_pure (wpAny_bind (wpAny_bind (wpAny_loadPart (s:={ s with toks:=s.toks+1 }) z1 (wpAny_bind (Looks.here (s:={ s with toks:=s.toks+1 }) (looks_clsIn I.kIn hc) ?_))))))
 rw [hd',if_neg (by decide)]
 refine wpAny_pure (a:=some d) (wpAny_bind (wpAny_pure (wpAny_bind ?_)))
 refine wpAny_nsSet1 (s:={ s with toks:=s.toks+1 }) hns fun h' hn2 hs2=>?_
 have hw:Within mA (fs.map (·.1)):=fun g hg=>by
  have:=r g
  cases hg2:fs.lookup g with
  | none=>rw [hg2] at this;cases hm:mA g with
   | none=>exact absurd hm hg
   | some u=>rw [hm] at this;exact this.elim
  | some v=>exact yBF.mpr ⟨(g,v),PySem.mem_of_lookup hg2,rfl⟩
 obtain ⟨oD,esD,epD,hoD,hdD,hcD⟩:=hn2.count (PySem.Within.cons f u hw)
 refine wpAny_bind (wpAny_lookBehind hoD (by rw [hdD];exact pastItsLine_dict (yAF hcD (by rw [yAR,yAB,sizeLine_eq];omega))) ?_)
 refine wpAny_pure (h _ ?_)
 exact I.write (x:=d) (e:=d) (o:=xdM d (putF f y fs)) (t':=s.toks+1+1) (h':=h') (by rw [ed];exact True.intro) (.inl rfl) (fun b ob hb q=>(hs2.2 b hb).trans q) ⟨oD,hoD⟩ (xdM_ok hn2 fun g=>by
  rw [ZAR]
  by_cases q:g=f
  .rw [if_pos q,if_pos q];exact ry
  .rw [if_neg q,if_neg q];exact r g)
end
noncomputable def ZFI (K:Frag) (ta tv:TE) (f:Str):TS:=fun D σ H=>tv σ H fun y H1=>ta σ H1 fun x H2=>∃ a C dd,x=.ref a /\ H2 a=some (excM a (.ref C) dd) /\ XCls K C /\ NoAttr K C f /\
 ((dd=none /\ ∀ d,H2 d=none->d≠a->D.nx σ (upd (upd H2 d (xdM d [(f,y)])) a (excM a (.ref C) (some d))))∨∃ d fs,dd=some d /\ d≠a /\ H2 d=some (xdM d fs) /\ fs.length < 1000 /\ D.nx σ (upd H2 d (xdM d (putF f y fs))))
theorem ps_xfld {X:Cx} {o value:Expr} {f:Str} {pos pos':Pos} {ta tv:TE} (ha:PE X o ta) (hv:PE X value tv) (hs:swapsWith value (some (.Attribute o f pos')) pos.line X.env=pure false):PS X (.Assign [.Attribute o f pos'] value pos) (ZFI X.K ta tv f):=by
 intro pins s σ H D I h
 refine plainObj_wpAny_Assign_Attribute (thn (hv pins s σ H _ I h) fun u s1 ⟨y,H1,I1,ry,q⟩=>thn (ha pins s1 σ H1 _ I1 q) fun ov s2 zz=>?_) hs
 obtain ⟨x,H2,I2,rx,a,C,dd,ex,ea,c,n,q2⟩:=zz
 subst ex
 obtain rfl:ov=Value.ref a:=rx
 rcases q2 with ⟨rfl,q2⟩ | ⟨d,fs,rfl,hda,ed,hl,q2⟩
 .exact excset0 I2 ea c n ry fun d s3 hd hda I3=>⟨σ,_,I3,q2 d hd hda⟩
 .exact excset1 I2 ea hda ed hl c n ry fun s3 I3=>⟨σ,_,I3,q2⟩
structure XMk (K:Frag) (C f:Addr):Prop where
 ii:ZCo K C f bmV "ValueError.__new__"=true
 fn:isFn K (.ref f)=true
 kp:keepIn K (.ref C)=true
section
variable {X:Cx} {CX:CXT} {k:Nat} {f C:Addr} {fd:FuncData} {ps:List Str} {sp:Sp} {x:Str} {p pos:Pos} {e:Expr} {es:List Expr} {t:TA} {E:XK}
theorem run_xmake {pins:List (Addr×Obj)} {σ:St} {H:Hp} {s:Shared} {Q:VK} {R:Value->Shared->Prop} {us:List Value} {vs:List V} (M:XMk X.K C f) (F:FnOk X.prog X.w X.K X.mg X.base CX k f fd ps sp) (hr:Room (k+1) X.A) (hb:Binds X.K fd ps [])
  (hx:ZA0 CX X E) (I:Inv X pins σ H s) (r:Vals vs us) (hz:us.length <= sizeLine)
  (h:∀ x,H x=none->sp (.ref x::vs) (upd H x (excM x (.ref C) none)) (fun v H2=>v=.non /\ Q (.ref x) H2) E)
  (fin:∀ a H2 s2,s.heap.get? a=none->H a=none->Un (frs X.stack) [] H H2 s.heap s2.heap->HOk X.prog X.w H2 s2.heap->s2.os=s.os->AllBare s2.gens->Q (.ref a) H2->R (.ref a) s2) :
  wpAny (model X.prog X.w) X.A (call (.ref C) us) R X.xe s:=by
 obtain ⟨bm,N',nm,qn,bs,hdct,sn,sub,ab,col,d0,k0,k1,k2,k3,k5,mN,hC,hN,hni,T,hKC⟩:=ZDc I.kIn M.ii
 obtain ⟨oI,hoI,hcI⟩:∃ oI,s.heap.get? f=some oI /\ oI.cls=.type "function":=by
  have ht:=beq_iff_eq.mp M.fn
  unfold typeIn at ht
  obtain ⟨o,h1,h2⟩:=yBR.mp ht
  exact ⟨o,I.kIn _ _ h1,h2⟩
 obtain ⟨h0,g,d,tk,os⟩:=s
 refine call_exc_initU (hrest:=hz) PySem.F.excBase_ValueError PySem.F.excBase_ValueError.hasB PySem.F.excBase_ValueError T hC hN hni hoI hcI fun h' a hm ha=>?_
 obtain ⟨t0,ht0,_⟩:=hm.there
 have hge:h0.objs.size <= a:=by rw [ha];exact yAP _
 have hfr:H a=none:=I.hok.fresh hge
 have I2:=I.laid (a:=a) (o:=excM a (.ref C) none) (h':=h') (t':=tk) hm.keeps hge (ZD8 ht0 rfl rfl rfl rfl rfl)
 have hq:=h a hfr
 have r2:Vals (V.ref a::vs) (Value.ref a::us):=.cons rfl r
 have hl:(Value.ref a::us).length=ps.length:=by rw [<- r2.length];exact F.len _ _ _ _ hq
 have hb2:=hb ⟨h',g,d,tk,os⟩ (Value.ref a::us) I2.kIn (by rw [yAY];exact hl)
 rw [yAY] at hb2
 refine wpAny_call (codeAny_mono (F.run _ X.stack ⟨h',g,d,tk,os⟩ _ ⟨Value.ref a::us,[]⟩ (Value.ref a::us) _ _ E (hr.make C us []) (I2.env0.make C us []) hb2 r2 hq) fun r s' hq'=>?_)
 cases r with
 | error e=>exact hx pins σ _ _ e s' I2 hq'
 | ok fl=>
  cases fl with
  | ret u=>
   obtain ⟨v,H2,ho,hba,un,hok,rv,ev,q3⟩:=hq'
   subst ev
   exact ⟨rv,fin a H2 s' hm.new hfr (Un.trans (Un.laid hm.keeps hge hfr) un) hok ho hba q3⟩
  | next=>exact False.elim hq'
  | brk=>exact False.elim hq'
  | cont=>exact False.elim hq'
noncomputable def tXMk (C:Addr) (sp:Sp) (E:XK) (t:TA):TE:=fun σ H Q=>t σ H fun vs H1=>vs.length <= 1000 /\ ∀ x,H1 x=none->sp (.ref x::vs) (upd H1 x (excM x (.ref C) none)) (fun v H2=>v=.non /\ Q (.ref x) H2) E
end
noncomputable def forget (H:Hp) (a:Addr):Hp:=fun b=>if b=a then none else H b
theorem ZBB {H:Hp} {a b:Addr} (h:b≠a):forget H a b=H b:=if_neg h
theorem forget_same {H:Hp} {a:Addr}:forget H a a=none:=if_pos rfl
theorem Un.forget {fs:List Addr} {H H2:Hp} {h h2:Heap} {a:Addr} (u:Un fs [] H H2 h h2) (hn:h.get? a=none) (hH:H a=none):Un fs [] H (L2.forget H2 a) h h2 where
 keep:=u.keep
 slot:=u.slot
 free:=fun b o q n hx=>by
  rw [ZBB (fun z=>by rw [z,hn] at q;cases q)]
  exact u.free b o q n hx
 there:=u.there
 tups:=fun b xs q=>by rw [ZBB (ZAC q hH)];exact u.tups b xs q
 frzs:=fun b o xs q=>by rw [ZBB (ZAC q hH)];exact u.frzs b o xs q
 tbls:=fun b ps q=>by
  obtain ⟨m,hm⟩:=u.tbls b ps q
  exact ⟨m,by rw [ZBB (ZAC q hH)];exact hm⟩
theorem HOk.forget {P:Program} {w:World} {H:Hp} {h:Heap} {a:Addr} {φ:Heap->Prop} (x:HOk P w H h) (ha:H a=some (.ext φ)):HOk P w (L2.forget H a) h:=fun b o q=>by
 by_cases z:b=a
 .rw [z,forget_same] at q;cases q
 .rw [ZBB z] at q
  refine (x b o q).stay (fun _ _ _ y=>y) (fun c y=>?_) fun c xs y=>?_
  .rw [ZBB (fun z=>by rw [z,ha] at y;cases y)];exact y
  .rw [ZBB (fun z=>by rw [z,ha] at y;cases y)];exact y
noncomputable def ZDL (E:XK) (C:Addr) (sp:Sp) (t:TA):TS:=fun _ σ H=>t σ H fun vs H1=>vs.length <= 1000 /\ ∀ x,H1 x=none->sp (.ref x::vs) (upd H1 x (excM x (.ref C) none)) (fun v H2=>v=.non /\ ∃ dd,H2 x=some (excM x (.ref C) dd) /\ E (.ref C) dd (forget H2 x)) E0
section
variable {P:Program} {w:World} {K:W.Frag} {mg:Str->Option Value} {base:Heap} {N:List Str} {qual:Str} {scope:Scope} {f:Addr} {cd:Value} {A:Around} {outer:List Env} {s:Shared} {H:Hp} {E:XK}
variable {CX:CXT} {k:Nat} {fI C:Addr} {fd:FuncData} {ps:List Str} {sp:Sp} {x:Str} {np cpos pos:Pos} {e:Expr} {es:List Expr} {t:TA}
theorem ps_raiseX (M:XMk K C fI) (F:FnOk P w K mg base CX k fI fd ps sp) (hr:Room (k+1) (cxOf (CXE P w) P w K mg base N qual scope f cd A outer s H E).A) (hg:Gl (cxOf (CXE P w) P w K mg base N qual scope f cd A outer s H E) x) (hm:mg x=some (.ref C)) (hb:Binds K fd ps []) (hx:ZA0 CX (cxOf (CXE P w) P w K mg base N qual scope f cd A outer s H E) E0)
  (ha:PA (cxOf (CXE P w) P w K mg base N qual scope f cd A outer s H E) (e::es) t) (hdb:(x == ("__debug__":Str))=false:=by decide) (he:starEach (e::es) (cxOf (CXE P w) P w K mg base N qual scope f cd A outer s H E).env=(false,eval e (cxOf (CXE P w) P w K mg base N qual scope f cd A outer s H E).env)::starEach es (cxOf (CXE P w) P w K mg base N qual scope f cd A outer s H E).env:=by rfl) (hpl:(backTo cpos (starEach es (cxOf (CXE P w) P w K mg base N qual scope f cd A outer s H E).env)).any (·.1)=false:=by rfl) :
  PS (cxOf (CXE P w) P w K mg base N qual scope f cd A outer s H E) (.Raise (some (.Call (.Name x np) (e::es) [] cpos)) none pos) (ZDL E C sp t):=by
 intro pins s1 σ H1 D I h
 obtain ⟨bm,N',nm,qn,bs,hdct,sn,sub,ab,col,d0,k0,k1,k2,k3,k5,mN,hC,hN,hni,T,hKC⟩:=ZDc I.kIn M.ii
 rw [arm_exec_Raise]
 simp only [evalOpt,Option.map]
 refine wpAny_bind (wpAny_standAt (raiseStmt_madeD (C:=C) (nm:=nm) (q:=qn) (N:=N') (bs:=bs) (bm:=bm) (hdct:=hdct) (sn:=sn) (sub:=sub) (ab:=ab) (col:=col) (dd:=d0) (k0:=k0) (k1:=k1) (k2:=k2) (k3:=k3) (k5:=k5) (newId:="ValueError.__new__") (T.hasType PySem.F.excBase_ValueError.hasBase) (I.ok.hd rfl) ?_))
 refine wpAny_bind (wpAny_Call_Name_kw (ZB1 I hg hm ?_ hdb))
 refine PySem.W.callWith_K (h₀:=base) I.ok.mod.kin M.kp (thn (ha cpos pins s1 σ H1 _ I h) fun us s2 ⟨vs,H2,I2,r,hl,q⟩=>⟨I2.kIn,?_⟩) he hpl
 refine run_xmake (us:=us) (Q:=fun v H3=>match v with | .ref x=>∃ dd,H3 x=some (excM x (.ref C) dd) /\ E (.ref C) dd (forget H3 x) | _=>False) M F hr hb hx I2 r (by rw [<- r.length,sizeLine_eq];omega) q fun a H3 s3 hn hH un hok ho hba q2=>?_
 obtain ⟨dd,hxM,hE⟩:=q2
 obtain ⟨o,vs',a0,z1,z2,z3,z4,z5,z6⟩:=ZCe hok hxM
 have I3:=I2.call' (s':=s3) ho un hok hba fun b z=>nomatch z
 refine wpAny_bind (wpAny_standAt (wpAny_pure ?_))
 refine ⟨a,o,vs',rfl,I3.kIn _ _ hKC,z1,z2,z4,z5,?_⟩
 exact raisedD (s2:=s3) I2 (un.forget hn hH) (hok.forget hxM) ho hba hn forget_same z1 z2 z3 z4 z5 z6 hE
end
section
variable {X:Cx}
end
theorem us_len {us ds:List Value} {ps:List Str} {n:Nat} (h:(us++ds).length=ps.length) (e:n+ds.length=ps.length):us.length=n:=by
 rw [yAC] at h;omega
noncomputable def Fr (S:List Addr) (H H':Hp):Prop:=∀ b o,b∉S->H b=some o->H' b=some o
theorem Fr.refl {S:List Addr} {H:Hp}:Fr S H H:=fun _ _ _ h=>h
theorem Fr.trans {S:List Addr} {H H' H'':Hp} (e:Fr S H H') (f:Fr S H' H''):Fr S H H'':=fun b o n h=>f b o n (e b o n h)
theorem Same.fr {S:List Addr} {H H':Hp} (e:Same H H'):Fr S H H':=fun b o _ h=>e b o h
end L2
namespace PySem
namespace F
end F
section
variable {prog:Program} {w:World} {A:Around} {s:Shared} {R:Result->Shared->Prop}
variable {I:Addr} {fp wr:List Addr} {G:Array GenState->Array GenState->Prop} {n:Nat} {P:Nat->Value->Prop} {St:Nat->Shared->Prop}
end
section
variable {prog:Program} {w:World} {A:Around} {E:Value->Shared->Prop} {s:Shared}
variable {I:Addr} {fp wr:List Addr} {G:Array GenState->Array GenState->Prop} {n:Nat} {P:Nat->Value->Prop} {St:Nat->Shared->Prop}
end
end PySem
namespace L2
open PySem PySem.Spec PyProof.Rows
noncomputable def tRevL (K:W.Frag) (t:TA):TE:=fun σ H Q=>t σ H fun vs H1=>∃ (l:Addr) (ys:List V),vs=[.ref l] /\ SqL K H1 l ys /\ ∀ r,H1 r=none->Q (.ref r) (upd H1 r (.lst ys.reverse))
section
variable {X:Cx} {e:Expr} {ta:TA} {p p2 pos pos2:Pos}
end
theorem neD_refl {K:W.Frag} {H:Hp} {x y:V} {d:PyData} {Q:VK} (hx:Dp K H d x) (hy:Dp K H d y) (hc:d.canLay0=true) (hd:d.depth <= 64) (q:Q (.bl false) H):rNeD K x y H Q :=
 ⟨d,d,hx,hy,hc,hc,hd,by rw [PySem.SeqAt.eqv_refl d hc];exact q⟩
noncomputable def compR2 (g:TG) (tt:TT) (te:TE) (σ0:St) (Q:VK) (x y:V) (H1:Hp):Prop:=∃ i j:Int,[x,y]=[.int i,.int j] /\ (-(2 ^ 62) <= i /\ i < 2 ^ 62 /\ -(2 ^ 62) <= j /\ j < 2 ^ 62) /\ compR i g tt te σ0 Q (j-i).toNat H1
theorem tCompR2_eq {k:Nat} {js:List Nat} {t u:TE} {g:TG} {tt:TT} {te:TE} {σ:St} {H:Hp} {Q:VK}:ZDM k js (iRng2 (ZCM t (ZCM u tNil))) g tt te σ H Q=t σ H (fun x H1=>u σ H1 fun y H2=>compR2 g tt te (up k js σ) Q x y H2):=rfl
section
variable {X:Cx}
end
noncomputable def Itz (K:W.Frag) (a b:Addr):It :=
 ⟨fun i H=>∃ xs x ys y,SqL K H a xs /\ xs[i]?=some x /\ SqL K H b ys /\ ys[i]?=some y,fun i H v H'=>∃ p x y,H p=none /\ (∀ xs,SqL K H a xs->xs[i]?=some x) /\ (∀ ys,SqL K H b ys->ys[i]?=some y) /\ H'=upd H p (.tup [x,y]) /\ v=.ref p,fun i H=>∃ xs ys,SqL K H a xs /\ SqL K H b ys /\ (xs.length <= i∨ys.length <= i)⟩
section
variable {X:Cx}
noncomputable def iZip (K:W.Frag) (ta:TA):TI:=fun σ H R=>ta σ H fun vs H1=>∃ a b,vs=[.ref a,.ref b] /\ (∃ xs,SqL K H1 a xs) /\ (∃ xs,SqL K H1 b xs) /\ R (Itz K a b) H1
end
section
variable {K:W.Frag} {a b:Addr} {xs ys:List V} {g:TG} {tb:TS} {D:Ends} {σ:St} {H:Hp}
noncomputable def forZ (K:W.Frag) (g:TG) (tb:TS) (D:Ends) (σ:St) (x y:V) (H1:Hp):Prop:=∃ a b,[x,y]=[.ref a,.ref b] /\ (∃ xs,SqL K H1 a xs) /\ (∃ xs,SqL K H1 b xs) /\ ∃ W:Nat->Nat->St->Hp->Prop,(∃ m,W 0 m σ H1) /\ ∀ i m σ H,W i m σ H ->
 ((Itz K a b).stop i H /\ D.nx σ H)∨((Itz K a b).go i H /\ ∃ N:St->Hp->Prop,(∀ σ' H',N σ' H'->∃ m',m' < m /\ W (i+1) m' σ' H') /\ ∀ x H',(Itz K a b).yld i H x H'->g x σ H' fun σ2 H2=>tb { D with nx:=N,ct:=N,bk:=D.nx } σ2 H2)
theorem tForZ_eq {t u:TE}:tFor (iZip K (ZCM t (ZCM u tNil))) g tb D σ H=t σ H (fun x H1=>u σ H1 fun y H2=>forZ K g tb D σ x y H2):=rfl
end
section
open PySem.SeqAt
open PySem.AutoSeq1 (wpAny_loadPart')
open PySem.MeetsSeq PySem.MeetsSeq2 PySem.MeetsSeq3 HT
end
section
variable {prog:Program} {w:World} {A:Around} {E:Value->Shared->Prop} {s:Shared}
end
section
variable {X:Cx}
end
section
variable {κ:Type} [DecidableEq κ]
noncomputable def valV (kvs:List (κ×V)) (k:κ):Option V:=(kvs.find? fun kv=>decide (kv.1=k)).map (·.2)
noncomputable def putK (kvs:List (κ×V)) (k:κ) (v:V):List (κ×V) :=
 if (kvs.any fun kv=>decide (kv.1=k))=true then kvs.map (fun kv=>if kv.1=k then (kv.1,v) else kv) else kvs++[(k,v)]
theorem ZA8 {p:κ×V} {r:List (κ×V)} {k:κ} (e:p.1=k):valV (p::r) k=some p.2:=by simp [valV,yCP,e]
theorem ZA9 {p:κ×V} {r:List (κ×V)} {k:κ} (e:¬ p.1=k):valV (p::r) k=valV r k:=by simp [valV,yCP,e]
theorem ZCZ (k:κ):∀ kvs:List (κ×V),(kvs.any fun kv=>decide (kv.1=k))=(valV kvs k).isSome
 | []=>rfl
 | p::r=>by
  rw [yCL]
  by_cases e:p.1=k
  .simp only [ZA8 e,decide_eq_true e,Bool.true_or,Option.isSome_some]
  .rw [ZA9 e,decide_eq_false e,Bool.false_or];exact ZCZ k r
theorem valV_map (k j:κ) (y:V):∀ kvs:List (κ×V),valV (kvs.map fun kv=>if kv.1=k then (kv.1,y) else kv) j=(valV kvs j).map fun x=>if j=k then y else x
 | []=>rfl
 | p::r=>by
  have ih:=valV_map k j y r
  rw [yAT]
  by_cases h:p.1=k
  .rw [if_pos h]
   by_cases e:p.1=j
   .rw [ZA8 (p:=(p.1,y)) e,ZA8 e,yBZ,if_pos (e.symm.trans h)]
   .rw [ZA9 (p:=(p.1,y)) e,ZA9 e,ih]
  .rw [if_neg h]
   by_cases e:p.1=j
   .rw [ZA8 (p:=p) e,ZA8 e,yBZ,if_neg (fun z=>h (e.trans z))]
   .rw [ZA9 (p:=p) e,ZA9 e,ih]
theorem valV_snoc (k j:κ) (y:V):∀ kvs:List (κ×V),valV kvs k=none->valV (kvs++[(k,y)]) j=if j=k then some y else valV kvs j
 | [],_=>by
  by_cases e:k=j
  .rw [if_pos e.symm];exact ZA8 (p:=(k,y)) e
  .rw [if_neg (fun z=>e z.symm)];exact ZA9 (p:=(k,y)) e
 | p::r,hn=>by
  rw [List.cons_append]
  have hk:¬ p.1=k:=fun z=>by rw [ZA8 z] at hn;cases hn
  rw [ZA9 hk] at hn
  have ih:=valV_snoc k j y r hn
  by_cases e:p.1=j
  .rw [ZA8 e,ZA8 e,if_neg (fun z=>hk (e.trans z))]
  .rw [ZA9 e,ZA9 e,ih]
theorem valV_put (kvs:List (κ×V)) (k j:κ) (y:V):valV (putK kvs k y) j=if j=k then some y else valV kvs j:=by
 unfold putK
 by_cases a:(kvs.any fun kv=>decide (kv.1=k))=true
 .rw [if_pos a,valV_map]
  rw [ZCZ] at a
  by_cases e:j=k
  .obtain ⟨x,hx⟩:=Option.isSome_iff_exists.mp a
   rw [if_pos e,e,hx,yBZ,if_pos rfl]
  .rw [if_neg e]
   cases valV kvs j with
   | none=>rfl
   | some x=>rw [yBZ,if_neg e]
 .rw [if_neg a]
  refine valV_snoc k j y kvs ?_
  rw [ZCZ] at a
  cases q:valV kvs k with
  | none=>rfl
  | some x=>rw [q] at a;exact (a rfl).elim
theorem ZCT (kvs:List (κ×V)) (k:κ) (v:V):(putK kvs k v).length <= kvs.length+1:=by
 unfold putK
 split
 .rw [yAB];omega
 .rw [yAC,yAR,yBK];omega
theorem RelO.isSome_eq {o:Option V} {u:Option Value} (r:RelO o u):o.isSome=u.isSome:=by
 cases o with
 | none=>cases u with
  | none=>rfl
  | some _=>exact (show False from r).elim
 | some _=>cases u with
  | none=>exact (show False from r).elim
  | some _=>rfl
theorem RelO.getD {o:Option V} {u:Option Value} {d:V} {d':Value} (r:RelO o u) (rd:RelV d d'):RelV (o.getD d) (u.getD d'):=by
 cases o with
 | none=>cases u with
  | none=>exact rd
  | some _=>exact (show False from r).elim
 | some _=>cases u with
  | none=>exact (show False from r).elim
  | some _=>exact r
theorem KV.val {kvs:List (κ×V)} {vs:List (κ×Value)} (r:KV kvs vs) (k:κ):RelO (valV kvs k) (valueAt vs k):=by
 unfold KV at r
 induction r with
 | nil=>exact True.intro
 | @cons p q ps qs h t ih=>
  obtain ⟨h1,h2⟩:=h
  by_cases e:p.1=k
  .have e':q.1=k:=h1.symm.trans e
   have b:valueAt (q::qs) k=some q.2:=by simp [valueAt,yCP,e']
   rw [ZA8 e,b];exact h2
  .have e':¬ q.1=k:=fun z=>e (h1.trans z)
   have b:valueAt (q::qs) k=valueAt qs k:=by simp [valueAt,yCP,e']
   rw [ZA9 e,b];exact ih
theorem KV.any {kvs:List (κ×V)} {vs:List (κ×Value)} (r:KV kvs vs) (k:κ):(kvs.any fun kv=>decide (kv.1=k))=vs.any fun kv=>decide (kv.1=k):=by
 unfold KV at r
 induction r with
 | nil=>rfl
 | cons h t ih=>rw [yCL,yCL,ih,h.1]
theorem KV.repl {kvs:List (κ×V)} {vs:List (κ×Value)} (r:KV kvs vs) (k:κ) {y:V} {u:Value} (ry:RelV y u) :
  KV (kvs.map fun kv=>if kv.1=k then (kv.1,y) else kv) (vs.map fun kv=>if kv.1=k then (kv.1,u) else kv):=by
 unfold KV at r ⊢
 induction r with
 | nil=>exact .nil
 | @cons p q ps qs h t ih=>
  rw [yAT,yAT]
  refine .cons ?_ ih
  obtain ⟨h1,h2⟩:=h
  by_cases e:p.1=k
  .rw [if_pos e,if_pos (h1.symm.trans e)];exact ⟨h1,ry⟩
  .rw [if_neg e,if_neg (fun z=>e (h1.trans z))];exact ⟨h1,h2⟩
theorem KV.put {kvs:List (κ×V)} {vs:List (κ×Value)} (r:KV kvs vs) (k:κ) {y:V} {u:Value} (ry:RelV y u):KV (putK kvs k y) (stored vs k u):=by
 unfold putK stored
 rw [r.any k]
 by_cases e:(vs.any fun kv=>decide (kv.1=k))=true
 .rw [if_pos e,if_pos e];exact r.repl k ry
 .rw [if_neg e,if_neg e];exact Paired.snoc r ⟨rfl,ry⟩
theorem KV.length {kvs:List (κ×V)} {vs:List (κ×Value)} (r:KV kvs vs):kvs.length=vs.length:=Paired.length r
end
theorem ZE5 {P:Program} {w:World} {k:Key} {u:Value} (r:RelV (kV k) u):(ZAQ P w).is k u=true:=by
 cases k with
 | inl i=>obtain ⟨t,e⟩:=(show ∃ t,u=Value.int i t from r);subst e;exact mixKind_int P w i t
 | inr x=>obtain ⟨t,e⟩:=(show ∃ t,u=Value.str x t from r);subst e;exact mixKind_str P w x t
theorem items_are {P:Program} {w:World}:∀ {ks:List Key} {us:List Value},Vals (ks.map kV) us->ItemsAre (ZAQ P w) ks us
 | [],_,r=>by rw [List.map_nil] at r;cases r;exact .nil
 | k::ks,_,r=>by
  rw [yAT] at r
  cases r with
  | cons h t=>exact .cons (ZE5 h) (items_are t)
noncomputable abbrev KT (H:Hp):List (List Key×V)->List (List Key×Addr×Value)->Prop:=Paired fun p q=>p.1=q.1 /\ H q.2.1=some (.tup (p.1.map kV)) /\ RelV p.2 q.2.2
theorem KT.val {H:Hp} {kvs:List (List Key×V)} {xs:List (List Key×Addr×Value)} (r:KT H kvs xs) (k:List Key):RelO (valV kvs k) ((atKey xs k).map (·.2)):=by
 induction r with
 | nil=>exact True.intro
 | @cons p q ps qs h t ih=>
  obtain ⟨h1,_,h2⟩:=h
  by_cases e:p.1=k
  .have e':q.1=k:=h1.symm.trans e
   have b:atKey (q::qs) k=some q.2:=by simp [atKey,yCP,e']
   rw [ZA8 e,b];exact h2
  .have e':¬ q.1=k:=fun z=>e (h1.trans z)
   have b:atKey (q::qs) k=atKey qs k:=by simp [atKey,yCP,e']
   rw [ZA9 e,b];exact ih
theorem KT.repl {H:Hp} {kvs:List (List Key×V)} {xs:List (List Key×Addr×Value)} (r:KT H kvs xs) (k:List Key) {y:V} {u:Value} (ry:RelV y u) :
  KT H (kvs.map fun kv=>if kv.1=k then (kv.1,y) else kv) (xs.map (putAt k u)):=by
 induction r with
 | nil=>exact .nil
 | @cons p q ps qs h t ih=>
  rw [yAT,yAT]
  refine .cons ?_ ih
  obtain ⟨h1,h2,h3⟩:=h
  unfold putAt
  by_cases e:p.1=k
  .rw [if_pos e,if_pos (h1.symm.trans e)];exact ⟨h1,h2,ry⟩
  .rw [if_neg e,if_neg (fun z=>e (h1.trans z))];exact ⟨h1,h2,h3⟩
theorem KT.put {H:Hp} {kvs:List (List Key×V)} {xs:List (List Key×Addr×Value)} (r:KT H kvs xs) (k:List Key) {b:Addr} {y:V} {u:Value} (hb:H b=some (.tup (k.map kV))) (ry:RelV y u) :
  KT H (putK kvs k y) (storedH xs k b u):=by
 have e:(kvs.any fun kv=>decide (kv.1=k))=(atKey xs k).isSome:=by
  rw [ZCZ,(r.val k).isSome_eq,Option.isSome_map]
 unfold putK storedH
 rw [e]
 by_cases q:(atKey xs k).isSome=true
 .rw [if_pos q,if_pos q];exact r.repl k ry
 .rw [if_neg q,if_neg q];exact Paired.snoc r ⟨rfl,hb,ry⟩
theorem KT.keeps {H H':Hp} {kvs:List (List Key×V)} {xs:List (List Key×Addr×Value)} (r:KT H kvs xs) (ht:∀ b ys,H b=some (.tup ys)->H' b=some (.tup ys)):KT H' kvs xs :=
 Paired.mapP r fun _ _ z=>⟨z.1,ht _ _ z.2.1,z.2.2⟩
section
variable {P:Program} {w:World} {H:Hp} {h:Heap} {a:Addr}
theorem rd_of {u:HO} (ok:HOk P w H h) (e:Rd H a u):ObjOk P w H h a u:=e.ok ok
theorem ZE8 {kvs:List (Key×V)} (ok:HOk P w H h) (e:Rd H a (.dK kvs)):kvs.length <= sizeLine /\ (a == sysModules)=false /\ ∃ vs,KV kvs vs /\ h.DictOf (ZAQ P w) a vs :=
 show ObjOk P w H h a (.dK kvs) from rd_of ok e
theorem dk_of {kvs:List (Key×V)} (ok:HOk P w H h) (e:H a=some (.dK kvs)):kvs.length <= sizeLine /\ (a == sysModules)=false /\ ∃ vs,KV kvs vs /\ h.DictOf (ZAQ P w) a vs:=ZE8 ok (.inl e)
theorem ZEK {ks:List Key} (ok:HOk P w H h) (e:H a=some (.tup (ks.map kV))):(tupleKind (ZAQ P w)).is h ks a:=by
 obtain ⟨_,its,r,o,h1,h2,n,h3⟩:=(show ObjOk P w H h a (.tup (ks.map kV)) from ok a _ e)
 exact ⟨o,its.toArray,n,h1,h2,h3,by simpa using items_are r⟩
theorem ZE7 {kvs:List (List Key×V)} (ok:HOk P w H h) (e:Rd H a (.dT kvs)):kvs.length <= sizeLine /\ (a == sysModules)=false /\
  ∃ xs,KT H kvs xs /\ h.DictOfH (tupleKind (ZAQ P w)) a xs:=by
 obtain ⟨z,y,xs,r,o,es,ep,h1,h2,h3,h4,h5⟩:=(show ObjOk P w H h a (.dT kvs) from rd_of ok e)
 refine ⟨z,y,xs,r,o,es,ep,h1,h2,h3,h4,fun x hx=>?_,h5⟩
 have all:∀ {l:List (List Key×V)} {m:List (List Key×Addr×Value)},KT H l m->∀ x∈m,(tupleKind (ZAQ P w)).is h x.1 x.2.1:=by
  intro l m q
  induction q with
  | nil=>intro x hx;exact nomatch hx
  | @cons p q ps qs hq t ih=>
   intro x hx
   rcases yAH.mp hx with e | hx
   .subst e
    exact ZEK ok (by rw [<- hq.1];exact hq.2.1)
   .exact ih x hx
 exact all r x hx
theorem dt_of {kvs:List (List Key×V)} (ok:HOk P w H h) (e:H a=some (.dT kvs)):kvs.length <= sizeLine /\ (a == sysModules)=false /\
  ∃ xs,KT H kvs xs /\ h.DictOfH (tupleKind (ZAQ P w)) a xs:=ZE7 ok (.inl e)
end
noncomputable def DGet (H:Hp) (a:Addr) (y:V) (r:Option V):Prop :=
 (∃ kvs k,Rd H a (.dK kvs) /\ y=kV k /\ r=valV kvs k)∨∃ kvs k b,Rd H a (.dT kvs) /\ y=.ref b /\ H b=some (.tup (k.map kV)) /\ r=valV kvs k
noncomputable def DPut (H:Hp) (a:Addr) (y v:V) (H':Hp):Prop :=
 (∃ kvs k,H a=some (.dK kvs) /\ y=kV k /\ kvs.length < sizeLine /\ H'=upd H a (.dK (putK kvs k v))) ∨
 ∃ kvs k b,H a=some (.dT kvs) /\ y=.ref b /\ H b=some (.tup (k.map kV)) /\ kvs.length < sizeLine /\ H'=upd H a (.dT (putK kvs k v))
theorem DGet.t {H:Hp} {a b:Addr} {kvs:List (List Key×V)} {k:List Key} (e:H a=some (.dT kvs)) (eb:H b=some (.tup (k.map kV))):DGet H a (.ref b) (valV kvs k):=.inr ⟨kvs,k,b,.inl e,rfl,eb,rfl⟩
theorem DPut.t {H:Hp} {a b:Addr} {kvs:List (List Key×V)} {k:List Key} {v:V} (e:H a=some (.dT kvs)) (eb:H b=some (.tup (k.map kV))) (hl:kvs.length < sizeLine) :
  DPut H a (.ref b) v (upd H a (.dT (putK kvs k v))):=.inr ⟨kvs,k,b,e,rfl,eb,hl,rfl⟩
section
variable {X:Cx} {pins:List (Addr×Obj)} {σ:St} {H:Hp} {s:Shared} {a:Addr} {y v:V} {u r:Value} {o:Option V} {A:Around} {E:Value->Shared->Prop}
theorem Inv.big (I:Inv X pins σ H s):sysModules < s.heap.objs.size:=by
 have h:mainGlobals < s.heap.objs.size:=(I.mod.glob.keeps I.bk).lt
 exact Nat.lt_trans (by decide) h
theorem d_getItem {Q:Value->Shared->Prop} (hu:A.units+1 < cLine) (I:Inv X pins σ H s) (g:DGet H a y (some v)) (ry:RelV y u) (h:∀ w' s',Inv X pins σ H s'->RelV v w'->Q w' s') :
  wpAny (model X.prog X.w) A (getItem (.ref a) u) Q E s:=by
 rcases g with ⟨kvs,k,e,ey,l⟩ | ⟨kvs,k,b,e,ey,eb,l⟩
 .subst ey
  obtain ⟨z,hd,vs,rel,dd⟩:=ZE8 I.hok e
  obtain ⟨w',hw,rw'⟩:=RelO.some_of (v:=v) (o:=valueAt vs k) (by rw [l];exact rel.val k)
  exact wpAny_getItem_of (ZE5 ry) dd.mapOf hw (h w' _ (I.tok _) rw')
 .subst ey
  cases (show u=Value.ref b from ry)
  obtain ⟨z,hd,xs,rel,dd⟩:=ZE7 I.hok e
  obtain ⟨w',hw,rw'⟩:=RelO.some_of (v:=v) (o:=(atKey xs k).map (·.2)) (by rw [l];exact rel.val k)
  obtain ⟨p,hp,hp2⟩:=yBR.mp hw
  refine wpAny_getItem_heap (tupleKind_room_in1 hu) (ZEK I.hok eb) dd hp ?_
  rw [hp2]
  exact h w' _ (I.tok _) rw'
theorem d_write {h':Heap} {t':Nat} {ob:HO} (I:Inv X pins σ H s) (mu:Mut (H a)) (hs:Heap.SameBut a s.heap h') (he:∃ q,h'.get? a=some q) (new:ObjOk X.prog X.w (upd H a ob) h' a ob) :
  Inv X pins σ (upd H a ob) { s with heap:=h',toks:=t' } :=
 I.write (x:=a) (e:=a) mu (.inl rfl) (fun b q hb z=>(hs.2 b hb).trans z) he new
theorem dk_new {P:Program} {w:World} {H':Hp} {h':Heap} {kvs:List (Key×V)} {vs:List (Key×Value)} (z:kvs.length <= sizeLine) (hd:(a == sysModules)=false) (rel:KV kvs vs) (dd:h'.DictOf (ZAQ P w) a vs) :
  ObjOk P w H' h' a (.dK kvs):=⟨z,hd,vs,rel,dd⟩
theorem d_setItem {H':Hp} {Q:Unit->Shared->Prop} (hu:A.units+1 < cLine) (I:Inv X pins σ H s) (g:DPut H a y v H') (ry:RelV y u) (rv:RelV v r) (h:∀ s',Inv X pins σ H' s'->Q () s') :
  wpAny (model X.prog X.w) A (setItem (.ref a) u r) Q E s:=by
 rcases g with ⟨kvs,k,e,ey,l,eH⟩ | ⟨kvs,k,b,e,ey,eb,l,eH⟩
 .subst ey eH
  obtain ⟨z,hd,vs,rel,dd⟩:=dk_of I.hok e
  have hz:vs.length <= sizeLine:=by rw [<- rel.length];exact z
  have hl:(putK kvs k v).length <= sizeLine:=by have:=ZCT kvs k v;omega
  refine wpAny_setItem_pairs (hsz:=hz) (ZE5 ry) dd fun h' dd' hs=>h _ ?_
  have he:∃ q,h'.get? a=some q:=let ⟨q,_,_,hq,_⟩:=dd';⟨q,hq⟩
  exact d_write I (by rw [e];exact True.intro) hs he (dk_new hl hd (rel.put k rv) dd')
 .subst ey eH
  cases (show u=Value.ref b from ry)
  obtain ⟨z,hd,xs,rel,dd⟩:=dt_of I.hok e
  have hz:xs.length <= sizeLine:=by rw [<- Paired.length rel];exact z
  have hl:(putK kvs k v).length <= sizeLine:=by have:=ZCT kvs k v;omega
  refine wpAny_setItem_heap (hsz:=hz) (tupleKind_room_in1 hu) (ZEK I.hok eb) dd fun h' dd' hs=>h _ ?_
  obtain ⟨q,es,ep,hq,h2,h3,h4,_,h5⟩:=dd'
  refine d_write I (by rw [e];exact True.intro) hs ⟨q,hq⟩ ⟨hl,hd,_,(rel.put k eb rv).keeps fun c ys ec=>?_,q,es,ep,hq,h2,h3,h4,h5⟩
  rw [ZAG (ne_of ec e (fun z=>nomatch z))]
  exact ec
end
section
variable {X:Cx} {pins:List (Addr×Obj)} {σ:St} {H:Hp} {s:Shared} {a:Addr} {kvs:List (Key×V)} {k:Key} {u:Value} {A:Around} {E:Value->Shared->Prop}
end
noncomputable def NoSl (i:Expr):Prop:=∀ ov iv,subscripted i false ov iv=operate [ov,iv] (getItem ov iv)
theorem subD_of {prog:Program} {w:World} {A:Around} {E:Value->Shared->Prop} {s:Shared} {env:Env} {value slice:Expr} {pos:Pos} {T id:String} {Q:Value->Shared->Prop}
  (hl:typeLookup (.type T) "__getitem__"=pure (some (.builtin id))) (hs:NoSl slice)
  (h:wpAny (model prog w) A (eval value env) (fun o s₁=>wpAny (model prog w) A (eval slice env) (fun i s₂=>s₂.TypeIs o T /\ wpAny (model prog w) A (getItem o i) Q E s₂) E s₁) E s) :
  wpAny (model prog w) A (eval (.Subscript value slice pos) env) Q E s:=by
 refine Subscript_ (wpAny_mono h (fun o s₁ h₁=>wpAny_mono h₁ (fun i s₂ h₂=>?_) fun _ _ x=>x) fun _ _ x=>x)
 obtain ⟨hT,h₂⟩:=h₂
 unfold subscriptTail
 refine wpAny_bind ?_
 rw [getitemInPython_of_ne hT.not_modules]
 refine wpAny_bind (wpAny_specialOf hT hl ?_)
 have fin:wpAny (model prog w) A (subscripted slice false o i) (fun r s₃=>wpAny (model prog w) A (letTemporaryGo value o r >>= fun _=>pure r) Q E s₃) E s₂:=by
  rw [hs o i]
  exact wpAny_operating (wpAny_mono h₂ (fun r s₃ h₃=>wpAny_bind (wpAny_letTemporaryGo (wpAny_pure h₃))) fun _ _ x=>x)
 first
  | exact wpAny_pure (wpAny_bind fin)
  | exact wpAny_bind (wpAny_pure (wpAny_bind fin))
  | exact wpAny_bind fin
theorem dict_typeIs {X:Cx} {pins:List (Addr×Obj)} {σ:St} {H:Hp} {s:Shared} {a:Addr} {y:V} {o:Option V} (I:Inv X pins σ H s) (g:DGet H a y o):s.TypeIs (.ref a) "dict":=by
 rcases g with ⟨kvs,k,e,_,_⟩ | ⟨kvs,k,b,e,_,_,_⟩
 .obtain ⟨_,_,vs,_,dd⟩:=ZE8 I.hok e
  exact dd.typeIs
 .obtain ⟨_,_,xs,_,dd⟩:=ZE7 I.hok e
  exact dd.typeIs
noncomputable def ZFF (td ty:TE):TE:=fun σ H Q=>td σ H fun x H1=>ty σ H1 fun y H2=>∃ a v,x=.ref a /\ DGet H2 a y (some v) /\ Q v H2
noncomputable def tDIn (ty td:TE):TE:=fun σ H Q=>ty σ H fun y H1=>td σ H1 fun x H2=>∃ a o,x=.ref a /\ DGet H2 a y o /\ Q (.bl o.isSome) H2
noncomputable def tDNotIn (ty td:TE):TE:=fun σ H Q=>ty σ H fun y H1=>td σ H1 fun x H2=>∃ a o,x=.ref a /\ DGet H2 a y o /\ Q (.bl (!o.isSome)) H2
noncomputable def ZFJ (td ty tv:TE):TS:=fun D σ H=>tv σ H fun v H1=>td σ H1 fun x H2=>ty σ H2 fun y H3=>∃ a H4,x=.ref a /\ DPut H3 a y v H4 /\ D.nx σ H4
section
variable {X:Cx} {o i e value:Expr} {pos pos' tpos:Pos} {td ty tv:TE}
theorem pe_dget (hu:X.A.units+1 < cLine) (ho:PE X o td) (hi:PE X i ty) (hs:NoSl i):PE X (.Subscript o i pos) (ZFF td ty):=by
 intro pins s σ H Q I h
 refine subD_of PySem.F.slot_dict_getitem.lookup hs (thn (ho pins s σ H _ I h) fun u s1 ⟨x,H1,I1,rx,q1⟩=>thn (hi pins s1 σ H1 _ I1 q1) fun iv s2 ⟨y,H2,I2,ry,a,v,ex,g,q2⟩=>?_)
 subst ex
 obtain rfl:u=Value.ref a:=rx
 exact ⟨dict_typeIs I2 g,d_getItem hu I2 g ry fun w' s3 I3 rw'=>⟨v,H2,I3,rw',q2⟩⟩
theorem ZDx (hu:X.A.units+1 < cLine) (ho:PE X o td) (hi:PE X i ty) (hv:PE X value tv) (hs:swapsWith value (some (.Subscript o i pos')) pos.line X.env=pure false) :
  PS X (.Assign [.Subscript o i pos'] value pos) (ZFJ td ty tv):=by
 intro pins s σ H D I h
 refine wpAny_Assign_Subscript (thn (hv pins s σ H _ I h) fun r s1 ⟨v,H1,I1,rv,q1⟩=>thn (ho pins s1 σ H1 _ I1 q1) fun u s2 ⟨x,H2,I2,rx,q2⟩=>thn (hi pins s2 σ H2 _ I2 q2) fun iv s3 ⟨y,H3,I3,ry,a,H4,ex,g,q3⟩=>?_) hs
 subst ex
 obtain rfl:u=Value.ref a:=rx
 exact d_setItem hu I3 g ry rv fun s4 I4=>⟨σ,H4,I4,q3⟩
end
theorem dt_empty {P:Program} {w:World} {H:Hp} (h:Heap) (hb:sysModules < h.objs.size):ObjOk P w H (h.push { cls:=.type "dict",data:=.dict #[] }) h.objs.size (.dT []) :=
 ⟨yAG _,beq_eq_false_iff_ne.mpr (Ne.symm (yAI hb)),[],.nil,_,#[],0,Heap.get?_push_size _ rfl,⟨rfl,rfl,rfl⟩,rfl,rfl,List.nodup_nil⟩
noncomputable def tDNewK:TE:=fun _ H Q=>∀ p,H p=none->Q (.ref p) (upd H p (.dK []))
noncomputable def ZEc:TE:=fun _ H Q=>∀ p,H p=none->Q (.ref p) (upd H p (.dT []))
section
variable {X:Cx} {pos:Pos}
theorem pe_dnewT:PE X (.Dict [] [] pos) ZEc:=fun pins s σ H Q I h=>
 wpAny_Dict_empty ⟨.ref s.heap.objs.size,_,I.laid (a:=s.heap.objs.size) (o:=.dT []) (t':=s.toks) (fun _ _ q=>Heap.get?_push_of_some _ q) (yAA _) (dt_empty s.heap I.big),rfl,h _ (I.hok.fresh (yAA _))⟩
end
noncomputable def rDGet:V->List V->Hp->VK->Prop:=fun x vs H Q=>∃ a y o,x=.ref a /\ vs=[y] /\ DGet H a y o /\ Q (o.getD .non) H
theorem mt_dget {X:Cx} (hu:X.A.units+1 < cLine):MtR X "dict.get" rDGet:=by
 intro pins s σ H x vs v us Q I rx rv h
 obtain ⟨a,y,o,rfl,rfl,g,q⟩:=h
 cases rx
 obtain ⟨u,rfl,ry⟩:=rv.one
 rcases g with ⟨kvs,k,e,ey,l⟩ | ⟨kvs,k,b,e,ey,eb,l⟩
 .subst ey
  obtain ⟨z,hd,vs,rel,dd⟩:=ZE8 I.hok e
  refine call_meetsIn PySem.F.slot_dict_get dd.typeIs PySem.F.entry_dict_get (PySem.F.args_dict_get_2 _ _) (meets_dict_get (ZAQ X.prog X.w) a (ZE5 ry) hd) ⟨_,dd.mapOf,?_⟩
  subst l
  exact ⟨_,H,I.tok _,(rel.val k).getD (d:=.non) (d':=.none) rfl,q⟩
 .subst ey
  cases (show u=Value.ref b from ry)
  obtain ⟨z,hd,xs,rel,dd⟩:=ZE7 I.hok e
  refine call_meetsIn PySem.F.slot_dict_get dd.typeIs PySem.F.entry_dict_get (PySem.F.args_dict_get_2 _ _) (meetsH_dict_get (tupleKind (ZAQ X.prog X.w)) a b hd) ⟨tupleKind_room_in1 hu,k,xs,ZEK I.hok eb,dd,?_⟩
  subst l
  exact ⟨_,H,I.tok _,(rel.val k).getD (d:=.non) (d':=.none) rfl,q⟩
end L2
namespace PySem
open Sem (wp)
namespace F
end F
section
variable {α:Type} {prog:Program} {w:World} {A:Around} {E:Value->Shared->Prop} {s:Shared}
end
section
variable {prog:Program} {w:World} {A:Around} {E:Value->Shared->Prop} {h:Heap} {g:Array GenState} {d:Drawn} {t:Nat} {os:OsState} {a:Addr} {its:Array Value} {n:Nat}
end
end PySem
namespace PySem
namespace F
end F
end PySem
namespace L2
open PySem PySem.Spec PyProof.Rows
theorem key_mono {P:Program} {w:World} {h h':Heap} {ks:List Key} {a:Addr} (m:∀ b o,h.get? b=some o->h'.get? b=some o) (k:(tupleKind (ZAQ P w)).is h ks a):(tupleKind (ZAQ P w)).is h' ks a:=by
 obtain ⟨o,its,n,h1,r⟩:=k
 exact ⟨o,its,n,m _ _ h1,r⟩
section
variable {X:Cx} {pins:List (Addr×Obj)} {σ:St} {H:Hp} {s1:Shared} {A:Around}
end
end L2
namespace PySem
section
variable {prog:Program} {w:World} {A:Around} {E:Value->Shared->Prop} {s:Shared} {zo ti to:Addr} {f0 f1:Value}
end
end PySem
namespace L2
open PySem PySem.Spec PyProof.Rows
section
variable {X:Cx}
end
section
variable {K:W.Frag} {a b:Addr} {xs ys:List V} {g:TG} {σ:St} {H:Hp} {tt:TT} {te:TE} {Q:VK} {σ0:St}
end
section
variable {X:Cx}
end
section
variable {X:Cx}
end
section
variable {X:Cx}
theorem op_notIn_seqK (K:W.Frag) (h:X.K=K:=by rfl):OpR X (compareOp .NotIn) (rIn K true):=h ▸ op_notIn_seq
end
theorem flat_nats (A:List Nat):((A.map fun (n:Nat)=>V.int (n:Int)).all ZDa)=true:=by
 induction A with
 | nil=>rfl
 | cons a r ih=>rw [yAT,List.all_cons,ih];rfl
theorem inV_nats (x:Nat) (A:List Nat):inV (.int (x:Int)) (A.map fun (n:Nat)=>V.int (n:Int))=decide (x∈A):=by
 induction A with
 | nil=>rfl
 | cons a r ih=>
  unfold inV at *
  rw [yAT,yCL,ih]
  by_cases e:x=a
  .subst e
   simp [eqV]
  .have h:eqV (.int (a:Int)) (.int (x:Int))=false:=by
    unfold eqV
    simp
    omega
   rw [h,Bool.false_or]
   by_cases m:x∈r
   .rw [decide_eq_true m,decide_eq_true (yAJ _ m)]
   .rw [decide_eq_false m,decide_eq_false (fun z=>(yAH.mp z).elim e m)]
theorem nat_sorted {ms:List Int} {tk:List Nat} (hp:ms.Perm (tk.map fun (n:Nat)=>(n:Int))) (hs:ms.Pairwise (· <= ·)):∃ A:List Nat,ms=A.map (fun (n:Nat)=>(n:Int)) /\ A.Perm tk /\ A.Pairwise (· <= ·):=by
 have hm:∀ x∈ms,((x.toNat:Nat):Int)=x:=fun x hx=>by
  obtain ⟨n,_,e⟩:=yBF.mp (hp.mem_iff.mp hx)
  rw [<- e];rfl
 refine ⟨ms.map Int.toNat,?_,?_,?_⟩
 .rw [List.map_map]
  have:ms=ms.map id:=(List.map_id _).symm
  conv=>lhs;rw [this]
  exact List.map_congr_left fun x hx=>(hm x hx).symm
 .have:=hp.map Int.toNat
  rw [List.map_map] at this
  have e:tk.map (Int.toNat ∘ fun (n:Nat)=>(n:Int))=tk:=by
   conv=>rhs;rw [<- List.map_id tk]
   exact List.map_congr_left fun x _=>Int.toNat_natCast x
  rw [e] at this
  exact this
 .rw [List.pairwise_map]
  refine hs.imp_of_mem fun {a b} ha hb z=>?_
  have:=hm a ha
  have:=hm b hb
  omega
open PySem PySem.Spec PySem.W PySem.Calls PyProof.Rows Builtin.Getset_descriptor Builtin.ObjectAttr
structure XKl (P:Program) (w:World) (K:W.Frag) (mg:Str->Option Value) (base:Heap) (CX:CXT) (x:Str) (C:Addr) (k:Nat) (ps:List Str) (sp:Sp):Prop where
 mgC:mg x=some (.ref C)
 ex:∃ f fd,FnOk P w K mg base CX k f fd ps sp /\ Binds K fd ps [] /\ XMk K C f
structure XBase (K:W.Frag) (C:Addr):Prop where
 gs:specialIn K (.ref C) "__getattribute__"=some (some (.builtin "type.__getattribute__"))
 rd:readsIn K C (.type "type")=true
 fc:findCls K (.ref C) (.type "type") "__init__"=some (.val (.builtin "ValueError.__init__"))
section
variable {X:Cx} {CX:CXT} {k:Nat} {ps:List Str} {sp:Sp} {E:XK} {x m:Str} {C:Addr} {p np pos apos:Pos} {e o:Expr} {es:List Expr} {ta:TE} {t:TA}
theorem call_verrK:ZCX X (.builtin "ValueError.__init__") (fun xs H Q=>∃ e C dd v,xs=[.ref e,v] /\ H e=some (excM e (.ref C) dd) /\ (∃ fI,ZCo X.K C fI bmV "ValueError.__new__"=true) /\ Q .non H):=by
 intro pins s σ H xs us Q I r h
 obtain ⟨e,C,dd,v,h1,h2,⟨fI,h3⟩,q⟩:=h
 exact call_verr fI pins s σ H xs us Q I r ⟨e,C,dd,v,h1,h2,h3,q⟩
theorem pe_clsV {pl:Sem Bool} (B:XBase X.K C) (hm:X.mg x=some (.ref C)) (hg:Gl X x) (ha:PA X (e::es) t) (hdb:(x == ("__debug__":Str))=false:=by decide)
  (he:starEach (e::es) X.env=(false,eval e X.env)::starEach es X.env:=by rfl) (hpl:(backTo pos (starEach es X.env)).any (·.1)=false:=by rfl)
  (ht:eval (.Call (.Attribute (.Name x np) "__init__" apos) (e::es) [] pos) X.env=(do
   let ov <- eval (.Name x np) X.env
   standAt apos.atName
   let (f,first) <- holding [ov] (getMethod ov "__init__" pl)
   callWith pos f first (backTo pos (starEach (e::es) X.env)) (backToKw pos (keywordEach [] X.env))):=by rfl) :
  PE X (.Call (.Attribute (.Name x np) "__init__" apos) (e::es) [] pos) (tCB (fun xs H Q=>∃ e C dd v,xs=[.ref e,v] /\ H e=some (excM e (.ref C) dd) /\ (∃ fI,ZCo X.K C fI bmV "ValueError.__new__"=true) /\ Q .non H) t) :=
 pe_clsB (pl:=pl) call_verrK hg hm B.gs B.rd B.fc (by decide +kernel) ha hdb he hpl ht
end
section
variable {P:Program} {w:World} {K:W.Frag} {mg:Str->Option Value} {base:Heap} {N:List Str} {qual:Str} {scope:Scope} {f:Addr} {cd:Value} {A:Around} {outer:List Env} {s:Shared} {H:Hp} {E:XK}
variable {CX:CXT} {k:Nat} {C:Addr} {ps:List Str} {sp:Sp} {x:Str} {np cpos pos:Pos} {e:Expr} {es:List Expr} {t:TA}
theorem ps_raiseK (F:XKl P w K mg base CX x C k ps sp) (hr:Room (k+1) (cxOf (CXE P w) P w K mg base N qual scope f cd A outer s H E).A) (hg:Gl (cxOf (CXE P w) P w K mg base N qual scope f cd A outer s H E) x) (hx:ZA0 CX (cxOf (CXE P w) P w K mg base N qual scope f cd A outer s H E) E0)
  (ha:PA (cxOf (CXE P w) P w K mg base N qual scope f cd A outer s H E) (e::es) t) (hdb:(x == ("__debug__":Str))=false:=by decide) (he:starEach (e::es) (cxOf (CXE P w) P w K mg base N qual scope f cd A outer s H E).env=(false,eval e (cxOf (CXE P w) P w K mg base N qual scope f cd A outer s H E).env)::starEach es (cxOf (CXE P w) P w K mg base N qual scope f cd A outer s H E).env:=by rfl) (hpl:(backTo cpos (starEach es (cxOf (CXE P w) P w K mg base N qual scope f cd A outer s H E).env)).any (·.1)=false:=by rfl) :
  PS (cxOf (CXE P w) P w K mg base N qual scope f cd A outer s H E) (.Raise (some (.Call (.Name x np) (e::es) [] cpos)) none pos) (ZDL E C sp t):=by
 obtain ⟨fI,fd,h1,h2,h3⟩:=F.ex
 exact ps_raiseX h3 h1 hr hg F.mgC h2 hx ha hdb he hpl
end
noncomputable def tMethS (C:Addr) (m:Str) (sp:Sp) (E:St->XK) (ta:TE) (t:TA):TE:=fun σ H Q=>ta σ H fun x H1=>∃ a dx fs,x=.ref a /\ H1 a=some (.ins C dx fs) /\ fs.lookup m=none /\ t σ H1 fun vs H2=>sp (x::vs) H2 Q (E σ)
section
variable {X:Cx} {CX:CXT} {k:Nat} {ps:List Str} {sp:Sp} {E:St->XK} {x m:Str} {C:Addr} {p pos apos:Pos} {e o:Expr} {es:List Expr} {ta:TE} {t:TA}
end
structure RoomH (k:Nat) (A:Around):Prop where
 dp:A.depth+3 * k+5 < recursionLimit
theorem Room.h {k:Nat} {A:Around} {h:Option Value} (r:Room k A):RoomH k (A.mark h):=⟨r.dp⟩
structure FnOkH (P:Program) (w:World) (K:W.Frag) (mg:Str->Option Value) (base:Heap) (k:Nat) (f:Addr) (fd:FuncData) (ps:List Str) (sp:Sp):Prop where
 len:∀ vs H Q E,sp vs H Q E->vs.length=ps.length
 run:∀ (A:Around) (outer:List Env) (s:Shared) (H:Hp) (args:Args) (us:List Value) (vs:List V) (Q:VK) (E:XK),RoomH k A->Env0 P w K mg base A outer s H->BindsTo s fd args (ps.zip us)->Vals vs us->sp vs H Q E ->
  codeAny (model P w) A (.call (.ref f) args) (CR CX0 outer P w H s Q E) s
structure FnH (P:Program) (w:World) (K:W.Frag) (mg:Str->Option Value) (base:Heap) (x:Str) (k:Nat) (ps:List Str) (sp:Sp):Prop where
 ex:∃ f fd,FnOkH P w K mg base k f fd ps sp /\ Binds K fd ps [] /\ W.keepIn K (.ref f)=true /\ mg x=some (.ref f)
noncomputable def ZE9 (P:Program) (w:World) (K:W.Frag) (mg:Str->Option Value) (base:Heap) (N:List Str) (qual:Str) (scope:Scope) (f:Addr) (cd:Value) (A:Around) (outer:List Env) (s:Shared) (H:Hp) (E:XK):Cx :=
 { cxOf CX0 P w K mg base N qual scope f cd { A with handled:=none } outer s H E with A:=A.deeper (envOfC qual scope s.heap.objs.size f cd),calm:=false,xe:=fun _ _=>False }
section
variable {P:Program} {w:World} {K:W.Frag} {mg:Str->Option Value} {base:Heap} {N ps:List Str} {qual:Str} {scope:Scope} {f:Addr} {cd:Value} {A:Around} {outer:List Env} {s s1:Shared} {H:Hp} {E:XK} {us:List Value} {vs:List V}
theorem inv_startH (S:FnScope N ps scope) (e0:Env0 P w K mg base A outer s H) (hl:vs.length=ps.length) (r:Vals vs us)
  (x:InCallC s s.heap.objs.size (bindL (envOfC qual scope s.heap.objs.size f cd).kindOf (ps.zip us) fun _=>none) (cellsFrom (s.heap.objs.size+1) scope.names []) (bindC (envOfC qual scope s.heap.objs.size f cd).kindOf (ps.zip us) fun _=>none) s1) :
  Inv (ZE9 P w K mg base N qual scope f cd A outer s H E) [] (start N vs) H s1:=by
 have I:=ZC6 (CX:=CX0) (A:={ A with handled:=none }) (E:=E) S rfl ⟨e0.frames,e0.mod,e0.bs,e0.bsz,e0.funs,e0.frf,e0.hok,e0.bare⟩ hl r x
 exact ⟨⟨I.ok.mod,I.ok.kind,I.ok.glob,I.ok.blt,I.ok.above,I.ok.inj,I.ok.has,I.ok.cab,(fun z=>nomatch z),Around.frames_deeper e0.frames,I.ok.stk,I.ok.exf,I.ok.bs,I.ok.bsz,I.ok.noex,I.ok.exfs,I.ok.funs,I.ok.frf⟩,I.os,I.bare,I.base,I.loc,I.cell,I.free,I.freeC,I.pin,I.hok,I.len⟩
theorem Fun.okH {x:Str} {st:Stmt} {fd:FuncData} {k:Nat} {sp:Sp} (F:Fun K x qual st f fd) (S:FnScope N ps (ZAB st)) (len:∀ vs H Q E,sp vs H Q E->vs.length=ps.length)
  (hbody:∀ (cdv:Value) (A:Around) (outer:List Env) (s:Shared) (H:Hp) (vs:List V) (Q:VK) (E:XK),sp vs H Q E ->
   ∃ t,PSs (ZE9 P w K mg base N qual (ZAB st) f cdv A outer s H E) (ZAL st) t /\ t { nx:=fun _ H'=>Q .non H',rt:=Q } (start N vs) H):FnOkH P w K mg base (k+1) f fd ps sp:=by
 obtain ⟨oc,od,kV,doc,pm,an,cdv,ct,osl,rfl,lk,hcd⟩:=F.ex
 refine ⟨len,fun A outer s H args us vs Q E hr e0 hb r hsp=>?_⟩
 have hl:=len _ _ _ _ hsp
 have KX:K.In s.heap:=e0.mod.kin.keeps fun b o e=>(e0.bs b o e).1
 have lim:s.heap.NoLimit:=e0.mod.nolimit.keeps fun b o e=>(e0.bs b o e).1
 have hkind:∀ y∈ps.zip us,(ZAB st).names.lookup y.1=some .local∨((ZAB st).names.lookup y.1=some .cell /\ ((cellsFrom (s.heap.objs.size+1) (ZAB st).names []).lookup y.1).isSome=true):=fun ⟨n,v⟩ hy=>by
  rcases S.par n (yCJ hy).1 with q | q
  .exact .inl q
  .exact .inr ⟨q,PySem.W.cellsFrom_some _ _ _ (.inl q)⟩
 refine codeAny_call_function (by have:=hr.dp;omega) (KX _ _ lk) rfl S.co S.gen rfl (PySem.W.codeRec_of KX hcd) (hb _ _ _ _ ?_)
 refine wpAny_newFunctionEnv_cells S.kind hkind fun env he s1 x=>?_
 subst he
 refine ⟨lim.keeps x.toInCall.keep,codeAny_func ?_⟩
 obtain ⟨t,ht,hq⟩:=hbody cdv A outer s H vs Q E hsp
 have I:Inv (ZE9 P w K mg base N qual (ZAB st) f cdv A outer s H E) [] (start N vs) H s1:=inv_startH S e0 hl r x
 refine wpAny_mono (ht [] s1 (start N vs) H _ I hq) (fun fl s' hs=>?_) fun e s' hs=>False.elim hs
 have fin:∀ {σ':St} {H':Hp} {v:V} {u:Value},Inv (ZE9 P w K mg base N qual (ZAB st) f cdv A outer s H E) [] σ' H' s'->RelV v u->Q v H'->CE outer P w H s Q u s' :=
  fun {σ' H' v u} J rv q=>⟨v,H',J.os,J.bare,J.base,J.hok,rv,q⟩
 cases fl with
 | ret u=>
  obtain ⟨v,σ',H',J,rv,q⟩:=hs
  exact fin J rv q
 | next=>
  obtain ⟨σ',H',J,q⟩:=hs
  exact fin (v:=V.non) (u:=Value.none) J rfl q
 | brk=>
  obtain ⟨_,_,_,q⟩:=hs
  exact False.elim q
 | cont=>
  obtain ⟨_,_,_,q⟩:=hs
  exact False.elim q
end
section
variable {X:Cx} {k:Nat} {ps:List Str} {sp:Sp} {x:Str} {p pos:Pos} {e:Expr} {es:List Expr} {t:TA}
theorem pe_fnH (F:FnH X.prog X.w X.K X.mg X.base x k ps sp) (hr:RoomH k X.A) (hg:Gl X x) (ha:PA X (e::es) t) (hdb:(x == ("__debug__":Str))=false:=by decide) (he:starEach (e::es) X.env=(false,eval e X.env)::starEach es X.env:=by rfl) (hpl:(backTo pos (starEach es X.env)).any (·.1)=false:=by rfl) :
  PE X (.Call (.Name x p) (e::es) [] pos) (ZEf sp [] E0 t):=by
 obtain ⟨f,fd,h1,h2,h3,h4⟩:=F.ex
 intro pins s σ H Q I h
 refine wpAny_Call_Name_kw (ZB1 I hg h4 ?_ hdb)
 refine PySem.W.callWith_K (h₀:=X.base) I.ok.mod.kin h3 (thn (ha pos pins s σ H _ I h) fun us s1 ⟨vs,H1,I1,r,q⟩=>⟨I1.kIn,?_⟩) he hpl
 have q':sp vs H1 Q E0:=by rw [<- yAY vs];exact q
 have hl:us.length=ps.length:=by rw [<- r.length];exact h1.len _ _ _ _ q'
 have hb:=h2 s1 us I1.kIn (by rw [yAY];exact hl)
 rw [yAY] at hb
 refine wpAny_call (codeAny_mono (h1.run X.A X.stack s1 H1 ⟨us,[]⟩ us vs Q E0 hr I1.env0 hb r q') fun r s' hq=>?_)
 cases r with
 | error e=>exact False.elim hq
 | ok fl=>
  cases fl with
  | ret u=>exact I1.after hq
  | next=>exact False.elim hq
  | brk=>exact False.elim hq
  | cont=>exact False.elim hq
end
noncomputable def ZEA (K:W.Frag) (ta:TE) (f:Str):TE:=fun σ H Q=>ta σ H fun x H1=>∃ a C d fs v,x=.ref a /\ (H1 a=some (excO a (.ref C) (some d))∨H1 a=some (excM a (.ref C) (some d))) /\ H1 d=some (xdM d fs) /\ ExcC K C /\ PySem.W.hasDictIn K C=true /\ W.findIn K (.ref C) f=some none /\ fs.lookup f=some v /\ Q v H1
theorem pe_xfldM {X:Cx} {e:Expr} {f:Str} {pos:Pos} {ta:TE} (he:PE X e ta) (hb:attributeBase e f X.env (eval e X.env)=eval e X.env):PE X (.Attribute e f pos) (ZEA X.K ta f):=by
 intro pins s σ H Q I h
 refine attr_of hb (thn (he pins s σ H _ I h) fun u s1 zz=>?_)
 obtain ⟨x,H1,I1,rx,a,C,d,fs,v,ex,ea,ed,F,hd,hn,l,q⟩:=zz
 subst ex
 obtain rfl:u=Value.ref a:=rx
 obtain ⟨o,z1,z2,z3,vs,z4⟩:∃ o,s1.heap.get? a=some o /\ o.cls=.ref C /\ o.dict=some d /\ ∃ vs,o.data=.fields vs:=by
  rcases ea with ea | ea
  .obtain ⟨⟨o,z1,z2,z3,vs,z4⟩,_,_⟩:=(show ObjOk X.prog X.w H1 s1.heap a (excO a (.ref C) (some d)) from I1.hok a _ ea)
   exact ⟨o,z1,z2,z3,vs,z4⟩
  .obtain ⟨o,vs,a0,z1,z2,z3,z4,_⟩:=ZCe I1.hok ea
   exact ⟨o,z1,z2,z3,vs,z4⟩
 obtain ⟨⟨mA,hns,r⟩,_,_⟩:=(show ObjOk X.prog X.w H1 s1.heap d (xdM d fs) from I1.hok d _ ed)
 obtain ⟨od,hod,hl⟩:=ZC2 hns
 obtain ⟨u',hu,ru⟩:=RelO.some_of (v:=v) (o:=mA f) (by rw [<- l];exact r f)
 have J:PySem.W.InstAt s1.heap a o C (some od):=⟨z1,z2,by unfold notCls;rw [z4],by rw [z3];exact hod⟩
 obtain ⟨hh,g,dd,t,os⟩:=s1
 exact exc_value I1.kIn F J (PySem.W.findObj_own hd hn rfl (by rw [hl,hu])) (handed_of ru) ⟨v,H1,I1.tok _,ru,q⟩
theorem pe_xfldMK {X:Cx} {e:Expr} {f:Str} {pos:Pos} {ta:TE} (K:W.Frag) (he:PE X e ta) (hb:attributeBase e f X.env (eval e X.env)=eval e X.env) (h:X.K=K:=by rfl):PE X (.Attribute e f pos) (ZEA K ta f):=h ▸ pe_xfldM he hb
end L2
namespace PySem
section
variable {M:Model} {A:Around} {E:Value->Shared->Prop} {s:Shared}
end
end PySem
namespace L2
open PySem PySem.Spec PySem.W PySem.Calls PyProof.Rows
theorem ObjOk.ex {P:Program} {w:World} {H:Hp} {h:Heap} {a:Addr} {o:HO} (x:ObjOk P w H h a o):∃ ob,h.get? a=some ob:=by
 cases o with
 | lst xs=>obtain ⟨_,_,_,_,e⟩:=x;exact ⟨_,e⟩
 | tup xs=>obtain ⟨_,_,_,ob,e,_⟩:=x;exact ⟨_,e⟩
 | dK kvs=>obtain ⟨_,_,_,_,ob,es,ep,e,_⟩:=x;exact ⟨_,e⟩
 | dT kvs=>obtain ⟨_,_,_,_,ob,es,ep,e,_⟩:=x;exact ⟨_,e⟩
 | set S n=>obtain ⟨ob,es,ep,t,e,_⟩:=x;exact ⟨_,e⟩
 | ins C dx fs=>obtain ⟨_,_,_,e,_⟩:=x;exact ⟨_,e⟩
 | own y=>obtain ⟨_,e⟩:=x;exact ⟨_,e⟩
 | xd fs=>obtain ⟨_,⟨_,_,_,e,_⟩,_⟩:=x;exact ⟨_,e⟩
 | rng lo hi=>obtain ⟨_,_,_,e⟩:=x;exact ⟨_,e⟩
 | frz ob u=>obtain ⟨e,_⟩:=x;exact ⟨_,e⟩
 | tbl ps=>exact ⟨_,(show h.get? a=some _ from x)⟩
 | met f y=>exact ⟨_,(show h.get? a=some _ from x)⟩
 | ext φ=>obtain ⟨_,⟨_,e⟩,_⟩:=x;exact ⟨_,e⟩
noncomputable def XF (X:Cx) (E:XK):Value->Shared->Prop:=fun e s'=>∃ (pins:List (Addr×Obj)) (σ:St) (H1:Hp) (s1:Shared) (ea:Addr) (cls:Value) (dd:Option Addr) (H':Hp) (B:Heap) (a0:Value) (fl:Value),
 e=.ref ea /\ Inv X pins σ H1 s1 /\ s'.os=s1.os /\ AllBare s'.gens /\ Un (frs X.stack) [] H1 H' s1.heap s'.heap /\ HOk X.prog X.w H' s'.heap /\ H' ea=none /\ s1.heap.get? ea=none /\
 (fl=.none∨fl=rawInt X.env.locals) /\ B.StaysIn s'.heap /\ B.get? ea=none /\ s'.heap.FunFrames B X.stack /\ s'.heap.TracedAtD B ea cls (a0,dd) fl /\
 (∀ b o,s'.heap.get? b=some o->b∉frs X.stack->(H' b≠none∨∃ o0,s1.heap.get? b=some o0)->B.get? b=some o) /\ E cls dd H'
section
variable {X:Cx} {E:XK}
theorem passL {P:Program} {w:World} (h1:X.prog=P:=by rfl) (h2:X.w=w:=by rfl):ZA0 (CXE P w) (X.wish (XF X E)) E:=by
 subst h1 h2
 intro pins σ H s e s' I hc
 obtain ⟨ea,cls,dd,H',rfl,os,bare,un,hok,⟨B,a0,⟨f1,f2,f3,f4⟩,hout,hnew,hB⟩,hE⟩:=hc
 exact ⟨pins,σ,H,s,ea,cls,dd,H',B,a0,.none,rfl,I.unwish,os,bare,un,hok,hout,hnew,.inl rfl,f1,f2,f3,f4,hB,hE⟩
theorem XF.next {pins:List (Addr×Obj)} {σ:St} {H1 H':Hp} {s1 s':Shared} {h2:Heap} {ea:Addr} {cls:Value} {dd:Option Addr} {B:Heap} {a0 fl:Value} (I:Inv X pins σ H1 s1) (os:s'.os=s1.os) (bare:AllBare s'.gens) (un:Un (frs X.stack) [] H1 H' s1.heap s'.heap) (hok:HOk X.prog X.w H' s'.heap) (hout:H' ea=none) (hnew:s1.heap.get? ea=none)
  (ff:s'.heap.FunFrames B X.stack) (hB:∀ b o,s'.heap.get? b=some o->b∉frs X.stack->(H' b≠none∨∃ o0,s1.heap.get? b=some o0)->B.get? b=some o) (hE:E cls dd H') (hfl:fl=.none∨fl=rawInt X.env.locals)
  (up:s'.heap.UpToSlots h2) (k1:B.StaysIn h2) (k2:B.get? ea=none) (k3:h2.FunFrames B X.stack) (k4:h2.TracedAtD B ea cls (a0,dd) fl):XF X E (.ref ea) { s' with heap:=h2 }:=by
 refine ⟨pins,σ,H1,s1,ea,cls,dd,H',B,a0,fl,rfl,I,os,bare,un.fly hB k1 up ff,hok.fly hB k1 (I.stkFree2 un),hout,hnew,hfl,k1,k2,k3,k4,fun b o ho nb hor=>?_,hE⟩
 have:∃ o1,s'.heap.get? b=some o1:=by
  rcases hor with y | ⟨o0,y⟩
  .obtain ⟨u,hu⟩:=Option.ne_none_iff_exists'.mp y
   exact (hok b u hu).ex
  .exact un.there b o0 y (fun z=>nomatch z)
 obtain ⟨o1,h1⟩:=this
 have h3:=hB b o1 h1 nb hor
 have h4:=k1 b o1 h3
 rw [ho] at h4
 cases h4
 exact h3
theorem passO (hstk:X.stack=X.env::X.outer /\ X.env.frame=some X.env.locals):PassesOwn (model X.prog X.w) X.A X.env (XF X E):=by
 intro e s' hx
 obtain ⟨pins,σ,H1,s1,ea,cls,dd,H',B,a0,fl,rfl,I,os,bare,un,hok,hout,hnew,hfl,f1,f2,f3,f4,hB,hE⟩:=hx
 have af:X.A.frames=some (X.env::X.outer):=by rw [<- hstk.1];exact I.ok.frames
 have back:∀ h2,s'.heap.UpToSlots h2->B.StaysIn h2->h2.FunFrames B X.stack->h2.TracedAtD B ea cls (a0,dd) (rawInt X.env.locals)->cameBackBy (model X.prog X.w) X.A X.env (XF X E) (.ref ea) { s' with heap:=h2 }:=fun h2 up k1 k3 k4=>by
  obtain ⟨⟨oe,vs,T,oT,ts,he,hcls,hd,h1,hnT,hTe,hT,hdT,h3⟩,_⟩:=id k4
  show wpAny _ _ (do
   if (<- field (.ref ea) 1) == .none then unsupported "frame.own-activation:exception-without-traceback"
   setFlight (.ref ea) X.env.frame) _ _ _
  refine wpAny_bind (wpAny_field he hd h1 ?_)
  rw [if_neg (show ¬ ((Value.ref T == Value.none)=true) from by simp),hstk.2]
  refine wpAny_setFlight_someD k1 k3 k4 fun hh m1 m2 m3 m4=>?_
  have up2:s'.heap.UpToSlots hh:=up.trans fun b o hb hn=>⟨o.slots,m4 b o hb hn⟩
  have:=XF.next (s':=s') (h2:=hh) I os bare un hok hout hnew f3 hB hE (.inr rfl) up2 m1 f2 m2 m3
  exact this
 rcases hfl with rfl | rfl
 .have ff:Heap.FlyingD B (X.env::X.outer) ea cls (a0,dd) s'.heap:=⟨f1,f2,by rw [<- hstk.1];exact f3,f4⟩
  refine ZBS af hstk.2 ff fun h2 hH up=>?_
  obtain ⟨k1,_,k3,k4⟩:=hH
  exact back h2 up k1 (by rw [hstk.1];exact k3) k4
 .refine wpAny_noteFrame_againD hstk.2 f4 ?_
  exact back s'.heap (fun b o hb hn=>⟨o.slots,hb⟩) f1 f3 f4
end
section
variable {P:Program} {w:World} {K:W.Frag} {mg:Str->Option Value} {base:Heap} {N:List Str} {qual:Str} {scope:Scope} {f:Addr} {cd:Value} {A:Around} {outer:List Env} {s:Shared} {H:Hp} {E:XK}
theorem XF.xe {e:Value} {s':Shared} (hx:XF (cxOf (CXE P w) P w K mg base N qual scope f cd A outer s H E) E e s'):(cxOf (CXE P w) P w K mg base N qual scope f cd A outer s H E).xe e s':=by
 obtain ⟨pins,σ,H1,s1,ea,cls,dd,H',B,a0,fl,rfl,I,os,bare,un,hok,hout,hnew,hfl,f1,f2,f3,f4,hB,hE⟩:=hx
 rcases hfl with rfl | rfl
 .exact wpAny_leaves_onD (base:=B) I.ok.frames rfl ⟨f1,f2,f3,f4⟩ fun h' fl' up=>ZEO I un hok hB f3 up fl' hout hnew os bare hE
 .show wpAny _ _ (leaving _ _) _ _ _
  unfold leaving
  refine wpAny_bind (wpAny_noteFrame_againD rfl f4 ?_)
  refine wpAny_landsD (L:=(cxOf (CXE P w) P w K mg base N qual scope f cd A outer s H E).env.locals) ⟨f1,f2,f3,f4⟩ fun h' hfl up=>?_
  obtain ⟨k1,k2,⟨_,_,k3⟩,k4⟩:=hfl
  exact ZEO I un hok hB f3 up ⟨k1,k2,k3,k4⟩ hout hnew os bare hE
theorem PS.inX {st:Stmt} {t:TS} (h:PS ((cxOf (CXE P w) P w K mg base N qual scope f cd A outer s H E).wish (XF (cxOf (CXE P w) P w K mg base N qual scope f cd A outer s H E) E)) st t):PS (cxOf (CXE P w) P w K mg base N qual scope f cd A outer s H E) st t:=fun pins s1 σ H1 D I hw=>
 wpAny_mono (h pins s1 σ H1 D (I.wish _) hw) (fun _ _ q=>q.unwish) fun _ _ z=>z.xe
end
theorem pe_bmK (K:W.Frag) {X:Cx} {T id:String} {name:Str} {o e:Expr} {es:List Expr} {to:TE} {t:TA} {r:V->List V->Hp->VK->Prop} {apos cpos:Pos} (pa:PlainAttrs T) (slot:Slot T name id) (hty:typeOf (.builtin id)=pure (.type "method_descriptor")) (hm:MtR X id r) (ho:PE X o to) (ha:PA X (e::es) t)
  (hbase:attributeBase o name X.env (eval o X.env)=eval o X.env:=by rfl)
  (hfew:((backTo cpos (starEach (e::es) X.env)).all (fun x=>!x.1) && (backToKw cpos (keywordEach [] X.env)).all (fun x=>x.1.isSome)
   && decide ((e::es).length+([]:List Keyword).length+(if ([]:List Keyword).isEmpty then 0 else 1) < 30))=true:=by rfl)
  (hline:(apos.endLine == cpos.line)=true:=by rfl) (hs:starEach (e::es) X.env=(false,eval e X.env)::starEach es X.env:=by rfl) (hplain:(backTo cpos (starEach es X.env)).any (·.1)=false:=by rfl) (h:X.K=K:=by rfl) :
  PE X (.Call (.Attribute o name apos) (e::es) [] cpos) (tBM K T r to t):=h ▸ ZEn pa slot hty hm ho ha hbase hfew hline hs hplain
noncomputable def Ehit0 (K:W.Frag) (HC:Addr) (ts:TS) (D:Ends):St->XK:=fun σ cls dd H'=>exmOne K cls (.ref HC)=some true /\ ts D σ H'
noncomputable def tTry0 (K:W.Frag) (HC:Addr) (tb:(St->XK)->TS) (ts:TS):TS:=fun D σ H=>tb (Ehit0 K HC ts D) D σ H
section
variable {X:Cx} {CX:CXT} {k:Nat} {ps:List Str} {sp:Sp} {E:St->XK} {m:Str} {C:Addr} {pos apos:Pos} {o:Expr} {ta:TE}
end
end L2
namespace PySem
section
variable {M:Model} {A:Around} {E:Value->Shared->Prop} {s:Shared}
end
end PySem
namespace L2
open PySem PySem.Spec PySem.W PySem.Calls PyProof.Rows
section
variable {X:Cx} {E:XK}
end
section
variable {P:Program} {w:World} {K:W.Frag} {mg:Str->Option Value} {base:Heap} {N:List Str} {qual:Str} {scope:Scope} {f:Addr} {cd:Value} {A:Around} {outer:List Env} {s:Shared} {H:Hp} {E:XK}
end
section
variable {X:Cx} {E:XK} {CX:CXT} {k:Nat} {C:Addr} {ps:List Str} {sp:Sp} {x:Str} {np cpos pos:Pos} {e:Expr} {es:List Expr} {t:TA}
end
end L2
namespace L2S
open PySem PyProof.Rows
noncomputable def kn (f:Keyed->Int) (xs:Array Keyed) (i:Nat):Int:=((xs[i]?).map f).getD 0
theorem ZAx {f:Keyed->Int} {xs ys:Array Keyed} {i j:Nat} (h:xs[i]?=ys[j]?):kn f xs i=kn f ys j:=by unfold kn;rw [h]
structure Asks (M:Model) (A:Around) (E:Value->Shared->Prop) (s:Shared) (κ:SortKind) (a₀:Array Keyed) (f:Keyed->Int):Prop where
 lt:∀ x y,x∈a₀.toList->y∈a₀.toList->∀ (st:SortSt) (Q:Option Bool->SortSt->Prop),kindOf st=κ->Q (some (decide (f x < f y))) st->wpS M A E s (lt' x y) Q st
structure SB (κ:SortKind) (a₀:Array Keyed) (st:SortSt):Prop where
 perm:(arrOf st).Perm a₀
 kind:kindOf st=κ
 fail:failedOf st=none
theorem SB.size {κ:SortKind} {a₀:Array Keyed} {st:SortSt} (h:SB κ a₀ st):(arrOf st).size=a₀.size:=h.perm.size_eq
theorem SB.arr {κ:SortKind} {a₀:Array Keyed} {st:SortSt} (h:SB κ a₀ st) {xs:Array Keyed} (hp:xs.Perm (arrOf st)):SB κ a₀ (setArr st xs):=⟨hp.trans h.perm,h.kind,h.fail⟩
theorem SB.get {κ:SortKind} {a₀:Array Keyed} {st:SortSt} {f:Keyed->Int} (h:SB κ a₀ st) {i:Nat} (hi:i < a₀.size):∃ x,(arrOf st)[i]?=some x /\ x∈a₀.toList /\ kn f (arrOf st) i=f x:=by
 have hi':i < (arrOf st).size:=by rw [h.size];exact hi
 refine ⟨(arrOf st)[i],getElem?_pos _ i hi',(Array.perm_iff_toList_perm.mp h.perm).mem_iff.mp (by simp),?_⟩
 unfold kn
 rw [getElem?_pos _ i hi']
 rfl
noncomputable def Up (f:Keyed->Int) (xs:Array Keyed) (lo n:Nat):Prop:=∀ i j,lo <= i->i <= j->j < lo+n->kn f xs i <= kn f xs j
noncomputable def Down (f:Keyed->Int) (xs:Array Keyed) (lo n:Nat):Prop:=∀ i j,lo <= i->i <= j->j < lo+n->kn f xs j <= kn f xs i
noncomputable def Kept (lo:Nat) (xs ys:Array Keyed):Prop:=∀ i,i < lo->ys[i]?=xs[i]?
theorem Kept.refl {lo:Nat} {xs:Array Keyed}:Kept lo xs xs:=fun _ _=>rfl
theorem Kept.trans {lo:Nat} {xs ys zs:Array Keyed} (a:Kept lo xs ys) (b:Kept lo ys zs):Kept lo xs zs:=fun i h=>(b i h).trans (a i h)
theorem ZC4 {f:Keyed->Int} {xs:Array Keyed} {i j:Nat} (hj:j <= xs.size) (k:Nat):kn f (mirror xs i j ((j-i) / 2)) k=if i <= k /\ k < j then kn f xs (i+j-1-k) else kn f xs k:=by
 have e:=getElem?_mirror_all (i:=i) hj k
 split
 .rename_i h;rw [if_pos h] at e;exact ZAx e
 .rename_i h;rw [if_neg h] at e;exact ZAx e
theorem ZB2 {lo:Nat} {xs:Array Keyed} {i j:Nat} (hj:j <= xs.size) (hi:lo <= i):Kept lo xs (mirror xs i j ((j-i) / 2)):=fun k hk=>by
 rw [getElem?_mirror_all hj k,if_neg (by omega)]
theorem ZC3 {f:Keyed->Int} {xs:Array Keyed} {i j:Nat} (hj:j <= xs.size) (he:∀ k,i <= k->k < j->kn f xs k=kn f xs (j-1)) (k:Nat):kn f (mirror xs i j ((j-i) / 2)) k=kn f xs k:=by
 rw [ZC4 hj]
 split
 .rename_i h;rw [he _ (by omega) (by omega),he k h.1 h.2]
 .rfl
section
variable {M:Model} {A:Around} {E:Value->Shared->Prop} {s:Shared} {κ:SortKind} {a₀:Array Keyed} {f:Keyed->Int}
theorem ZDr {st:SortSt} {i j:Nat} {Q:Option Bool->SortSt->Prop} (L:Asks M A E s κ a₀ f) (hB:SB κ a₀ st) (hi:i < a₀.size) (hj:j < a₀.size)
  (h:Q (some (decide (kn f (arrOf st) i < kn f (arrOf st) j))) st):wpS M A E s (ltAt' i j) Q st:=by
 obtain ⟨x,e1,m1,k1⟩:=hB.get (f:=f) hi
 obtain ⟨y,e2,m2,k2⟩:=hB.get (f:=f) hj
 rw [ltAt'_eq]
 refine wpS_bind (wpS_get ?_)
 show wpS _ _ _ _ (elem' (arrOf st) i >>= fun x=>elem' (arrOf st) j >>= fun y=>lt' x y) Q st
 rw [elem'_eq,elem'_eq,e1,e2]
 refine wpS_bind (wpS_pure (wpS_bind (wpS_pure (L.lt x y m1 m2 st Q hB.kind ?_))))
 rw [<- k1,<- k2]
 exact h
theorem ZEE {st:SortSt} {i j:Nat} {Q:Unit->SortSt->Prop} (h:Q () (setArr st (mirror (arrOf st) i j ((j-i) / 2)))):wpS M A E s (reverseSlice' i j) Q st:=by
 rw [reverseSlice'_eq]
 exact wpS_modify h
noncomputable def ZCJ (lo a nrem:Nat):StateT SortSt Sem AscSt :=
 forIn [a:nrem] ((none,a):AscSt) fun _ c=>do
  let r <- ltAt' (lo+c.snd) (lo+c.snd-1)
  match r with
  | some b=>if b=true then pure (ForInStep.done (none,c.snd)) else pure (ForInStep.yield (none,c.snd+1))
  | _=>pure (ForInStep.done (some none,c.snd))
noncomputable def ZDu (lo n nrem:Nat):StateT SortSt Sem (Option Nat):=do
 reverseSlice' lo (lo+n)
 let c <- ZCJ lo n nrem
 match c.fst with
 | some r=>pure r
 | none=>pure (some c.snd)
noncomputable def ZCI (lo n nrem:Nat):StateT SortSt Sem DescSt :=
 forIn [n:nrem] ((none,n,0):DescSt) fun _ c=>do
  let r <- ltAt' (lo+c.snd.fst) (lo+c.snd.fst-1)
  match r with
  | some b=>
   if b=true then
    if c.snd.snd > 0 then do
     reverseSlice' (lo+c.snd.fst-(c.snd.snd+1)) (lo+c.snd.fst)
     pure (ForInStep.yield (none,c.snd.fst+1,0))
    else pure (ForInStep.yield (none,c.snd.fst+1,0))
   else do
    let r2 <- ltAt' (lo+c.snd.fst-1) (lo+c.snd.fst)
    match r2 with
    | some b2=>
     if b2=true then pure (ForInStep.done (none,c.snd.fst,c.snd.snd))
     else pure (ForInStep.yield (none,c.snd.fst+1,c.snd.snd+1))
    | _=>pure (ForInStep.done (some none,c.snd.fst,c.snd.snd))
  | _=>pure (ForInStep.done (some none,c.snd.fst,c.snd.snd))
noncomputable def ZCf (lo n nrem:Nat):StateT SortSt Sem (Option Nat):=do
 liftM (rule "list.sort.descending-run")
 let c <- ZCI lo (n+1) nrem
 match c.fst with
 | some r=>pure r
 | none=>
  if c.snd.snd > 0 then do
   reverseSlice' (lo+c.snd.fst-(c.snd.snd+1)) (lo+c.snd.fst)
   ZDu lo c.snd.fst nrem
  else ZDu lo c.snd.fst nrem
theorem bnd {α β:Type} (m:StateT SortSt Sem α) {g h:α->StateT SortSt Sem β} (e:∀ a,g a=h a):(m >>= g)=(m >>= h):=by rw [show g=h from funext e]
theorem count_eq (lo nrem:Nat):countRun' lo nrem=(do
  let c <- ZCJ lo 1 nrem
  match c.fst with
  | some r=>pure r
  | none=>
   if (c.snd == nrem)=true then pure (some c.snd)
   else if c.snd > 1 then do
    let r <- ltAt' lo (lo+c.snd-1)
    match r with
    | some b=>if b=true then pure (some c.snd) else do
      reverseSlice' lo (lo+c.snd)
      ZCf lo c.snd nrem
    | _=>pure none
   else ZCf lo c.snd nrem):=by
 have tl:∀ n2:Nat,ZDu lo n2 nrem=(reverseSlice' lo (lo+n2) >>= fun _=>ZCJ lo n2 nrem >>= fun c=>match c.fst with | some r=>pure r | none=>pure (some c.snd)):=fun _=>rfl
 rw [countRun'_eq]
 refine bnd (ZCJ lo 1 nrem) fun c=>?_
 obtain ⟨r,n⟩:=c
 cases r with
 | some r=>rfl
 | none=>
  have dn:∀ n1:Nat,(liftM (rule "list.sort.descending-run") >>= fun _=>ZCI lo (n1+1) nrem >>= fun c=>match c.fst with
    | some r=>pure r
    | none=>if c.snd.snd > 0 then (reverseSlice' (lo+c.snd.fst-(c.snd.snd+1)) (lo+c.snd.fst) >>= fun _=>ZDu lo c.snd.fst nrem) else ZDu lo c.snd.fst nrem)=ZCf lo n1 nrem:=fun _=>rfl
  dsimp only
  split
  .rfl
  .split
   .refine bnd (ltAt' lo (lo+n-1)) fun x=>?_
    cases x with
    | none=>rfl
    | some rose=>
     dsimp only
     split
     .rfl
     .refine bnd _ fun _=>?_
      rw [<- dn]
      refine bnd _ fun _=>bnd (ZCI lo (n+1) nrem) fun s2=>?_
      obtain ⟨r2,n2,q2⟩:=s2
      cases r2 with
      | some r2=>rfl
      | none=>
       dsimp only
       split
       .refine bnd _ fun _=>?_
        rw [tl]
        refine bnd _ fun _=>bnd (ZCJ lo n2 nrem) fun s3=>?_
        obtain ⟨r3,n3⟩:=s3
        cases r3 <;> rfl
       .rw [tl]
        refine bnd _ fun _=>bnd (ZCJ lo n2 nrem) fun s3=>?_
        obtain ⟨r3,n3⟩:=s3
        cases r3 <;> rfl
   .rw [<- dn]
    refine bnd _ fun _=>bnd (ZCI lo (n+1) nrem) fun s2=>?_
    obtain ⟨r2,n2,q2⟩:=s2
    cases r2 with
    | some r2=>rfl
    | none=>
     dsimp only
     split
     .refine bnd _ fun _=>?_
      rw [tl]
      refine bnd _ fun _=>bnd (ZCJ lo n2 nrem) fun s3=>?_
      obtain ⟨r3,n3⟩:=s3
      cases r3 <;> rfl
     .rw [tl]
      refine bnd _ fun _=>bnd (ZCJ lo n2 nrem) fun s3=>?_
      obtain ⟨r3,n3⟩:=s3
      cases r3 <;> rfl
theorem up_one {xs:Array Keyed} {lo:Nat}:Up f xs lo 1:=fun i j h1 h2 h3=>by rw [show i=j by omega];exact Int.le_refl _
theorem up_loop {st:SortSt} {lo a nrem:Nat} {Q:AscSt->SortSt->Prop} (L:Asks M A E s κ a₀ f) (hn:lo+nrem <= a₀.size) (ha:1 <= a) (han:a <= nrem) (hB:SB κ a₀ st) (hs:Up f (arrOf st) lo a)
  (h:∀ n,a <= n->n <= nrem->Up f (arrOf st) lo n->(n=nrem∨kn f (arrOf st) (lo+n) < kn f (arrOf st) (lo+n-1))->Q (none,n) st):wpS M A E s (ZCJ lo a nrem) Q st:=by
 unfold ZCJ
 refine wpS_forRange (I:=fun x c st'=>st'=st /\ c=(none,x) /\ Up f (arrOf st) lo x) ?_ ?_ ⟨rfl,rfl,hs⟩
 .rintro x c st' hax hxn ⟨rfl,rfl,hs'⟩
  dsimp only
  refine wpS_bind (ZDr L hB (by omega) (by omega) ?_)
  by_cases hl:kn f (arrOf st') (lo+x) < kn f (arrOf st') (lo+x-1)
  .rw [decide_eq_true hl]
   exact wpS_pure (h x hax (by omega) hs' (.inr hl))
  .rw [decide_eq_false hl]
   refine wpS_pure ⟨rfl,rfl,fun i j h1 h2 h3=>?_⟩
   by_cases hj:j < lo+x
   .exact hs' i j h1 h2 hj
   .by_cases hi:i=j
    .rw [hi];exact Int.le_refl _
    .have e1:=hs' i (lo+x-1) h1 (by omega) (by omega)
     rw [show j=lo+x by omega]
     omega
 .rintro c st' ⟨rfl,rfl,hs'⟩
  rw [Nat.max_eq_right han] at hs' ⊢
  exact h nrem han (yAA _) hs' (.inl rfl)
noncomputable abbrev ZE0 (κ:SortKind) (a₀:Array Keyed) (f:Keyed->Int) (lo nrem:Nat) (xs:Array Keyed) (pd:Array (Nat×Nat×Nat)) (Q:Option Nat->SortSt->Prop):Prop :=
 ∀ m st',SB κ a₀ st'->1 <= m->m <= nrem->Up f (arrOf st') lo m->Kept lo xs (arrOf st')->pendingOf st'=pd->Q (some m) st'
theorem tail_l {st:SortSt} {lo n nrem:Nat} {xs:Array Keyed} {pd:Array (Nat×Nat×Nat)} {Q:Option Nat->SortSt->Prop} (L:Asks M A E s κ a₀ f) (hn:lo+nrem <= a₀.size) (h1:1 <= n) (hnn:n <= nrem) (hB:SB κ a₀ st)
  (hs:Down f (arrOf st) lo n) (hk:Kept lo xs (arrOf st)) (hp:pendingOf st=pd) (h:ZE0 κ a₀ f lo nrem xs pd Q):wpS M A E s (ZDu lo n nrem) Q st:=by
 unfold ZDu
 have hsz:lo+n <= (arrOf st).size:=by rw [hB.size];omega
 refine wpS_bind (ZEE ?_)
 have hB':SB κ a₀ (setArr st (mirror (arrOf st) lo (lo+n) ((lo+n-lo) / 2))):=hB.arr (mirror_perm _ _ _ _)
 have hk':Kept lo xs (mirror (arrOf st) lo (lo+n) ((lo+n-lo) / 2)):=hk.trans (ZB2 hsz (yAA _))
 refine wpS_bind (up_loop L hn h1 hnn hB' (fun i j z1 z2 z3=>?_) fun m hm1 hm2 hsm _=>wpS_pure (h m _ hB' (by omega) hm2 hsm hk' hp))
 show kn f (mirror (arrOf st) lo (lo+n) _) i <= kn f (mirror (arrOf st) lo (lo+n) _) j
 rw [ZC4 hsz,ZC4 hsz,if_pos (by omega),if_pos (by omega)]
 exact hs _ _ (by omega) (by omega) (by omega)
theorem down_loop {st:SortSt} {lo n nrem:Nat} {xs:Array Keyed} {pd:Array (Nat×Nat×Nat)} {Q:DescSt->SortSt->Prop} (L:Asks M A E s κ a₀ f) (hn:lo+nrem <= a₀.size) (h1:1 <= n) (hnn:n <= nrem) (hB:SB κ a₀ st)
  (hs:Down f (arrOf st) lo n) (hk:Kept lo xs (arrOf st)) (hp:pendingOf st=pd)
  (h:∀ m q st',SB κ a₀ st'->n <= m->m <= nrem->Down f (arrOf st') lo m->q+1 <= m->(∀ i,lo+m-(q+1) <= i->i < lo+m->kn f (arrOf st') i=kn f (arrOf st') (lo+m-1))->Kept lo xs (arrOf st')->pendingOf st'=pd->Q (none,m,q) st') :
  wpS M A E s (ZCI lo n nrem) Q st:=by
 unfold ZCI
 refine wpS_forRange (I:=fun x c st'=>∃ q,c=(none,x,q) /\ SB κ a₀ st' /\ Down f (arrOf st') lo x /\ q+1 <= x /\ (∀ i,lo+x-(q+1) <= i->i < lo+x->kn f (arrOf st') i=kn f (arrOf st') (lo+x-1)) /\ Kept lo xs (arrOf st') /\ pendingOf st'=pd) ?_ ?_
  ⟨0,rfl,hB,hs,by omega,fun i z1 z2=>by rw [show i=lo+n-1 by omega],hk,hp⟩
 .rintro x c st' hax hxn ⟨q,rfl,hB',hs',hq,he,hk',hp'⟩
  dsimp only
  have hsz:lo+x <= (arrOf st').size:=by rw [hB'.size];omega
  refine wpS_bind (ZDr L hB' (by omega) (by omega) ?_)
  by_cases hl:kn f (arrOf st') (lo+x) < kn f (arrOf st') (lo+x-1)
  .rw [decide_eq_true hl]
   have more:∀ ys:Array Keyed,(∀ k,kn f ys k=kn f (arrOf st') k)->Down f ys lo (x+1):=fun ys hy i j z1 z2 z3=>by
    rw [hy,hy]
    by_cases hj:j < lo+x
    .exact hs' i j z1 z2 hj
    .by_cases hi:i=j
     .rw [hi];exact Int.le_refl _
     .have e1:=hs' i (lo+x-1) z1 (by omega) (by omega)
      rw [show j=lo+x by omega]
      omega
   dsimp only
   rw [if_pos rfl]
   by_cases hq0:q > 0
   .rw [if_pos hq0]
    refine wpS_bind (ZEE (wpS_pure ⟨0,rfl,hB'.arr (mirror_perm _ _ _ _),more _ (ZC3 hsz he),by omega,fun i z1 z2=>by rw [show i=lo+(x+1)-1 by omega],hk'.trans (ZB2 hsz (by omega)),hp'⟩))
   .rw [if_neg hq0]
    exact wpS_pure ⟨0,rfl,hB',more _ (fun _=>rfl),by omega,fun i z1 z2=>by rw [show i=lo+(x+1)-1 by omega],hk',hp'⟩
  .rw [decide_eq_false hl]
   dsimp only
   rw [if_neg (by decide)]
   refine wpS_bind (ZDr L hB' (by omega) (by omega) ?_)
   by_cases hg:kn f (arrOf st') (lo+x-1) < kn f (arrOf st') (lo+x)
   .rw [decide_eq_true hg]
    exact wpS_pure (h x q st' hB' hax (by omega) hs' hq he hk' hp')
   .rw [decide_eq_false hg]
    have ex:kn f (arrOf st') (lo+x)=kn f (arrOf st') (lo+x-1):=by omega
    refine wpS_pure ⟨q+1,rfl,hB',fun i j z1 z2 z3=>?_,by omega,fun i z1 z2=>?_,hk',hp'⟩
    .by_cases hj:j < lo+x
     .exact hs' i j z1 z2 hj
     .by_cases hi:i=j
      .rw [hi];exact Int.le_refl _
      .have e1:=hs' i (lo+x-1) z1 (by omega) (by omega)
       rw [show j=lo+x by omega]
       omega
    .rw [show lo+(x+1)-1=lo+x by omega]
     by_cases hi:i=lo+x
     .rw [hi]
     .rw [ex];exact he i (by omega) (by omega)
 .rintro c st' ⟨q,rfl,hB',hs',hq,he,hk',hp'⟩
  rw [Nat.max_eq_right hnn] at hs' hq he ⊢
  exact h nrem q st' hB' hnn (yAA _) hs' hq he hk' hp'
theorem down_part {st:SortSt} {lo n nrem:Nat} {xs:Array Keyed} {pd:Array (Nat×Nat×Nat)} {Q:Option Nat->SortSt->Prop} (L:Asks M A E s κ a₀ f) (hn:lo+nrem <= a₀.size) (hnn:n+1 <= nrem) (hB:SB κ a₀ st)
  (hs:Down f (arrOf st) lo (n+1)) (hk:Kept lo xs (arrOf st)) (hp:pendingOf st=pd) (h:ZE0 κ a₀ f lo nrem xs pd Q):wpS M A E s (ZCf lo n nrem) Q st:=by
 unfold ZCf
 refine wpS_bind (wpS_lift (wpAny_rule ⟨rfl,?_⟩))
 refine wpS_bind (down_loop L hn (by omega) hnn hB hs hk hp fun m q st' hB' hm1 hm2 hs' hq he hk' hp'=>?_)
 dsimp only
 have hsz:lo+m <= (arrOf st').size:=by rw [hB'.size];omega
 by_cases hq0:q > 0
 .rw [if_pos hq0]
  refine wpS_bind (ZEE (tail_l L hn (by omega) hm2 (hB'.arr (mirror_perm _ _ _ _)) (fun i j z1 z2 z3=>?_) (hk'.trans (ZB2 hsz (by omega))) hp' h))
  show kn f (mirror (arrOf st') _ _ _) j <= kn f (mirror (arrOf st') _ _ _) i
  rw [ZC3 hsz he,ZC3 hsz he]
  exact hs' i j z1 z2 z3
 .rw [if_neg hq0]
  exact tail_l L hn (by omega) hm2 hB' hs' hk' hp' h
theorem count_run {st:SortSt} {lo nrem:Nat} {Q:Option Nat->SortSt->Prop} (L:Asks M A E s κ a₀ f) (hn:lo+nrem <= a₀.size) (h1:1 <= nrem) (hB:SB κ a₀ st)
  (h:ZE0 κ a₀ f lo nrem (arrOf st) (pendingOf st) Q):wpS M A E s (countRun' lo nrem) Q st:=by
 rw [count_eq]
 refine wpS_bind (up_loop L hn (yAA 1) h1 hB up_one fun n hn1 hn2 hsn hor=>?_)
 dsimp only
 by_cases hnn:n=nrem
 .rw [if_pos (by simpa using hnn)]
  exact wpS_pure (h n st hB hn1 hn2 hsn .refl rfl)
 rw [if_neg (by simpa using hnn)]
 have hlt:=hor.resolve_left hnn
 by_cases hgt:n > 1
 .rw [if_pos hgt]
  refine wpS_bind (ZDr L hB (by omega) (by omega) ?_)
  by_cases hr:kn f (arrOf st) lo < kn f (arrOf st) (lo+n-1)
  .rw [decide_eq_true hr]
   exact wpS_pure (h n st hB hn1 hn2 hsn .refl rfl)
  rw [decide_eq_false hr]
  dsimp only
  rw [if_neg (by decide)]
  have hsz:lo+n <= (arrOf st).size:=by rw [hB.size];omega
  have hall:∀ k,lo <= k->k < lo+n->kn f (arrOf st) k=kn f (arrOf st) (lo+n-1):=fun k k1 k2=>by
   have a1:=hsn lo k (yAA _) k1 k2
   have a2:=hsn k (lo+n-1) k1 (by omega) (by omega)
   omega
  refine wpS_bind (ZEE (down_part L hn (by omega) (hB.arr (mirror_perm _ _ _ _)) (fun i j z1 z2 z3=>?_) (ZB2 hsz (yAA _)) rfl h))
  show kn f (mirror (arrOf st) _ _ _) j <= kn f (mirror (arrOf st) _ _ _) i
  rw [ZC3 hsz hall,ZC3 hsz hall]
  by_cases hj:j < lo+n
  .rw [hall i z1 (by omega),hall j (by omega) hj];exact Int.le_refl _
  .by_cases hi:i=j
   .rw [hi];exact Int.le_refl _
   .rw [hall i z1 (by omega),show j=lo+n by omega];exact Int.le_of_lt hlt
 .rw [if_neg hgt]
  have hn1':n=1:=by omega
  subst hn1'
  refine down_part L hn (by omega) hB (fun i j z1 z2 z3=>?_) .refl rfl h
  by_cases hi:i=j
  .rw [hi];exact Int.le_refl _
  .have e1:i=lo:=by omega
   have e2:j=lo+1:=by omega
   subst e1 e2
   exact Int.le_of_lt hlt
theorem kn_bubble {xs:Array Keyed} {src d:Nat} (hs:src < xs.size) (hd:d <= src) (k:Nat):kn f (bubble xs src d) k=if k=src-d then kn f xs src else if src-d < k /\ k <= src then kn f xs (k-1) else kn f xs k:=by
 have e:=getElem?_bubble hs d hd k
 split
 .rename_i h;rw [if_pos h] at e;exact ZAx e
 .rename_i h
  rw [if_neg h] at e
  split
  .rename_i h2;rw [if_pos h2] at e;exact ZAx e
  .rename_i h2;rw [if_neg h2] at e;exact ZAx e
theorem kept_bubble {lo:Nat} {xs:Array Keyed} {src d:Nat} (hs:src < xs.size) (hd:lo+d <= src):Kept lo xs (bubble xs src d):=fun k hk=>by
 rw [getElem?_bubble hs d (by omega) k,if_neg (by omega),if_neg (by omega)]
theorem bin_sort {st:SortSt} {lo n ok:Nat} {Q:Bool->SortSt->Prop} (L:Asks M A E s κ a₀ f) (hn:lo+n <= a₀.size) (hok:ok <= n) (hB:SB κ a₀ st) (hs:Up f (arrOf st) lo ok)
  (h:∀ st',SB κ a₀ st'->Up f (arrOf st') lo n->Kept lo (arrOf st) (arrOf st')->pendingOf st'=pendingOf st->Q true st'):wpS M A E s (binarySort' lo n ok) Q st:=by
 rw [binarySort'_eq]
 refine wpS_bind (wpS_mono (wpS_forRange (I:=fun k c st'=>c=(none,()) /\ SB κ a₀ st' /\ Up f (arrOf st') lo (min k n) /\ Kept lo (arrOf st) (arrOf st') /\ pendingOf st'=pendingOf st)
  (Q:=fun c st'=>c=(none,()) /\ SB κ a₀ st' /\ Up f (arrOf st') lo n /\ Kept lo (arrOf st) (arrOf st') /\ pendingOf st'=pendingOf st) ?_ ?_ ?_) ?_)
 .rintro k c st' hak hkn ⟨rfl,hB',hs',hk',hp'⟩
  rw [show min k n=k by omega] at hs'
  have hk:lo+k < a₀.size:=by omega
  refine wpS_bind (wpS_mono (wpS_forRange (I:=fun x c st2=>st2=st' /\ ∃ l r,c=(none,l,r) /\ l <= r /\ r <= k /\ r-l <= k-x /\
    (∀ i,i < l->kn f (arrOf st') (lo+i) <= kn f (arrOf st') (lo+k)) /\ (∀ i,r <= i->i < k->kn f (arrOf st') (lo+k) < kn f (arrOf st') (lo+i)))
   (Q:=fun c st2=>st2=st' /\ ∃ l r,c=(none,l,r) /\ l <= k /\ (∀ i,i < l->kn f (arrOf st') (lo+i) <= kn f (arrOf st') (lo+k)) /\ (∀ i,l <= i->i < k->kn f (arrOf st') (lo+k) < kn f (arrOf st') (lo+i))) ?_ ?_ ?_) ?_)
  .rintro x c st2 _ hxk ⟨rfl,l,r,rfl,hlr,hrk,hm,hlo,hhi⟩
   dsimp only
   by_cases hge:l≥r
   .rw [if_pos hge]
    have:l=r:=by omega
    subst this
    exact wpS_pure ⟨rfl,l,l,rfl,hrk,hlo,hhi⟩
   rw [if_neg hge]
   refine wpS_bind (ZDr L hB' hk (by omega) ?_)
   by_cases hl:kn f (arrOf st2) (lo+k) < kn f (arrOf st2) (lo+(l+r) / 2)
   .rw [decide_eq_true hl]
    refine wpS_pure ⟨rfl,l,(l+r) / 2,rfl,by omega,by omega,by omega,hlo,fun i z1 z2=>?_⟩
    exact Int.lt_of_lt_of_le hl (hs' _ _ (by omega) (by omega) (by omega))
   .rw [decide_eq_false hl]
    refine wpS_pure ⟨rfl,(l+r) / 2+1,r,rfl,by omega,by omega,by omega,fun i z1=>?_,hhi⟩
    have e1:=hs' (lo+i) (lo+(l+r) / 2) (by omega) (by omega) (by omega)
    omega
  .rintro c st2 ⟨rfl,l,r,rfl,hlr,hrk,hm,hlo,hhi⟩
   have:l=r:=by omega
   subst this
   exact ⟨rfl,l,l,rfl,hrk,hlo,hhi⟩
  .exact ⟨rfl,0,k,rfl,by omega,by omega,by omega,fun i hi=>by omega,fun i z1 z2=>by omega⟩
  .rintro c st2 ⟨rfl,l,r,rfl,hlk,hlo,hhi⟩
   show wpS _ _ _ _ (moveDown' (lo+k) (lo+l) >>= fun _=>pure (ForInStep.yield (none,()))) _ _
   rw [moveDown'_eq,show lo+k-(lo+l)=k-l by omega]
   have hks:lo+k < (arrOf st2).size:=by rw [hB'.size];exact hk
   refine wpS_bind (wpS_modify (wpS_pure ⟨rfl,hB'.arr (bubble_perm _ _ _),?_,hk'.trans (kept_bubble hks (by omega)),hp'⟩))
   rw [show min (k+1) n=k+1 by omega]
   intro i j z1 z2 z3
   show kn f (bubble (arrOf st2) (lo+k) (k-l)) i <= kn f (bubble (arrOf st2) (lo+k) (k-l)) j
   have at':∀ m,lo <= m->m < lo+k+1->kn f (bubble (arrOf st2) (lo+k) (k-l)) m=if m < lo+l then kn f (arrOf st2) m else if m=lo+l then kn f (arrOf st2) (lo+k) else kn f (arrOf st2) (m-1):=fun m m1 m2=>by
    rw [kn_bubble hks (by omega)]
    by_cases c1:m < lo+l
    .rw [if_pos c1,if_neg (by omega),if_neg (by omega)]
    .rw [if_neg c1]
     by_cases c2:m=lo+l
     .rw [if_pos c2,if_pos (by omega)]
     .rw [if_neg c2,if_neg (by omega),if_pos (by omega)]
   rw [at' i z1 (by omega),at' j (by omega) (by omega)]
   have lo':∀ m,lo <= m->m < lo+l->kn f (arrOf st2) m <= kn f (arrOf st2) (lo+k):=fun m m1 m2=>by
    have:=hlo (m-lo) (by omega)
    rw [show lo+(m-lo)=m by omega] at this
    exact this
   have hi':∀ m,lo+l <= m->m < lo+k->kn f (arrOf st2) (lo+k) < kn f (arrOf st2) m:=fun m m1 m2=>by
    have:=hhi (m-lo) (by omega) (by omega)
    rw [show lo+(m-lo)=m by omega] at this
    exact this
   by_cases c1:j < lo+l
   .rw [if_pos c1,if_pos (by omega)]
    exact hs' i j z1 z2 (by omega)
   rw [if_neg c1]
   by_cases c2:j=lo+l
   .rw [if_pos c2]
    by_cases c3:i < lo+l
    .rw [if_pos c3];exact lo' i z1 c3
    .rw [if_neg c3,if_pos (by omega)];exact Int.le_refl _
   .rw [if_neg c2]
    by_cases c3:i < lo+l
    .rw [if_pos c3];exact hs' i (j-1) z1 (by omega) (by omega)
    .rw [if_neg c3]
     by_cases c4:i=lo+l
     .rw [if_pos c4];exact Int.le_of_lt (hi' (j-1) (by omega) (by omega))
     .rw [if_neg c4];exact hs' (i-1) (j-1) (by omega) (by omega) (by omega)
 .rintro c st' ⟨hc,hB',hs',hk',hp'⟩
  rw [show min (max (max ok 1) n) n=n by omega] at hs'
  exact ⟨hc,hB',hs',hk',hp'⟩
 .refine ⟨rfl,hB,fun i j z1 z2 z3=>?_,.refl,rfl⟩
  by_cases h1:ok=0
  .rw [show i=j by omega];exact Int.le_refl _
  .exact hs i j z1 z2 (by omega)
 .rintro c st' ⟨rfl,hB',hs',hk',hp'⟩
  exact wpS_pure (h st' hB' hs' hk' hp')
end
end L2S
namespace L2S
open PySem PyProof.Rows
noncomputable def gal:Bool->Keyed->Array Keyed->Nat->Nat->Nat->StateT SortSt Sem (Option Nat):=sortPriv% PySem.Builtin.gallop
noncomputable def past (left:Bool) (key:Keyed) (arr:Array Keyed) (base i:Nat):StateT SortSt Sem (Option Bool):=do
 let y <- elem' arr (base+i)
 if left then lt' y key else return (<- lt' key y).map (!·)
theorem gal_eq (left:Bool) (key:Keyed) (arr:Array Keyed) (base n hint:Nat):gal left key arr base n hint=(do
 let mut o1:=0
 let mut o2:=1
 let mut p1:=0
 let mut p2:=0
 let some b0 <- past left key arr base hint | return none
 if b0 then
  let mx:=n-hint
  for _ in [0:n] do
   if o2≥mx then break
   let some b <- past left key arr base (hint+o2) | return none
   if !b then break
   o1:=o2
   o2:=2 * o2+1
  p1:=hint+o1+1
  p2:=hint+min o2 mx
 else
  let mx:=hint+1
  for _ in [0:n] do
   if o2≥mx then break
   let some b <- past left key arr base (hint-o2) | return none
   if b then break
   o1:=o2
   o2:=2 * o2+1
  p1:=hint+1-min o2 mx
  p2:=hint-o1
 for _ in [0:n] do
  if p1≥p2 then break
  let m:=p1+(p2-p1) / 2
  let some b <- past left key arr base m | return none
  if b then p1:=m+1 else p2:=m
 return some p2):=rfl
section
variable {M:Model} {A:Around} {E:Value->Shared->Prop} {s:Shared}
theorem gal_ok {left:Bool} {key:Keyed} {arr:Array Keyed} {base n hint:Nat} {st:SortSt} {Q:Option Nat->SortSt->Prop} (g:Nat->Bool) (hh:hint < n)
  (hp:∀ i,i < n->∀ Q:Option Bool->SortSt->Prop,Q (some (g i)) st->wpS M A E s (past left key arr base i) Q st) (hm:∀ i j,i <= j->j < n->g j=true->g i=true)
  (h:∀ k,k <= n->(∀ i,i < k->g i=true)->(∀ i,k <= i->i < n->g i=false)->Q (some k) st):wpS M A E s (gal left key arr base n hint) Q st:=by
 have hm':∀ i j,i <= j->j < n->g i=false->g j=false:=fun i j z1 z2 z3=>by
  cases e:g j with
  | false=>rfl
  | true=>rw [hm i j z1 z2 e] at z3;cases z3
 have last:∀ p1 p2:Nat,p1 <= p2->p2 <= n->(∀ i,i < p1->g i=true)->(∀ i,p2 <= i->i < n->g i=false) ->
   wpS M A E s (forIn [0:n] ((none,p1,p2):Option (Option Nat)×Nat×Nat) fun _ c=>if c.2.1≥c.2.2 then pure (ForInStep.done (none,c.2.1,c.2.2)) else do
    let r <- past left key arr base (c.2.1+(c.2.2-c.2.1) / 2)
    match r with
    | some b=>if b=true then pure (ForInStep.yield (none,c.2.1+(c.2.2-c.2.1) / 2+1,c.2.2)) else pure (ForInStep.yield (none,c.2.1,c.2.1+(c.2.2-c.2.1) / 2))
    | _=>pure (ForInStep.done (some none,c.2.1,c.2.2))) (fun c st'=>∃ k,c=(none,k,k) /\ st'=st /\ k <= n /\ (∀ i,i < k->g i=true) /\ (∀ i,k <= i->i < n->g i=false)) st:=by
  intro p1 p2 a1 a2 a3 a4
  refine wpS_forRange (I:=fun x c st'=>st'=st /\ ∃ p1 p2,c=(none,p1,p2) /\ p1 <= p2 /\ p2 <= n /\ p2-p1 <= n-x /\ (∀ i,i < p1->g i=true) /\ (∀ i,p2 <= i->i < n->g i=false)) ?_ ?_ ⟨rfl,p1,p2,rfl,a1,a2,by omega,a3,a4⟩
  .rintro x c st' _ hx ⟨rfl,p1,p2,rfl,b1,b2,b3,b4,b5⟩
   dsimp only
   by_cases hge:p1≥p2
   .rw [if_pos hge]
    have:p1=p2:=by omega
    subst this
    exact wpS_pure ⟨p1,rfl,rfl,b2,b4,b5⟩
   rw [if_neg hge]
   refine wpS_bind (hp _ (by omega) _ ?_)
   cases e:g (p1+(p2-p1) / 2) with
   | true=>exact wpS_pure ⟨rfl,_,_,rfl,by omega,b2,by omega,fun i hi=>hm i _ (by omega) (by omega) e,b5⟩
   | false=>exact wpS_pure ⟨rfl,_,_,rfl,by omega,by omega,by omega,b4,fun i i1 i2=>hm' _ i i1 i2 e⟩
  .rintro c st' ⟨rfl,p1,p2,rfl,b1,b2,b3,b4,b5⟩
   have:p1=p2:=by omega
   subst this
   exact ⟨p1,rfl,rfl,b2,b4,b5⟩
 rw [gal_eq]
 refine wpS_bind (hp hint hh _ ?_)
 cases e0:g hint with
 | true=>
  refine wpS_bind (wpS_mono (wpS_forRange (I:=fun x c st'=>st'=st /\ ∃ o1 o2,c=(none,o1,o2) /\ o1 < o2 /\ x+1 <= o2 /\ hint+o1 < n /\ g (hint+o1)=true)
   (Q:=fun c st'=>st'=st /\ ∃ o1 o2,c=(none,o1,o2) /\ o1 < o2 /\ hint+o1 < n /\ g (hint+o1)=true /\ (o2≥n-hint∨(hint+o2 < n /\ g (hint+o2)=false))) ?_ ?_ ⟨rfl,0,1,rfl,by omega,by omega,by omega,e0⟩) ?_)
  .rintro x c st' _ hx ⟨rfl,o1,o2,rfl,b1,b2,b3,b4⟩
   dsimp only
   by_cases hge:o2≥n-hint
   .rw [if_pos hge]
    exact wpS_pure ⟨rfl,o1,o2,rfl,b1,b3,b4,.inl hge⟩
   rw [if_neg hge]
   refine wpS_bind (hp _ (by omega) _ ?_)
   cases e:g (hint+o2) with
   | true=>exact wpS_pure ⟨rfl,_,_,rfl,by omega,by omega,by omega,e⟩
   | false=>exact wpS_pure ⟨rfl,_,_,rfl,b1,b3,b4,.inr ⟨by omega,e⟩⟩
  .rintro c st' ⟨rfl,o1,o2,rfl,b1,b2,b3,b4⟩
   exact ⟨rfl,o1,o2,rfl,b1,b3,b4,.inl (by omega)⟩
  .rintro c st' ⟨rfl,o1,o2,rfl,b1,b3,b4,b5⟩
   dsimp only
   refine wpS_bind (wpS_mono (last (hint+o1+1) (hint+min o2 (n-hint)) (by omega) (by omega) (fun i hi=>hm i _ (by omega) b3 b4) fun i i1 i2=>?_) ?_)
   .rcases b5 with z | ⟨z1,z2⟩
    .omega
    .exact hm' _ i (by omega) i2 z2
   .rintro c st' ⟨k,rfl,rfl,k1,k2,k3⟩
    exact wpS_pure (h k k1 k2 k3)
 | false=>
  refine wpS_bind (wpS_mono (wpS_forRange (I:=fun x c st'=>st'=st /\ ∃ o1 o2,c=(none,o1,o2) /\ o1 < o2 /\ x+1 <= o2 /\ o1 <= hint /\ g (hint-o1)=false)
   (Q:=fun c st'=>st'=st /\ ∃ o1 o2,c=(none,o1,o2) /\ o1 < o2 /\ o1 <= hint /\ g (hint-o1)=false /\ (o2≥hint+1∨(o2 < hint+1 /\ g (hint-o2)=true))) ?_ ?_ ⟨rfl,0,1,rfl,by omega,by omega,by omega,e0⟩) ?_)
  .rintro x c st' _ hx ⟨rfl,o1,o2,rfl,b1,b2,b3,b4⟩
   dsimp only
   by_cases hge:o2≥hint+1
   .rw [if_pos hge]
    exact wpS_pure ⟨rfl,o1,o2,rfl,b1,b3,b4,.inl hge⟩
   rw [if_neg hge]
   refine wpS_bind (hp _ (by omega) _ ?_)
   cases e:g (hint-o2) with
   | true=>exact wpS_pure ⟨rfl,_,_,rfl,b1,b3,b4,.inr ⟨by omega,e⟩⟩
   | false=>exact wpS_pure ⟨rfl,_,_,rfl,by omega,by omega,by omega,e⟩
  .rintro c st' ⟨rfl,o1,o2,rfl,b1,b2,b3,b4⟩
   exact ⟨rfl,o1,o2,rfl,b1,b3,b4,.inl (by omega)⟩
  .rintro c st' ⟨rfl,o1,o2,rfl,b1,b3,b4,b5⟩
   dsimp only
   refine wpS_bind (wpS_mono (last (hint+1-min o2 (hint+1)) (hint-o1) (by omega) (by omega) (fun i hi=>?_) fun i i1 i2=>hm' _ i i1 i2 b4) ?_)
   .rcases b5 with z | ⟨z1,z2⟩
    .omega
    .exact hm i _ (by omega) (by omega) z2
   .rintro c st' ⟨k,rfl,rfl,k1,k2,k3⟩
    exact wpS_pure (h k k1 k2 k3)
end
end L2S
namespace L2S
open PySem PyProof.Rows
noncomputable def mLo:Array Keyed->Array Keyed->StateT SortSt Sem (Array Keyed):=sortPriv% PySem.Builtin.mergeLo
noncomputable abbrev setG (st:SortSt) (g:Nat):SortSt:=SortSt.mk' (kindOf st) (arrOf st) (pendingOf st) g (failedOf st)
theorem mLo_eq (a b:Array Keyed):mLo a b=(do
 rule "list.sort.merge-lo"
 let tt:=a.size+b.size
 let dn (o:Array Keyed) (i j:Nat):=o++a.extract i a.size++b.extract j b.size
 let la (o:Array Keyed) (i j:Nat):=o++b.extract j b.size++a.extract i a.size
 let mut o:Array Keyed:=#[<- elem' b 0]
 let mut i:=0
 let mut j:=1
 if j == b.size then return dn o i j
 if i+1 == a.size then return la o i j
 let mut mg:=gallopOf (<- get)
 for _ in [0:tt] do
  let mut ac:=0
  let mut bc:=0
  for _ in [0:tt] do
   let some w <- lt' (<- elem' b j) (<- elem' a i) | return dn o i j
   if w then
    o:=o.push (<- elem' b j);j:=j+1;bc:=bc+1;ac:=0
    if j == b.size then return dn o i j
    if bc≥mg then break
   else
    o:=o.push (<- elem' a i);i:=i+1;ac:=ac+1;bc:=0
    if i+1 == a.size then return la o i j
    if ac≥mg then break
  rule "list.sort.gallop"
  mg:=mg+1
  for _ in [0:tt] do
   if mg > 1 then mg:=mg-1
   modify fun st=>setG st mg
   let some k <- gal false (<- elem' b j) a i (a.size-i) 0 | return dn o i j
   ac:=k
   if k > 0 then
    o:=o++a.extract i (i+k);i:=i+k
    if i+1 == a.size then return la o i j
    if i == a.size then return dn o i j
   o:=o.push (<- elem' b j);j:=j+1
   if j == b.size then return dn o i j
   let some k <- gal true (<- elem' a i) b j (b.size-j) 0 | return dn o i j
   bc:=k
   if k > 0 then
    o:=o++b.extract j (j+k);j:=j+k
    if j == b.size then return dn o i j
   o:=o.push (<- elem' a i);i:=i+1
   if i+1 == a.size then return la o i j
   if ac < 7 && bc < 7 then break
  mg:=mg+1
  modify fun st=>setG st mg
 unsupported "internal:list.sort.merge-bound"):=rfl
noncomputable def leK (f:Keyed->Int) (x y:Keyed):Prop:=f x <= f y
structure Jm (f:Keyed->Int) (as bs o:List Keyed) (i j:Nat):Prop where
 perm:o.Perm (as.take i++bs.take j)
 sa:(o++as.drop i).Pairwise (leK f)
 sb:(o++bs.drop j).Pairwise (leK f)
noncomputable def Good (f:Keyed->Int) (as bs r:List Keyed):Prop:=r.Perm (as++bs) /\ r.Pairwise (leK f)
theorem take_more (as:List Keyed) (i k:Nat):as.take (i+k)=as.take i++(as.drop i).take k:=List.take_add
theorem drop_more (as:List Keyed) (i k:Nat):as.drop i=(as.drop i).take k++as.drop (i+k):=by rw [<- List.drop_drop,yCE]
section
variable {f:Keyed->Int} {as bs o:List Keyed} {i j:Nat}
theorem Jm.swap (h:Jm f as bs o i j):Jm f bs as o j i:=⟨h.perm.trans yCQ,h.sb,h.sa⟩
theorem Jm.chunk (h:Jm f as bs o i j) (k:Nat) (hc:∀ x∈(as.drop i).take k,∀ y∈bs.drop j,f x <= f y):Jm f as bs (o++(as.drop i).take k) (i+k) j:=by
 have sa:=h.sa
 rw [drop_more as i k,<- yAW] at sa
 refine ⟨?_,sa,?_⟩
 .rw [take_more]
  refine (List.Perm.append_right _ h.perm).trans ?_
  rw [yAW,yAW]
  exact List.Perm.append_left _ yCQ
 .obtain ⟨p1,p2,p3⟩:=List.pairwise_append.mp h.sb
  obtain ⟨q1,q2,q3⟩:=List.pairwise_append.mp sa
  refine List.pairwise_append.mpr ⟨q1,p2,fun x hx y hy=>?_⟩
  rcases yAX.mp hx with z | z
  .exact p3 x z y hy
  .exact hc x z y hy
theorem Jm.dn (h:Jm f as bs o i j) (e:as.drop i=[]∨bs.drop j=[]):Good f as bs (o++as.drop i++bs.drop j):=by
 refine ⟨?_,?_⟩
 .have p:(o++as.drop i++bs.drop j).Perm ((as.take i++bs.take j)++as.drop i++bs.drop j):=List.Perm.append_right _ (List.Perm.append_right _ h.perm)
  refine p.trans ?_
  have e1:(as.take i++bs.take j++as.drop i++bs.drop j).Perm (as.take i++as.drop i++(bs.take j++bs.drop j)):=by
   rw [yAW,yAW,yAW]
   refine List.Perm.append_left _ ?_
   rw [<- yAW,<- yAW]
   exact List.Perm.append_right _ yCQ
  rw [yCE,yCE] at e1
  exact e1
 .rcases e with e | e
  .rw [e,yAY];exact h.sb
  .rw [e,yAY];exact h.sa
theorem Jm.la (h:Jm f as bs o i j) (hl:∀ x∈as.drop i,∀ y∈bs.drop j,f y <= f x):Good f as bs (o++bs.drop j++as.drop i):=by
 have c:=h.swap.chunk (bs.length-j) (fun x hx y hy=>hl y hy x (List.mem_of_mem_take hx))
 rw [List.take_of_length_le (by rw [List.length_drop];exact yAA _)] at c
 have g:=c.dn (.inl (List.drop_eq_nil_of_le (by omega)))
 rw [List.drop_eq_nil_of_le (as:=bs) (i:=j+(bs.length-j)) (by omega),yAY] at g
 exact ⟨g.1.trans yCQ,g.2⟩
end
theorem ZDb (a:Array Keyed) (i:Nat):(a.extract i a.size).toList=a.toList.drop i:=by
 rw [yCF,yCG]
 exact List.take_of_length_le (by rw [List.length_drop];simp)
theorem ZD6 (a:Array Keyed) (i k:Nat):(a.extract i (i+k)).toList=(a.toList.drop i).take k:=by
 rw [yCF,yCG,show i+k-i=k by omega]
theorem ZEp {a:Array Keyed} {i:Nat} {x:Keyed} (h:a[i]?=some x):(a.toList.drop i).take 1=[x]:=by
 have hi:i < a.toList.length:=by
  rw [yAM]
  exact (yBD.mp h).1
 rw [List.drop_eq_getElem_cons hi]
 have:a.toList[i]=x:=by
  rw [yBD] at h
  obtain ⟨_,e⟩:=h
  simpa using e
 rw [this]
 simp
structure Ev (st st':SortSt):Prop where
 k:kindOf st'=kindOf st
 a:arrOf st'=arrOf st
 p:pendingOf st'=pendingOf st
 f:failedOf st'=failedOf st
theorem Ev.refl {st:SortSt}:Ev st st:=⟨rfl,rfl,rfl,rfl⟩
theorem Ev.setG {st st':SortSt} (h:Ev st st') (g:Nat):Ev st (setG st' g):=⟨h.k,h.a,h.p,h.f⟩
section
variable {M:Model} {A:Around} {E:Value->Shared->Prop} {s:Shared} {κ:SortKind} {a₀:Array Keyed} {f:Keyed->Int}
theorem ZAl {a:Array Keyed} {i:Nat} {x:Keyed} {st:SortSt} {Q:Keyed->SortSt->Prop} (h:a[i]?=some x) (q:Q x st):wpS M A E s (elem' a i) Q st:=by
 rw [elem'_eq,h]
 exact wpS_pure q
noncomputable def InA (a₀ a:Array Keyed):Prop:=∀ x∈a.toList,x∈a₀.toList
theorem InA.get {a:Array Keyed} (h:InA a₀ a) {i:Nat} {x:Keyed} (e:a[i]?=some x):x∈a₀.toList:=h x (by rw [yBD] at e;obtain ⟨_,rfl⟩:=e;simp)
theorem ZBC {a:Array Keyed} {i:Nat} {x:Keyed} (e:a[i]?=some x):kn f a i=f x:=by unfold kn;rw [e];rfl
theorem ZCW {a:Array Keyed} {i:Nat} (h:i < a.size):∃ x,a[i]?=some x:=⟨_,getElem?_pos a i h⟩
theorem past_at {left:Bool} {key x:Keyed} {arr:Array Keyed} {base i:Nat} {st:SortSt} {Q:Option Bool->SortSt->Prop} (L:Asks M A E s κ a₀ f) (hk:kindOf st=κ) (hx:arr[base+i]?=some x) (h1:x∈a₀.toList) (h2:key∈a₀.toList)
  (q:Q (some (if left=true then decide (f x < f key) else !decide (f key < f x))) st):wpS M A E s (past left key arr base i) Q st:=by
 unfold past
 refine wpS_bind (ZAl hx ?_)
 cases left with
 | true=>exact L.lt x key h1 h2 st _ hk q
 | false=>
  refine wpS_bind (L.lt key x h2 h1 st _ hk ?_)
  exact wpS_pure q
theorem ZEr {key:Keyed} {arr:Array Keyed} {base n hint:Nat} {st:SortSt} {Q:Option Nat->SortSt->Prop} (L:Asks M A E s κ a₀ f) (hk:kindOf st=κ) (hi:InA a₀ arr) (hkey:key∈a₀.toList) (hh:hint < n) (hs:base+n <= arr.size) (hu:Up f arr base n)
  (h:∀ k,k <= n->(∀ i,i < k->kn f arr (base+i) <= f key)->(∀ i,k <= i->i < n->f key < kn f arr (base+i))->Q (some k) st):wpS M A E s (gal false key arr base n hint) Q st:=by
 refine gal_ok (fun i=>!decide (f key < kn f arr (base+i))) hh (fun i hin Q q=>?_) (fun i j z1 z2 z3=>?_) fun k k1 k2 k3=>h k k1 (fun i z=>?_) fun i z1 z2=>?_
 .obtain ⟨x,hx⟩:=ZCW (a:=arr) (i:=base+i) (by omega)
  refine past_at L hk hx (hi.get hx) hkey ?_
  rw [ZBC hx] at q
  exact q
 .have:=hu (base+i) (base+j) (by omega) (by omega) (by omega)
  simp at z3 ⊢
  omega
 .have:=k2 i z
  simp at this
  exact this
 .have:=k3 i z1 z2
  simp at this
  exact this
theorem ZD4 {key:Keyed} {arr:Array Keyed} {base n hint:Nat} {st:SortSt} {Q:Option Nat->SortSt->Prop} (L:Asks M A E s κ a₀ f) (hk:kindOf st=κ) (hi:InA a₀ arr) (hkey:key∈a₀.toList) (hh:hint < n) (hs:base+n <= arr.size) (hu:Up f arr base n)
  (h:∀ k,k <= n->(∀ i,i < k->kn f arr (base+i) < f key)->(∀ i,k <= i->i < n->f key <= kn f arr (base+i))->Q (some k) st):wpS M A E s (gal true key arr base n hint) Q st:=by
 refine gal_ok (fun i=>decide (kn f arr (base+i) < f key)) hh (fun i hin Q q=>?_) (fun i j z1 z2 z3=>?_) fun k k1 k2 k3=>h k k1 (fun i z=>?_) fun i z1 z2=>?_
 .obtain ⟨x,hx⟩:=ZCW (a:=arr) (i:=base+i) (by omega)
  refine past_at L hk hx (hi.get hx) hkey ?_
  rw [ZBC hx] at q
  exact q
 .have:=hu (base+i) (base+j) (by omega) (by omega) (by omega)
  simp at z3 ⊢
  omega
 .have:=k2 i z
  simp at this
  exact this
 .have:=k3 i z1 z2
  simp at this
  exact this
theorem ZCt {a:Array Keyed} {i:Nat} {x:Keyed} (h:x∈a.toList.drop i):∃ k,i <= k /\ k < a.size /\ kn f a k=f x /\ a[k]?=some x:=by
 obtain ⟨n,hn⟩:=yBH h
 rw [yCO] at hn
 rw [yBE] at hn
 exact ⟨i+n,by omega,(yBD.mp hn).1,ZBC hn,hn⟩
theorem mem_take {a:Array Keyed} {i k:Nat} {x:Keyed} (h:x∈(a.toList.drop i).take k):∃ n,i <= n /\ n < i+k /\ n < a.size /\ kn f a n=f x:=by
 obtain ⟨n,hn⟩:=yBH h
 have hl:=(yAL.mp hn).1
 rw [yBC] at hl
 rw [yCD (by omega),yCO,yBE] at hn
 exact ⟨i+n,by omega,by omega,(yBD.mp hn).1,ZBC hn⟩
structure Two (a₀:Array Keyed) (f:Keyed->Int) (a b:Array Keyed):Prop where
 ia:InA a₀ a
 ib:InA a₀ b
 ua:Up f a 0 a.size
 ub:Up f b 0 b.size
 na:1 <= a.size
 nb:1 <= b.size
 lo:∀ i,i < a.size->kn f b 0 <= kn f a i
 hi:∀ j,j < b.size->kn f b j <= kn f a (a.size-1)
end
end L2S
namespace L2S
open PySem PyProof.Rows
noncomputable abbrev C5:=Option (Array Keyed)×Array Keyed×Nat×Nat×Nat
noncomputable abbrev C6:=Option (Array Keyed)×Array Keyed×Nat×Nat×Nat×Nat
noncomputable abbrev C7:=Option (Array Keyed)×Array Keyed×Nat×Nat×Nat×Nat×Nat
noncomputable abbrev SM (α:Type):=StateT SortSt Sem α
noncomputable abbrev dnA (a b o:Array Keyed) (i j:Nat):Array Keyed:=o++a.extract i a.size++b.extract j b.size
noncomputable abbrev laA (a b o:Array Keyed) (i j:Nat):Array Keyed:=o++b.extract j b.size++a.extract i a.size
noncomputable def lo1 (a b:Array Keyed) (mg:Nat) (c:C6):SM (ForInStep C6):=do
 let y <- elem' b c.2.2.2.1
 let x <- elem' a c.2.2.1
 let r <- lt' y x
 match r with
 | some w=>
  if w=true then do
   let y <- elem' b c.2.2.2.1
   if (c.2.2.2.1+1 == b.size)=true then pure (.done (some (dnA a b (c.2.1.push y) c.2.2.1 (c.2.2.2.1+1)),c.2.1.push y,c.2.2.1,c.2.2.2.1+1,0,c.2.2.2.2.2+1))
   else if c.2.2.2.2.2+1≥mg then pure (.done (none,c.2.1.push y,c.2.2.1,c.2.2.2.1+1,0,c.2.2.2.2.2+1))
   else pure (.yield (none,c.2.1.push y,c.2.2.1,c.2.2.2.1+1,0,c.2.2.2.2.2+1))
  else do
   let x <- elem' a c.2.2.1
   if (c.2.2.1+1+1 == a.size)=true then pure (.done (some (laA a b (c.2.1.push x) (c.2.2.1+1) c.2.2.2.1),c.2.1.push x,c.2.2.1+1,c.2.2.2.1,c.2.2.2.2.1+1,0))
   else if c.2.2.2.2.1+1≥mg then pure (.done (none,c.2.1.push x,c.2.2.1+1,c.2.2.2.1,c.2.2.2.2.1+1,0))
   else pure (.yield (none,c.2.1.push x,c.2.2.1+1,c.2.2.2.1,c.2.2.2.2.1+1,0))
 | _=>pure (.done (some (dnA a b c.2.1 c.2.2.1 c.2.2.2.1),c.2.1,c.2.2.1,c.2.2.2.1,c.2.2.2.2.1,c.2.2.2.2.2))
noncomputable def lo4 (a b:Array Keyed) (g ac bc:Nat) (o:Array Keyed) (i j:Nat):SM (ForInStep C7):=do
 let x <- elem' a i
 if (i+1+1 == a.size)=true then pure (.done (some (laA a b (o.push x) (i+1) j),o.push x,i+1,j,g,ac,bc))
 else if (decide (ac < 7) && decide (bc < 7))=true then pure (.done (none,o.push x,i+1,j,g,ac,bc))
 else pure (.yield (none,o.push x,i+1,j,g,ac,bc))
noncomputable def lo3 (a b:Array Keyed) (g ac bc:Nat) (o:Array Keyed) (i j:Nat):SM (ForInStep C7):=do
 let y <- elem' b j
 if (j+1 == b.size)=true then pure (.done (some (dnA a b (o.push y) i (j+1)),o.push y,i,j+1,g,ac,bc))
 else do
  let x <- elem' a i
  let r <- gal true x b (j+1) (b.size-(j+1)) 0
  match r with
  | some k=>
   if k > 0 then
    if (j+1+k == b.size)=true then pure (.done (some (dnA a b (o.push y++b.extract (j+1) (j+1+k)) i (j+1+k)),o.push y++b.extract (j+1) (j+1+k),i,j+1+k,g,ac,k))
    else lo4 a b g ac k (o.push y++b.extract (j+1) (j+1+k)) i (j+1+k)
   else lo4 a b g ac k (o.push y) i (j+1)
  | _=>pure (.done (some (dnA a b (o.push y) i (j+1)),o.push y,i,j+1,g,ac,bc))
noncomputable def lo2 (a b:Array Keyed) (g ac bc:Nat) (o:Array Keyed) (i j:Nat):SM (ForInStep C7):=do
 modify fun st=>setG st g
 let y <- elem' b j
 let r <- gal false y a i (a.size-i) 0
 match r with
 | some k=>
  if k > 0 then
   if (i+k+1 == a.size)=true then pure (.done (some (laA a b (o++a.extract i (i+k)) (i+k) j),o++a.extract i (i+k),i+k,j,g,k,bc))
   else if (i+k == a.size)=true then pure (.done (some (dnA a b (o++a.extract i (i+k)) (i+k) j),o++a.extract i (i+k),i+k,j,g,k,bc))
   else lo3 a b g k bc (o++a.extract i (i+k)) (i+k) j
  else lo3 a b g k bc o i j
 | _=>pure (.done (some (dnA a b o i j),o,i,j,g,ac,bc))
noncomputable def loB (a b:Array Keyed) (c:C7):SM (ForInStep C7) :=
 if c.2.2.2.2.1 > 1 then lo2 a b (c.2.2.2.2.1-1) c.2.2.2.2.2.1 c.2.2.2.2.2.2 c.2.1 c.2.2.1 c.2.2.2.1
 else lo2 a b c.2.2.2.2.1 c.2.2.2.2.2.1 c.2.2.2.2.2.2 c.2.1 c.2.2.1 c.2.2.2.1
noncomputable def loO (a b:Array Keyed) (c:C5):SM (ForInStep C5):=do
 let c1 <- forIn [0:a.size+b.size] ((none,c.2.1,c.2.2.1,c.2.2.2.1,0,0):C6) fun _ d=>lo1 a b c.2.2.2.2 d
 match c1.1 with
 | some r=>pure (.done (some r,c1.2.1,c1.2.2.1,c1.2.2.2.1,c.2.2.2.2))
 | none=>do
  liftM (rule "list.sort.gallop")
  let c2 <- forIn [0:a.size+b.size] ((none,c1.2.1,c1.2.2.1,c1.2.2.2.1,c.2.2.2.2+1,c1.2.2.2.2.1,c1.2.2.2.2.2):C7) fun _ d=>loB a b d
  match c2.1 with
  | some r=>pure (.done (some r,c2.2.1,c2.2.2.1,c2.2.2.2.1,c2.2.2.2.2.1))
  | none=>do
   modify fun st=>setG st (c2.2.2.2.2.1+1)
   pure (.yield (none,c2.2.1,c2.2.2.1,c2.2.2.2.1,c2.2.2.2.2.1+1))
theorem bnd2 {α β:Type} {m m':StateT SortSt Sem α} {g h:α->StateT SortSt Sem β} (e0:m=m') (e:∀ a,g a=h a):(m >>= g)=(m' >>= h):=by rw [e0,show g=h from funext e]
theorem for2 {β:Type} {r:Std.Legacy.Range} {c:β} {g h:Nat->β->StateT SortSt Sem (ForInStep β)} (e:∀ x c,g x c=h x c):forIn r c g=forIn r c h:=by rw [show g=h from funext fun x=>funext (e x)]
theorem if2 {α:Type} {c:Prop} [Decidable c] {x y x' y':α} (e1:x=x') (e2:y=y'):(if c then x else y)=(if c then x' else y'):=by rw [e1,e2]
theorem mLo_low (a b:Array Keyed):mLo a b=(do
 liftM (rule "list.sort.merge-lo")
 let y <- elem' b 0
 if (1 == b.size)=true then pure (dnA a b #[y] 0 1)
 else if (0+1 == a.size)=true then pure (laA a b #[y] 0 1)
 else do
  let st <- get
  let c <- forIn [0:a.size+b.size] ((none,#[y],0,1,gallopOf st):C5) fun _ d=>loO a b d
  match c.1 with
  | some r=>pure r
  | none=>liftM (unsupported "internal:list.sort.merge-bound":Sem (Array Keyed))):=by
 rw [mLo_eq]
 refine bnd _ fun _=>bnd _ fun y=>?_
 refine if2 rfl (if2 rfl ?_)
 refine bnd _ fun st=>bnd2 (for2 fun _ c=>?_) fun c=>?_
 .unfold loO
  refine bnd2 (for2 fun _ d=>?_) fun c1=>?_
  .rfl
  .obtain ⟨r,o,i,j,ac,bc⟩:=c1
   cases r with
   | some r=>rfl
   | none=>
    refine bnd2 rfl fun _=>bnd2 (for2 fun _ d=>?_) fun c2=>?_
    .unfold loB
     refine if2 ?_ ?_
     all_goals
      unfold lo2
      refine bnd2 rfl fun _=>bnd2 rfl fun y=>bnd2 rfl fun r=>?_
      cases r with
      | none=>rfl
      | some k=>
       refine if2 (if2 rfl (if2 rfl ?_)) ?_
       all_goals
        unfold lo3
        refine bnd2 rfl fun y2=>if2 rfl (bnd2 rfl fun x2=>bnd2 rfl fun r2=>?_)
        cases r2 with
        | none=>rfl
        | some k2=>
         refine if2 (if2 rfl ?_) ?_
         all_goals
          unfold lo4
          refine bnd2 rfl fun x3=>if2 rfl (if2 rfl rfl)
    .obtain ⟨r,o,i,j,g,ac,bc⟩:=c2
     cases r with
     | some r=>rfl
     | none=>rfl
 .obtain ⟨r,o,i,j,g⟩:=c
  cases r with
  | some r=>rfl
  | none=>rfl
end L2S
namespace L2S
open PySem PyProof.Rows
section
variable {M:Model} {A:Around} {E:Value->Shared->Prop} {s:Shared} {κ:SortKind} {a₀:Array Keyed} {f:Keyed->Int} {a b o:Array Keyed} {i j:Nat}
theorem ZE2 {a:Array Keyed} (h:Up f a 0 a.size):a.toList.Pairwise (leK f):=by
 rw [List.pairwise_iff_getElem]
 intro i j hi hj hij
 rw [yAM] at hi hj
 have:=h i j (yAG _) (yBT hij) (by omega)
 rw [ZBC (getElem?_pos a i hi),ZBC (getElem?_pos a j hj)] at this
 simpa [leK] using this
noncomputable abbrev JA (f:Keyed->Int) (a b o:Array Keyed) (i j:Nat):Prop:=Jm f a.toList b.toList o.toList i j
noncomputable abbrev Fin (f:Keyed->Int) (a b r:Array Keyed):Prop:=Good f a.toList b.toList r.toList
theorem JA.dn (h:JA f a b o i j) (e:a.size <= i∨b.size <= j):Fin f a b (dnA a b o i j):=by
 have g:=Jm.dn h (e.imp (fun z=>List.drop_eq_nil_of_le (by rw [yAM];exact z)) (fun z=>List.drop_eq_nil_of_le (by rw [yAM];exact z)))
 unfold Fin dnA
 rw [yBQ,yBQ,ZDb,ZDb]
 exact g
theorem JA.la (h:JA f a b o i j) (T:Two a₀ f a b) (e:i+1=a.size):Fin f a b (laA a b o i j):=by
 have g:=Jm.la h fun x hx y hy=>by
  obtain ⟨k,k1,k2,k3,_⟩:=ZCt (f:=f) hx
  obtain ⟨n,n1,n2,n3,_⟩:=ZCt (f:=f) hy
  have:=T.hi n n2
  rw [show a.size-1=k by omega,k3,n3] at this
  exact this
 unfold Fin laA
 rw [yBQ,yBQ,ZDb,ZDb]
 exact g
theorem JA.pushA {x:Keyed} (h:JA f a b o i j) (hx:a[i]?=some x) (hc:∀ n,j <= n->n < b.size->f x <= kn f b n):JA f a b (o.push x) (i+1) j:=by
 have g:=Jm.chunk h 1 fun u hu y hy=>by
  rw [ZEp hx,yAK] at hu
  obtain ⟨n,n1,n2,n3,_⟩:=ZCt (f:=f) hy
  rw [hu,<- n3]
  exact hc n n1 n2
 rw [ZEp hx] at g
 unfold JA
 rw [Array.toList_push]
 exact g
theorem JA.pushB {x:Keyed} (h:JA f a b o i j) (hx:b[j]?=some x) (hc:∀ n,i <= n->n < a.size->f x <= kn f a n):JA f a b (o.push x) i (j+1) :=
 (JA.pushA (Jm.swap h) hx hc).swap
theorem JA.chunkA (h:JA f a b o i j) (k:Nat) (hc:∀ n m,i <= n->n < i+k->n < a.size->j <= m->m < b.size->kn f a n <= kn f b m):JA f a b (o++a.extract i (i+k)) (i+k) j:=by
 have g:=Jm.chunk h k fun u hu y hy=>by
  obtain ⟨n,n1,n2,n3,n4⟩:=mem_take (f:=f) hu
  obtain ⟨m,m1,m2,m3,_⟩:=ZCt (f:=f) hy
  rw [<- n4,<- m3]
  exact hc n m n1 n2 n3 m1 m2
 unfold JA
 rw [yBQ,ZD6]
 exact g
theorem JA.chunkB (h:JA f a b o i j) (k:Nat) (hc:∀ n m,j <= n->n < j+k->n < b.size->i <= m->m < a.size->kn f b n <= kn f a m):JA f a b (o++b.extract j (j+k)) i (j+k) :=
 (JA.chunkA (Jm.swap h) k hc).swap
theorem Up.sub {xs:Array Keyed} {n:Nat} (h:Up f xs 0 n) {lo m:Nat} (e:lo+m <= n):Up f xs lo m:=fun i j z1 z2 z3=>h i j (yAG _) z2 (by omega)
noncomputable def R7 (f:Keyed->Int) (a b:Array Keyed) (st:SortSt) (x:Nat):ForInStep C7->SortSt->Prop
 | .done c,st'=>Ev st st' /\ ((∃ r z,c=(some r,z) /\ Fin f a b r)∨∃ o i j g ac bc,c=(none,o,i,j,g,ac,bc) /\ JA f a b o i j /\ i+1 < a.size /\ j < b.size /\ x+2 <= i+j)
 | .yield c,st'=>Ev st st' /\ ∃ o i j g ac bc,c=(none,o,i,j,g,ac,bc) /\ JA f a b o i j /\ i+1 < a.size /\ j < b.size /\ x+2 <= i+j
theorem mLo_ok {st:SortSt} {Q:Array Keyed->SortSt->Prop} (L:Asks M A E s κ a₀ f) (hk:kindOf st=κ) (T:Two a₀ f a b) (h:∀ r st',Ev st st'->Fin f a b r->Q r st'):wpS M A E s (mLo a b) Q st:=by
 have ta:=T.na
 have tb:=T.nb
 have ua:∀ n m,n <= m->m < a.size->kn f a n <= kn f a m:=fun n m z1 z2=>T.ua n m (yAG _) z1 (by omega)
 have ub:∀ n m,n <= m->m < b.size->kn f b n <= kn f b m:=fun n m z1 z2=>T.ub n m (yAG _) z1 (by omega)
 rw [mLo_low]
 refine wpS_bind (wpS_lift (wpAny_rule ⟨rfl,?_⟩))
 obtain ⟨y0,hy0⟩:=ZCW (a:=b) (i:=0) (by omega)
 refine wpS_bind (ZAl hy0 ?_)
 have J0:JA f a b #[y0] 0 1:=by
  have e:JA f a b #[] 0 0:=⟨by simp,by simpa using ZE2 T.ua,by simpa using ZE2 T.ub⟩
  have:=JA.pushB e hy0 fun n _ n2=>by rw [<- ZBC (f:=f) hy0];exact T.lo n n2
  exact this
 by_cases c1:1=b.size
 .rw [if_pos (by simpa using c1)]
  exact wpS_pure (h _ st .refl (J0.dn (.inr (by omega))))
 rw [if_neg (by simpa using c1)]
 by_cases c2:0+1=a.size
 .rw [if_pos (by simpa using c2)]
  exact wpS_pure (h _ st .refl (J0.la T c2))
 rw [if_neg (by simpa using c2)]
 refine wpS_bind (wpS_get ?_)
 refine wpS_bind (wpS_mono (wpS_forRange (I:=fun x c st'=>Ev st st' /\ ∃ o i j g,c=(none,o,i,j,g) /\ JA f a b o i j /\ i+1 < a.size /\ j < b.size /\ x+1 <= i+j) (Q:=fun c st'=>Ev st st' /\ ∃ r z,c=(some r,z) /\ Fin f a b r) ?_ ?_ ⟨.refl,_,0,1,_,rfl,J0,by omega,by omega,by omega⟩) ?_)
 .rintro x c st1 _ hx ⟨e1,o,i,j,g,rfl,J,hi,hj,hp⟩
  unfold loO
  dsimp only
  refine wpS_bind (wpS_mono (wpS_forRange (I:=fun y c st'=>Ev st st' /\ ∃ o i j ac bc,c=(none,o,i,j,ac,bc) /\ JA f a b o i j /\ i+1 < a.size /\ j < b.size /\ x+1+y <= i+j)
   (Q:=fun c st'=>Ev st st' /\ ((∃ r z,c=(some r,z) /\ Fin f a b r)∨∃ o i j ac bc,c=(none,o,i,j,ac,bc) /\ JA f a b o i j /\ i+1 < a.size /\ j < b.size /\ x+2 <= i+j)) ?_ ?_ ⟨e1,o,i,j,0,0,rfl,J,hi,hj,by omega⟩) ?_)
  .rintro y c st2 _ hy ⟨e2,o,i,j,ac,bc,rfl,J,hi,hj,hp⟩
   unfold lo1
   dsimp only
   obtain ⟨yb,hyb⟩:=ZCW (a:=b) hj
   obtain ⟨xa,hxa⟩:=ZCW (a:=a) (i:=i) (by omega)
   refine wpS_bind (ZAl hyb ?_)
   refine wpS_bind (ZAl hxa ?_)
   refine wpS_bind (L.lt yb xa (T.ib.get hyb) (T.ia.get hxa) st2 _ (e2.k.trans hk) ?_)
   by_cases hw:f yb < f xa
   .rw [decide_eq_true hw]
    dsimp only
    rw [if_pos rfl]
    refine wpS_bind (ZAl hyb ?_)
    have J2:=J.pushB hyb fun n n1 n2=>by
     have:=ua i n n1 n2
     rw [ZBC hxa] at this
     omega
    by_cases c3:j+1=b.size
    .rw [if_pos (by simpa using c3)]
     exact wpS_pure ⟨e2,.inl ⟨_,_,rfl,J2.dn (.inr (by omega))⟩⟩
    rw [if_neg (by simpa using c3)]
    split
    .exact wpS_pure ⟨e2,.inr ⟨_,_,_,_,_,rfl,J2,hi,by omega,by omega⟩⟩
    .exact wpS_pure ⟨e2,_,_,_,_,_,rfl,J2,hi,by omega,by omega⟩
   .rw [decide_eq_false hw]
    dsimp only
    rw [if_neg (by decide)]
    refine wpS_bind (ZAl hxa ?_)
    have J2:=J.pushA hxa fun n n1 n2=>by
     have:=ub j n n1 n2
     rw [ZBC hyb] at this
     omega
    by_cases c3:i+1+1=a.size
    .rw [if_pos (by simpa using c3)]
     exact wpS_pure ⟨e2,.inl ⟨_,_,rfl,J2.la T c3⟩⟩
    rw [if_neg (by simpa using c3)]
    split
    .exact wpS_pure ⟨e2,.inr ⟨_,_,_,_,_,rfl,J2,by omega,hj,by omega⟩⟩
    .exact wpS_pure ⟨e2,_,_,_,_,_,rfl,J2,by omega,hj,by omega⟩
  .rintro c st2 ⟨e2,o,i,j,ac,bc,rfl,J,hi,hj,hp⟩
   exact ⟨e2,.inr ⟨_,_,_,_,_,rfl,J,hi,hj,by omega⟩⟩
  .rintro c st2 ⟨e2,⟨r,z,rfl,hr⟩ | ⟨o,i,j,ac,bc,rfl,J,hi,hj,hp⟩⟩
   .exact wpS_pure ⟨e2,r,_,rfl,hr⟩
   dsimp only
   refine wpS_bind (wpS_lift (wpAny_rule ⟨rfl,?_⟩))
   refine wpS_bind (wpS_mono (wpS_forRange (I:=fun y c st'=>Ev st st' /\ ∃ o i j g ac bc,c=(none,o,i,j,g,ac,bc) /\ JA f a b o i j /\ i+1 < a.size /\ j < b.size /\ x+2 <= i+j)
    (Q:=fun c st'=>Ev st st' /\ ((∃ r z,c=(some r,z) /\ Fin f a b r)∨∃ o i j g ac bc,c=(none,o,i,j,g,ac,bc) /\ JA f a b o i j /\ i+1 < a.size /\ j < b.size /\ x+2 <= i+j)) ?_ ?_ ⟨e2,o,i,j,_,ac,bc,rfl,J,hi,hj,hp⟩) ?_)
   .rintro y c st3 _ hy ⟨e3,o,i,j,g,ac,bc,rfl,J,hi,hj,hp⟩
    have four:∀ (g ac bc:Nat) (o:Array Keyed) (i j:Nat) (st4:SortSt) (xa:Keyed),Ev st st4->JA f a b o i j->i+1 < a.size->j < b.size->x+2 <= i+j->a[i]?=some xa->(∀ n,j <= n->n < b.size->f xa <= kn f b n) ->
      wpS M A E s (lo4 a b g ac bc o i j) (R7 f a b st x) st4:=by
     intro g ac bc o i j st4 xa e4 J hi hj hp hxa hle
     unfold lo4
     refine wpS_bind (ZAl hxa ?_)
     have J2:=J.pushA hxa hle
     by_cases c3:i+1+1=a.size
     .rw [if_pos (by simpa using c3)]
      exact wpS_pure ⟨e4,.inl ⟨_,_,rfl,J2.la T c3⟩⟩
     rw [if_neg (by simpa using c3)]
     split
     .exact wpS_pure ⟨e4,.inr ⟨_,_,_,_,_,_,rfl,J2,by omega,hj,by omega⟩⟩
     .exact wpS_pure ⟨e4,_,_,_,_,_,_,rfl,J2,by omega,hj,by omega⟩
    have three:∀ (g ac bc:Nat) (o:Array Keyed) (i j:Nat) (st4:SortSt) (yb:Keyed),Ev st st4->JA f a b o i j->i+1 < a.size->j < b.size->x+2 <= i+j->b[j]?=some yb->(∀ n,i <= n->n < a.size->f yb <= kn f a n) ->
      wpS M A E s (lo3 a b g ac bc o i j) (R7 f a b st x) st4:=by
     intro g ac bc o i j st4 yb e4 J hi hj hp hyb hle
     unfold lo3
     refine wpS_bind (ZAl hyb ?_)
     have J2:=J.pushB hyb hle
     by_cases c3:j+1=b.size
     .rw [if_pos (by simpa using c3)]
      exact wpS_pure ⟨e4,.inl ⟨_,_,rfl,J2.dn (.inr (by omega))⟩⟩
     rw [if_neg (by simpa using c3)]
     obtain ⟨xa,hxa⟩:=ZCW (a:=a) (i:=i) (by omega)
     refine wpS_bind (ZAl hxa ?_)
     refine wpS_bind (ZD4 L (e4.k.trans hk) T.ib (T.ia.get hxa) (by omega) (by omega) (T.ub.sub (by omega)) fun k k1 k2 k3=>?_)
     dsimp only
     have rest:∀ n,j+1+k <= n->n < b.size->f xa <= kn f b n:=fun n n1 n2=>by
      have:=k3 (n-(j+1)) (by omega) (by omega)
      rw [show j+1+(n-(j+1))=n by omega] at this
      exact this
     by_cases hk0:k > 0
     .rw [if_pos hk0]
      have J3:=J2.chunkB k fun n m n1 n2 n3 m1 m2=>by
       have z:=k2 (n-(j+1)) (by omega)
       rw [show j+1+(n-(j+1))=n by omega] at z
       have z2:=ua i m m1 m2
       rw [ZBC hxa] at z2
       omega
      by_cases c4:j+1+k=b.size
      .rw [if_pos (by simpa using c4)]
       exact wpS_pure ⟨e4,.inl ⟨_,_,rfl,J3.dn (.inr (by omega))⟩⟩
      rw [if_neg (by simpa using c4)]
      exact four _ _ _ _ _ _ _ xa e4 J3 hi (by omega) (by omega) hxa rest
     .rw [if_neg hk0]
      have:k=0:=by omega
      subst this
      exact four _ _ _ _ _ _ _ xa e4 J2 hi (by omega) (by omega) hxa rest
    have two:∀ (g ac bc:Nat),wpS M A E s (lo2 a b g ac bc o i j) (R7 f a b st x) st3:=by
     intro g ac bc
     unfold lo2
     obtain ⟨yb,hyb⟩:=ZCW (a:=b) hj
     refine wpS_bind (wpS_modify ?_)
     have e4:=e3.setG g
     refine wpS_bind (ZAl hyb ?_)
     refine wpS_bind (ZEr L (e4.k.trans hk) T.ia (T.ib.get hyb) (by omega) (by omega) (T.ua.sub (by omega)) fun k k1 k2 k3=>?_)
     dsimp only
     have rest:∀ n,i+k <= n->n < a.size->f yb <= kn f a n:=fun n n1 n2=>by
      have:=k3 (n-i) (by omega) (by omega)
      rw [show i+(n-i)=n by omega] at this
      omega
     by_cases hk0:k > 0
     .rw [if_pos hk0]
      have J3:=J.chunkA k fun n m n1 n2 n3 m1 m2=>by
       have z:=k2 (n-i) (by omega)
       rw [show i+(n-i)=n by omega] at z
       have z2:=ub j m m1 m2
       rw [ZBC hyb] at z2
       omega
      by_cases c4:i+k+1=a.size
      .rw [if_pos (by simpa using c4)]
       exact wpS_pure ⟨e4,.inl ⟨_,_,rfl,J3.la T c4⟩⟩
      rw [if_neg (by simpa using c4)]
      by_cases c5:i+k=a.size
      .rw [if_pos (by simpa using c5)]
       exact wpS_pure ⟨e4,.inl ⟨_,_,rfl,J3.dn (.inl (by omega))⟩⟩
      rw [if_neg (by simpa using c5)]
      exact three _ _ _ _ _ _ _ yb e4 J3 (by omega) hj (by omega) hyb rest
     .rw [if_neg hk0]
      have:k=0:=by omega
      subst this
      exact three _ _ _ _ _ _ _ yb e4 J hi hj hp hyb rest
    unfold loB
    dsimp only
    split
    .exact wpS_mono (two _ _ _) fun r st' z=>by cases r <;> exact z
    .exact wpS_mono (two _ _ _) fun r st' z=>by cases r <;> exact z
   .rintro c st3 ⟨e3,o,i,j,g,ac,bc,rfl,J,hi,hj,hp⟩
    exact ⟨e3,.inr ⟨_,_,_,_,_,_,rfl,J,hi,hj,hp⟩⟩
   .rintro c st3 ⟨e3,⟨r,z,rfl,hr⟩ | ⟨o,i,j,g,ac,bc,rfl,J,hi,hj,hp⟩⟩
    .exact wpS_pure ⟨e3,r,_,rfl,hr⟩
    .dsimp only
     exact wpS_bind (wpS_modify (wpS_pure ⟨e3.setG _,_,_,_,_,rfl,J,hi,hj,by omega⟩))
 .rintro c st1 ⟨e1,o,i,j,g,rfl,J,hi,hj,hp⟩
  omega
 .rintro c st1 ⟨e1,r,z,rfl,hr⟩
  exact wpS_pure (h r st1 e1 hr)
end
end L2S
namespace L2S
open PySem PyProof.Rows
noncomputable def mHi:Array Keyed->Array Keyed->StateT SortSt Sem (Array Keyed):=sortPriv% PySem.Builtin.mergeHi
theorem mHi_eq (a b:Array Keyed):mHi a b=(do
 rule "list.sort.merge-hi"
 let tt:=a.size+b.size
 let dn (o:Array Keyed) (i j:Nat):=a.extract 0 i++b.extract 0 j++o.reverse
 let fb (o:Array Keyed) (i j:Nat):=b.extract 0 j++a.extract 0 i++o.reverse
 let mut i:=a.size-1
 let mut j:=b.size
 let mut o:Array Keyed:=#[<- elem' a i]
 if i == 0 then return dn o i j
 if j == 1 then return fb o i j
 let mut mg:=gallopOf (<- get)
 for _ in [0:tt] do
  let mut ac:=0
  let mut bc:=0
  for _ in [0:tt] do
   let some w <- lt' (<- elem' b (j-1)) (<- elem' a (i-1)) | return dn o i j
   if w then
    i:=i-1;o:=o.push (<- elem' a i);ac:=ac+1;bc:=0
    if i == 0 then return dn o i j
    if ac≥mg then break
   else
    j:=j-1;o:=o.push (<- elem' b j);bc:=bc+1;ac:=0
    if j == 1 then return fb o i j
    if bc≥mg then break
  rule "list.sort.gallop"
  mg:=mg+1
  for _ in [0:tt] do
   if mg > 1 then mg:=mg-1
   modify fun st=>setG st mg
   let some t <- gal false (<- elem' b (j-1)) a 0 i (i-1) | return dn o i j
   let k:=i-t
   ac:=k
   if k > 0 then
    o:=o++(a.extract t i).reverse;i:=t
    if i == 0 then return dn o i j
   j:=j-1;o:=o.push (<- elem' b j)
   if j == 1 then return fb o i j
   let some t <- gal true (<- elem' a (i-1)) b 0 j (j-1) | return dn o i j
   let k:=j-t
   bc:=k
   if k > 0 then
    o:=o++(b.extract t j).reverse;j:=t
    if j == 1 then return fb o i j
    if j == 0 then return dn o i j
   i:=i-1;o:=o.push (<- elem' a i)
   if i == 0 then return dn o i j
   if ac < 7 && bc < 7 then break
  mg:=mg+1
  modify fun st=>setG st mg
 unsupported "internal:list.sort.merge-bound"):=rfl
noncomputable abbrev D5:=Option (Array Keyed)×Nat×Nat×Array Keyed×Nat
noncomputable abbrev D6:=Option (Array Keyed)×Nat×Nat×Array Keyed×Nat×Nat
noncomputable abbrev D7:=Option (Array Keyed)×Nat×Nat×Array Keyed×Nat×Nat×Nat
noncomputable abbrev dnH (a b o:Array Keyed) (i j:Nat):Array Keyed:=a.extract 0 i++b.extract 0 j++o.reverse
noncomputable abbrev fbH (a b o:Array Keyed) (i j:Nat):Array Keyed:=b.extract 0 j++a.extract 0 i++o.reverse
noncomputable def hi1 (a b:Array Keyed) (mg:Nat) (c:D6):SM (ForInStep D6):=do
 let y <- elem' b (c.2.2.1-1)
 let x <- elem' a (c.2.1-1)
 let r <- lt' y x
 match r with
 | some w=>
  if w=true then do
   let x <- elem' a (c.2.1-1)
   if (c.2.1-1 == 0)=true then pure (.done (some (dnH a b (c.2.2.2.1.push x) (c.2.1-1) c.2.2.1),c.2.1-1,c.2.2.1,c.2.2.2.1.push x,c.2.2.2.2.1+1,0))
   else if c.2.2.2.2.1+1≥mg then pure (.done (none,c.2.1-1,c.2.2.1,c.2.2.2.1.push x,c.2.2.2.2.1+1,0))
   else pure (.yield (none,c.2.1-1,c.2.2.1,c.2.2.2.1.push x,c.2.2.2.2.1+1,0))
  else do
   let y <- elem' b (c.2.2.1-1)
   if (c.2.2.1-1 == 1)=true then pure (.done (some (fbH a b (c.2.2.2.1.push y) c.2.1 (c.2.2.1-1)),c.2.1,c.2.2.1-1,c.2.2.2.1.push y,0,c.2.2.2.2.2+1))
   else if c.2.2.2.2.2+1≥mg then pure (.done (none,c.2.1,c.2.2.1-1,c.2.2.2.1.push y,0,c.2.2.2.2.2+1))
   else pure (.yield (none,c.2.1,c.2.2.1-1,c.2.2.2.1.push y,0,c.2.2.2.2.2+1))
 | _=>pure (.done (some (dnH a b c.2.2.2.1 c.2.1 c.2.2.1),c.2.1,c.2.2.1,c.2.2.2.1,c.2.2.2.2.1,c.2.2.2.2.2))
noncomputable def hi4 (a b:Array Keyed) (g ac bc:Nat) (o:Array Keyed) (i j:Nat):SM (ForInStep D7):=do
 let x <- elem' a (i-1)
 if (i-1 == 0)=true then pure (.done (some (dnH a b (o.push x) (i-1) j),i-1,j,o.push x,g,ac,bc))
 else if (decide (ac < 7) && decide (bc < 7))=true then pure (.done (none,i-1,j,o.push x,g,ac,bc))
 else pure (.yield (none,i-1,j,o.push x,g,ac,bc))
noncomputable def hi3 (a b:Array Keyed) (g ac bc:Nat) (o:Array Keyed) (i j:Nat):SM (ForInStep D7):=do
 let y <- elem' b (j-1)
 if (j-1 == 1)=true then pure (.done (some (fbH a b (o.push y) i (j-1)),i,j-1,o.push y,g,ac,bc))
 else do
  let x <- elem' a (i-1)
  let r <- gal true x b 0 (j-1) (j-1-1)
  match r with
  | some t=>
   if j-1-t > 0 then
    if (t == 1)=true then pure (.done (some (fbH a b (o.push y++(b.extract t (j-1)).reverse) i t),i,t,o.push y++(b.extract t (j-1)).reverse,g,ac,j-1-t))
    else if (t == 0)=true then pure (.done (some (dnH a b (o.push y++(b.extract t (j-1)).reverse) i t),i,t,o.push y++(b.extract t (j-1)).reverse,g,ac,j-1-t))
    else hi4 a b g ac (j-1-t) (o.push y++(b.extract t (j-1)).reverse) i t
   else hi4 a b g ac (j-1-t) (o.push y) i (j-1)
  | _=>pure (.done (some (dnH a b (o.push y) i (j-1)),i,j-1,o.push y,g,ac,bc))
noncomputable def hi2 (a b:Array Keyed) (g ac bc:Nat) (o:Array Keyed) (i j:Nat):SM (ForInStep D7):=do
 modify fun st=>setG st g
 let y <- elem' b (j-1)
 let r <- gal false y a 0 i (i-1)
 match r with
 | some t=>
  if i-t > 0 then
   if (t == 0)=true then pure (.done (some (dnH a b (o++(a.extract t i).reverse) t j),t,j,o++(a.extract t i).reverse,g,i-t,bc))
   else hi3 a b g (i-t) bc (o++(a.extract t i).reverse) t j
  else hi3 a b g (i-t) bc o i j
 | _=>pure (.done (some (dnH a b o i j),i,j,o,g,ac,bc))
noncomputable def hiB (a b:Array Keyed) (c:D7):SM (ForInStep D7) :=
 if c.2.2.2.2.1 > 1 then hi2 a b (c.2.2.2.2.1-1) c.2.2.2.2.2.1 c.2.2.2.2.2.2 c.2.2.2.1 c.2.1 c.2.2.1
 else hi2 a b c.2.2.2.2.1 c.2.2.2.2.2.1 c.2.2.2.2.2.2 c.2.2.2.1 c.2.1 c.2.2.1
noncomputable def hiO (a b:Array Keyed) (c:D5):SM (ForInStep D5):=do
 let c1 <- forIn [0:a.size+b.size] ((none,c.2.1,c.2.2.1,c.2.2.2.1,0,0):D6) fun _ d=>hi1 a b c.2.2.2.2 d
 match c1.1 with
 | some r=>pure (.done (some r,c1.2.1,c1.2.2.1,c1.2.2.2.1,c.2.2.2.2))
 | none=>do
  liftM (rule "list.sort.gallop")
  let c2 <- forIn [0:a.size+b.size] ((none,c1.2.1,c1.2.2.1,c1.2.2.2.1,c.2.2.2.2+1,c1.2.2.2.2.1,c1.2.2.2.2.2):D7) fun _ d=>hiB a b d
  match c2.1 with
  | some r=>pure (.done (some r,c2.2.1,c2.2.2.1,c2.2.2.2.1,c2.2.2.2.2.1))
  | none=>do
   modify fun st=>setG st (c2.2.2.2.2.1+1)
   pure (.yield (none,c2.2.1,c2.2.2.1,c2.2.2.2.1,c2.2.2.2.2.1+1))
theorem mHi_low (a b:Array Keyed):mHi a b=(do
 liftM (rule "list.sort.merge-hi")
 let x <- elem' a (a.size-1)
 if (a.size-1 == 0)=true then pure (dnH a b #[x] (a.size-1) b.size)
 else if (b.size == 1)=true then pure (fbH a b #[x] (a.size-1) b.size)
 else do
  let st <- get
  let c <- forIn [0:a.size+b.size] ((none,a.size-1,b.size,#[x],gallopOf st):D5) fun _ d=>hiO a b d
  match c.1 with
  | some r=>pure r
  | none=>liftM (unsupported "internal:list.sort.merge-bound":Sem (Array Keyed))):=by
 rw [mHi_eq]
 refine bnd _ fun _=>bnd _ fun y=>?_
 refine if2 rfl (if2 rfl ?_)
 refine bnd _ fun st=>bnd2 (for2 fun _ c=>?_) fun c=>?_
 .unfold hiO
  refine bnd2 (for2 fun _ d=>?_) fun c1=>?_
  .rfl
  .obtain ⟨r,i,j,o,ac,bc⟩:=c1
   cases r with
   | some r=>rfl
   | none=>
    refine bnd2 rfl fun _=>bnd2 (for2 fun _ d=>?_) fun c2=>?_
    .unfold hiB
     refine if2 ?_ ?_
     all_goals
      unfold hi2
      refine bnd2 rfl fun _=>bnd2 rfl fun y=>bnd2 rfl fun r=>?_
      cases r with
      | none=>rfl
      | some k=>
       refine if2 (if2 rfl ?_) ?_
       all_goals
        unfold hi3
        refine bnd2 rfl fun y2=>if2 rfl (bnd2 rfl fun x2=>bnd2 rfl fun r2=>?_)
        cases r2 with
        | none=>rfl
        | some k2=>
         refine if2 (if2 rfl (if2 rfl ?_)) ?_
         all_goals
          unfold hi4
          refine bnd2 rfl fun x3=>if2 rfl (if2 rfl rfl)
    .obtain ⟨r,i,j,o,g,ac,bc⟩:=c2
     cases r with
     | some r=>rfl
     | none=>rfl
 .obtain ⟨r,i,j,o,g⟩:=c
  cases r with
  | some r=>rfl
  | none=>rfl
end L2S
namespace L2S
open PySem PyProof.Rows
section
variable {M:Model} {A:Around} {E:Value->Shared->Prop} {s:Shared} {κ:SortKind} {a₀:Array Keyed} {f:Keyed->Int} {a b o:Array Keyed} {i j:Nat}
noncomputable abbrev JH (f:Keyed->Int) (a b o:Array Keyed) (i j:Nat):Prop:=Jm (fun x=>- f x) a.toList.reverse b.toList.reverse o.toList (a.size-i) (b.size-j)
theorem ZBa {a:Array Keyed} {i:Nat} (h:i <= a.size):a.toList.reverse.drop (a.size-i)=(a.toList.take i).reverse:=by
 rw [List.drop_reverse,yAM,show a.size-(a.size-i)=i by omega]
theorem ZEL (a:Array Keyed) (i:Nat):(a.extract 0 i).toList=a.toList.take i:=by
 rw [yCF,yCG,Nat.sub_zero]
 rfl
theorem ZD0 {a:Array Keyed} {i:Nat} {x:Keyed} (h:i <= a.size) (hx:x∈a.toList.reverse.drop (a.size-i)):∃ k,k < i /\ kn f a k=f x:=by
 rw [ZBa h,List.mem_reverse] at hx
 obtain ⟨n,hn⟩:=yBH hx
 have hl:=(yAL.mp hn).1
 rw [yBC] at hl
 rw [yCD (by omega),yBE] at hn
 exact ⟨n,by omega,ZBC hn⟩
theorem good_rev {as bs r:List Keyed} (h:Good (fun x=>- f x) as.reverse bs.reverse r):Good f as bs r.reverse:=by
 refine ⟨?_,?_⟩
 .refine (List.reverse_perm r).trans (h.1.trans ?_)
  exact List.Perm.append (List.reverse_perm as) (List.reverse_perm bs)
 .rw [List.pairwise_reverse]
  refine h.2.imp fun {x y} z=>?_
  have w:- f x <= - f y:=z
  show f y <= f x
  omega
theorem JH.dn (h:JH f a b o i j) (hi:i <= a.size) (hj:j <= b.size) (e:i=0∨j=0):Fin f a b (dnH a b o i j):=by
 have g:=Jm.dn (Jm.swap h) (e.symm.imp (fun z=>by rw [ZBa hj,z];rfl) (fun z=>by rw [ZBa hi,z];rfl))
 have g2:=good_rev g
 rw [ZBa hi,ZBa hj,List.reverse_append,List.reverse_append,List.reverse_reverse,List.reverse_reverse,<- yAW] at g2
 unfold Fin dnH
 rw [yBQ,yBQ,ZEL,ZEL,yCR]
 exact ⟨g2.1.trans yCQ,g2.2⟩
theorem JH.fb (h:JH f a b o i j) (T:Two a₀ f a b) (hi:i <= a.size) (hj:j <= b.size) (e:j=1):Fin f a b (fbH a b o i j):=by
 have g:=Jm.la (Jm.swap h) fun x hx y hy=>by
  obtain ⟨k,k1,k2⟩:=ZD0 (f:=f) hj hx
  obtain ⟨n,n1,n2⟩:=ZD0 (f:=f) hi hy
  have:=T.lo n (by omega)
  rw [show k=0 by omega] at k2
  rw [k2,n2] at this
  show-f y <= - f x
  omega
 have g2:=good_rev g
 rw [ZBa hi,ZBa hj,List.reverse_append,List.reverse_append,List.reverse_reverse,List.reverse_reverse,<- yAW] at g2
 unfold Fin fbH
 rw [yBQ,yBQ,ZEL,ZEL,yCR]
 exact ⟨g2.1.trans yCQ,g2.2⟩
theorem JH.chunkA (h:JH f a b o i j) {t:Nat} (ht:t <= i) (hi:i <= a.size) (hj:j <= b.size) (hc:∀ n m,t <= n->n < i->m < j->kn f b m <= kn f a n):JH f a b (o++(a.extract t i).reverse) t j:=by
 have e:(a.toList.reverse.drop (a.size-i)).take (i-t)=(a.extract t i).reverse.toList:=by
  rw [ZBa hi,List.take_reverse,yCR,yCF,yCG,yBC,yAM,Nat.min_eq_left hi,show i-(i-t)=t by omega,List.drop_take]
 have g:=Jm.chunk h (i-t) fun u hu y hy=>by
  obtain ⟨m,m1,m2⟩:=ZD0 (f:=f) hj hy
  rw [e,yCR,List.mem_reverse,show i=t+(i-t) by omega,ZD6] at hu
  obtain ⟨n,n1,n2,n3,n4⟩:=mem_take (f:=f) hu
  have:=hc n m n1 (by omega) m1
  show-f u <= - f y
  omega
 rw [e] at g
 unfold JH
 rw [yBQ,show a.size-t=a.size-i+(i-t) by omega]
 exact g
theorem JH.chunkB (h:JH f a b o i j) {t:Nat} (ht:t <= j) (hi:i <= a.size) (hj:j <= b.size) (hc:∀ n m,t <= n->n < j->m < i->kn f a m <= kn f b n):JH f a b (o++(b.extract t j).reverse) i t :=
 (JH.chunkA (Jm.swap h) ht hj hi hc).swap
theorem one_rev {x:Keyed} (hx:a[i-1]?=some x) (hi:1 <= i):(a.extract (i-1) i).reverse=#[x]:=by
 have e:(a.extract (i-1) i).toList=[x]:=by
  have:=ZD6 a (i-1) 1
  rw [show i-1+1=i by omega] at this
  rw [this]
  exact ZEp hx
 apply Array.toList_inj.mp
 rw [yCR,e]
 rfl
theorem JH.pushA {x:Keyed} (h:JH f a b o i j) (hx:a[i-1]?=some x) (h1:1 <= i) (hi:i <= a.size) (hj:j <= b.size) (hc:∀ m,m < j->kn f b m <= f x):JH f a b (o.push x) (i-1) j:=by
 have g:=JH.chunkA h (t:=i-1) (by omega) hi hj fun n m n1 n2 m1=>by
  rw [show n=i-1 by omega,ZBC hx]
  exact hc m m1
 rw [one_rev hx h1] at g
 rw [show o.push x=o++#[x] from rfl]
 exact g
theorem JH.pushB {x:Keyed} (h:JH f a b o i j) (hx:b[j-1]?=some x) (h1:1 <= j) (hi:i <= a.size) (hj:j <= b.size) (hc:∀ m,m < i->kn f a m <= f x):JH f a b (o.push x) i (j-1) :=
 (JH.pushA (Jm.swap h) hx h1 hj hi hc).swap
structure At (f:Keyed->Int) (a b:Array Keyed) (x:Nat) (i j:Nat) (o:Array Keyed):Prop where
 J:JH f a b o i j
 i1:1 <= i
 i2:i <= a.size
 j1:2 <= j
 j2:j <= b.size
 p:x+i+j <= a.size+b.size
noncomputable def R7h (f:Keyed->Int) (a b:Array Keyed) (st:SortSt) (x:Nat):ForInStep D7->SortSt->Prop
 | .done c,st'=>Ev st st' /\ ((∃ r z,c=(some r,z) /\ Fin f a b r)∨∃ i j o g ac bc,c=(none,i,j,o,g,ac,bc) /\ At f a b x i j o)
 | .yield c,st'=>Ev st st' /\ ∃ i j o g ac bc,c=(none,i,j,o,g,ac,bc) /\ At f a b x i j o
theorem mHi_ok {st:SortSt} {Q:Array Keyed->SortSt->Prop} (L:Asks M A E s κ a₀ f) (hk:kindOf st=κ) (T:Two a₀ f a b) (h:∀ r st',Ev st st'->Fin f a b r->Q r st'):wpS M A E s (mHi a b) Q st:=by
 have ta:=T.na
 have tb:=T.nb
 have ua:∀ n m,n <= m->m < a.size->kn f a n <= kn f a m:=fun n m z1 z2=>T.ua n m (yAG _) z1 (by omega)
 have ub:∀ n m,n <= m->m < b.size->kn f b n <= kn f b m:=fun n m z1 z2=>T.ub n m (yAG _) z1 (by omega)
 have pr:∀ l:List Keyed,l.Pairwise (leK f)->l.reverse.Pairwise (leK fun x=>- f x):=fun l z=>by
  rw [List.pairwise_reverse]
  refine z.imp fun {x y} w=>?_
  have w':f x <= f y:=w
  show-f y <= - f x
  omega
 rw [mHi_low]
 refine wpS_bind (wpS_lift (wpAny_rule ⟨rfl,?_⟩))
 obtain ⟨x0,hx0⟩:=ZCW (a:=a) (i:=a.size-1) (by omega)
 refine wpS_bind (ZAl hx0 ?_)
 have J0:JH f a b #[x0] (a.size-1) b.size:=by
  have e:JH f a b #[] a.size b.size:=⟨by simp,by simpa using pr _ (ZE2 T.ua),by simpa using pr _ (ZE2 T.ub)⟩
  exact JH.pushA e hx0 ta (yAA _) (yAA _) fun m m1=>by rw [<- ZBC (f:=f) hx0];exact T.hi m m1
 by_cases c1:a.size-1=0
 .rw [if_pos (by simpa using c1)]
  exact wpS_pure (h _ st .refl (J0.dn (by omega) (yAA _) (.inl c1)))
 rw [if_neg (by simpa using c1)]
 by_cases c2:b.size=1
 .rw [if_pos (by simpa using c2)]
  exact wpS_pure (h _ st .refl (J0.fb T (by omega) (yAA _) c2))
 rw [if_neg (by simpa using c2)]
 refine wpS_bind (wpS_get ?_)
 refine wpS_bind (wpS_mono (wpS_forRange (I:=fun x c st'=>Ev st st' /\ ∃ i j o g,c=(none,i,j,o,g) /\ At f a b (x+1) i j o) (Q:=fun c st'=>Ev st st' /\ ∃ r z,c=(some r,z) /\ Fin f a b r) ?_ ?_ ⟨.refl,_,_,_,_,rfl,J0,by omega,by omega,by omega,by omega,by omega⟩) ?_)
 .rintro x c st1 _ hx ⟨e1,i,j,o,g,rfl,W⟩
  unfold hiO
  dsimp only
  refine wpS_bind (wpS_mono (wpS_forRange (I:=fun y c st'=>Ev st st' /\ ∃ i j o ac bc,c=(none,i,j,o,ac,bc) /\ At f a b (x+1+y) i j o)
   (Q:=fun c st'=>Ev st st' /\ ((∃ r z,c=(some r,z) /\ Fin f a b r)∨∃ i j o ac bc,c=(none,i,j,o,ac,bc) /\ At f a b (x+2) i j o)) ?_ ?_ ⟨e1,i,j,o,0,0,rfl,W⟩) ?_)
  .rintro y c st2 _ hy ⟨e2,i,j,o,ac,bc,rfl,J,i1,i2,j1,j2,hp⟩
   unfold hi1
   dsimp only
   obtain ⟨yb,hyb⟩:=ZCW (a:=b) (i:=j-1) (by omega)
   obtain ⟨xa,hxa⟩:=ZCW (a:=a) (i:=i-1) (by omega)
   refine wpS_bind (ZAl hyb ?_)
   refine wpS_bind (ZAl hxa ?_)
   refine wpS_bind (L.lt yb xa (T.ib.get hyb) (T.ia.get hxa) st2 _ (e2.k.trans hk) ?_)
   by_cases hw:f yb < f xa
   .rw [decide_eq_true hw]
    dsimp only
    rw [if_pos rfl]
    refine wpS_bind (ZAl hxa ?_)
    have J2:=J.pushA hxa i1 i2 j2 fun m m1=>by
     have:=ub m (j-1) (by omega) (by omega)
     rw [ZBC hyb] at this
     omega
    by_cases c3:i-1=0
    .rw [if_pos (by simpa using c3)]
     exact wpS_pure ⟨e2,.inl ⟨_,_,rfl,J2.dn (by omega) j2 (.inl c3)⟩⟩
    rw [if_neg (by simpa using c3)]
    split
    .exact wpS_pure ⟨e2,.inr ⟨_,_,_,_,_,rfl,J2,by omega,by omega,j1,j2,by omega⟩⟩
    .exact wpS_pure ⟨e2,_,_,_,_,_,rfl,J2,by omega,by omega,j1,j2,by omega⟩
   .rw [decide_eq_false hw]
    dsimp only
    rw [if_neg (by decide)]
    refine wpS_bind (ZAl hyb ?_)
    have J2:=J.pushB hyb (by omega) i2 j2 fun m m1=>by
     have:=ua m (i-1) (by omega) (by omega)
     rw [ZBC hxa] at this
     omega
    by_cases c3:j-1=1
    .rw [if_pos (by simpa using c3)]
     exact wpS_pure ⟨e2,.inl ⟨_,_,rfl,J2.fb T i2 (by omega) c3⟩⟩
    rw [if_neg (by simpa using c3)]
    split
    .exact wpS_pure ⟨e2,.inr ⟨_,_,_,_,_,rfl,J2,i1,i2,by omega,by omega,by omega⟩⟩
    .exact wpS_pure ⟨e2,_,_,_,_,_,rfl,J2,i1,i2,by omega,by omega,by omega⟩
  .rintro c st2 ⟨e2,i,j,o,ac,bc,rfl,J,i1,i2,j1,j2,hp⟩
   exact ⟨e2,.inr ⟨_,_,_,_,_,rfl,J,i1,i2,j1,j2,by omega⟩⟩
  .rintro c st2 ⟨e2,⟨r,z,rfl,hr⟩ | ⟨i,j,o,ac,bc,rfl,W⟩⟩
   .exact wpS_pure ⟨e2,r,_,rfl,hr⟩
   dsimp only
   refine wpS_bind (wpS_lift (wpAny_rule ⟨rfl,?_⟩))
   refine wpS_bind (wpS_mono (wpS_forRange (I:=fun y c st'=>Ev st st' /\ ∃ i j o g ac bc,c=(none,i,j,o,g,ac,bc) /\ At f a b (x+2) i j o)
    (Q:=fun c st'=>Ev st st' /\ ((∃ r z,c=(some r,z) /\ Fin f a b r)∨∃ i j o g ac bc,c=(none,i,j,o,g,ac,bc) /\ At f a b (x+2) i j o)) ?_ ?_ ⟨e2,i,j,o,_,ac,bc,rfl,W⟩) ?_)
   .rintro y c st3 _ hy ⟨e3,i,j,o,g,ac,bc,rfl,J,i1,i2,j1,j2,hp⟩
    have four:∀ (g ac bc:Nat) (o:Array Keyed) (i j:Nat) (st4:SortSt) (xa:Keyed),Ev st st4->At f a b (x+2) i j o->a[i-1]?=some xa->(∀ n,n < j->kn f b n <= f xa)->wpS M A E s (hi4 a b g ac bc o i j) (R7h f a b st (x+2)) st4:=by
     rintro g ac bc o i j st4 xa e4 ⟨J,i1,i2,j1,j2,hp⟩ hxa hle
     unfold hi4
     refine wpS_bind (ZAl hxa ?_)
     have J2:=J.pushA hxa i1 i2 j2 hle
     by_cases c3:i-1=0
     .rw [if_pos (by simpa using c3)]
      exact wpS_pure ⟨e4,.inl ⟨_,_,rfl,J2.dn (by omega) j2 (.inl c3)⟩⟩
     rw [if_neg (by simpa using c3)]
     split
     .exact wpS_pure ⟨e4,.inr ⟨_,_,_,_,_,_,rfl,J2,by omega,by omega,j1,j2,by omega⟩⟩
     .exact wpS_pure ⟨e4,_,_,_,_,_,_,rfl,J2,by omega,by omega,j1,j2,by omega⟩
    have three:∀ (g ac bc:Nat) (o:Array Keyed) (i j:Nat) (st4:SortSt) (yb:Keyed),Ev st st4->At f a b (x+2) i j o->b[j-1]?=some yb->(∀ n,n < i->kn f a n <= f yb)->wpS M A E s (hi3 a b g ac bc o i j) (R7h f a b st (x+2)) st4:=by
     rintro g ac bc o i j st4 yb e4 ⟨J,i1,i2,j1,j2,hp⟩ hyb hle
     unfold hi3
     refine wpS_bind (ZAl hyb ?_)
     have J2:=J.pushB hyb (by omega) i2 j2 hle
     by_cases c3:j-1=1
     .rw [if_pos (by simpa using c3)]
      exact wpS_pure ⟨e4,.inl ⟨_,_,rfl,J2.fb T i2 (by omega) c3⟩⟩
     rw [if_neg (by simpa using c3)]
     obtain ⟨xa,hxa⟩:=ZCW (a:=a) (i:=i-1) (by omega)
     refine wpS_bind (ZAl hxa ?_)
     refine wpS_bind (ZD4 L (e4.k.trans hk) T.ib (T.ia.get hxa) (by omega) (by omega) (T.ub.sub (by omega)) fun t k1 k2 k3=>?_)
     dsimp only
     have rest:∀ n,n < t->kn f b n <= f xa:=fun n n1=>by
      have:=k2 n n1
      rw [yCH] at this
      omega
     by_cases hk0:j-1-t > 0
     .rw [if_pos hk0]
      have J3:=J2.chunkB k1 i2 (by omega) fun n m n1 n2 m1=>by
       have z:=k3 n n1 n2
       rw [yCH] at z
       have z2:=ua m (i-1) (by omega) (by omega)
       rw [ZBC hxa] at z2
       omega
      by_cases c4:t=1
      .rw [if_pos (by simpa using c4)]
       exact wpS_pure ⟨e4,.inl ⟨_,_,rfl,J3.fb T i2 (by omega) c4⟩⟩
      rw [if_neg (by simpa using c4)]
      by_cases c5:t=0
      .rw [if_pos (by simpa using c5)]
       exact wpS_pure ⟨e4,.inl ⟨_,_,rfl,J3.dn i2 (by omega) (.inr c5)⟩⟩
      rw [if_neg (by simpa using c5)]
      exact four _ _ _ _ _ _ _ xa e4 ⟨J3,i1,i2,by omega,by omega,by omega⟩ hxa rest
     .rw [if_neg hk0]
      have:t=j-1:=by omega
      subst this
      exact four _ _ _ _ _ _ _ xa e4 ⟨J2,i1,i2,by omega,by omega,by omega⟩ hxa rest
    have two:∀ (g ac bc:Nat),wpS M A E s (hi2 a b g ac bc o i j) (R7h f a b st (x+2)) st3:=by
     intro g ac bc
     unfold hi2
     obtain ⟨yb,hyb⟩:=ZCW (a:=b) (i:=j-1) (by omega)
     refine wpS_bind (wpS_modify ?_)
     have e4:=e3.setG g
     refine wpS_bind (ZAl hyb ?_)
     refine wpS_bind (ZEr L (e4.k.trans hk) T.ia (T.ib.get hyb) (by omega) (by omega) (T.ua.sub (by omega)) fun t k1 k2 k3=>?_)
     dsimp only
     have rest:∀ n,n < t->kn f a n <= f yb:=fun n n1=>by
      have:=k2 n n1
      rw [yCH] at this
      exact this
     by_cases hk0:i-t > 0
     .rw [if_pos hk0]
      have J3:=J.chunkA k1 i2 j2 fun n m n1 n2 m1=>by
       have z:=k3 n n1 n2
       rw [yCH] at z
       have z2:=ub m (j-1) (by omega) (by omega)
       rw [ZBC hyb] at z2
       omega
      by_cases c4:t=0
      .rw [if_pos (by simpa using c4)]
       exact wpS_pure ⟨e4,.inl ⟨_,_,rfl,J3.dn (by omega) j2 (.inl c4)⟩⟩
      rw [if_neg (by simpa using c4)]
      exact three _ _ _ _ _ _ _ yb e4 ⟨J3,by omega,by omega,j1,j2,by omega⟩ hyb rest
     .rw [if_neg hk0]
      have:t=i:=by omega
      subst this
      exact three _ _ _ _ _ _ _ yb e4 ⟨J,i1,i2,j1,j2,hp⟩ hyb rest
    unfold hiB
    dsimp only
    split
    .exact wpS_mono (two _ _ _) fun r st' z=>by cases r <;> exact z
    .exact wpS_mono (two _ _ _) fun r st' z=>by cases r <;> exact z
   .rintro c st3 ⟨e3,i,j,o,g,ac,bc,rfl,W⟩
    exact ⟨e3,.inr ⟨_,_,_,_,_,_,rfl,W⟩⟩
   .rintro c st3 ⟨e3,⟨r,z,rfl,hr⟩ | ⟨i,j,o,g,ac,bc,rfl,W⟩⟩
    .exact wpS_pure ⟨e3,r,_,rfl,hr⟩
    .dsimp only
     exact wpS_bind (wpS_modify (wpS_pure ⟨e3.setG _,_,_,_,_,rfl,W⟩))
 .rintro c st1 ⟨e1,i,j,o,g,rfl,J,i1,i2,j1,j2,hp⟩
  omega
 .rintro c st1 ⟨e1,r,z,rfl,hr⟩
  exact wpS_pure (h r st1 e1 hr)
end
end L2S
namespace L2S
open PySem PyProof.Rows
noncomputable abbrev PT:=Nat×Nat×Nat
noncomputable def ZDC (xs m:Array Keyed) (lo:Nat):Array Keyed:=m.toList.zipIdx.foldl (fun a (p,j)=>a.setIfInBounds (lo+j) p) xs
theorem mAt_eq (i:Nat):mergeAt' i=(do
 let z <- get
 let (some (s1,n1,w1),some (s2,n2,_)):=((pendingOf z)[i]?,(pendingOf z)[i+1]?) | unsupported "internal:list.sort.pending"
 set (setPending z (((pendingOf z).setIfInBounds i (s1,n1+n2,w1)).eraseIdxIfInBounds (i+1)))
 let some k <- gal false (<- elem' (arrOf z) s2) (arrOf z) s1 n1 0 | return false
 let (s1,n1):=(s1+k,n1-k)
 if n1 == 0 then return true
 let some n2 <- gal true (<- elem' (arrOf z) (s1+n1-1)) (arrOf z) s2 n2 (n2-1) | return false
 if n2 == 0 then return true
 let x:=(arrOf z).extract s1 s2
 let y:=(arrOf z).extract s2 (s2+n2)
 let m <- if n1 <= n2 then mLo x y else mHi x y
 modify fun z=>setArr z (ZDC (arrOf z) m s1)
 return (failedOf (<- get)).isNone):=rfl
theorem wpS_set {M:Model} {A:Around} {E:Value->Shared->Prop} {s:Shared} {σ:Type} {x:σ} {Q:PUnit->σ->Prop} {st:σ} (h:Q ⟨⟩ x):wpS M A E s (set x:StateT σ Sem PUnit) Q st:=by
 unfold wpS;rw [StateT.run_set];exact wpAny_pure ⟨rfl,h⟩
theorem lay_go (lo:Nat):∀ (l:List Keyed) (k:Nat) (xs:Array Keyed),lo+k+l.length <= xs.size ->
  (((l.zipIdx k).foldl (fun a (p:Keyed×Nat)=>a.setIfInBounds (lo+p.2) p.1) xs).size=xs.size) /\ ∀ n,((l.zipIdx k).foldl (fun a (p:Keyed×Nat)=>a.setIfInBounds (lo+p.2) p.1) xs)[n]?=if lo+k <= n /\ n < lo+k+l.length then l[n-(lo+k)]? else xs[n]?
 | [],k,xs,_=>by
  refine ⟨rfl,fun n=>?_⟩
  rw [if_neg (fun z=>by rw [yBK] at z;omega)]
  rfl
 | x::r,k,xs,h=>by
  rw [yAR] at h
  rw [List.zipIdx_cons,List.foldl_cons]
  obtain ⟨i1,i2⟩:=lay_go lo r (k+1) (xs.setIfInBounds (lo+k) x) (by rw [Array.size_setIfInBounds];omega)
  refine ⟨by rw [i1,Array.size_setIfInBounds],fun n=>?_⟩
  rw [i2,yAR]
  by_cases c1:lo+(k+1) <= n /\ n < lo+(k+1)+r.length
  .rw [if_pos c1,if_pos (by omega),show n-(lo+k)=(n-(lo+(k+1)))+1 by omega,List.getElem?_cons_succ]
  .rw [if_neg c1,Array.getElem?_setIfInBounds]
   by_cases c2:lo+k=n
   .rw [if_pos c2,if_pos (by omega),if_pos (by omega),show n-(lo+k)=0 by omega]
    rfl
   .rw [if_neg c2,if_neg (by omega)]
theorem ZD1 {xs m:Array Keyed} {lo:Nat} (h:lo+m.size <= xs.size) (n:Nat):(ZDC xs m lo)[n]?=if lo <= n /\ n < lo+m.size then m[n-lo]? else xs[n]?:=by
 have:=(lay_go lo m.toList 0 xs (by rw [yAM];omega)).2 n
 rw [yAM,Nat.add_zero,yBE] at this
 exact this
theorem lay_list {xs m:Array Keyed} {lo:Nat} (h:lo+m.size <= xs.size):(ZDC xs m lo).toList=xs.toList.take lo++m.toList++xs.toList.drop (lo+m.size):=by
 refine yCN fun n=>?_
 rw [yBE,ZD1 h]
 by_cases c1:n < lo
 .rw [if_neg (by omega),yAW,yBA (by rw [yBC,yAM];omega),yCD c1,yBE]
 .by_cases c2:n < lo+m.size
  .rw [if_pos (by omega),yAW,yAZ (by rw [yBC,yAM];omega),yBC,yAM,Nat.min_eq_left (by omega),yBA (by rw [yAM];omega),yBE]
  .rw [if_neg (by omega),yAZ (by rw [yAC,yBC,yAM,yAM];omega),yAC,yBC,yAM,yAM,Nat.min_eq_left (by omega),yCO,yBE]
   congr 1
   omega
section
variable {M:Model} {A:Around} {E:Value->Shared->Prop} {s:Shared} {κ:SortKind} {a₀:Array Keyed} {f:Keyed->Int}
theorem SB.inA {st:SortSt} (h:SB κ a₀ st):InA a₀ (arrOf st):=fun x hx=>(Array.perm_iff_toList_perm.mp h.perm).mem_iff.mp hx
theorem ext_get {xs:Array Keyed} {i j n:Nat} (h:j <= xs.size) (hn:n < j-i):(xs.extract i j)[n]?=xs[i+n]?:=by
 rw [Array.getElem?_extract]
 rw [if_pos (by omega)]
theorem merge_at {st:SortSt} {i sa na w nb v:Nat} {Q:Bool->SortSt->Prop} (L:Asks M A E s κ a₀ f) (hB:SB κ a₀ st) (p1:(pendingOf st)[i]?=some (sa,na,w)) (p2:(pendingOf st)[i+1]?=some (sa+na,nb,v)) (na1:1 <= na) (nb1:1 <= nb) (hz:sa+na+nb <= a₀.size)
  (ua:Up f (arrOf st) sa na) (ub:Up f (arrOf st) (sa+na) nb)
  (h:∀ st',SB κ a₀ st'->pendingOf st'=((pendingOf st).setIfInBounds i (sa,na+nb,w)).eraseIdxIfInBounds (i+1)->Up f (arrOf st') sa (na+nb)->(∀ k,k < sa∨sa+na+nb <= k->(arrOf st')[k]?=(arrOf st)[k]?)->Q true st'):wpS M A E s (mergeAt' i) Q st:=by
 have hsz:=hB.size
 rw [mAt_eq]
 refine wpS_bind (wpS_get ?_)
 rw [p1,p2]
 dsimp only
 refine wpS_bind (wpS_set ?_)
 have hB1:SB κ a₀ (setPending st (((pendingOf st).setIfInBounds i (sa,na+nb,w)).eraseIdxIfInBounds (i+1))):=⟨hB.perm,hB.kind,hB.fail⟩
 obtain ⟨b0,hb0⟩:=ZCW (a:=arrOf st) (i:=sa+na) (by omega)
 refine wpS_bind (ZAl hb0 ?_)
 refine wpS_bind (ZEr L hB1.kind hB.inA (hB.inA.get hb0) (by omega) (by omega) ua fun k k1 k2 k3=>?_)
 dsimp only
 have lowA:∀ n,sa <= n->n < sa+k->kn f (arrOf st) n <= f b0:=fun n n1 n2=>by
  have:=k2 (n-sa) (by omega)
  rw [show sa+(n-sa)=n by omega] at this
  exact this
 have fromB:∀ n,sa+na <= n->n < sa+na+nb->f b0 <= kn f (arrOf st) n:=fun n n1 n2=>by
  have:=ub (sa+na) n (yAA _) n1 n2
  rw [ZBC hb0] at this
  exact this
 by_cases c1:na-k=0
 .rw [if_pos (by simpa using c1)]
  refine wpS_pure (h _ hB1 rfl (fun n m n1 n2 n3=>?_) fun _ _=>rfl)
  by_cases d1:m < sa+na
  .exact ua n m n1 n2 d1
  .by_cases d2:n < sa+na
   .have z1:=lowA n n1 (by omega)
    have z2:=fromB m (by omega) (by omega)
    show kn f (arrOf st) n <= kn f (arrOf st) m
    omega
   .exact ub n m (by omega) n2 (by omega)
 rw [if_neg (by simpa using c1)]
 rw [show sa+k+(na-k)-1=sa+na-1 by omega]
 obtain ⟨aN,haN⟩:=ZCW (a:=arrOf st) (i:=sa+na-1) (by omega)
 refine wpS_bind (ZAl haN ?_)
 refine wpS_bind (ZD4 L hB1.kind hB.inA (hB.inA.get haN) (by omega) (by omega) ub fun t t1 t2 t3=>?_)
 dsimp only
 have highB:∀ n,sa+na+t <= n->n < sa+na+nb->f aN <= kn f (arrOf st) n:=fun n n1 n2=>by
  have:=t3 (n-(sa+na)) (by omega) (by omega)
  rw [show sa+na+(n-(sa+na))=n by omega] at this
  exact this
 have toA:∀ n,sa <= n->n < sa+na->kn f (arrOf st) n <= f aN:=fun n n1 n2=>by
  have:=ua n (sa+na-1) n1 (by omega) (by omega)
  rw [ZBC haN] at this
  exact this
 by_cases c2:t=0
 .rw [if_pos (by simpa using c2)]
  refine wpS_pure (h _ hB1 rfl (fun n m n1 n2 n3=>?_) fun _ _=>rfl)
  by_cases d1:m < sa+na
  .exact ua n m n1 n2 d1
  .by_cases d2:n < sa+na
   .have z1:=toA n n1 d2
    have z2:=highB m (by omega) (by omega)
    show kn f (arrOf st) n <= kn f (arrOf st) m
    omega
   .exact ub n m (by omega) n2 (by omega)
 rw [if_neg (by simpa using c2)]
 have x1:((arrOf st).extract (sa+k) (sa+na)).size=na-k:=by rw [Array.size_extract];omega
 have y1:((arrOf st).extract (sa+na) (sa+na+t)).size=t:=by rw [Array.size_extract];omega
 have xg:∀ n,n < na-k->kn f ((arrOf st).extract (sa+k) (sa+na)) n=kn f (arrOf st) (sa+k+n):=fun n hn=>ZAx (ext_get (by omega) (by omega))
 have yg:∀ n,n < t->kn f ((arrOf st).extract (sa+na) (sa+na+t)) n=kn f (arrOf st) (sa+na+n):=fun n hn=>ZAx (ext_get (by omega) (by omega))
 have hiA:∀ n,sa+k <= n->n < sa+na->f b0 < kn f (arrOf st) n:=fun n n1 n2=>by
  have:=k3 (n-sa) (by omega) (by omega)
  rw [show sa+(n-sa)=n by omega] at this
  exact this
 have inx:∀ (lo hi:Nat),InA a₀ ((arrOf st).extract lo hi):=fun lo hi x hx=>by
  rw [yCF,yCG] at hx
  exact hB.inA x (List.mem_of_mem_drop (List.mem_of_mem_take hx))
 have T:Two a₀ f ((arrOf st).extract (sa+k) (sa+na)) ((arrOf st).extract (sa+na) (sa+na+t)):={
  ia:=inx _ _
  ib:=inx _ _
  ua:=fun n m _ n2 n3=>by
   rw [xg n (by omega),xg m (by omega)]
   exact ua _ _ (by omega) (by omega) (by omega)
  ub:=fun n m _ n2 n3=>by
   rw [yg n (by omega),yg m (by omega)]
   exact ub _ _ (by omega) (by omega) (by omega)
  na:=by omega
  nb:=by omega
  lo:=fun n hn=>by
   rw [xg n (by omega),yg 0 (by omega),Nat.add_zero,ZBC hb0]
   exact Int.le_of_lt (hiA _ (by omega) (by omega))
  hi:=fun n hn=>by
   rw [x1,xg _ (by omega),yg n (by omega),show sa+k+(na-k-1)=sa+na-1 by omega,ZBC haN]
   exact Int.le_of_lt (t2 n (by omega)) }
 have fin:∀ m st',Ev (setPending st (((pendingOf st).setIfInBounds i (sa,na+nb,w)).eraseIdxIfInBounds (i+1))) st'->Fin f ((arrOf st).extract (sa+k) (sa+na)) ((arrOf st).extract (sa+na) (sa+na+t)) m ->
   wpS M A E s (modify (fun z=>setArr z (ZDC (arrOf z) m (sa+k))) >>= fun _=>get >>= fun z=>pure (failedOf z).isNone) Q st':=by
  intro m st' ev g
  have ea:arrOf st'=arrOf st:=ev.a
  have hm:m.size=na-k+t:=by
   have:=g.1.length_eq
   rw [yAM,yAC,yAM,yAM,x1,y1] at this
   exact this
  refine wpS_bind (wpS_modify (wpS_bind (wpS_get (wpS_pure ?_))))
  have hf:failedOf st'=none:=ev.f.trans hB.fail
  show Q (failedOf st').isNone _
  rw [hf]
  have hl:sa+k+m.size <= (arrOf st).size:=by omega
  have mel:∀ n,n < m.size->∃ p,sa+k <= p /\ p < sa+na+t /\ kn f m n=kn f (arrOf st) p:=fun n hn=>by
   obtain ⟨x,hx⟩:=ZCW (a:=m) hn
   have hxm:x∈m.toList:=by
    rw [yBD] at hx
    obtain ⟨_,rfl⟩:=hx
    simp
   have:=g.1.mem_iff.mp hxm
   rw [ZBC hx]
   rcases yAX.mp this with z | z
   .obtain ⟨q,q1⟩:=yBH z
    rw [yBE] at q1
    have q2:=(yBD.mp q1).1
    refine ⟨sa+k+q,by omega,by omega,?_⟩
    rw [<- xg q (by omega),ZBC q1]
   .obtain ⟨q,q1⟩:=yBH z
    rw [yBE] at q1
    have q2:=(yBD.mp q1).1
    refine ⟨sa+na+q,by omega,by omega,?_⟩
    rw [<- yg q (by omega),ZBC q1]
  have ms:∀ n q,n <= q->q < m.size->kn f m n <= kn f m q:=fun n q n1 n2=>by
   by_cases e:n=q
   .rw [e];exact Int.le_refl _
   .have:=List.pairwise_iff_getElem.mp g.2 n q (by rw [yAM];omega) (by rw [yAM];omega) (by omega)
    rw [ZBC (getElem?_pos m n (by omega)),ZBC (getElem?_pos m q n2)]
    simpa [leK] using this
  have lk:∀ n,kn f (ZDC (arrOf st') m (sa+k)) n=if sa+k <= n /\ n < sa+na+t then kn f m (n-(sa+k)) else kn f (arrOf st) n:=fun n=>by
   rw [ea]
   have:=ZD1 hl n
   by_cases e:sa+k <= n /\ n < sa+na+t
   .rw [if_pos e]
    rw [if_pos (by omega)] at this
    exact ZAx this
   .rw [if_neg e]
    rw [if_neg (by omega)] at this
    exact ZAx this
  refine h (setArr st' (ZDC (arrOf st') m (sa+k))) ⟨?_,ev.k.trans hB.kind,hf⟩ ev.p (fun n q n1 n2 n3=>?_) fun n hn=>?_
  .show (ZDC (arrOf st') m (sa+k)).Perm a₀
   rw [ea]
   refine Array.Perm.trans ?_ hB.perm
   rw [Array.perm_iff_toList_perm,lay_list hl]
   have e1:(arrOf st).toList=(arrOf st).toList.take (sa+k)++(((arrOf st).extract (sa+k) (sa+na)).toList++((arrOf st).extract (sa+na) (sa+na+t)).toList)++(arrOf st).toList.drop (sa+k+m.size):=by
    rw [yCF,yCF,yCG,yCG]
    have s1:((arrOf st).toList.drop (sa+k)).take (sa+na-(sa+k))++((arrOf st).toList.drop (sa+na)).take (sa+na+t-(sa+na))=((arrOf st).toList.drop (sa+k)).take m.size:=by
     rw [show m.size=(sa+na-(sa+k))+(sa+na+t-(sa+na)) by omega,List.take_add,List.drop_drop,show sa+k+(sa+na-(sa+k))=sa+na by omega]
    rw [s1,yAW,show (arrOf st).toList.drop (sa+k+m.size)=((arrOf st).toList.drop (sa+k)).drop m.size by rw [List.drop_drop],yCE,yCE]
   conv=>rhs;rw [e1]
   exact List.Perm.append_right _ (List.Perm.append_left _ g.1)
  .show kn f (ZDC (arrOf st') m (sa+k)) n <= kn f (ZDC (arrOf st') m (sa+k)) q
   rw [lk,lk]
   by_cases c3:sa+k <= n /\ n < sa+na+t
   .rw [if_pos c3]
    by_cases c4:sa+k <= q /\ q < sa+na+t
    .rw [if_pos c4]
     exact ms _ _ (by omega) (by omega)
    .rw [if_neg c4]
     obtain ⟨p,q1,q2,q3⟩:=mel (n-(sa+k)) (by omega)
     rw [q3]
     by_cases c5:p < sa+na
     .have z1:=toA p (by omega) c5
      have z2:=highB q (by omega) (by omega)
      omega
     .exact ub p q (by omega) (by omega) (by omega)
   .rw [if_neg c3]
    by_cases c4:sa+k <= q /\ q < sa+na+t
    .rw [if_pos c4]
     obtain ⟨p,q1,q2,q3⟩:=mel (q-(sa+k)) (by omega)
     rw [q3]
     have z1:=lowA n n1 (by omega)
     by_cases c5:p < sa+na
     .exact ua n p n1 (by omega) c5
     .have z2:=fromB p (by omega) (by omega)
      omega
    .rw [if_neg c4]
     by_cases c5:q < sa+na
     .exact ua n q n1 n2 c5
     .by_cases c6:n < sa+na
      .have z1:=lowA n n1 (by omega)
       have z2:=fromB q (by omega) (by omega)
       omega
      .exact ub n q (by omega) n2 (by omega)
  .show (ZDC (arrOf st') m (sa+k))[n]?=(arrOf st)[n]?
   rw [ea,ZD1 hl,if_neg (by omega)]
 by_cases c3:na-k <= t
 .rw [if_pos c3]
  exact wpS_bind (mLo_ok L hB1.kind T fin)
 .rw [if_neg c3]
  exact wpS_bind (mHi_ok L hB1.kind T fin)
end
end L2S
namespace L2S
open PySem PyProof.Rows
section
variable {M:Model} {A:Around} {E:Value->Shared->Prop} {s:Shared} {κ:SortKind} {a₀:Array Keyed} {f:Keyed->Int}
noncomputable def Chn (f:Keyed->Int) (xs:Array Keyed):Nat->List PT->Nat->Prop
 | a,[],e=>a=e
 | a,(b,n,_)::r,e=>b=a /\ 1 <= n /\ Up f xs a n /\ Chn f xs (a+n) r e
theorem Chn.le {xs:Array Keyed}:∀ {l:List PT} {a e:Nat},Chn f xs a l e->a+l.length <= e
 | [],a,e,h=>by have:a=e:=h;rw [yBK];omega
 | (b,n,w)::r,a,e,h=>by
  obtain ⟨_,h1,_,h2⟩:=h
  have:=h2.le
  rw [yAR]
  omega
theorem Chn.keep {xs ys:Array Keyed}:∀ {l:List PT} {a e:Nat},Chn f xs a l e->(∀ k,a <= k->k < e->ys[k]?=xs[k]?)->Chn f ys a l e
 | [],a,e,h,_=>h
 | (b,n,w)::r,a,e,⟨h0,h1,h2,h3⟩,k=>by
  have hl:=h3.le
  refine ⟨h0,h1,fun i j z1 z2 z3=>?_,h3.keep fun m m1 m2=>k m (by omega) m2⟩
  rw [ZAx (k i z1 (by omega)),ZAx (k j (by omega) (by omega))]
  exact h2 i j z1 z2 z3
theorem Chn.app {xs:Array Keyed}:∀ {l m:List PT} {a e:Nat},Chn f xs a (l++m) e↔∃ c,Chn f xs a l c /\ Chn f xs c m e
 | [],m,a,e=>⟨fun h=>⟨a,rfl,h⟩,fun ⟨c,h1,h2⟩=>by have:a=c:=h1;rw [this];exact h2⟩
 | (b,n,w)::r,m,a,e=>by
  constructor
  .rintro ⟨h0,h1,h2,h3⟩
   obtain ⟨c,h4,h5⟩:=Chn.app.mp h3
   exact ⟨c,⟨h0,h1,h2,h4⟩,h5⟩
  .rintro ⟨c,⟨h0,h1,h2,h4⟩,h5⟩
   exact ⟨h0,h1,h2,Chn.app.mpr ⟨c,h4,h5⟩⟩
theorem two_of {l:List PT} {i:Nat} (h:i+1 < l.length):∃ l1 x y l2,l=l1++x::y::l2 /\ l1.length=i:=by
 refine ⟨l.take i,l[i],l[i+1],l.drop (i+2),?_,by rw [yBC];omega⟩
 rw [<- List.drop_eq_getElem_cons (by omega),<- List.drop_eq_getElem_cons (by omega),yCE]
theorem join_of {l1 l2:List PT} {x y v:PT} {i:Nat} (h:l1.length=i):((l1++x::y::l2).set i v).eraseIdx (i+1)=l1++v::l2:=by
 subst h
 rw [List.set_append_right _ _ (yAA _),yBX,List.set_cons_zero,List.eraseIdx_append_of_length_le (by omega),show l1.length+1-l1.length=1 by omega]
 rfl
theorem join_at {st:SortSt} {i lo:Nat} {Q:Bool->SortSt->Prop} (L:Asks M A E s κ a₀ f) (hB:SB κ a₀ st) (hc:Chn f (arrOf st) 0 (pendingOf st).toList lo) (hlo:lo <= a₀.size) (hi:i+1 < (pendingOf st).size)
  (h:∀ st',SB κ a₀ st'->Chn f (arrOf st') 0 (pendingOf st').toList lo->(pendingOf st').size+1=(pendingOf st).size->(∀ k,lo <= k->(arrOf st')[k]?=(arrOf st)[k]?)->Q true st'):wpS M A E s (mergeAt' i) Q st:=by
 obtain ⟨l1,⟨b1,n1,w1⟩,⟨b2,n2,w2⟩,l2,el,hl⟩:=two_of (l:=(pendingOf st).toList) (i:=i) (by rw [yAM];exact hi)
 have hc':=hc
 rw [el] at hc'
 obtain ⟨c,c1,rfl,c2,c3,rfl,c4,c5,c6⟩:=Chn.app.mp hc'
 have le:=c6.le
 have p1:(pendingOf st)[i]?=some (b1,n1,w1):=by
  rw [<- yBE,el,yAZ (by omega),hl,yBX]
  rfl
 have p2:(pendingOf st)[i+1]?=some (b1+n1,n2,w2):=by
  rw [<- yBE,el,yAZ (by omega),show i+1-l1.length=1 by omega]
  rfl
 refine merge_at L hB p1 p2 c2 c4 (by omega) c3 c5 fun st' hB' hp hu hk=>?_
 have e2:(pendingOf st').toList=l1++(b1,n1+n2,w1)::l2:=by
  rw [hp,Array.toList_eraseIdxIfInBounds,Array.toList_setIfInBounds,el]
  exact join_of hl
 refine h st' hB' ?_ ?_ fun k hk2=>hk k (.inr (by omega))
 .rw [e2]
  have le1:=c1.le
  refine Chn.app.mpr ⟨b1,c1.keep fun k k1 k2=>hk k (.inl k2),rfl,by omega,hu,?_⟩
  rw [show b1+(n1+n2)=b1+n1+n2 by omega]
  exact c6.keep fun k k1 k2=>hk k (.inr k1)
 .have z1:=congrArg List.length e2
  have z2:=congrArg List.length el
  rw [yAM,yAC,yAR] at z1 z2
  rw [yAR] at z2
  omega
theorem Chn.pow {xs:Array Keyed} {l:List PT} {b n w v a e:Nat} (h:Chn f xs a (l++[(b,n,w)]) e):Chn f xs a (l++[(b,n,v)]) e:=by
 obtain ⟨c,c1,c2,c3,c4,c5⟩:=Chn.app.mp h
 exact Chn.app.mpr ⟨c,c1,c2,c3,c4,c5⟩
noncomputable def more (sz pw:Nat):SM (Option Unit×Unit):=forIn [0:sz] ((none,()):Option Unit×Unit) fun _ _=>do
 let z <- get
 match if (pendingOf z).size > 1 then (pendingOf z)[(pendingOf z).size-2]? else none with
 | some (_,_,old)=>
  if old <= pw then pure (ForInStep.done (none,()))
  else do
   let b <- mergeAt' ((pendingOf z).size-2)
   if (!b)=true then pure (ForInStep.done (some (),())) else pure (ForInStep.yield (none,()))
 | _=>pure (ForInStep.done (none,()))
noncomputable def pile (sz lo n:Nat):SM (ForInStep (Option Unit×Nat)):=do
 let z <- get
 match (pendingOf z).back? with
 | some (s1,n1,_)=>do
  let c <- more sz (power' sz (2 * s1+n1) (2 * s1+n1+n1+n) sz)
  match c.fst with
  | some r=>pure (ForInStep.done (some r,lo))
  | none=>do
   modify fun z=>setPending z ((pendingOf z).modify ((pendingOf z).size-1) fun x=>(x.fst,x.2.fst,power' sz (2 * s1+n1) (2 * s1+n1+n1+n) sz))
   modify fun z=>setPending z ((pendingOf z).push (lo,n,0))
   pure (ForInStep.yield (none,lo+n))
 | _=>do
  modify fun z=>setPending z ((pendingOf z).push (lo,n,0))
  pure (ForInStep.yield (none,lo+n))
noncomputable abbrev PQ (κ:SortKind) (a₀:Array Keyed) (f:Keyed->Int) (lo n:Nat) (st:SortSt):Prop:=SB κ a₀ st /\ Chn f (arrOf st) 0 (pendingOf st).toList lo /\ Up f (arrOf st) lo n
theorem more_ok {sz pw lo n:Nat} {st:SortSt} {Q:Option Unit×Unit->SortSt->Prop} (L:Asks M A E s κ a₀ f) (hlo:lo <= a₀.size) (hq:PQ κ a₀ f lo n st) (h:∀ st',PQ κ a₀ f lo n st'->Q (none,()) st'):wpS M A E s (more sz pw) Q st:=by
 unfold more
 refine wpS_forRange (I:=fun x c st'=>c=(none,()) /\ PQ κ a₀ f lo n st') ?_ ?_ ⟨rfl,hq⟩
 .rintro x c st1 _ _ ⟨rfl,hB,hc,hu⟩
  refine wpS_bind (wpS_get ?_)
  by_cases h1:(pendingOf st1).size > 1
  .rw [if_pos h1,getElem?_pos (pendingOf st1) ((pendingOf st1).size-2) (by omega)]
   dsimp only
   split
   .exact wpS_pure (h _ ⟨hB,hc,hu⟩)
   .refine wpS_bind (join_at L hB hc hlo (by omega) fun st2 hB2 hc2 _ hk2=>?_)
    exact wpS_pure ⟨rfl,hB2,hc2,fun i j z1 z2 z3=>by rw [ZAx (hk2 i z1),ZAx (hk2 j (by omega))];exact hu i j z1 z2 z3⟩
  .rw [if_neg h1]
   exact wpS_pure (h _ ⟨hB,hc,hu⟩)
 .rintro c st1 ⟨rfl,hq⟩
  exact h _ hq
theorem modify_last {p:Array PT} {w:Nat} {l:List PT} {b n v:Nat} (h:p.toList=l++[(b,n,v)]):(p.modify (p.size-1) fun x=>(x.fst,x.2.fst,w)).toList=l++[(b,n,w)]:=by
 have hs:p.size=l.length+1:=by rw [<- yAM,h,yAC];rfl
 refine yCN fun i=>?_
 rw [yBE,Array.getElem?_modify]
 rw [<- yBE,h]
 by_cases c:p.size-1=i
 .rw [if_pos c,yAZ (by omega),yAZ (by omega),show i-l.length=0 by omega]
  rfl
 .rw [if_neg c]
  by_cases c2:i < l.length
  .rw [yBA c2,yBA c2]
  .rw [yBG (by rw [yAC,yBP];omega),yBG (by rw [yAC,yBP];omega)]
theorem pile_ok {lo n:Nat} {st:SortSt} {Q:ForInStep (Option Unit×Nat)->SortSt->Prop} (L:Asks M A E s κ a₀ f) (hn:1 <= n) (hln:lo+n <= a₀.size) (hq:PQ κ a₀ f lo n st)
  (h:∀ st',SB κ a₀ st'->Chn f (arrOf st') 0 (pendingOf st').toList (lo+n)->Q (.yield (none,lo+n)) st'):wpS M A E s (pile a₀.size lo n) Q st:=by
 have fin:∀ st3:SortSt,PQ κ a₀ f lo n st3->wpS M A E s (modify (fun z=>setPending z ((pendingOf z).push (lo,n,0))) >>= fun _=>pure (ForInStep.yield ((none,lo+n):Option Unit×Nat))) Q st3:=by
  rintro st3 ⟨hB3,hc3,hu3⟩
  refine wpS_bind (wpS_modify (wpS_pure (h _ ⟨hB3.perm,hB3.kind,hB3.fail⟩ ?_)))
  show Chn f (arrOf st3) 0 ((pendingOf st3).push (lo,n,0)).toList (lo+n)
  rw [Array.toList_push]
  exact Chn.app.mpr ⟨lo,hc3,rfl,hn,hu3,rfl⟩
 unfold pile
 refine wpS_bind (wpS_get ?_)
 cases hb:(pendingOf st).back? with
 | none=>exact fin st hq
 | some t=>
  obtain ⟨s1,n1,w1⟩:=t
  dsimp only
  refine wpS_bind (more_ok L (by omega) hq fun st2 hq2=>?_)
  dsimp only
  refine wpS_bind (wpS_modify (fin _ ?_))
  obtain ⟨hB2,hc2,hu2⟩:=hq2
  refine ⟨⟨hB2.perm,hB2.kind,hB2.fail⟩,?_,hu2⟩
  show Chn f (arrOf st2) 0 ((pendingOf st2).modify _ _).toList lo
  rcases List.eq_nil_or_concat (pendingOf st2).toList with e | ⟨l,⟨b,k,v⟩,e⟩
  .have:pendingOf st2=#[]:=by rw [<- Array.toList_inj,e]
   rw [this] at hc2 ⊢
   exact hc2
  .rw [List.concat_eq_append] at e
   rw [modify_last e]
   rw [e] at hc2
   exact hc2.pow
theorem ite_less (c:Prop) [Decidable c] (n:Nat):(if c then n-1 else n) <= n:=by split <;> omega
theorem wpS_cast {α:Type} {m m':SM α} {Q Q':α->SortSt->Prop} {st:SortSt} (e:m=m') (h:wpS M A E s m' Q' st) (q:∀ a st',Q' a st'->Q a st'):wpS M A E s m Q st:=by rw [e];exact wpS_mono h q
theorem sort_runs {st:SortSt} {Q:Unit->SortSt->Prop} (L:Asks M A E s κ a₀ f) (hB:SB κ a₀ st) (hp:pendingOf st=#[]) (h2:2 <= a₀.size)
  (h:∀ st',SB κ a₀ st'->Up f (arrOf st') 0 a₀.size->Q () st'):wpS M A E s sortRuns' Q st:=by
 rw [sortRuns'_eq]
 refine wpS_bind (wpS_get ?_)
 dsimp only
 rw [hB.size]
 generalize minRun' a₀.size a₀.size 0=mr
 refine wpS_bind (wpS_mono (wpS_forRange (I:=fun x c st'=>∃ lo,c=(none,lo) /\ SB κ a₀ st' /\ Chn f (arrOf st') 0 (pendingOf st').toList lo /\ lo <= a₀.size /\ min x a₀.size <= lo)
  (Q:=fun c st'=>c=(none,a₀.size) /\ SB κ a₀ st' /\ Chn f (arrOf st') 0 (pendingOf st').toList a₀.size) ?_ ?_ ⟨0,rfl,hB,by rw [hp];rfl,by omega,by omega⟩) ?_)
 .rintro x c st1 _ hx ⟨lo,rfl,hB1,hc1,hlo,hxl⟩
  dsimp only
  by_cases hge:lo≥a₀.size
  .rw [if_pos hge]
   have:lo=a₀.size:=by omega
   subst this
   exact wpS_pure ⟨rfl,hB1,hc1⟩
  rw [if_neg hge]
  refine wpS_bind (count_run L (by omega) (by omega) hB1 fun m st2 hB2 hm1 hm2 hu2 hk2 hp2=>?_)
  dsimp only
  have hc2:Chn f (arrOf st2) 0 (pendingOf st2).toList lo:=by
   rw [hp2]
   exact hc1.keep fun k _ k2=>hk2 k k2
  have done:∀ (n:Nat) (st3:SortSt),1 <= n->lo+n <= a₀.size->PQ κ a₀ f lo n st3->wpS M A E s (pile a₀.size lo n)
    (fun r st'=>match r with | .done c'=>c'=(none,a₀.size) /\ SB κ a₀ st' /\ Chn f (arrOf st') 0 (pendingOf st').toList a₀.size | .yield c'=>∃ lo,c'=(none,lo) /\ SB κ a₀ st' /\ Chn f (arrOf st') 0 (pendingOf st').toList lo /\ lo <= a₀.size /\ min (x+1) a₀.size <= lo) st3 :=
   fun n st3 hn hln hq=>pile_ok L hn hln hq fun st' hB' hc'=>⟨lo+n,rfl,hB',hc',hln,by omega⟩
  by_cases hlt:m < mr
  .rw [if_pos hlt]
   refine wpS_bind (wpS_lift (wpAny_rule ⟨rfl,?_⟩))
   refine wpS_bind (bin_sort L (by omega) (by omega) hB2 hu2 fun st3 hB3 hu3 hk3 hp3=>?_)
   rw [if_neg (by decide)]
   refine wpS_cast (by
    refine bnd _ fun z=>?_
    cases (pendingOf z).back? with
    | none=>rfl
    | some t=>
     obtain ⟨s1,n1,w1⟩:=t
     refine bnd2 (for2 fun _ c=>bnd _ fun z2=>?_) fun c=>?_
     .generalize (if (pendingOf z2).size > 1 then (pendingOf z2)[(pendingOf z2).size-2]? else none)=t2
      cases t2 with
      | none=>rfl
      | some t2=>rfl
     .obtain ⟨r,u⟩:=c
      cases r with
      | none=>rfl
      | some r=>rfl) (done _ st3 (by omega) (by omega) ⟨hB3,by rw [hp3];exact hc2.keep fun k _ k2=>hk3 k k2,hu3⟩) fun r st' z=>by cases r <;> exact z
  .rw [if_neg hlt]
   refine wpS_cast (by
    refine bnd _ fun z=>?_
    cases (pendingOf z).back? with
    | none=>rfl
    | some t=>
     obtain ⟨s1,n1,w1⟩:=t
     refine bnd2 (for2 fun _ c=>bnd _ fun z2=>?_) fun c=>?_
     .generalize (if (pendingOf z2).size > 1 then (pendingOf z2)[(pendingOf z2).size-2]? else none)=t2
      cases t2 with
      | none=>rfl
      | some t2=>rfl
     .obtain ⟨r,u⟩:=c
      cases r with
      | none=>rfl
      | some r=>rfl) (done m st2 hm1 (by omega) ⟨hB2,hc2,hu2⟩) fun r st' z=>by cases r <;> exact z
 .rintro c st1 ⟨lo,rfl,hB1,hc1,hlo,hxl⟩
  have:lo=a₀.size:=by omega
  subst this
  exact ⟨rfl,hB1,hc1⟩
 .rintro c st1 ⟨rfl,hB1,hc1⟩
  dsimp only
  refine wpS_bind (wpS_mono (wpS_forRange (I:=fun x c st'=>c=(none,()) /\ SB κ a₀ st' /\ Chn f (arrOf st') 0 (pendingOf st').toList a₀.size /\ ((pendingOf st').size+x <= a₀.size∨(pendingOf st').size <= 1))
   (Q:=fun c st'=>c=(none,()) /\ SB κ a₀ st' /\ Chn f (arrOf st') 0 (pendingOf st').toList a₀.size /\ (pendingOf st').size <= 1) ?_ ?_ ?_) ?_)
  .rintro x c st2 _ hx ⟨rfl,hB2,hc2,hz2⟩
   refine wpS_bind (wpS_get ?_)
   by_cases h1:(pendingOf st2).size <= 1
   .rw [if_pos h1]
    exact wpS_pure ⟨rfl,hB2,hc2,h1⟩
   rw [if_neg h1]
   have go:∀ i,i+1 < (pendingOf st2).size->wpS M A E s (mergeAt' i >>= fun b=>if (!b)=true then pure (ForInStep.done (some (),())) else pure (ForInStep.yield ((none,()):Option Unit×Unit)))
     (fun r st'=>match r with | .done c'=>c'=(none,()) /\ SB κ a₀ st' /\ Chn f (arrOf st') 0 (pendingOf st').toList a₀.size /\ (pendingOf st').size <= 1 | .yield c'=>c'=(none,()) /\ SB κ a₀ st' /\ Chn f (arrOf st') 0 (pendingOf st').toList a₀.size /\ ((pendingOf st').size+(x+1) <= a₀.size∨(pendingOf st').size <= 1)) st2:=fun i hi=>by
    refine wpS_bind (join_at L hB2 hc2 (yAA _) hi fun st3 hB3 hc3 hz3 _=>?_)
    exact wpS_pure ⟨rfl,hB3,hc3,by omega⟩
   refine wpS_mono (go _ ?_) fun r st' z=>by cases r <;> exact z
   exact Nat.lt_of_le_of_lt (Nat.add_le_add_right (ite_less _ _) 1) (by omega)
  .rintro c st2 ⟨rfl,hB2,hc2,hz2⟩
   exact ⟨rfl,hB2,hc2,by omega⟩
  .refine ⟨rfl,hB1,hc1,.inl ?_⟩
   have:=hc1.le
   rw [yAM] at this
   omega
  .rintro c st2 ⟨rfl,hB2,hc2,hz2⟩
   refine wpS_pure (h st2 hB2 ?_)
   cases e:(pendingOf st2).toList with
   | nil=>
    rw [e] at hc2
    have:0=a₀.size:=hc2
    omega
   | cons t r=>
    have hl:=congrArg List.length e
    rw [yAM,yAR] at hl
    have hr:r=[]:=List.length_eq_zero_iff.mp (by omega)
    subst hr
    obtain ⟨b,n,w⟩:=t
    rw [e] at hc2
    obtain ⟨_,_,hu,hn⟩:=hc2
    have:0+n=a₀.size:=hn
    rw [yCH] at this
    rw [<- this]
    exact hu
end
end L2S
namespace L2S
open PySem PyProof.Rows
noncomputable abbrev ZBz (h:Heap) (a:Addr) (vs:List Value):Heap:=((h.update a (Obj.mapSeq fun _=>#[])).push (seqObj "tuple" vs.toArray 0)).push (seqObj "list" #[] 0)
section
variable {prog:Program} {w:World} {A:Around} {E:Value->Shared->Prop} {s:Shared}
theorem mid_old {h:Heap} {a b:Addr} {vs:List Value} {o:Obj} (hb:b≠a) (e:h.get? b=some o):(ZBz h a vs).get? b=some o:=by
 refine Heap.get?_push_of_some _ (Heap.get?_push_of_some _ ?_)
 exact (Heap.get?_update_other _ _ (Ne.symm hb)).trans e
theorem sort_any {a:Addr} {vs:List Value} {n:Nat} {κ:SortKind} {f:Keyed->Int} {P:PySem.Fin->Shared->Prop} (ho:s.heap.get? a=some (seqObj "list" vs.toArray n)) (hz:vs.length <= 1000)
  (hkind:2 <= vs.length->∀ Q':SortKind->Shared->Prop,Q' κ { s with heap:=ZBz s.heap a vs }->wpAny (model prog w) A (keyKind' vs.toArray) Q' E { s with heap:=ZBz s.heap a vs })
  (hask:2 <= vs.length->Asks (model prog w) A E { s with heap:=ZBz s.heap a vs } κ (pairsOf vs) f)
  (h:∀ out:Array Keyed,out.Perm (pairsOf vs)->Up f out 0 vs.length->P (.done (.ret .none)) { s with heap:=sortedHeap s.heap a vs (out.map (·.2)) }):wpAny (model prog w) A (Builtin.«list.sort» ⟨[.ref a],[]⟩) P E s:=by
 rw [list_sort_plain]
 have ha:a < s.heap.objs.size:=Heap.lt_size ho
 refine wpAny_bind (listItems_at ho rfl ?_)
 refine wpAny_bind (listUpdate_at ho rfl ?_)
 obtain ⟨e1,ho1⟩:∃ e1,(s.heap.update a (Obj.mapSeq fun _=>#[])).get? a=some (seqObj "list" #[] e1):=⟨_,get?_update_seq ho (fun _=>#[])⟩
 refine wpAny_bind (seqEpoch_at ho1 rfl ?_)
 refine wpAny_bind (wpAny_newTuple (wpAny_bind (wpAny_newList (wpAny_holding ?_))))
 have ho6:(ZBz s.heap a vs).get? a=some (seqObj "list" #[] e1):=Heap.get?_push_of_some _ (Heap.get?_push_of_some _ ho1)
 show wpAny (model prog w) A _ P E { s with heap:=ZBz s.heap a vs }
 dsimp only
 have hsz:vs.toArray.size=vs.length:=yAV ..
 have hl:vs.length <= sizeLine:=yAF hz (by decide)
 rw [hsz]
 by_cases h2:vs.length < 2
 .rw [if_pos h2,if_pos h2]
  refine wpAny_bind (wpAny_pure ?_)
  rw [StateT.run_pure]
  refine wpAny_bind (wpAny_pure ?_)
  dsimp only
  refine wpAny_bind (seqEpoch_at ho6 rfl ?_)
  refine wpAny_bind (listUpdate_at ho6 rfl ?_ (hsz2:=by rw [Array.size_map];show (pairsOf vs).size <= _;rw [pairsOf_size];omega))
  rw [if_neg (by simp)]
  exact wpAny_pure (h (pairsOf vs) (Array.Perm.refl _) fun i j _ z2 z3=>by rw [show i=j by omega];exact Int.le_refl _)
 .rw [if_neg h2,if_neg h2]
  refine wpAny_bind (hkind (by omega) _ ?_)
  refine wpAny_bind (wpAny_mono (sort_runs (st:=SortSt.mk' κ (vs.toArray.zip vs.toArray) #[] 7 none) (Q:=fun _ st'=>SB κ (pairsOf vs) st' /\ Up f (arrOf st') 0 (pairsOf vs).size) (hask (by omega)) ⟨Array.Perm.refl _,rfl,rfl⟩ rfl (by rw [pairsOf_size];omega) fun st' a1 a2=>⟨a1,a2⟩) ?_ fun _ _ e=>e)
  rintro ⟨⟨⟩,st'⟩ s' ⟨rfl,hB,hu⟩
  dsimp only
  refine wpAny_bind (seqEpoch_at ho6 rfl ?_)
  have hs:(arrOf st').size=(pairsOf vs).size:=hB.size
  rw [pairsOf_size] at hs hu
  refine wpAny_bind (listUpdate_at ho6 rfl ?_ (hsz2:=by rw [Array.size_map];omega))
  rw [hB.fail,if_neg (by simp)]
  exact wpAny_pure (h _ hB.perm hu)
theorem sorted_any {l:Addr} {vs:List Value} {κ:SortKind} {f:Keyed->Int} {Q:Value->Shared->Prop} (hl:s.heap.IsList l vs.toArray) (hz:vs.length <= 1000)
  (hkind:∀ h':Heap,(∀ b o,s.heap.get? b=some o->h'.get? b=some o)->2 <= vs.length->∀ (A':Around) (E':Value->Shared->Prop) (Q':SortKind->Shared->Prop),A'.units <= A.units+8->Q' κ { s with heap:=h' }->wpAny (model prog w) A' (keyKind' vs.toArray) Q' E' { s with heap:=h' })
  (hask:∀ h':Heap,(∀ b o,s.heap.get? b=some o->h'.get? b=some o)->2 <= vs.length->∀ (A':Around) (E':Value->Shared->Prop),A'.units <= A.units+8->Asks (model prog w) A' E' { s with heap:=h' } κ (pairsOf vs) f)
  (h:∀ out:Array Keyed,out.Perm (pairsOf vs)->Up f out 0 vs.length->Q (.ref (s.heap.objs.size+1)) { s with heap:=sortedAll s.heap vs (out.map (·.2)) }):wpAny (model prog w) A (call (.builtin "sorted") [.ref l]) Q E s:=by
 refine Calls.call_function_entry kind_sorted plain_sorted entry_sorted (args_sorted1 _) ?_
 unfold Builtin.«sorted»
 refine wpAny_bind (m:=checkCount "sorted" 1 1 _) (wpAny_pure ?_)
 refine wpAny_bind (collect_list hl ?_ (yAF hz (by decide)))
 refine wpAny_bind (wpAny_newList ?_)
 have z1:((s.heap.push (seqObj "list" #[] 0)).update s.heap.objs.size (Obj.mapSeq (·++vs.toArray))).objs.size=s.heap.objs.size+1:=(Heap.size_update ..).trans (size_push' ..)
 have g1:(((s.heap.push (seqObj "list" #[] 0)).update s.heap.objs.size (Obj.mapSeq (·++vs.toArray))).push (seqObj "list" vs.toArray 0)).get? (s.heap.objs.size+1)=some (seqObj "list" vs.toArray 0):=by
  rw [<- z1];exact Heap.get?_push_size _ rfl
 have old:∀ b o,s.heap.get? b=some o->(ZBz (((s.heap.push (seqObj "list" #[] 0)).update s.heap.objs.size (Obj.mapSeq (·++vs.toArray))).push (seqObj "list" vs.toArray 0)) (s.heap.objs.size+1) vs).get? b=some o:=fun b o e=>by
  have lt:=Heap.lt_size e
  refine mid_old (yAI (Nat.lt_succ_of_lt lt)) (Heap.get?_push_of_some _ ?_)
  exact (Heap.get?_update_other _ _ (Nat.ne_of_gt lt)).trans (Heap.get?_push_of_some _ e)
 show wpAny _ _ _ _ _ { s with heap:=((s.heap.push (seqObj "list" #[] 0)).update s.heap.objs.size (Obj.mapSeq (·++vs.toArray))).push (seqObj "list" vs.toArray 0) }
 rw [z1]
 refine wpAny_bind (wpAny_holding (wpAny_call_entry slot_list_sort ⟨_,g1,rfl⟩ entry_list_sort (sort_any g1 hz (fun h2 Q' q=>hkind _ old h2 _ _ Q' ?_ q) (fun h2=>hask _ old h2 _ _ ?_) fun out a1 a2=>⟨_,rfl,?_⟩) (args_list_sort _)))
 .show A.units+1+1 <= A.units+8;omega
 .show A.units+1+1 <= A.units+8;omega
 .exact wpAny_pure ⟨_,rfl,h out a1 a2⟩
end
end L2S
namespace L2
open PySem PySem.Spec PyProof.Rows L2S
theorem kn_K {xs:Array Keyed} {i:Nat}:kn (fun p=>numOf p.1) xs i=PyProof.Rows.K xs i:=by
 unfold kn PyProof.Rows.K
 cases xs[i]? <;> rfl
section
variable {prog:Program} {w:World} {A:Around} {E:Value->Shared->Prop} {s:Shared}
theorem asks_ints {a₀:Array Keyed} (h0:IntKeys a₀):Asks (model prog w) A E s oneType' a₀ fun p=>numOf p.1 where
 lt:=fun x y hx hy st Q hk q=>by
  obtain ⟨n,t,e1⟩:=h0 x hx
  obtain ⟨m,u,e2⟩:=h0 y hy
  rw [lt'_eq]
  refine wpS_bind (wpS_get ?_)
  rw [hk,keyLt'_oneType]
  rw [e1,e2] at q ⊢
  exact wpS_bind (wpS_lift (wpAny_attempt (oneLt_int ⟨rfl,wpS_pure q⟩)))
theorem kind_of_ints {vs:List Value} {ns:List Int} (hI:IntsAre vs ns) (h2:2 <= vs.length):keyKind' vs.toArray=pure oneType':=by
 cases vs with
 | nil=>exact absurd h2 (by simp)
 | cons v₁ r=>
  cases r with
  | nil=>exact absurd h2 (by simp)
  | cons v₂ r=>exact keyKind_ints hI
theorem sorted_intsB {l:Addr} {vs:List Value} {ns:List Int} {Q:Value->Shared->Prop} (hl:s.heap.IsList l vs.toArray) (hI:IntsAre vs ns) (hz:vs.length <= 1000)
  (h:∀ (out:Array Value) (ns':List Int),IntsAre out.toList ns'->ns'.Perm ns->ns'.Pairwise (· <= ·)->Q (.ref (s.heap.objs.size+1)) { s with heap:=sortedAll s.heap vs out }):wpAny (model prog w) A (call (.builtin "sorted") [.ref l]) Q E s:=by
 refine sorted_any (κ:=oneType') (f:=fun p=>numOf p.1) hl hz (fun h' _ h2 A' E' Q' _ q=>?_) (fun h' _ h2 A' E' _=>asks_ints hI.intKeys) fun out hp hu=>?_
 .rw [kind_of_ints hI h2]
  exact wpAny_pure q
 .obtain ⟨ns',a1,a2,a3⟩:=sorted_out hI hp (fun i j z1 z2=>by
   rw [pairsOf_size] at z2
   have:=hu i j (yAG _) z1 (by omega)
   rw [kn_K,kn_K] at this
   exact this)
  exact h _ ns' a1 a2 a3
end
section
variable {X:Cx}
theorem call_sortedB:ZCX X (.builtin "sorted") (fun xs H Q=>∃ (p:Addr) (ns:List Int),xs=[.ref p] /\ SqL X.K H p (ns.map V.int) /\ ns.length <= 1000 /\ ∀ (l:Addr) (ms:List Int),H l=none->ms.Perm ns->ms.Pairwise (· <= ·)->Q (.ref l) (upd H l (.lst (ms.map V.int)))):=by
 intro pins s σ H xs us Q I r h
 obtain ⟨p,ns,rfl,hq,hn,q⟩:=h
 obtain ⟨u,rfl,rx⟩:=ZEQ r
 cases rx
 obtain ⟨its,r',pl,hz⟩:=I.list hq
 have hlen:=r'.length
 rw [yAB] at hlen
 refine sorted_intsB pl.isList (intsAre_of r') (by omega) fun out ns' a1 a2 a3=>?_
 obtain ⟨e,he⟩:=sortedAll_at s.heap its out
 have hl':ns'.length=ns.length:=a2.length_eq
 refine ⟨.ref (s.heap.objs.size+1),_,I.laid (t':=s.toks) (fun b o e=>sortedAll_old e) (yAP _) (o:=.lst (ns'.map V.int)) ⟨?_,out.toList,e,ZCY a1,by simpa using he⟩,rfl,q _ ns' (I.hok.fresh (yAP _)) a2 a3⟩
 rw [yAB]
 exact ZAS (by omega)
end
open PySem PySem.Spec PyProof.Rows L2S
noncomputable def lxP (x y:Int×Int):Prop:=x.1 < y.1∨(x.1=y.1 /\ x.2 < y.2)
noncomputable instance (x y:Int×Int):Decidable (lxP x y):=by unfold lxP;exact inferInstance
noncomputable abbrev PrA:=Addr×Int×Int
noncomputable def ZDA (zs:List PrA) (v:Int×Int):Nat:=zs.countP fun z=>decide (lxP z.2 v)
theorem rank_lt {zs:List PrA} {x:PrA} {v:Int×Int} (hx:x∈zs):ZDA zs x.2 < ZDA zs v↔lxP x.2 v:=by
 have mono:∀ (l:List PrA) (a b:Int×Int),(∀ z:Int×Int,lxP z a->lxP z b)->l.countP (fun z=>decide (lxP z.2 a)) <= l.countP (fun z=>decide (lxP z.2 b)):=fun l a b h=>
  List.countP_mono_left fun z _ e=>decide_eq_true (h _ (of_decide_eq_true e))
 constructor
 .intro h
  by_cases e:lxP x.2 v
  .exact e
  .have:=mono zs v x.2 fun z hz=>by unfold lxP at *;omega
   unfold ZDA at h
   omega
 .intro h
  obtain ⟨s,t,rfl⟩:=List.append_of_mem hx
  unfold ZDA
  rw [List.countP_append,List.countP_append,List.countP_cons,List.countP_cons]
  have m:∀ z:Int×Int,lxP z x.2->lxP z v:=fun z hz=>by unfold lxP at *;omega
  have h1:=mono s x.2 v m
  have h2:=mono t x.2 v m
  have h3:decide (lxP x.2 x.2)=false:=decide_eq_false (by unfold lxP;omega)
  rw [h3,decide_eq_true h]
  simp only [yCM,if_false,if_true]
  omega
section
variable {prog:Program} {w:World} {A:Around} {E:Value->Shared->Prop} {s:Shared}
noncomputable def PairAt (h:Heap) (z:PrA):Prop:=∃ o t u n,h.get? z.1=some o /\ o.cls=.type "tuple" /\ o.data=.seq #[.int z.2.1 t,.int z.2.2 u] n
theorem PairAt.keep {h h':Heap} {z:PrA} (p:PairAt h z) (k:∀ b o,h.get? b=some o->h'.get? b=some o):PairAt h' z:=let ⟨o,t,u,n,a,b,c⟩:=p;⟨o,t,u,n,k _ _ a,b,c⟩
noncomputable def ZE1 (zs:List PrA):Value->Int×Int
 | .ref a=>((zs.find? fun z=>decide (z.1=a)).map (·.2)).getD (0,0)
 | _=>(0,0)
theorem ZEY {h:Heap} {zs:List PrA} (hp:∀ z∈zs,PairAt h z) {z:PrA} (hz:z∈zs):ZE1 zs (.ref z.1)=z.2:=by
 show ((zs.find? fun y=>decide (y.1=z.1)).map (·.2)).getD (0,0)=z.2
 cases e:zs.find? fun y=>decide (y.1=z.1) with
 | none=>exact absurd (List.find?_eq_none.mp e z hz) (by simp)
 | some y=>
  have h1:y.1=z.1:=by simpa using List.find?_some e
  have h2:=List.mem_of_find?_eq_some e
  obtain ⟨o,t,u,n,a1,_,a3⟩:=hp y h2
  obtain ⟨o',t',u',n',b1,_,b3⟩:=hp z hz
  rw [h1,b1] at a1
  cases a1
  rw [b3] at a3
  have e1:y.2=z.2:=by
   injection a3 with a4 a5
   have a6:=congrArg Array.toList a4
   simp at a6
   exact Prod.ext a6.1.1.symm a6.2.1.symm
  exact e1
theorem kat_ints {a b a' b':Int} {t u t' u':Tok} {Q:Bool->Shared->Prop} (h:Q (decide (lxP (a,b) (a',b'))) s):PySem.W.KatLex prog w A true false Q [(.int a t,.int a' t'),(.int b u,.int b' u')] 0 s:=by
 refine PySem.W.kat_cons (wpAny_eqBool_int ?_)
 by_cases e:a=a'
 .rw [show (a == a')=true by simpa using e]
  refine PySem.W.kat_yes (PySem.W.kat_cons (wpAny_eqBool_int ?_))
  by_cases e2:b=b'
  .rw [show (b == b')=true by simpa using e2]
   refine PySem.W.kat_yes (PySem.W.kat_nil ?_)
   rw [decide_eq_false (by unfold lxP;dsimp only;omega)] at h
   exact h
  .rw [show (b == b')=false by simpa using e2]
   refine PySem.W.kat_no (PySem.W.kat_one _ _ (lt_int ?_))
   have e3:decide (lxP (a,b) (a',b'))=decide (b < b'):=by
    by_cases z:b < b'
    .rw [decide_eq_true z];exact decide_eq_true (by unfold lxP;dsimp only;omega)
    .rw [decide_eq_false z];exact decide_eq_false (by unfold lxP;dsimp only;omega)
   rw [e3] at h
   exact h
 .rw [show (a == a')=false by simpa using e]
  refine PySem.W.kat_no ?_
  have e3:decide (lxP (a,b) (a',b'))=decide (a < a'):=by
   by_cases z:a < a'
   .rw [decide_eq_true z];exact decide_eq_true (by unfold lxP;dsimp only;omega)
   .rw [decide_eq_false z];exact decide_eq_false (by unfold lxP;dsimp only;omega)
  rw [e3] at h
  exact oneLt_int h
theorem asks_pairs {zs:List PrA} (hp:∀ z∈zs,PairAt s.heap z):Asks (model prog w) A E s (tuples' true) (pairsOf (zs.map fun z=>Value.ref z.1)) fun p=>(ZDA zs (ZE1 zs p.1):Int) where
 lt:=fun x y hx hy st Q hk q=>by
  have of:∀ p:Keyed,p∈(pairsOf (zs.map fun z=>Value.ref z.1)).toList->∃ z∈zs,p.1=.ref z.1:=fun p hpm=>by
   rw [pairsOf_toList] at hpm
   obtain ⟨z,hz,e⟩:=yBF.mp (mem_zip_self hpm).2
   exact ⟨z,hz,e.symm⟩
  obtain ⟨z,hz,ez⟩:=of x hx
  obtain ⟨y',hy',ey⟩:=of y hy
  rw [ez,ey,ZEY hp hz,ZEY hp hy'] at q
  have er:decide ((ZDA zs z.2:Int) < (ZDA zs y'.2:Int))=decide (lxP z.2 y'.2):=by
   have:=rank_lt (v:=y'.2) hz
   by_cases e:lxP z.2 y'.2
   .rw [decide_eq_true e];exact decide_eq_true (by have:=this.mpr e;omega)
   .rw [decide_eq_false e];exact decide_eq_false (fun c=>e (this.mp (by omega)))
  rw [er] at q
  rw [lt'_eq]
  refine wpS_bind (wpS_get ?_)
  rw [hk,ez,ey]
  obtain ⟨o,t,u,n,a1,a2,a3⟩:=hp z hz
  obtain ⟨o',t',u',n',b1,b2,b3⟩:=hp y' hy'
  exact wpS_bind (wpS_lift (wpAny_attempt (PySem.W.kat_lt a1 a3 b1 b3 (kat_ints ⟨rfl,wpS_pure q⟩))))
theorem tups_of {h:Heap}:∀ {zs:List PrA},(∀ z∈zs,PairAt h z)->∃ fs,PySem.W.KatTups h (zs.map fun z=>Value.ref z.1) fs /\ fs.length=zs.length /\ ∀ v∈fs,∃ n t,v=Value.int n t
 | [],_=>⟨[],trivial,rfl,fun v h=>by cases h⟩
 | z::r,hp=>by
  obtain ⟨fs,f1,f2,f3⟩:=tups_of (zs:=r) fun y hy=>hp y (yAJ _ hy)
  obtain ⟨o,t,u,n,a1,a2,a3⟩:=hp z yAE
  refine ⟨.int z.2.1 t::fs,PySem.W.KatTups.cons a1 a2 a3 rfl f1,by rw [yAR,yAR,f2],fun v hv=>?_⟩
  rcases yAH.mp hv with e | e
  .exact ⟨_,_,e⟩
  .exact f3 v e
theorem perm_map {α β:Type} (g:α->β):∀ {l:List β} {zs:List α},l.Perm (zs.map g)->∃ ms:List α,ms.Perm zs /\ l=ms.map g
 | [],zs,h=>by
  have:zs=[]:=by
   have:=h.length_eq
   rw [yBK,yAB] at this
   exact List.length_eq_zero_iff.mp this.symm
  subst this
  exact ⟨[],.nil,rfl⟩
 | x::r,zs,h=>by
  obtain ⟨z,hz,e⟩:=yBF.mp (h.mem_iff.mp yAE)
  obtain ⟨a,b,rfl⟩:=List.append_of_mem hz
  have h2:(x::r).Perm (x::(a++b).map g):=by
   refine h.trans ?_
   rw [yBB,yAT,e,yBB]
   exact List.perm_middle
  obtain ⟨ms,m1,m2⟩:=perm_map g (List.Perm.cons_inv h2)
  exact ⟨z::ms,(m1.cons z).trans List.perm_middle.symm,by rw [m2,yAT,e]⟩
theorem sorted_pairs {l:Addr} {zs:List PrA} {Q:Value->Shared->Prop} (hl:s.heap.IsList l (zs.map fun z=>Value.ref z.1).toArray) (hp:∀ z∈zs,PairAt s.heap z) (hz:zs.length <= 1000)
  (h:∀ (ms:List PrA),ms.Perm zs->ms.Pairwise (fun x y=>¬ lxP y.2 x.2)->Q (.ref (s.heap.objs.size+1)) { s with heap:=sortedAll s.heap (zs.map fun z=>Value.ref z.1) (ms.map fun z=>Value.ref z.1).toArray }):wpAny (model prog w) A (call (.builtin "sorted") [.ref l]) Q E s:=by
 refine sorted_any (κ:=tuples' true) (f:=fun p=>(ZDA zs (ZE1 zs p.1):Int)) hl (by rw [yAB];exact hz) (fun h' k h2 A' E' Q' _ q=>?_) (fun h' k h2 A' E' _=>asks_pairs (s:={ s with heap:=h' }) fun z hz=>(hp z hz).keep k) fun out ho hu=>?_
 .obtain ⟨fs,f1,f2,f3⟩:=tups_of (h:=h') fun z hz=>(hp z hz).keep k
  rw [yAB] at h2
  refine PySem.W.kat_kind (T:=.type "int") f1 (by omega) (fun v hv=>?_) rfl q
  obtain ⟨n,t,rfl⟩:=f3 v hv
  exact .now
 .have hl2:out.toList.Perm (zs.map fun z=>((Value.ref z.1,Value.ref z.1):Keyed)):=by
   have:=Array.perm_iff_toList_perm.mp ho
   rw [pairsOf_toList] at this
   rw [show (zs.map fun z=>((Value.ref z.1,Value.ref z.1):Keyed))=(zs.map fun z=>Value.ref z.1).zip (zs.map fun z=>Value.ref z.1) by rw [List.zip_map']]
   exact this
  obtain ⟨ms,m1,m2⟩:=perm_map _ hl2
  have e:out.map (·.2)=(ms.map fun z=>Value.ref z.1).toArray:=by
   apply Array.toList_inj.mp
   rw [Array.toList_map,m2,List.map_map]
   rfl
  rw [e]
  refine h ms m1 ?_
  rw [List.pairwise_iff_getElem]
  intro i j hi hj hij hlt
  have hln:ms.length=zs.length:=m1.length_eq
  have at':∀ k (hk:k < ms.length),kn (fun p=>(ZDA zs (ZE1 zs p.1):Int)) out k=ZDA zs ms[k].2:=fun k hk=>by
   have:out[k]?=some ((Value.ref ms[k].1,Value.ref ms[k].1):Keyed):=by
    rw [<- yBE,m2,yAU,yAD hk]
    rfl
   rw [ZBC this]
   dsimp only
   rw [ZEY hp (m1.mem_iff.mp (List.getElem_mem hk))]
  have z:=hu i j (yAG _) (yBT hij) (by rw [yAB];omega)
  rw [at' i hi,at' j hj] at z
  have:=(rank_lt (zs:=zs) (v:=ms[i].2) (m1.mem_iff.mp (List.getElem_mem hj))).mpr hlt
  omega
end
theorem vals_refs:∀ {zs:List PrA} {its:List Value},Vals (zs.map fun z=>V.ref z.1) its->its=zs.map fun z=>Value.ref z.1
 | [],_,.nil=>rfl
 | z::r,_,.cons a b=>by
  have e:=vals_refs b
  cases a
  rw [e]
  rfl
theorem refs_vals:∀ ms:List PrA,Vals (ms.map fun z=>V.ref z.1) (ms.map fun z=>Value.ref z.1)
 | []=>.nil
 | _::r=>.cons rfl (refs_vals r)
section
variable {X:Cx}
theorem call_sortedT:ZCX X (.builtin "sorted") (fun xs H Q=>∃ (p:Addr) (zs:List PrA),xs=[.ref p] /\ SqL X.K H p (zs.map fun z=>V.ref z.1) /\ (∀ z∈zs,SqT X.K H z.1 [.int z.2.1,.int z.2.2]) /\ zs.length <= 1000 /\ ∀ (l:Addr) (ms:List PrA),H l=none->ms.Perm zs->ms.Pairwise (fun x y=>¬ lxP y.2 x.2)->Q (.ref l) (upd H l (.lst (ms.map fun z=>V.ref z.1)))):=by
 intro pins s σ H xs us Q I r h
 obtain ⟨p,zs,rfl,hq,hz,hn,q⟩:=h
 obtain ⟨u,rfl,rx⟩:=ZEQ r
 cases rx
 obtain ⟨its,r',pl,hzl⟩:=I.list hq
 obtain rfl:=vals_refs r'
 have hpa:∀ z∈zs,PairAt s.heap z:=fun z hzm=>by
  obtain ⟨it,rt,pt,_⟩:=I.tuple (hz z hzm)
  obtain ⟨a,b,rfl,⟨t,rfl⟩,⟨t',rfl⟩⟩:=ZEX rt
  obtain ⟨o,ho,hc,n,hd⟩:=pt
  exact ⟨o,t,t',n,ho,hc,hd⟩
 refine sorted_pairs pl.isList hpa hn fun ms m1 m2=>?_
 obtain ⟨e,he⟩:=sortedAll_at s.heap (zs.map fun z=>Value.ref z.1) (ms.map fun z=>Value.ref z.1).toArray
 have hln:ms.length=zs.length:=m1.length_eq
 refine ⟨.ref (s.heap.objs.size+1),_,I.laid (t':=s.toks) (fun b o e=>sortedAll_old e) (yAP _) (o:=.lst (ms.map fun z=>V.ref z.1)) ⟨?_,(ms.map fun z=>Value.ref z.1),e,refs_vals ms,he⟩,rfl,q _ ms (I.hok.fresh (yAP _)) m1 m2⟩
 rw [yAB]
 exact ZAS (by omega)
end
end L2
namespace Po
noncomputable def st (acc h:Nat):Nat:=(((acc+h * 14029467366897019727) % 2 ^ 64 * 2 ^ 31 % 2 ^ 64+(acc+h * 14029467366897019727) % 2 ^ 64 / 2 ^ 33) * 11400714785074694791) % 2 ^ 64
noncomputable def G (a:Nat):Nat:=st 2870177450012600261 a * 839798700976720815 % 2 ^ 64
theorem ZEl (x:Nat):x * 2 ^ 31 % 2 ^ 64=x % 2 ^ 33 * 2 ^ 31:=by
 rw [show (2:Nat) ^ 64=2 ^ 33 * 2 ^ 31 by decide,Nat.mul_mod_mul_right]
theorem rot_lt {x:Nat} (hx:x < 2 ^ 64):x * 2 ^ 31 % 2 ^ 64+x / 2 ^ 33 < 2 ^ 64:=by rw [ZEl];omega
theorem rot_inj {x y:Nat} (hx:x < 2 ^ 64) (hy:y < 2 ^ 64) (h:x * 2 ^ 31 % 2 ^ 64+x / 2 ^ 33=y * 2 ^ 31 % 2 ^ 64+y / 2 ^ 33):x=y:=by
 rw [ZEl,ZEl] at h
 have a1:=Nat.div_add_mod x (2 ^ 33)
 have a2:=Nat.div_add_mod y (2 ^ 33)
 have b1:x / 2 ^ 33 < 2 ^ 31:=by omega
 have b2:y / 2 ^ 33 < 2 ^ 31:=by omega
 generalize x / 2 ^ 33=q at *
 generalize y / 2 ^ 33=q' at *
 generalize x % 2 ^ 33=r at *
 generalize y % 2 ^ 33=r' at *
 omega
theorem back {x p i:Nat} (h:p * i % 2 ^ 64=1) (hx:x < 2 ^ 64):x * p % 2 ^ 64 * i % 2 ^ 64=x:=by
 rw [Nat.mod_mul_mod,Nat.mul_assoc,Nat.mul_mod,h,Nat.mul_one,Nat.mod_mod,Nat.mod_eq_of_lt hx]
theorem st_inj {a b a' b':Nat} (h:st a b=st a' b'):(a+b * 14029467366897019727) % 2 ^ 64=(a' + b' * 14029467366897019727) % 2 ^ 64:=by
 unfold st at h
 have l1:(a+b * 14029467366897019727) % 2 ^ 64 < 2 ^ 64:=Nat.mod_lt _ (by decide)
 have l2:(a' + b' * 14029467366897019727) % 2 ^ 64 < 2 ^ 64:=Nat.mod_lt _ (by decide)
 generalize (a+b * 14029467366897019727) % 2 ^ 64=x at *
 generalize (a' + b' * 14029467366897019727) % 2 ^ 64=y at *
 have hi:11400714785074694791 * 614540362697595703 % 2 ^ 64=1:=by decide
 have e:=congrArg (fun z=>z * 614540362697595703 % 2 ^ 64) h
 rw [back hi (rot_lt l1),back hi (rot_lt l2)] at e
 exact rot_inj l1 l2 e
theorem to_G {a b x:Nat} (h:(st 2870177450012600261 a+b * 14029467366897019727) % 2 ^ 64=x % 2 ^ 64):(G a+b) % 2 ^ 64=x * 839798700976720815 % 2 ^ 64:=by
 have e:=congrArg (fun z=>z * 839798700976720815 % 2 ^ 64) h
 rw [Nat.mod_mul_mod,Nat.mod_mul_mod,Nat.add_mul,Nat.mul_assoc,Nat.add_mod,Nat.mul_mod b,show 14029467366897019727 * 839798700976720815 % 2 ^ 64=1 by decide,Nat.mul_one,Nat.mod_mod] at e
 unfold G
 rw [<- e,Nat.add_mod,Nat.mod_mod]
noncomputable def far (x y:Nat):Bool:=decide (1000 < (x+2 ^ 64-y) % 2 ^ 64) && decide ((x+2 ^ 64-y) % 2 ^ 64 < 2 ^ 64-1000)
noncomputable def ZDq:List Nat->Bool
 | []=>true
 | x::r=>r.all (far x) && ZDq r
theorem ZCG:∀ {l:List Nat} {i j x y:Nat},ZDq l=true->i < j->l[i]?=some x->l[j]?=some y->far x y=true
 | x::r,0,j+1,a,b,h,hij,h1,h2=>by
  unfold ZDq at h
  rw [yBJ,List.all_eq_true] at h
  cases h1
  exact h.1 b (yAN (by simpa using h2))
 | x::r,i+1,j+1,a,b,h,hij,h1,h2=>by
  unfold ZDq at h
  rw [yBJ] at h
  exact ZCG (i:=i) (j:=j) h.2 (by omega) (by simpa using h1) (by simpa using h2)
 | [],i,j,a,b,h,hij,h1,h2=>by simp at h1
theorem farG:ZDq ((List.range 205).map G++[9148689060682678900 * 839798700976720815 % 2 ^ 64])=true:=by decide +kernel
theorem G_at {a:Nat} (h:a < 205):((List.range 205).map G++[9148689060682678900 * 839798700976720815 % 2 ^ 64])[a]?=some (G a):=by
 rw [yBA (by rw [yAB,yCA];exact h),yAU,yCS h];rfl
theorem ZEw {x y:Nat} (h:far x y=true) {b b':Nat} (hx:x < 2 ^ 64) (hy:y < 2 ^ 64) (hb:b <= 500) (hb':b' <= 500):(x+b) % 2 ^ 64≠(y+b') % 2 ^ 64:=by
 unfold far at h
 rw [yBJ,decide_eq_true_iff,decide_eq_true_iff] at h
 omega
theorem G_lt (a:Nat):G a < 2 ^ 64:=Nat.mod_lt _ (by decide)
noncomputable def th (a b:Nat):Nat:=st (st 2870177450012600261 a) b
theorem th_lt (a b:Nat):th a b < 2 ^ 64:=Nat.mod_lt _ (by decide)
theorem th_inj {a a' b b':Nat} (ha:a < 205) (ha':a' < 205) (hb:b <= 500) (hb':b' <= 500) (h:th a b=th a' b'):a=a' /\ b=b':=by
 unfold th at h
 have e:=st_inj (a:=st 2870177450012600261 a) (b:=b) (a':=st 2870177450012600261 a') (b':=b') h
 have e1:=to_G (a:=a) (b:=b) (x:=st 2870177450012600261 a' + b' * 14029467366897019727) e
 have e2:=to_G (a:=a') (b:=b') (x:=st 2870177450012600261 a' + b' * 14029467366897019727) (Eq.refl _)
 rw [<- e2] at e1
 clear e2 e h
 rcases Nat.lt_trichotomy a a' with z | z | z
 .exact absurd e1 (ZEw (ZCG farG z (G_at ha) (G_at ha')) (G_lt _) (G_lt _) hb hb')
 .subst z
  have:=G_lt a
  generalize G a=g at *
  exact ⟨rfl,by omega⟩
 .exact absurd e1.symm (ZEw (ZCG farG z (G_at ha') (G_at ha)) (G_lt _) (G_lt _) hb' hb)
theorem th_ne {a b:Nat} (ha:a < 205) (hb:b <= 500):th a b≠15576566623696079691:=by
 intro h
 have e:st (st 2870177450012600261 a) b=st 9148689060682678900 0:=by
  rw [show st 9148689060682678900 0=15576566623696079691 by decide +kernel];exact h
 have e1:=to_G (a:=a) (b:=b) (x:=9148689060682678900) (by
  have:=st_inj (a:=st 2870177450012600261 a) (b:=b) (a':=9148689060682678900) (b':=0) e
  rw [Nat.zero_mul,Nat.add_zero] at this
  exact this)
 have f:=ZCG (i:=a) (j:=205) farG ha (G_at ha) (y:=9148689060682678900 * 839798700976720815 % 2 ^ 64) (by
  rw [yAZ (by rw [yAB,yCA];exact yAA _),yAB,yCA,yBX,List.getElem?_cons_zero])
 have:=ZEw f (G_lt _) (Nat.mod_lt _ (by decide)) hb (b':=0) (by decide)
 rw [Nat.add_zero,Nat.mod_mod] at this
 exact this e1
noncomputable def fin (acc:Nat):Int:=if (acc+2870177450013471924) % 2 ^ 64=2 ^ 64-1 then 1546275796 else if (acc+2870177450013471924) % 2 ^ 64 < 2 ^ 63 then (((acc+2870177450013471924) % 2 ^ 64:Nat):Int) else (((acc+2870177450013471924) % 2 ^ 64:Nat):Int)-2 ^ 64
theorem fin_of {x:Nat} (hx:x < 2 ^ 64) (nx:x≠15576566623696079691):fin x=(((x+2870177450013471924) % 2 ^ 64:Nat):Int) /\ (x+2870177450013471924) % 2 ^ 64 < 2 ^ 63∨fin x=(((x+2870177450013471924) % 2 ^ 64:Nat):Int)-2 ^ 64 /\ ¬ (x+2870177450013471924) % 2 ^ 64 < 2 ^ 63 /\ (x+2870177450013471924) % 2 ^ 64≠2 ^ 64-1:=by
 have h1:¬ (x+2870177450013471924) % 2 ^ 64=2 ^ 64-1:=by omega
 unfold fin
 rw [if_neg h1]
 by_cases h2:(x+2870177450013471924) % 2 ^ 64 < 2 ^ 63
 .rw [if_pos h2];exact .inl ⟨rfl,h2⟩
 .rw [if_neg h2];exact .inr ⟨rfl,h2,h1⟩
theorem fin_inj {x y:Nat} (hx:x < 2 ^ 64) (hy:y < 2 ^ 64) (nx:x≠15576566623696079691) (ny:y≠15576566623696079691) (h:fin x=fin y):x=y:=by
 rcases fin_of hx nx with ⟨e1,l1⟩ | ⟨e1,l1,_⟩ <;> rcases fin_of hy ny with ⟨e2,l2⟩ | ⟨e2,l2,_⟩ <;> rw [e1,e2] at h <;> omega
end Po
namespace L2
open PySem PySem.Spec PyProof.Rows
theorem hash_small (n:Nat) (hn:n <= 500):hashInt (n:Int)=n:=by
 have e:rawHash (n:Int)=n:=by
  unfold rawHash
  dsimp only
  rw [Int.natAbs_natCast,if_neg (show ¬ (n:Int) < 0 by omega),show (n:Int) % ((2 ^ 61-1:Nat):Int)=n by omega,if_neg (fun z=>by have:=eq_of_beq z;omega)]
 unfold hashInt
 rw [e,if_neg (fun z=>by have:=eq_of_beq z;omega)]
noncomputable def stI (acc:Nat) (h:Int):Nat:=Po.st acc (h % ((2 ^ 64:Nat):Int)).toNat
theorem fold_eq (hs:List Int):Builtin.Tuple.tupleHashOf hs=(if (hs.foldl stI 2870177450012600261+(hs.length ^^^ (2870177450012600261 ^^^ 3527539))) % 2 ^ 64 == 2 ^ 64-1 then 1546275796 else if (hs.foldl stI 2870177450012600261+(hs.length ^^^ (2870177450012600261 ^^^ 3527539))) % 2 ^ 64 < 2 ^ 63 then (((hs.foldl stI 2870177450012600261+(hs.length ^^^ (2870177450012600261 ^^^ 3527539))) % 2 ^ 64:Nat):Int) else (((hs.foldl stI 2870177450012600261+(hs.length ^^^ (2870177450012600261 ^^^ 3527539))) % 2 ^ 64:Nat):Int)-((2 ^ 64:Nat):Int)):=by
 unfold Builtin.Tuple.tupleHashOf
 rfl
theorem pairH {a b:Nat} (ha:a < 205) (hb:b <= 500):Builtin.Tuple.tupleHashOf [(a:Int),(b:Int)]=Po.fin (Po.th a b):=by
 have ea:((a:Int) % ((2 ^ 64:Nat):Int)).toNat=a:=by omega
 have eb:((b:Int) % ((2 ^ 64:Nat):Int)).toNat=b:=by omega
 have hC:([(a:Int),(b:Int)].length ^^^ (2870177450012600261 ^^^ 3527539))=2870177450013471924:=by
  show (2 ^^^ (2870177450012600261 ^^^ 3527539):Nat)=_
  decide +kernel
 have hf:[(a:Int),(b:Int)].foldl stI 2870177450012600261=Po.th a b:=by
  rw [List.foldl_cons,List.foldl_cons,List.foldl_nil]
  unfold stI Po.th
  rw [ea,eb]
 rw [fold_eq,hC,hf]
 unfold Po.fin
 by_cases h:(Po.th a b+2870177450013471924) % 2 ^ 64=2 ^ 64-1
 .rw [if_pos h,if_pos (beq_iff_eq.mpr h)]
 .rw [if_neg h,if_neg (fun z=>h (beq_iff_eq.mp z))]
  rfl
theorem hash_pair (P:Program) (w:World) {a b:Nat} (ha:a < 205) (hb:b <= 500):(tupleKind (ZAQ P w)).hash [.inl (a:Int),.inl (b:Int)]=Po.fin (Po.th a b):=by
 show reduceHash (Builtin.Tuple.tupleHashOf [hashInt (a:Int),hashInt (b:Int)])=_
 rw [hash_small a (by omega),hash_small b hb]
 have e:=pairH ha hb
 rw [e]
 unfold reduceHash
 have:=Po.fin_of (Po.th_lt a b) (Po.th_ne ha hb)
 have h1:-(2 ^ 63:Int) <= Po.fin (Po.th a b) /\ Po.fin (Po.th a b) < 2 ^ 63 /\ Po.fin (Po.th a b)≠-1:=by omega
 rw [if_pos (by rw [yBJ,decide_eq_true_iff,decide_eq_true_iff];exact ⟨h1.1,h1.2.1⟩),if_neg (fun z=>h1.2.2 (eq_of_beq z))]
noncomputable def ZEz (kvs:List (List Key×V)):Prop:=∀ kv∈kvs,∃ a b:Nat,kv.1=[.inl (a:Int),.inl (b:Int)] /\ a < 205 /\ b <= 500
section
variable {X:Cx} {pins:List (Addr×Obj)} {σ:St} {H:Hp} {A:Around} {E:Value->Shared->Prop} {s:Shared}
theorem hash_nodup {P:Program} {w:World}:∀ {kvs:List (List Key×V)} {xs:List (List Key×Addr×Value)},ZEz kvs->KT H kvs xs->(xs.map (·.1)).Nodup->xs.Pairwise (fun x y=>(entryOfKey (tupleKind (ZAQ P w)) x).hash≠(entryOfKey (tupleKind (ZAQ P w)) y).hash):=by
 intro kvs xs hk kt nd
 have keys:∀ x∈xs,∃ a b:Nat,x.1=[.inl (a:Int),.inl (b:Int)] /\ a < 205 /\ b <= 500:=by
  intro x hx
  obtain ⟨y,hy,e⟩:∃ y∈kvs,y.1=x.1:=by
   clear nd hk
   induction kt with
   | nil=>cases hx
   | @cons p q ps qs hq t ih=>
    rcases yAH.mp hx with e | hx
    .subst e;exact ⟨p,yAE,hq.1⟩
    .obtain ⟨y,h1,h2⟩:=ih hx;exact ⟨y,yAJ _ h1,h2⟩
  obtain ⟨a,b,h1,h2,h3⟩:=hk y hy
  exact ⟨a,b,by rw [<- e,h1],h2,h3⟩
 rw [List.Nodup,List.pairwise_map] at nd
 refine nd.imp_of_mem fun {x y} hx hy ne e=>?_
 obtain ⟨a,b,e1,h1,h2⟩:=keys x hx
 obtain ⟨a',b',e1',h1',h2'⟩:=keys y hy
 have e:(tupleKind (ZAQ P w)).hash x.1=(tupleKind (ZAQ P w)).hash y.1:=e
 rw [e1,e1',hash_pair P w h1 h2,hash_pair P w h1' h2'] at e
 have:=Po.th_inj h1 h1' h2 h2' (Po.fin_inj (Po.th_lt _ _) (Po.th_lt _ _) (Po.th_ne h1 h2) (Po.th_ne h1' h2') e)
 exact ne (by rw [e1,e1',this.1,this.2])
theorem one_hash {α:Type} (f:α->Int) (x:α):∀ {l:List α},l.Pairwise (fun a b=>f a≠f b)->(l.filter (fun y=>f y == f x)).length <= 1
 | [],_=>yAG _
 | a::r,h=>by
  obtain ⟨h1,h2⟩:=List.pairwise_cons.mp h
  by_cases e:f a=f x
  .rw [yCT (by simpa using e)]
   have:r.filter (fun y=>f y == f x)=[]:=List.filter_eq_nil_iff.mpr fun b hb z=>h1 b hb (by rw [e];exact (by simpa using z:f b=f x).symm)
   rw [this]
   exact yAA _
  .rw [yCU (by simpa using e)]
   exact one_hash f x h2
theorem entries_empty {id:String} {d:Addr} {o:Obj} {es ep} {kvs:List (List Key×V)} {xs:List (List Key×Addr×Value)} {Q:Array DictEntry->Shared->Prop} (ho:s.heap.get? d=some o) (hd:o.data=.dict es ep)
  (he:es.toList=xs.map (entryOfKey (tupleKind (ZAQ X.prog X.w)))) (hk:∀ x∈xs,(tupleKind (ZAQ X.prog X.w)).is s.heap x.1 x.2.1) (hp:xs.Pairwise (fun x y=>(entryOfKey (tupleKind (ZAQ X.prog X.w)) x).hash≠(entryOfKey (tupleKind (ZAQ X.prog X.w)) y).hash)) (h:Q es s) :
  wpAny (model X.prog X.w) A (Builtin.Dict.entriesForEmpty id d) Q E s:=by
 unfold Builtin.Dict.entriesForEmpty
 refine wpAny_bind (wpAny_dictEntries ho hd ?_)
 refine wpAny_bind ?_
 rw [<- Array.forIn_toList]
 refine wpAny_forIn_list _ (fun rest _ s'=>s'=s /\ ∀ e∈rest,e∈es.toList) _ ?_ ?_ _ _ ⟨rfl,fun e z=>z⟩
 .rintro e rest b s' ⟨es',hall⟩
  rw [es']
  have hm:=hall e yAE
  rw [he] at hm
  obtain ⟨x,hx,rfl⟩:=yBF.mp hm
  have hT:Shared.TypeIs s (.ref x.2.1) "tuple":=IsTupleKey.typeIs (hk x hx)
  have hsz:¬ (es.filter (fun e'=>e'.hash == (entryOfKey (tupleKind (ZAQ X.prog X.w)) x).hash)).size > 1:=by
   have e1:(es.filter (fun e'=>e'.hash == (entryOfKey (tupleKind (ZAQ X.prog X.w)) x).hash)).size=(es.toList.filter (fun e'=>e'.hash == (entryOfKey (tupleKind (ZAQ X.prog X.w)) x).hash)).length:=by
    rw [<- Array.toList_filter,yAM]
   rw [e1,he]
   have:=one_hash (fun y=>(entryOfKey (tupleKind (ZAQ X.prog X.w)) y).hash) x hp
   rw [List.filter_map,yAB]
   have this:(xs.filter (fun y=>(entryOfKey (tupleKind (ZAQ X.prog X.w)) y).hash == (entryOfKey (tupleKind (ZAQ X.prog X.w)) x).hash)).length <= 1:=this
   exact Nat.not_lt.mpr this
  show wpAny _ _ (Builtin.Dict.quietEq (.ref x.2.1) >>= _) _ _ _
  refine wpAny_bind ?_
  unfold Builtin.Dict.quietEq
  refine wpAny_bind (wpAny_specialOf hT F.slot_tuple_eq.lookup (wpAny_pure ?_))
  rw [if_pos (by decide),if_neg hsz]
  exact wpAny_pure ⟨rfl,fun e z=>hall e (yAJ _ z)⟩
 .rintro b s' ⟨rfl,_⟩
  exact wpAny_pure h
theorem merge_copy {nm:String} {d o:Addr} {kvs:List (List Key×V)} {xs:List (List Key×Addr×Value)} {Q:Unit->Shared->Prop} (hdo:d≠o) (hoS:(o == sysModules)=false) (hd:s.heap.get? d=some { cls:=.type "dict",data:=.dict #[] })
  (ho:s.heap.DictOfH (tupleKind (ZAQ X.prog X.w)) o xs) (hp:xs.Pairwise (fun x y=>(entryOfKey (tupleKind (ZAQ X.prog X.w)) x).hash≠(entryOfKey (tupleKind (ZAQ X.prog X.w)) y).hash)) (hsz:xs.length <= sizeLine)
  (hQ:∀ h',Heap.SameBut d s.heap h'->(∃ od es ep,h'.get? d=some od /\ od.ExactDict /\ od.data=.dict es ep /\ es.toList=xs.map (entryOfKey (tupleKind (ZAQ X.prog X.w))))->Q () { s with heap:=h' }) :
  wpAny (model X.prog X.w) A (Builtin.Dict.mergeDict nm d o) Q E s:=by
 obtain ⟨oo,eso,epo,hoo,hco,hdo',heo,hko,hno⟩:=id ho
 unfold Builtin.Dict.mergeDict
 rw [if_neg (by simpa using hdo)]
 unfold Builtin.Dict.showsAll
 rw [if_neg (by rw [hoS];exact yAS)]
 refine wpAny_bind (wpAny_pure ?_)
 refine wpAny_bind (wpAny_dictEntries hoo hdo' ?_)
 have hdd:({ cls:=.type "dict",data:=.dict #[] }:Obj).data=.dict #[] 0:=rfl
 dsimp only
 cases xs with
 | nil=>
  have h0:eso=#[]:=by
   have:eso.toList=[]:=heo
   exact Array.toList_eq_nil_iff.mp this
  subst h0
  rw [if_neg (by rw [show (#[]:Array DictEntry).all (fun e=>(keyPart e.key).isSome)=true by simp];simp)]
  refine wpAny_bind (wpAny_dictEpoch hoo hdo' ?_)
  refine wpAny_bind (wpAny_dictEntries hoo hdo' ?_)
  refine wpAny_bind ?_
  rw [Std.Legacy.Range.forIn_eq_forIn_range']
  refine wpAny_pure (wpAny_pure (hQ s.heap (Heap.SameBut.refl _ _) ⟨_,_,_,hd,⟨rfl,rfl,rfl⟩,hdd,rfl⟩))
 | cons x r=>
  have hne:(eso.all fun e=>(keyPart e.key).isSome)=false:=by
   rw [<- Array.all_toList,heo]
   rfl
  rw [if_pos (by rw [hne,Bool.and_false];rfl)]
  refine wpAny_bind (wpAny_dictEntries hd hdd ?_)
  rw [if_pos (by rfl)]
  refine wpAny_bind (entries_empty (kvs:=kvs) hoo hdo' heo hko hp ?_)
  have hsize:eso.size=(x::r).length:=by rw [<- yAM,heo,yAB]
  have hie:eso.isEmpty=false:=by
   cases e0:eso.isEmpty with
   | false=>rfl
   | true=>rw [Array.isEmpty_iff.mp e0] at hsize;cases hsize
  rw [if_pos (by rw [hie];rfl)]
  refine wpAny_bind (wpAny_updateDictKeysTo hd hdd (wpAny_pure (hQ _ (Heap.SameBut.update ..) ⟨_,eso,0+1,Heap.get?_update_self _ hd (Obj.isFreed_of_dict (Obj.data_mapDictKeys hdd _)),(show Obj.ExactDict _ from ⟨rfl,rfl,rfl⟩).mapDictKeys _,Obj.data_mapDictKeys hdd _,heo⟩)) (by omega))
theorem call_dictC:ZCX X (.type "dict") (fun xs H Q=>∃ (p:Addr) (kvs:List (List Key×V)),xs=[.ref p] /\ H p=some (.dT kvs) /\ ZEz kvs /\ ∀ d,H d=none->Q (.ref d) (upd H d (.dT kvs))):=by
 intro pins s σ H xs us Q I r h
 obtain ⟨p,kvs,rfl,hpd,hsm,q⟩:=h
 obtain ⟨u,rfl,rx⟩:=ZEQ r
 cases rx
 obtain ⟨z,hoS,xs,kt,dd⟩:=dt_of I.hok hpd
 have hxl:xs.length=kvs.length:=(Paired.length kt).symm
 have hnd:(xs.map (·.1)).Nodup:=let ⟨_,_,_,_,_,_,_,_,hn⟩:=dd;hn
 have hpw:=hash_nodup (P:=X.prog) (w:=X.w) hsm kt hnd
 refine callType_codes (Q₁:=fun obj s₁=>obj=.ref s.heap.objs.size /\ s₁={ s with heap:=s.heap.push { cls:=.type "dict",data:=.dict #[] } }) F.kt_called_dict (F.kt_typeCall_dict_1 _) F.entry_dict_init (kt_code_dict_new _ ⟨rfl,rfl⟩) ?_
 rintro obj s₁ ⟨rfl,rfl⟩
 have hdn:(s.heap.push { cls:=.type "dict",data:=.dict #[] }).get? s.heap.objs.size=some { cls:=.type "dict",data:=.dict #[] }:=Heap.get?_push_size _ rfl
 have hk1:∀ b o,s.heap.get? b=some o->(s.heap.push { cls:=.type "dict",data:=.dict #[] }).get? b=some o:=fun b o hb=>Heap.get?_push_of_some _ hb
 have hT:Shared.TypeIs { s with heap:=s.heap.push { cls:=.type "dict",data:=.dict #[] } } (.ref s.heap.objs.size) "dict":=⟨_,hdn,rfl⟩
 have dd':(s.heap.push { cls:=.type "dict",data:=.dict #[] }).DictOfH (tupleKind (ZAQ X.prog X.w)) p xs:=by
  obtain ⟨o,es,ep,a1,a2,a3,a4,a5,a6⟩:=dd
  exact ⟨o,es,ep,hk1 _ _ a1,a2,a3,a4,fun x hx=>key_mono hk1 (a5 x hx),a6⟩
 obtain ⟨oo,eso,epo,hoo,hco,hdo',heo,hko,hno⟩:=id dd'
 have hTp:Shared.TypeIs { s with heap:=s.heap.push { cls:=.type "dict",data:=.dict #[] } } (.ref p) "dict":=⟨oo,hoo,hco.1⟩
 have hdo:s.heap.objs.size≠p:=by
  obtain ⟨_,_,_,hg,_⟩:=dd
  exact fun e=>absurd (Heap.lt_size hg) (by rw [e];exact yBN _)
 refine ⟨hT,F.args_dict_init_2 _ _,?_⟩
 unfold Builtin.«dict.__init__»
 refine wpAny_bind ?_
 unfold Builtin.Dict.selfAndRest
 refine wpAny_bind (wpAny_notOrdered_dict hT ?_)
 show wpAny _ _ (pure (s.heap.objs.size,[Value.ref p])) _ _ _
 refine wpAny_pure ?_
 show wpAny _ _ (Builtin.Dict.updateFrom "dict.__init__" s.heap.objs.size (.ref p) [] .none) _ _ _
 unfold Builtin.Dict.updateFrom
 refine wpAny_bind (wpAny_typeOf hTp ?_)
 rw [if_neg (by decide)]
 refine wpAny_bind ?_
 unfold Builtin.Dict.merge
 refine wpAny_bind ?_
 unfold Builtin.Dict.readDirectly
 refine wpAny_bind (wpAny_isInstance hTp isSubtype_dict_dict ?_)
 simp only [Bool.not_true,yCM,if_false]
 refine wpAny_bind (wpAny_specialOf hTp F.slot_dict_iter.lookup (wpAny_pure ?_))
 simp only [beq_self_eq_true,if_true]
 refine wpAny_bind (wpAny_pure ?_)
 refine merge_copy (kvs:=kvs) hdo hoS hdn dd' hpw (by omega) fun h' hs' hd'=>?_
 show wpAny _ _ (Builtin.Dict.addKeywords s.heap.objs.size [] >>= _) _ _ _
 refine wpAny_bind (wpAny_pure (wpAny_pure ⟨rfl,?_⟩))
 obtain ⟨od,es,ep,g1,g2,g3,g4⟩:=hd'
 refine ⟨.ref s.heap.objs.size,_,I.laid (h':=h') (t':=s.toks) (o:=.dT kvs) (fun b o hb=>(hs'.2 b (yAI (Heap.lt_size hb))).trans (hk1 _ _ hb)) (yAA _) ⟨z,?_,xs,kt.keeps fun c ys ec=>?_,od,es,ep,g1,g2,g3,g4,hnd⟩,rfl,q _ (I.hok.fresh (yAA _))⟩
 .have:=I.big
  exact beq_eq_false_iff_ne.mpr (Nat.ne_of_gt this)
 .rw [ZAG (ZAC ec (I.hok.fresh (yAA _)))]
  exact ec
end
theorem rec_fn {P:Program} {w:World} {K:W.Frag} {mg:Str->Option Value} {base:Heap} {x:Str} {f:Addr} {fd:FuncData} {ps:List Str} {sp:Nat->Sp} (h0:∀ vs H Q E,sp 0 vs H Q E->False) (hb:Binds K fd ps []) (hk:W.keepIn K (.ref f)=true) (hm:mg x=some (.ref f))
  (step:∀ n,Fn P w K mg base CX0 x n ps (sp n)->FnOk P w K mg base CX0 (n+1) f fd ps (sp (n+1))):∀ n,Fn P w K mg base CX0 x n ps (sp n)
 | 0=>⟨f,fd,⟨fun vs H Q E h=>(h0 vs H Q E h).elim,fun A outer s H args us vs Q E _ _ _ _ h=>(h0 vs H Q E h).elim⟩,hb,hk,hm⟩
 | n+1=>⟨f,fd,step n (rec_fn h0 hb hk hm step n),hb,hk,hm⟩
end L2
namespace L2S
open PySem PyProof.Rows L2
section
variable {prog:Program} {w:World} {A:Around} {E:Value->Shared->Prop} {s:Shared}
theorem sort_intsR {a:Addr} {vs:List Value} {ns:List Int} {n:Nat} {P:PySem.Fin->Shared->Prop} (ho:s.heap.get? a=some (seqObj "list" vs.toArray n)) (hI:IntsAre vs ns) (hz:vs.length <= 1000)
  (h:∀ (out:Array Value) (ns':List Int),IntsAre out.toList ns'->ns'.Perm ns->Ordered true ns'->P (.done (.ret .none)) { s with heap:=sortedHeap s.heap a vs out }):wpAny (model prog w) A (Builtin.«list.sort» ⟨[.ref a],[(Str.ofString "reverse",.bool true)]⟩) P E s:=by
 rw [list_sort_rev]
 have ha:a < s.heap.objs.size:=Heap.lt_size ho
 refine wpAny_bind (listItems_at ho rfl ?_)
 refine wpAny_bind (listUpdate_at ho rfl ?_)
 obtain ⟨e1,ho1⟩:∃ e1,(s.heap.update a (Obj.mapSeq fun _=>#[])).get? a=some (seqObj "list" #[] e1):=⟨_,get?_update_seq ho (fun _=>#[])⟩
 refine wpAny_bind (seqEpoch_at ho1 rfl ?_)
 refine wpAny_bind (wpAny_newTuple (wpAny_bind (wpAny_newList (wpAny_holding ?_))))
 have ho6:(ZBz s.heap a vs).get? a=some (seqObj "list" #[] e1):=Heap.get?_push_of_some _ (Heap.get?_push_of_some _ ho1)
 show wpAny (model prog w) A _ P E { s with heap:=ZBz s.heap a vs }
 dsimp only
 rw [if_pos rfl]
 refine wpAny_bind (wpAny_rule ?_)
 have hsz:vs.toArray.size=vs.length:=yAV ..
 have hl:vs.length <= sizeLine:=yAF hz (by decide)
 rw [hsz]
 have hst:(if true=true then (vs.toArray.zip vs.toArray).reverse else vs.toArray.zip vs.toArray).Perm (pairsOf vs):=Array.perm_iff_toList_perm.mpr (by rw [if_pos rfl,yCR];exact List.reverse_perm _)
 have fin:∀ xs:Array Keyed,xs.Perm (pairsOf vs)->Up (fun p=>numOf p.1) xs 0 vs.length->P (.done (.ret .none)) { s with heap:=sortedHeap s.heap a vs (xs.map (·.2)).reverse }:=by
  intro xs hp hu
  obtain ⟨ns',h1,h2,h3⟩:=sorted_out_rev hI hp (fun i j z1 z2=>by
   rw [pairsOf_size] at z2
   have:=hu i j (yAG _) z1 (by omega)
   rw [kn_K,kn_K] at this
   exact this) true
  exact h _ ns' h1 h2 h3
 by_cases h2:vs.length < 2
 .rw [if_pos h2,if_pos h2]
  refine wpAny_bind (wpAny_pure ?_)
  rw [StateT.run_pure]
  refine wpAny_bind (wpAny_pure ?_)
  dsimp only
  refine wpAny_bind (seqEpoch_at ho6 rfl ?_)
  refine wpAny_bind (listUpdate_at ho6 rfl ?_ (hsz2:=by rw [if_pos rfl,Array.size_reverse,Array.size_map];have:=hst.size_eq;rw [pairsOf_size] at this;show (if true=true then (vs.toArray.zip vs.toArray).reverse else vs.toArray.zip vs.toArray).size <= _;omega))
  rw [if_neg (by simp)]
  exact wpAny_pure (fin _ hst fun i j _ z2 z3=>by rw [show i=j by omega];exact Int.le_refl _)
 .rw [if_neg h2,if_neg h2,kind_of_ints hI (by omega)]
  refine wpAny_bind (wpAny_pure ?_)
  refine wpAny_bind (wpAny_mono (sort_runs (st:=SortSt.mk' oneType' (if true=true then (vs.toArray.zip vs.toArray).reverse else vs.toArray.zip vs.toArray) #[] 7 none) (f:=fun p=>numOf p.1) (Q:=fun _ st'=>SB oneType' (pairsOf vs) st' /\ Up (fun p=>numOf p.1) (arrOf st') 0 (pairsOf vs).size) (asks_ints hI.intKeys) ⟨hst,rfl,rfl⟩ rfl (by rw [pairsOf_size];omega) fun st' a1 a2=>⟨a1,a2⟩) ?_ fun _ _ e=>e)
  rintro ⟨⟨⟩,st'⟩ s' ⟨rfl,hB,hu⟩
  dsimp only
  refine wpAny_bind (seqEpoch_at ho6 rfl ?_)
  have hs:(arrOf st').size=(pairsOf vs).size:=hB.size
  rw [pairsOf_size] at hs hu
  refine wpAny_bind (listUpdate_at ho6 rfl ?_ (hsz2:=by rw [if_pos rfl,Array.size_reverse,Array.size_map];omega))
  rw [hB.fail,if_neg (by simp)]
  exact wpAny_pure (fin _ hB.perm hu)
theorem sorted_intsR {l:Addr} {vs:List Value} {ns:List Int} {Q:Value->Shared->Prop} (hl:s.heap.IsList l vs.toArray) (hI:IntsAre vs ns) (hz:vs.length <= 1000)
  (h:∀ (out:Array Value) (ns':List Int),IntsAre out.toList ns'->ns'.Perm ns->Ordered true ns'->Q (.ref (s.heap.objs.size+1)) { s with heap:=sortedAll s.heap vs out }) :
  wpAny (model prog w) A (call (.builtin "sorted") [.ref l] [(Str.ofString "reverse",.bool true)]) Q E s:=by
 refine call_function_entry_kw kind_sorted plain_sorted entry_sorted (args_sorted_rev _ _) ?_
 unfold Builtin.«sorted»
 refine wpAny_bind (m:=checkCount "sorted" 1 1 _) (wpAny_pure ?_)
 refine wpAny_bind (collect_list hl ?_ (yAF hz (by decide)))
 refine wpAny_bind (wpAny_newList ?_)
 have hsz:((s.heap.push (seqObj "list" #[] 0)).update s.heap.objs.size (Obj.mapSeq (·++vs.toArray))).objs.size=s.heap.objs.size+1:=by
  rw [Heap.size_update,size_push']
 have hoL:(((s.heap.push (seqObj "list" #[] 0)).update s.heap.objs.size (Obj.mapSeq (·++vs.toArray))).push (seqObj "list" vs.toArray 0)).get? (s.heap.objs.size+1)=some (seqObj "list" vs.toArray 0):=by
  rw [<- hsz];exact Heap.get?_push_size _ rfl
 show wpAny _ _ _ _ _ { s with heap:=((s.heap.push (seqObj "list" #[] 0)).update s.heap.objs.size (Obj.mapSeq (·++vs.toArray))).push (seqObj "list" vs.toArray 0) }
 rw [hsz]
 refine wpAny_bind (wpAny_holding (wpAny_call_entry_kw slot_list_sort ⟨_,hoL,rfl⟩ entry_list_sort (sort_intsR hoL hI hz fun out ns' a1 a2 a3=>⟨_,rfl,?_⟩) (args_list_sort_rev _ _)))
 exact wpAny_pure ⟨_,rfl,h out ns' a1 a2 a3⟩
end
end L2S
namespace L2
open PySem PySem.Spec PyProof.Rows L2S
section
variable {X:Cx} {e d:Expr} {te td:TE} {p pos:Pos} {kpos:Pos}
noncomputable def ZEZ (K:W.Frag) (te td:TE):TE:=fun σ H Q=>te σ H fun x H1=>td σ H1 fun y H2=>∃ a ns,x=.ref a /\ y=.bl true /\ SqL K H2 a (ns.map V.int) /\ ns.length <= 1000 /\ ∀ (l:Addr) (ms:List Int),H2 l=none->ms.Perm ns->ms.Pairwise (·≥·)->Q (.ref l) (upd H2 l (.lst (ms.map V.int)))
theorem pe_sortR (he:PE X e te) (hd:PE X d td) (hg:Gl X "sorted") (hm:X.mg "sorted"=none)
  (h1:starEach [e] X.env=(false,eval e X.env)::starEach [] X.env:=by rfl) (h2:backTo pos (starEach [e] X.env)=(false,eval e X.env)::backTo pos (starEach [] X.env):=by rfl)
  (h3:(backTo pos (starEach [e] X.env)).any (·.1)=false:=by rfl) (h4:(backToKw pos (keywordEach [⟨some "reverse",d,kpos⟩] X.env)).all (·.1.isSome)=true:=by rfl)
  (h5:(backToKw pos (keywordEach [⟨some "reverse",d,kpos⟩] X.env)).any (·.1.isNone)=false:=by rfl) :
  PE X (.Call (.Name "sorted" p) [e] [⟨some "reverse",d,kpos⟩] pos) (ZEZ X.K te td):=by
 intro pins s σ H Q I h
 refine wpAny_Call_Name_kw (ZDo I hg hm PyProof.Rows.boot_sorted ?_ (by decide) (by decide))
 refine PyProof.Rows.callWith_kw ?_ h2 h3 h4 h5
 rw [h1]
 show wpAny _ _ (spliced ((false,eval e X.env)::backTo pos (starEach [] X.env))) _ _ s
 refine Calls.spliced_cons (thn (he pins s σ H _ I h) fun u s1 zz=>?_)
 obtain ⟨x,H1,I1,r1,q1⟩:=zz
 refine Calls.spliced_nil ?_
 have q1':ZCM td tNil σ H1 (fun zs H2=>match zs with | [y]=>∃ a ns,x=.ref a /\ y=.bl true /\ SqL X.K H2 a (ns.map V.int) /\ ns.length <= 1000 /\ ∀ (l:Addr) (ms:List Int),H2 l=none->ms.Perm ns->ms.Pairwise (·≥·)->Q (.ref l) (upd H2 l (.lst (ms.map V.int))) | _=>False):=q1
 refine thn (pk_cons (nm:=some "reverse") (kpos:=kpos) hd (pk_nil (X:=X)) pos pins s1 σ H1 _ I1 q1') fun kvs s2 zz=>?_
 obtain ⟨zs,H2,I2,r2,q2⟩:=zz
 match zs,r2,q2 with
 | [y],.cons ry .nil,⟨a,ns,ex,ey,hS,hn,q⟩=>
  subst ex ey
  cases r1
  cases ry
  obtain ⟨its,rv,pl,_⟩:=I2.list hS
  have hlen:=rv.length
  rw [yAB] at hlen
  refine sorted_intsR pl.isList (intsAre_of rv) (by omega) fun out ns' a1 a2 a3=>?_
  obtain ⟨e,he⟩:=sortedAll_at s2.heap its out
  have hl':ns'.length=ns.length:=a2.length_eq
  refine ⟨.ref (s2.heap.objs.size+1),_,I2.laid (t':=s2.toks) (fun b o e=>sortedAll_old e) (yAP _) (o:=.lst (ns'.map V.int)) ⟨?_,out.toList,e,ZCY a1,by simpa using he⟩,rfl,q _ ns' (I2.hok.fresh (yAP _)) a2 a3⟩
  rw [yAB]
  exact ZAS (by omega)
end
open PySem
theorem tVar_1 {v:V} {a0:Option V} {σ:St} {H:Hp} {Q:VK}:tVar 1 (a0::some v::σ) H Q=Q v H:=by
 simp only [ZAf,ZAd]
theorem tVar_2 {v:V} {a0 a1:Option V} {σ:St} {H:Hp} {Q:VK}:tVar 2 (a0::a1::some v::σ) H Q=Q v H:=by
 simp only [ZAf,ZAd]
theorem tVar_3 {v:V} {a0 a1 a2:Option V} {σ:St} {H:Hp} {Q:VK}:tVar 3 (a0::a1::a2::some v::σ) H Q=Q v H:=by
 simp only [ZAf,ZAd]
theorem tVar_4 {v:V} {a0 a1 a2 a3:Option V} {σ:St} {H:Hp} {Q:VK}:tVar 4 (a0::a1::a2::a3::some v::σ) H Q=Q v H:=by
 simp only [ZAf,ZAd]
theorem tVar_5 {v:V} {a0 a1 a2 a3 a4:Option V} {σ:St} {H:Hp} {Q:VK}:tVar 5 (a0::a1::a2::a3::a4::some v::σ) H Q=Q v H:=by
 simp only [ZAf,ZAd]
theorem tVar_6 {v:V} {a0 a1 a2 a3 a4 a5:Option V} {σ:St} {H:Hp} {Q:VK}:tVar 6 (a0::a1::a2::a3::a4::a5::some v::σ) H Q=Q v H:=by
 simp only [ZAf,ZAd]
theorem tVar_7 {v:V} {a0 a1 a2 a3 a4 a5 a6:Option V} {σ:St} {H:Hp} {Q:VK}:tVar 7 (a0::a1::a2::a3::a4::a5::a6::some v::σ) H Q=Q v H:=by
 simp only [ZAf,ZAd]
theorem tVar_8 {v:V} {a0 a1 a2 a3 a4 a5 a6 a7:Option V} {σ:St} {H:Hp} {Q:VK}:tVar 8 (a0::a1::a2::a3::a4::a5::a6::a7::some v::σ) H Q=Q v H:=by
 simp only [ZAf,ZAd]
theorem tVar_9 {v:V} {a0 a1 a2 a3 a4 a5 a6 a7 a8:Option V} {σ:St} {H:Hp} {Q:VK}:tVar 9 (a0::a1::a2::a3::a4::a5::a6::a7::a8::some v::σ) H Q=Q v H:=by
 simp only [ZAf,ZAd]
theorem tVar_10 {v:V} {a0 a1 a2 a3 a4 a5 a6 a7 a8 a9:Option V} {σ:St} {H:Hp} {Q:VK}:tVar 10 (a0::a1::a2::a3::a4::a5::a6::a7::a8::a9::some v::σ) H Q=Q v H:=by
 simp only [ZAf,ZAd]
theorem tVar_11 {v:V} {a0 a1 a2 a3 a4 a5 a6 a7 a8 a9 a10:Option V} {σ:St} {H:Hp} {Q:VK}:tVar 11 (a0::a1::a2::a3::a4::a5::a6::a7::a8::a9::a10::some v::σ) H Q=Q v H:=by
 simp only [ZAf,ZAd]
theorem tVar_12 {v:V} {a0 a1 a2 a3 a4 a5 a6 a7 a8 a9 a10 a11:Option V} {σ:St} {H:Hp} {Q:VK}:tVar 12 (a0::a1::a2::a3::a4::a5::a6::a7::a8::a9::a10::a11::some v::σ) H Q=Q v H:=by
 simp only [ZAf,ZAd]
theorem tVar_13 {v:V} {a0 a1 a2 a3 a4 a5 a6 a7 a8 a9 a10 a11 a12:Option V} {σ:St} {H:Hp} {Q:VK}:tVar 13 (a0::a1::a2::a3::a4::a5::a6::a7::a8::a9::a10::a11::a12::some v::σ) H Q=Q v H:=by
 simp only [ZAf,ZAd]
theorem tVar_14 {v:V} {a0 a1 a2 a3 a4 a5 a6 a7 a8 a9 a10 a11 a12 a13:Option V} {σ:St} {H:Hp} {Q:VK}:tVar 14 (a0::a1::a2::a3::a4::a5::a6::a7::a8::a9::a10::a11::a12::a13::some v::σ) H Q=Q v H:=by
 simp only [ZAf,ZAd]
theorem tVar_15 {v:V} {a0 a1 a2 a3 a4 a5 a6 a7 a8 a9 a10 a11 a12 a13 a14:Option V} {σ:St} {H:Hp} {Q:VK}:tVar 15 (a0::a1::a2::a3::a4::a5::a6::a7::a8::a9::a10::a11::a12::a13::a14::some v::σ) H Q=Q v H:=by
 simp only [ZAf,ZAd]
theorem tVar_16 {v:V} {a0 a1 a2 a3 a4 a5 a6 a7 a8 a9 a10 a11 a12 a13 a14 a15:Option V} {σ:St} {H:Hp} {Q:VK}:tVar 16 (a0::a1::a2::a3::a4::a5::a6::a7::a8::a9::a10::a11::a12::a13::a14::a15::some v::σ) H Q=Q v H:=by
 simp only [ZAf,ZAd]
theorem tVar_17 {v:V} {a0 a1 a2 a3 a4 a5 a6 a7 a8 a9 a10 a11 a12 a13 a14 a15 a16:Option V} {σ:St} {H:Hp} {Q:VK}:tVar 17 (a0::a1::a2::a3::a4::a5::a6::a7::a8::a9::a10::a11::a12::a13::a14::a15::a16::some v::σ) H Q=Q v H:=by
 simp only [ZAf,ZAd]
theorem tVar_18 {v:V} {a0 a1 a2 a3 a4 a5 a6 a7 a8 a9 a10 a11 a12 a13 a14 a15 a16 a17:Option V} {σ:St} {H:Hp} {Q:VK}:tVar 18 (a0::a1::a2::a3::a4::a5::a6::a7::a8::a9::a10::a11::a12::a13::a14::a15::a16::a17::some v::σ) H Q=Q v H:=by
 simp only [ZAf,ZAd]
theorem tVar_19 {v:V} {a0 a1 a2 a3 a4 a5 a6 a7 a8 a9 a10 a11 a12 a13 a14 a15 a16 a17 a18:Option V} {σ:St} {H:Hp} {Q:VK}:tVar 19 (a0::a1::a2::a3::a4::a5::a6::a7::a8::a9::a10::a11::a12::a13::a14::a15::a16::a17::a18::some v::σ) H Q=Q v H:=by
 simp only [ZAf,ZAd]
theorem tVar_20 {v:V} {a0 a1 a2 a3 a4 a5 a6 a7 a8 a9 a10 a11 a12 a13 a14 a15 a16 a17 a18 a19:Option V} {σ:St} {H:Hp} {Q:VK}:tVar 20 (a0::a1::a2::a3::a4::a5::a6::a7::a8::a9::a10::a11::a12::a13::a14::a15::a16::a17::a18::a19::some v::σ) H Q=Q v H:=by
 simp only [ZAf,ZAd]
theorem tVar_21 {v:V} {a0 a1 a2 a3 a4 a5 a6 a7 a8 a9 a10 a11 a12 a13 a14 a15 a16 a17 a18 a19 a20:Option V} {σ:St} {H:Hp} {Q:VK}:tVar 21 (a0::a1::a2::a3::a4::a5::a6::a7::a8::a9::a10::a11::a12::a13::a14::a15::a16::a17::a18::a19::a20::some v::σ) H Q=Q v H:=by
 simp only [ZAf,ZAd]
theorem tVar_22 {v:V} {a0 a1 a2 a3 a4 a5 a6 a7 a8 a9 a10 a11 a12 a13 a14 a15 a16 a17 a18 a19 a20 a21:Option V} {σ:St} {H:Hp} {Q:VK}:tVar 22 (a0::a1::a2::a3::a4::a5::a6::a7::a8::a9::a10::a11::a12::a13::a14::a15::a16::a17::a18::a19::a20::a21::some v::σ) H Q=Q v H:=by
 simp only [ZAf,ZAd]
theorem tVar_23 {v:V} {a0 a1 a2 a3 a4 a5 a6 a7 a8 a9 a10 a11 a12 a13 a14 a15 a16 a17 a18 a19 a20 a21 a22:Option V} {σ:St} {H:Hp} {Q:VK}:tVar 23 (a0::a1::a2::a3::a4::a5::a6::a7::a8::a9::a10::a11::a12::a13::a14::a15::a16::a17::a18::a19::a20::a21::a22::some v::σ) H Q=Q v H:=by
 simp only [ZAf,ZAd]
theorem tVar_24 {v:V} {a0 a1 a2 a3 a4 a5 a6 a7 a8 a9 a10 a11 a12 a13 a14 a15 a16 a17 a18 a19 a20 a21 a22 a23:Option V} {σ:St} {H:Hp} {Q:VK}:tVar 24 (a0::a1::a2::a3::a4::a5::a6::a7::a8::a9::a10::a11::a12::a13::a14::a15::a16::a17::a18::a19::a20::a21::a22::a23::some v::σ) H Q=Q v H:=by
 simp only [ZAf,ZAd]
theorem tVar_25 {v:V} {a0 a1 a2 a3 a4 a5 a6 a7 a8 a9 a10 a11 a12 a13 a14 a15 a16 a17 a18 a19 a20 a21 a22 a23 a24:Option V} {σ:St} {H:Hp} {Q:VK}:tVar 25 (a0::a1::a2::a3::a4::a5::a6::a7::a8::a9::a10::a11::a12::a13::a14::a15::a16::a17::a18::a19::a20::a21::a22::a23::a24::some v::σ) H Q=Q v H:=by
 simp only [ZAf,ZAd]
theorem tVar_26 {v:V} {a0 a1 a2 a3 a4 a5 a6 a7 a8 a9 a10 a11 a12 a13 a14 a15 a16 a17 a18 a19 a20 a21 a22 a23 a24 a25:Option V} {σ:St} {H:Hp} {Q:VK}:tVar 26 (a0::a1::a2::a3::a4::a5::a6::a7::a8::a9::a10::a11::a12::a13::a14::a15::a16::a17::a18::a19::a20::a21::a22::a23::a24::a25::some v::σ) H Q=Q v H:=by
 simp only [ZAf,ZAd]
theorem tVar_27 {v:V} {a0 a1 a2 a3 a4 a5 a6 a7 a8 a9 a10 a11 a12 a13 a14 a15 a16 a17 a18 a19 a20 a21 a22 a23 a24 a25 a26:Option V} {σ:St} {H:Hp} {Q:VK}:tVar 27 (a0::a1::a2::a3::a4::a5::a6::a7::a8::a9::a10::a11::a12::a13::a14::a15::a16::a17::a18::a19::a20::a21::a22::a23::a24::a25::a26::some v::σ) H Q=Q v H:=by
 simp only [ZAf,ZAd]
theorem tVar_28 {v:V} {a0 a1 a2 a3 a4 a5 a6 a7 a8 a9 a10 a11 a12 a13 a14 a15 a16 a17 a18 a19 a20 a21 a22 a23 a24 a25 a26 a27:Option V} {σ:St} {H:Hp} {Q:VK}:tVar 28 (a0::a1::a2::a3::a4::a5::a6::a7::a8::a9::a10::a11::a12::a13::a14::a15::a16::a17::a18::a19::a20::a21::a22::a23::a24::a25::a26::a27::some v::σ) H Q=Q v H:=by
 simp only [ZAf,ZAd]
theorem tVar_29 {v:V} {a0 a1 a2 a3 a4 a5 a6 a7 a8 a9 a10 a11 a12 a13 a14 a15 a16 a17 a18 a19 a20 a21 a22 a23 a24 a25 a26 a27 a28:Option V} {σ:St} {H:Hp} {Q:VK}:tVar 29 (a0::a1::a2::a3::a4::a5::a6::a7::a8::a9::a10::a11::a12::a13::a14::a15::a16::a17::a18::a19::a20::a21::a22::a23::a24::a25::a26::a27::a28::some v::σ) H Q=Q v H:=by
 simp only [ZAf,ZAd]
theorem tVar_30 {v:V} {a0 a1 a2 a3 a4 a5 a6 a7 a8 a9 a10 a11 a12 a13 a14 a15 a16 a17 a18 a19 a20 a21 a22 a23 a24 a25 a26 a27 a28 a29:Option V} {σ:St} {H:Hp} {Q:VK}:tVar 30 (a0::a1::a2::a3::a4::a5::a6::a7::a8::a9::a10::a11::a12::a13::a14::a15::a16::a17::a18::a19::a20::a21::a22::a23::a24::a25::a26::a27::a28::a29::some v::σ) H Q=Q v H:=by
 simp only [ZAf,ZAd]
open PySem
noncomputable def Cut (t:TS):TS:=t
theorem ZAN {X:Cx} {rest:List Stmt} {u:TS} (h:PSs X rest u):PSs X rest (Cut u):=h
theorem ZAU {u:TS} {D:Ends} {σ:St} {H:Hp} (h:u D σ H):Cut u D σ H:=h
theorem us0 {l:List Value} (h:l.length=0):l=[]:=List.length_eq_zero_iff.mp h
theorem us1 {l:List Value} (h:l.length=1):∃ a0,l=[a0]:=by
 cases l with
 | nil=>cases h
 | cons a l=>
  obtain rfl:=us0 (l:=l) (Nat.succ.inj h)
  exact ⟨a,rfl⟩
theorem us2 {l:List Value} (h:l.length=2):∃ a0 a1,l=[a0,a1]:=by
 cases l with
 | nil=>cases h
 | cons a l=>
  obtain ⟨b0,rfl⟩:=us1 (l:=l) (Nat.succ.inj h)
  exact ⟨a,b0,rfl⟩
theorem us3 {l:List Value} (h:l.length=3):∃ a0 a1 a2,l=[a0,a1,a2]:=by
 cases l with
 | nil=>cases h
 | cons a l=>
  obtain ⟨b0,b1,rfl⟩:=us2 (l:=l) (Nat.succ.inj h)
  exact ⟨a,b0,b1,rfl⟩
theorem us4 {l:List Value} (h:l.length=4):∃ a0 a1 a2 a3,l=[a0,a1,a2,a3]:=by
 cases l with
 | nil=>cases h
 | cons a l=>
  obtain ⟨b0,b1,b2,rfl⟩:=us3 (l:=l) (Nat.succ.inj h)
  exact ⟨a,b0,b1,b2,rfl⟩
open PySem PySem.Spec PyProof.Rows
noncomputable def tMakeN (C:Addr):TE:=fun σ H Q=>∀ x dx,H x=none->H dx=none->dx≠x->Q (.ref x) (upd (upd H dx (.own x)) x (.ins C dx []))
noncomputable def ZDv (t u:TE):TE:=fun σ H Q=>t σ H Q∨u σ H Q
theorem pe_either {X:Cx} {e:Expr} {t u:TE} (h:PE X e t) (k:PE X e u):PE X e (ZDv t u):=fun pins s σ H Q I z=>z.elim (h pins s σ H Q I) (k pins s σ H Q I)
end L2
namespace PySem
open Sem (wp)
section
variable {M:Model} {A:Around} {E:Value->Shared->Prop} {s:Shared} {env:Env}
/-- as a comprehension ends: by the library's word where it ends well; an exception is handed on with the names let go, the frame being known -/
def ZBZ (F : Option Addr) (M : Model) (A : Around) (E : Value → Shared → Prop) (use : Option (Value → Sem Unit)) (Q : Value → Shared → Prop) (acc : Value) (C : Addr) (r : Result) (s' : Shared) : Prop :=
  match r with
  | .ok f => compPost M A E use Q acc C (.ok f) s'
  | .error x => ∃ m, s'.heap.Ns C m ∧ ∀ h' m', h'.Ns C m' → Heap.SameBut C s'.heap h' → ∀ c : Env, c.locals = C → c.frame = F → wpAny M A (passOn "comprehension.variables-let-go" x c : Sem Value) (fun _ _ => False) E { s' with heap := h' }
theorem comprehension_x {e : Expr} {scope : Scope} {pos : Pos} {newAcc first : Sem Value} {g : Comprehension} {gs : List Comprehension} {cl : List (Str × Addr)} {use : Option (Value → Sem Unit)} {Q : Value → Shared → Prop}
    (hcl : clausesOf e = g :: gs) (hs : ∀ x, foldedSetIterable g.iter env x = pure x) (hclos : closureFor scope env = pure cl) (hkind : scope.kind = .function) (hnames : ∀ x ∈ scope.names, x.2 = .local → scope.names.lookup x.1 = some .local)
    (h : wpAny M A first (fun x s1 => wpAny M A (pyIter x) (fun it s2 => wpAny M A newAcc (fun acc s3 => wpAny M A (newFunctionEnv scope env.globals cl [] env.qual none .none (some env)) (fun c s4 => c.frame = env.frame ∧
      codeAny M A (.compStart e 0 it acc { c with scope := relabel scope env }) (ZBZ env.frame M A E use Q acc c.locals) s4) E s3) E s2) E s1) E s) :
    wpAny M A (comprehension e scope env pos newAcc false first use) Q E s := by
  have keep : ∀ {α : Type} {t : Sem α} {P P' : α → Shared → Prop} {s : Shared}, wpAny M A t P E s → (∀ a z, P a z → P' a z) → wpAny M A t P' E s := fun x y => wpAny_mono x y fun _ _ z => z
  unfold comprehension
  rw [hclos, hcl]
  refine wpAny_bind (keep h fun x s1 h1 => ?_)
  refine wpAny_bind (wpAny_standAt (wpAny_bind (wpAny_of_eq (hs x) ?_)))
  refine wpAny_bind (wpAny_holding (keep h1 fun it s2 h2 => ?_))
  refine wpAny_standIf (wpAny_bind (keep h2 fun acc s3 h3 => ?_))
  refine wpAny_bind (wpAny_pure (wpAny_bind (keep h3 fun c s4 h4 => ?_)))
  obtain ⟨hf, h4⟩ := h4
  dsimp only
  have own : ∀ l : List (Str × NameKind), (∀ x ∈ l, x ∈ scope.names) → ∀ x ∈ l, x.2 = .local → Env.kindOf { c with scope := relabel scope env } x.1 = some .local := fun l hl x hx z => lookup_relabel_local (hnames x (hl x hx) z)
  refine wpAny_holding (wpAny_bind (wpAny_attempt (wpAny_holding (wpAny_run (codeAny_mono h4 fun r s5 h5 => ?_)))))
  match r, h5 with
  | .error x, h5 =>
    obtain ⟨m, hn, h6⟩ := h5
    exact wpAny_bind (wpAny_holding (wpAny_comp_letGo (cenv := { c with scope := relabel scope env }) hkind _ s5 m (own _ fun y hy => (List.mem_filter.mp (List.mem_reverse.mp hy)).1) hn fun h' m' hn' sb => wpAny_mono (h6 h' m' hn' sb _ rfl hf) (fun _ _ z => z.elim) fun _ _ z => z))
  | .ok f, h5 =>
    cases use with
    | none =>
      obtain ⟨m, hn, h6⟩ := h5
      exact wpAny_bind (wpAny_holding (wpAny_comp_letGo (cenv := { c with scope := relabel scope env }) hkind _ s5 m (own _ fun y hy => (List.mem_filter.mp (List.mem_reverse.mp hy)).1) hn fun h' _ _ sb => wpAny_pure (h6 h' sb)))
    | some u =>
      refine wpAny_bind (wpAny_rule (wpAny_bind (wpAny_holding (keep h5 fun _ s6 h6 => ?_))))
      obtain ⟨m, hn, h7⟩ := h6
      refine wpAny_bind (wpAny_comp_letGo (cenv := { c with scope := relabel scope env }) hkind _ s6 m (own _ fun y hy => ?_) hn fun h' _ _ sb => wpAny_pure (h7 h' sb))
      have : y ∈ (scope.names.filter fun x => (x.2 == .local || x.2 == .cell) && x.1 != (".0" : Str)).reverse := (List.mem_append.mp hy).elim List.mem_of_mem_drop List.mem_of_mem_take
      exact (List.mem_filter.mp (List.mem_reverse.mp this)).1
end
end PySem
namespace L2
open PySem PySem.Spec PySem.W PySem.Calls PyProof.Rows
theorem note_frame {env env2:Env} (h:env.frame=env2.frame) (x:Value):noteFrame x env=noteFrame x env2:=by
 unfold PySem.noteFrame PySem.frameOf
 rw [h]
theorem Un.but {fs:List Addr} {H H':Hp} {h h2 h' h2':Heap} {C:Addr} {oh:Obj} (u:Un fs [] H H' h h2) (s1:Heap.SameBut C h h') (s2:Heap.SameBut C h2 h2') (e1:h'.get? C=some oh) (e2:h2'.get? C=some oh) (n':H' C=none) (nf:C∉fs):Un fs [] H H' h' h2' where
 keep b o e n hb hx:=by
  by_cases z:b=C
  .subst z;rw [e1] at e;cases e;exact e2
  .exact (s2.2 b z).trans (u.keep b o ((s1.2 b z).symm.trans e) n hb hx)
 slot b o e n hb hx:=by
  have z:b≠C:=fun z=>nf (z ▸ hb)
  obtain ⟨sl,q⟩:=u.slot b o ((s1.2 b z).symm.trans e) n hb hx
  exact ⟨sl,(s2.2 b z).trans q⟩
 free b o e n hx:=by
  by_cases z:b=C
  .subst z;exact n'
  .exact u.free b o ((s1.2 b z).symm.trans e) n hx
 there b o e hx:=by
  by_cases z:b=C
  .subst z;exact ⟨_,e2⟩
  .obtain ⟨o',q⟩:=u.there b o ((s1.2 b z).symm.trans e) hx
   exact ⟨o',(s2.2 b z).trans q⟩
 tups:=u.tups
 frzs:=u.frzs
 tbls:=u.tbls
section
variable {X:Cx} {pins:List (Addr×Obj)} {σ:St} {H:Hp} {s2:Shared} {k:Nat} {js:List Nat} {N':List Str} {scope:Scope} {fp:List Addr}
theorem comp_out {pins':List (Addr×Obj)} {σ':St} {H':Hp} {s':Shared} {C:Addr} (I:Inv X pins σ H s2) (hfp:∀ b∈fp,FpOk X pins H b) (hC:s2.heap.objs.size <= C)
  (I':Inv (ZAo X N' scope C fp s2 H) pins' σ' H' s') {h':Heap} (hs:Heap.SameBut C s'.heap h'):Inv X pins σ H' { s' with heap:=h' }:=by
 have nC:H' C=none:=I'.free
 have neC:∀ b o,s2.heap.get? b=some o->b≠C:=fun b o e=>ZB9 (Heap.lt_size e) hC
 have trC:∀ b u,H' b=some u->b≠C:=fun b u e z=>by rw [z,nC] at e;cases e
 have B:=I'.base
 refine I.call' (s':={ s' with heap:=h' }) (ch:=fp) I'.os ⟨fun b o e nn hb hx=>?_,fun b o e nn hb hx=>?_,fun b o e nn hx=>?_,fun b o e hx=>?_,fun b xs e=>?_,fun b o u e=>?_,fun b ps e=>?_⟩ (fun b u e=>?_) I'.bare fun b hb=>?_
 .exact (hs.2 b (neC b o e)).trans (B.keep b o e nn hb hx)
 .obtain ⟨sl,q⟩:=B.slot b o e nn hb hx
  exact ⟨sl,(hs.2 b (neC b o e)).trans q⟩
 .exact B.free b o e nn hx
 .obtain ⟨o',q⟩:=B.there b o e hx
  exact ⟨o',(hs.2 b (neC b o e)).trans q⟩
 .exact B.tups b xs e
 .exact B.frzs b o u e
 .exact B.tbls b ps e
 .refine (I'.hok b u e).stay (fun c v hcc q=>(hs.2 c ?_).trans q) (fun c q=>q) fun c xs q=>q
  rcases hcc with rfl | hcc
  .exact trC c _ e
  .exact trC c _ hcc
 .obtain ⟨_,f1,_,f3,f4,f5⟩:=hfp b hb
  exact ⟨f3,f1,f4,f5⟩
theorem comp_raise {E:XK} {use:Option (Value->Sem Unit)} {Q':Value->Shared->Prop} {D C:Addr} {pins5:List (Addr×Obj)} {σ5:St} {H5:Hp} {s5 s':Shared} {e:Value} (hstk:X.stack=X.env::X.outer /\ X.env.frame=some X.env.locals) (hx:∀ e s',XF X E e s'->X.xe e s')
  (I:Inv X pins σ H s2) (hfp:∀ b∈fp,FpOk X pins H b) (hC:s2.heap.objs.size <= C) (I5:Inv (ZAo X N' scope C fp s2 H) pins5 σ5 H5 s5) (hc:CXE X.prog X.w X.stack H5 s5 E e s') :
  notedBy (model X.prog X.w) X.A (ZCC scope (closFrom X.env.cells scope.names []) C X.env) (fun e s'=>ZBZ X.env.frame (model X.prog X.w) X.A X.xe use Q' (.ref D) C (.error e) s') e s':=by
 obtain ⟨ea,cls,dd,H',rfl,os,bare,un,hok,⟨B,a0,⟨f1,f2,f3,f4⟩,hout,hnew,hB⟩,hE⟩:=hc
 obtain ⟨m,hns,_⟩:=id I5.loc
 have hns:s5.heap.Ns C m:=hns
 obtain ⟨oC,es,ep,eC,dC,rC⟩:=id hns
 have nC5:H5 C=none:=I5.free
 have nCf:C∉frs X.stack:=fun z=>by
  rcases yAH.mp (I.stkSub C z) with q | q
  .exact absurd q.symm (ZB9 I.lt hC)
  .exact I.nofs hC q
 have nC':H' C=none:=un.free C oC eC nC5 (fun z=>nomatch z)
 have eC':s'.heap.get? C=some oC:=un.keep C oC eC nC5 nCf (fun z=>nomatch z)
 have hea:ea≠C:=fun z=>by rw [z,eC] at hnew;cases hnew
 have af:X.A.frames=some (X.env::X.outer):=by rw [<- hstk.1];exact I.ok.frames
 have hBC:B.get? C=some oC:=hB C oC eC' nCf (.inr ⟨oC,eC⟩)
 show wpAny _ _ (noteFrame (.ref ea) (ZCC scope (closFrom X.env.cells scope.names []) C X.env)) _ _ s'
 rw [note_frame (show (ZCC scope (closFrom X.env.cells scope.names []) C X.env).frame=X.env.frame from rfl)]
 have ff:Heap.FlyingD B (X.env::X.outer) ea cls (a0,dd) s'.heap:=⟨f1,f2,by rw [<- hstk.1];exact f3,f4⟩
 refine ZBS af hstk.2 ff fun h2 hH up=>?_
 obtain ⟨k1,_,k3,k4⟩:=hH
 rw [<- hstk.1] at k3
 have eC2:h2.get? C=some oC:=k1 C oC hBC
 refine ⟨m,⟨oC,es,ep,eC2,dC,rC⟩,fun h' m' hn' hsb cenv hcl hcf=>?_⟩
 obtain ⟨oh,es',ep',eh,dh,rh⟩:=id hn'
 have nfo:oh.isFreed=false:=(Heap.get?_some_iff.mp eh).2
 have upd1:∀ (hp:Heap) (o:Obj),hp.get? C=some o->(hp.update C fun _=>oh).get? C=some oh:=fun hp o e0=>Heap.get?_update_self _ e0 nfo
 have sb:∀ hp:Heap,Heap.SameBut C hp (hp.update C fun _=>oh):=fun hp=>.update hp C _
 obtain ⟨⟨oe,vs,T,oT,ts,he,hcls,hd,h1,hnT,hTe,hT,hdT,h3⟩,od,d1,d2⟩:=id k4
 have hTC:T≠C:=fun z=>by rw [z,hBC] at hnT;cases hnT
 have he':h'.get? ea=some oe:=(hsb.2 ea hea).trans he
 have hT':h'.get? T=some oT:=(hsb.2 T hTC).trans hT
 have k1':(B.update C fun _=>oh).StaysIn h':=fun b o hb=>by
  by_cases z:b=C
  .subst z;rw [upd1 B oC hBC] at hb;cases hb;exact eh
  .exact (hsb.2 b z).trans (k1 b o (((sb B).2 b z).symm.trans hb))
 have frames:∀ l:List Env,(∀ env∈l,∀ L,env.frame=some L->L≠C)->h2.FunFrames B l->h'.FunFrames (B.update C fun _=>oh) l:=fun l=>by
  induction l with
  | nil=>intro _ _;trivial
  | cons env r ih=>
   intro hl hf
   obtain ⟨a1,⟨L,o,b1,b2,b3,b4⟩,a3⟩:=hf
   have hLC:=hl env yAE L b1
   exact ⟨a1,⟨L,o,b1,((sb B).2 L hLC).trans b2,(hsb.2 L hLC).trans b3,b4⟩,ih (fun e he=>hl e (yAJ _ he)) a3⟩
 have k3':h'.FunFrames (B.update C fun _=>oh) X.stack:=frames _ (fun env he L hL z=>nCf (by
  rw [<- z]
  exact List.mem_filterMap.mpr ⟨env,he,hL⟩)) k3
 have k4':h'.TracedAtD (B.update C fun _=>oh) ea cls (a0,dd) (rawInt X.env.locals):=⟨⟨oe,vs,T,oT,ts,he',hcls,hd,h1,((sb B).2 T hTC).trans hnT,hTe,hT',hdT,h3⟩,od,(hsb.2 ea hea).trans d1,d2⟩
 unfold PySem.passOn
 refine wpAny_bind (wpAny_field he' hd h1 ?_)
 rw [if_neg (show ¬ ((Value.ref T == Value.none)=true) from by simp),hcf,hstk.2]
 refine wpAny_bind (wpAny_setFlight_someD k1' k3' k4' fun hh m1 m2 m3 m4=>?_)
 refine wpAny_throw (hx _ _ ?_)
 have J:Inv X pins σ H5 { s5 with heap:=s5.heap.update C fun _=>oh }:=comp_out I hfp hC I5 (sb _)
 have hBu:∀ b o,s'.heap.get? b=some o->b∉frs X.stack->(H' b≠none∨∃ o0,s5.heap.get? b=some o0)->B.get? b=some o:=hB
 have un2:Un (frs X.stack) [] H5 H' s5.heap h2:=un.fly hB k1 up f3
 have un3:Un (frs X.stack) [] H5 H' (s5.heap.update C fun _=>oh) h':=un2.but (sb _) hsb (upd1 _ _ eC) eh nC' nCf
 have hok2:HOk X.prog X.w H' h2:=hok.fly hB k1 (I5.stkFree2 un)
 have trC:∀ b u,H' b=some u->b≠C:=fun b u e z=>by rw [z,nC'] at e;cases e
 have hok3:HOk X.prog X.w H' h':=fun b u e=>(hok2 b u e).stay (fun c v hcc q=>(hsb.2 c (by
  rcases hcc with rfl | hcc
  .exact trC c _ e
  .exact trC c _ hcc)).trans q) (fun c q=>q) fun c xs q=>q
 have hB3:∀ b o,h'.get? b=some o->b∉frs X.stack->(H' b≠none∨∃ o0,(s5.heap.update C fun _=>oh).get? b=some o0)->(B.update C fun _=>oh).get? b=some o:=fun b o e nb hor=>by
  by_cases z:b=C
  .subst z;rw [eh] at e;cases e;exact upd1 B oC hBC
  .have hor2:H' b≠none∨∃ o0,s5.heap.get? b=some o0:=hor.imp id fun ⟨o0,q⟩=>⟨o0,((sb s5.heap).2 b z).symm.trans q⟩
   have e2:h2.get? b=some o:=(hsb.2 b z).symm.trans e
   have:∃ o1,s'.heap.get? b=some o1:=by
    rcases hor2 with y | ⟨o0,y⟩
    .obtain ⟨u,hu⟩:=Option.ne_none_iff_exists'.mp y
     exact (hok b u hu).ex
    .exact un.there b o0 y (fun z=>nomatch z)
   obtain ⟨o1,q1⟩:=this
   have q2:=hB b o1 q1 nb hor2
   have q3:=k1 b o1 q2
   rw [e2] at q3
   cases q3
   exact ((sb B).2 b z).trans q2
 have up2:Heap.UpToSlots h' hh:=fun b o hb hn=>⟨o.slots,m4 b o hb hn⟩
 exact XF.next (s':={ s' with heap:=h' }) (h2:=hh) J os bare un3 hok3 hout (((sb s5.heap).2 ea hea).trans hnew) k3' hB3 hE (.inr rfl) up2 m1 (((sb B).2 ea hea).trans f2) m2 m3
end
section
variable {X:Cx} {k:Nat} {js:List Nat} {N':List Str} {scope:Scope} {tg iter elt:Expr} {ifs:List Expr} {wi:TI} {g:TG} {tt:TT} {te:TE} {pos:Pos}
theorem comp_coreX {E:XK} (hstk:X.stack=X.env::X.outer /\ X.env.frame=some X.env.locals) (hx:∀ e s',XF X E e s'->X.xe e s') {use:Option (Value->Sem Unit)} {Q':Value->Shared->Prop} (hcalm:X.calm=true) (hc:CmpOk X.N X.env.scope k js N' scope) (hi:PI X tg iter wi)
  (hg:∀ C fp s2 H2,PG (ZAo X N' scope C fp s2 H2) tg g) (ht:∀ C fp s2 H2,PIfs (ZAo X N' scope C fp s2 H2) ifs tt) (he:∀ C fp s2 H2 xe,ZA0 (CXE X.prog X.w) ((ZAo X N' scope C fp s2 H2).wish xe) E->PE ((ZAo X N' scope C fp s2 H2).wish xe) elt te)
  {pins:List (Addr×Obj)} {s:Shared} {σ:St} {H:Hp} {Q:VK} (I:Inv X pins σ H s) (h:ZDM k js wi g tt te σ H Q)
  (fin:∀ (C D:Addr) (s':Shared) (m:Str->Option Value) (H':Hp) (ys:List V),s'.heap.Ns C m->C≠X.env.locals->C∉X.fs->D≠C->H' C=none->X.s₀.heap.objs.size <= C->(∀ x c,X.env.cells.lookup x=some c->c≠C)->(∀ p∈X.pn++pins,p.1≠C)->(∀ h',Heap.SameBut C s'.heap h'->Inv X pins σ (upd H' D (.lst ys)) { s' with heap:=h' })->Q (.ref D) (upd H' D (.lst ys)) ->
   ZBZ X.env.frame (model X.prog X.w) X.A X.xe use Q' (.ref D) C (.ok .next) s')
  (hs:∀ x,foldedSetIterable iter X.env x=pure x) (p':Pos) :
  wpAny (model X.prog X.w) X.A (comprehension (.ListComp elt [⟨tg,iter,ifs,0⟩] scope pos) scope X.env p' (newList []) false (eval iter X.env) use) Q' X.xe s:=by
 have hclos:closureFor scope X.env=pure (closFrom X.env.cells scope.names []):=ZB5 fun y hy=>I.ok.has y (hc.fr y hy)
 refine comprehension_x (g:=⟨tg,iter,ifs,0⟩) (gs:=[]) rfl hs hclos hc.kind (fun x hx hl=>by rw [hc.look x hx,hl]) ?_
 refine thn (hi pins s σ H _ I h) fun v s1 h1=>thn h1 fun itv s2 h2=>?_
 obtain ⟨it,fp,tn,J,H2,e,I2,T,st2,f2,W,⟨m0,w0⟩,turn⟩:=h2
 subst e
 have hlt:∀ b∈fp,b < s2.heap.objs.size:=fun b hb=>by
  obtain ⟨o,e,_⟩:=T.obj _ _ st2 b hb
  exact Heap.lt_size e
 refine wpAny_newObj_type (newEnv_comp ?_)
 have hz3:(s2.heap.push { cls:=.type "list",dict:=none,data:=.seq ([]:List Value).toArray }).objs.size=s2.heap.objs.size+1:=Heap.size_push ..
 have I3:=comp_inv (h3:=s2.heap.push { cls:=.type "list",dict:=none,data:=.seq ([]:List Value).toArray }) hc I2 f2 hlt hz3 (fun b o e=>Heap.get?_push_of_some _ e)
 refine ⟨rfl,?_⟩
 dsimp only
 rw [hz3]
 generalize hS4:({ s2 with heap:=pushCells ((s2.heap.push { cls:=.type "list",dict:=none,data:=.seq ([]:List Value).toArray }).push { cls:=.type "dict",data:=.dict #[] }) scope.names }:Shared)=s4 at I3 ⊢
 have keep4:∀ b o,s2.heap.get? b=some o->s4.heap.get? b=some o:=fun b o e=>by
  rw [<- hS4]
  exact pushCells_keeps _ _ b o (Heap.get?_push_of_some _ (Heap.get?_push_of_some _ e))
 have eD4:s4.heap.get? s2.heap.objs.size=some { cls:=.type "list",data:=.seq ([]:List Value).toArray 0 }:=by
  rw [<- hS4]
  exact pushCells_keeps _ _ _ _ (Heap.get?_push_of_some _ (Heap.get?_push_size _ rfl))
 generalize hX':ZAo X N' scope (s2.heap.objs.size+1) fp s2 H2=X' at I3
 have hC':X'.env.locals=s2.heap.objs.size+1:=by rw [<- hX'];rfl
 have hfs':X'.fs=frs X.stack:=by rw [<- hX'];rfl
 have nofsD:∀ a,s2.heap.objs.size <= a->a∉frs X.stack:=fun a ha hb=>by
  rcases yAH.mp (I2.stkSub a hb) with z | z
  .exact absurd z.symm (ZB9 I2.lt ha)
  .exact I2.nofs ha z
 have cellD:∀ x c,X'.env.cells.lookup x=some c->c≠s2.heap.objs.size:=fun x c e z=>by
  obtain ⟨v,o,ho,hd⟩:=I3.cell x c e
  rw [z,eD4] at ho
  cases ho
  cases hd
 have pinD:∀ {σ':St} {H':Hp} {s':Shared} {its:List Value} {n:Nat},Inv X' [] σ' H' s'->s'.heap.get? s2.heap.objs.size=some { cls:=.type "list",data:=.seq its.toArray n }->H' s2.heap.objs.size=none ->
   Inv X' [(s2.heap.objs.size,{ cls:=.type "list",data:=.seq its.toArray n })] σ' H' s':=fun {σ' H' s' its n} J e nn=>J.pins_of fun p hp=>by
  have e':p=(s2.heap.objs.size,{ cls:=.type "list",data:=.seq its.toArray n }):=by simpa using hp
  subst e'
  refine ⟨e,nn,?_,?_,fun v z=>nomatch z⟩
  .rw [hC'];exact yAI (yBO _)
  .rw [hfs'];exact nofsD _ (yAA _)
 have I4:=pinD I3 eD4 (I2.hok.fresh (yAA _))
 have stat:∀ {H':Hp} {o:Obj},(∀ b∈fp,H' b=none)->∀ b∈fp,FpOk X' [(s2.heap.objs.size,o)] H' b:=fun {H' o} hn b hb=>by
  have hb':=hlt b hb
  refine ⟨hn b hb,?_,?_,.inl (by rw [<- hX'];exact hb),fun x c e z=>?_,fun p hp z=>?_⟩
  .rw [hC'];exact ZB9 hb' (yAP _)
  .rw [hfs']
   intro z
   rcases yAH.mp (I2.stkSub b z) with q | q
   .exact (f2 b hb).2.1 q
   .exact (f2 b hb).2.2.1 q
  .have q:=I3.ok.exf b (by rw [<- hX'];exact hb)
   exact q.2 x c e z
  .rw [show X'.pn=[] by rw [<- hX'];rfl] at hp
   have e':p=(s2.heap.objs.size,o):=by simpa using hp
   subst e'
   exact absurd hb' (by rw [<- z];exact yBN _)
 have hfin:∀ {σ':St} {H':Hp} {s':Shared} {its:List Value} {n:Nat} {ys:List V},Inv X' [(s2.heap.objs.size,{ cls:=.type "list",data:=.seq its.toArray n })] σ' H' s'->Vals ys its->ys.length <= sizeLine->(∀ p,H' p=none->Q (.ref p) (upd H' p (.lst ys))) ->
   ZBZ X.env.frame (model X.prog X.w) X.A X.xe use Q' (.ref s2.heap.objs.size) (s2.heap.objs.size+1) (.ok .next) s':=fun {σ' H' s' its n ys} J hv hz hq=>by
  obtain ⟨m,hn,_⟩:=id J.loc
  rw [hC'] at hn
  have nC:H' (s2.heap.objs.size+1)=none:=by rw [<- hC'];exact J.free
  have J':Inv (ZAo X N' scope (s2.heap.objs.size+1) fp s2 H2) [(s2.heap.objs.size,{ cls:=.type "list",data:=.seq its.toArray n })] σ' H' s':=by rw [hX'];exact J
  obtain ⟨nD,E⟩:=comp_end I2 f2 (yAP _) (yAA _) (yAI (yBO _)) J' hv hz
  refine fin _ _ s' m H' ys hn ?_ (I2.nofs (yAP _)) (yAI (yBO _)) nC (yAF I2.sz (yAP _)) (fun x c e z=>?_) (fun p hp z=>?_) E (hq _ nD)
  .exact (ZB9 I2.lt (yAP _)).symm
  .obtain ⟨v,q⟩:=I2.cell x c e
   exact absurd z (ZB9 q.lt (yAP _))
  .exact absurd z (ZB9 (Heap.lt_size (I2.pin p hp).1) (yAP _))
 have hprog:X'.prog=X.prog:=by rw [<- hX'];rfl
 have hw:X'.w=X.w:=by rw [<- hX'];rfl
 have hK:X'.K=X.K:=by rw [<- hX'];rfl
 have hcalm':X'.calm=true:=by rw [<- hX'];exact hcalm
 have hA:X'.A=X.A:=by rw [<- hX'];rfl
 have henv:ZCC scope (closFrom X.env.cells scope.names []) (s2.heap.objs.size+1) X.env=X'.env:=by rw [<- hX'];rfl
 have hgX:=hg (s2.heap.objs.size+1) fp s2 H2
 have htX:=ht (s2.heap.objs.size+1) fp s2 H2
 rw [hX'] at hgX htX
 have hxe:∀ e s',X'.xe e s'->False:=fun e s' z=>by rw [<- hX'] at z;exact z
 have hXA:X'.pn=[]:=by rw [<- hX'];rfl
 have hs0:X'.s₀.heap.objs.size=s2.heap.objs.size:=by rw [<- hX'];rfl
 have loop:codeAny (model X.prog X.w) X.A (.compLoop (.ListComp elt [⟨tg,iter,ifs,0⟩] scope pos) 0 (.ref it) (.ref s2.heap.objs.size) X'.env) (ZBZ X.env.frame (model X.prog X.w) X.A X.xe use Q' (.ref s2.heap.objs.size) (s2.heap.objs.size+1)) s4:=by
  refine codeAny_compLoop_any (fun n s'=>∃ i σ' H' its nn ys,Inv X' [(s2.heap.objs.size,{ cls:=.type "list",data:=.seq its.toArray nn })] σ' H' s' /\ tn i s'.heap /\ (∀ b∈fp,H' b=none) /\ Vals ys its /\ W i n ys σ' H') ?_ m0
   ⟨0,_,H2,[],0,[],I4,T.keep _ _ _ st2 (fun b _ o e=>keep4 b o e),fun b hb=>(f2 b hb).1,.nil,w0⟩
  rintro n s5 ⟨i,σ5,H5,its,nn,ys,I5,st5,fr5,hv,w5⟩
  rcases turn i n ys σ5 H5 w5 with ⟨stop,hz,hq⟩ | ⟨go,hz,step⟩
  .have d:=T.done X' hprog hw hK hcalm' i _ s5 σ5 H5 (fun _ _=>False) I5 (stat fr5) st5 stop
   rw [hA] at d
   refine wpAny_mono d (fun r s6 ⟨hr,I6⟩=>?_) fun _ _ z=>z.elim
   subst hr
   exact hfin I6 hv hz hq
  .have d:=T.item X' hprog hw hK hcalm' i _ s5 σ5 H5 (fun _ _=>False) I5 (stat fr5) st5 go
   rw [hA] at d
   refine wpAny_mono d (fun r s6 ⟨u,hr,h6⟩=>?_) fun _ _ z=>z.elim
   subst hr
   refine wpAny_mono h6 (fun _ s7 zz=>?_) fun _ _ z=>z.elim
   obtain ⟨x,H7,I7,r7,y7,st7,fr7⟩:=zz
   have I7':=I7.pinned (stat fr7) (T.obj _ _ st7)
   have a1:=hgX _ s7 σ5 H7 x u _ I7' r7 (step x H7 y7)
   rw [hprog,hw,hA] at a1
   refine wpAny_mono a1 (fun _ s8 zz=>?_) fun _ _ z=>(hxe _ _ z).elim
   obtain ⟨σ8,H8,I8,q8⟩:=zz
   have a2:=htX _ s8 σ8 H8 _ I8 q8
   rw [hprog,hw,hA] at a2
   refine wpAny_mono a2 (fun ok s9 ⟨H9,I9,q9⟩=>?_) fun _ _ z=>(hxe _ _ z).elim
   have back:∀ {σ':St} {H':Hp} {s':Shared},Inv X' ([(s2.heap.objs.size,({ cls:=.type "list",data:=.seq its.toArray nn }:Obj))]++ZDG fp s7.heap) σ' H' s'->tn (i+1) s'.heap /\ (∀ b∈fp,H' b=none):=fun {σ' H' s'} J=>by
    refine ⟨T.keep _ _ _ st7 fun b hb o e=>(J.pin (b,o) (yAQ _ (yAQ _ (ZBR hb e)))).1,fun b hb=>?_⟩
    obtain ⟨o,e,d⟩:=T.obj _ _ st7 b hb
    exact (J.pin (b,o) (yAQ _ (yAQ _ (ZBR hb e)))).2.1
   cases ok with
   | false=>
    rw [if_neg yAS] at q9 ⊢
    obtain ⟨m',hm,w9⟩:=q9
    obtain ⟨t9,f9⟩:=back I9
    exact ⟨m',hm,i+1,σ8,H9,its,nn,ys,I9.unpinned,t9,f9,hv,w9⟩
   | true=>
    rw [if_pos rfl] at q9 ⊢
    have hps:ZA0 (CXE X.prog X.w) ((ZAo X N' scope (s2.heap.objs.size+1) fp s2 H2).wish (notedBy (model X.prog X.w) X.A X'.env fun e s'=>ZBZ X.env.frame (model X.prog X.w) X.A X.xe use Q' (.ref s2.heap.objs.size) (s2.heap.objs.size+1) (.error e) s')) E:=fun pins5 σ5 H5 s5 e s' I5 hc5=>by
     rw [<- henv]
     exact comp_raise hstk hx I2 f2 (yAP _) I5.unwish hc5
    have I9':=I9
    rw [<- hX'] at I9'
    have a3:=he (s2.heap.objs.size+1) fp s2 H2 _ hps _ s9 σ8 H9 _ (I9'.wish _) q9
    have a3:wpAny (model X.prog X.w) X.A (eval elt (ZAo X N' scope (s2.heap.objs.size+1) fp s2 H2).env) _ _ s9:=a3
    rw [hX'] at a3
    refine wpAny_mono a3 (fun uy s10 zz=>?_) fun _ _ z=>z
    obtain ⟨y,H10,I10,r10,m',hm,w10⟩:=zz
    have I10:=I10.unwish
    obtain ⟨t10,f10⟩:=back I10
    have I11:=I10.unpinned
    obtain ⟨eD,nD,_,_,_⟩:=I11.pin (s2.heap.objs.size,{ cls:=.type "list",data:=.seq its.toArray nn }) (yAQ _ yAE)
    dsimp only at eD nD
    have hsz:its.length < sizeLine:=by rw [<- hv.length];exact hz
    refine wpAny_list_append_plain ⟨nn,eD⟩ (fun h' hpl hsb=>?_) (by rw [yAV];omega)
    obtain ⟨n',e'⟩:=hpl
    have e'':h'.get? s2.heap.objs.size=some { cls:=.type "list",data:=.seq (its++[uy]).toArray n' }:=by rw [e'];simp
    have I12:Inv X' [] σ8 H10 s10:=I11.pins_of fun p hp=>absurd hp (by simp)
    have I13:=I12.turned (h':=h') (t':=s10.toks) (it:=s2.heap.objs.size) (fun b o hb e=>(hsb.2 b hb).trans e) nD (by rw [hC'];exact yAI (yBO _)) (.inr (by rw [hs0];exact yAA _)) cellD (fun p hp=>absurd hp (by rw [hXA];simp))
    refine ⟨m',hm,i+1,σ8,H10,its++[uy],n',ys++[y],pinD I13 e'' nD,T.keep _ _ _ t10 fun b hb o e=>?_,f10,hv.append (.cons r10 .nil),w10⟩
    exact (hsb.2 b (ZB9 (hlt b hb) (yAA _))).trans e
 have hst:codeAny (model X.prog X.w) X.A (.compStart (.ListComp elt [⟨tg,iter,ifs,0⟩] scope pos) 0 (.ref it) (.ref s2.heap.objs.size) X'.env) (ZBZ X.env.frame (model X.prog X.w) X.A X.xe use Q' (.ref s2.heap.objs.size) (s2.heap.objs.size+1)) s4 :=
  codeAny_compStart_list loop (T.self X.A 0 s4 _ _ (T.keep _ _ _ st2 (fun b _ o e=>keep4 b o e)) loop)
 rw [<- henv] at hst
 exact hst
theorem pe_compX {E:XK} (hstk:X.stack=X.env::X.outer /\ X.env.frame=some X.env.locals) (hx:∀ e s',XF X E e s'->X.xe e s') (hcalm:X.calm=true) (hc:ZCh X.N X.env.scope k js N' scope=true) (hi:PI X tg iter wi)
  (hg:∀ C fp s2 H2,PG (ZAo X N' scope C fp s2 H2) tg g) (ht:∀ C fp s2 H2,PIfs (ZAo X N' scope C fp s2 H2) ifs tt) (he:∀ C fp s2 H2 xe,ZA0 (CXE X.prog X.w) ((ZAo X N' scope C fp s2 H2).wish xe) E->PE ((ZAo X N' scope C fp s2 H2).wish xe) elt te)
  (hs:∀ x,foldedSetIterable iter X.env x=pure x:=by intro _;rfl):PE X (.ListComp elt [⟨tg,iter,ifs,0⟩] scope pos) (ZDM k js wi g tt te):=by
 intro pins s σ H Q I h
 rw [eval_ListComp]
 refine comp_coreX hstk hx (use:=none) hcalm (ZFS hc) hi hg ht he I h (fun C D s' m H' ys hn _ _ _ _ _ _ _ E q=>?_) hs _
 exact ⟨m,hn,fun h' hsb=>⟨.ref D,_,E h' hsb,rfl,q⟩⟩
theorem XF.unwish {E:XK} {E':Value->Shared->Prop} {e:Value} {s':Shared} (h:XF (X.wish E') E e s'):XF X E e s':=by
 obtain ⟨pins,σ,H1,s1,ea,cls,dd,H',B,a0,fl,rfl,I,r⟩:=h
 exact ⟨pins,σ,H1,s1,ea,cls,dd,H',B,a0,fl,rfl,I.unwish,r⟩
end
end L2
namespace Po
noncomputable abbrev Fr:=Option (Nat×Nat)
noncomputable abbrev W:=Nat->Nat->Option Fr
noncomputable abbrev Mt:=Nat×Nat×Nat
noncomputable def mid (f b:Nat):Nat:=f+(b-f+1) / 2
theorem mid_lt {f b:Nat} (h:¬ b-f < 2):f < mid f b /\ mid f b < b:=by unfold mid;omega
noncomputable def mts (f b:Nat):List Mt:=if h:b-f < 2 then [] else mts f (mid f b)++mts (mid f b) b++[(f,mid f b,b)]
termination_by b-f
decreasing_by
 .have:=mid_lt h;omega
 .have:=mid_lt h;omega
theorem mts_leaf {f b:Nat} (h:b-f < 2):mts f b=[]:=by rw [mts,dif_pos h]
theorem mts_node {f b:Nat} (h:¬ b-f < 2):mts f b=mts f (mid f b)++mts (mid f b) b++[(f,mid f b,b)]:=by rw [mts,dif_neg h]
theorem tree {P:Nat->Nat->Prop} (h1:∀ f b,b-f < 2->P f b) (h2:∀ f b,¬ b-f < 2->P f (mid f b)->P (mid f b) b->P f b) (f b:Nat):P f b:=by
 suffices ∀ n f b,b-f <= n->P f b from this _ f b (yAA _)
 intro n
 induction n with
 | zero=>intro f b h;exact h1 f b (by omega)
 | succ n ih=>
  intro f b h
  by_cases z:b-f < 2
  .exact h1 f b z
  .have:=mid_lt z
   exact h2 f b z (ih _ _ (by omega)) (ih _ _ (by omega))
theorem mts_len (f b:Nat):(mts f b).length=b-f-1:=by
 refine tree (P:=fun f b=>(mts f b).length=b-f-1) (fun f b h=>?_) (fun f b h h1 h2=>?_) f b
 .rw [mts_leaf h];simp;omega
 .have:=mid_lt h
  rw [mts_node h,yAC,yAC,h1,h2,yBP]
  omega
theorem mts_mem {a m c:Nat} (f b:Nat):(a,m,c)∈mts f b->m=mid a c /\ f <= a /\ c <= b /\ ¬ c-a < 2:=by
 refine tree (P:=fun f b=>(a,m,c)∈mts f b->m=mid a c /\ f <= a /\ c <= b /\ ¬ c-a < 2) (fun f b h=>?_) (fun f b h h1 h2=>?_) f b
 .rw [mts_leaf h];intro z;cases z
 .have:=mid_lt h
  rw [mts_node h]
  intro z
  rcases yAX.mp z with z | z
  .rcases yAX.mp z with z | z
   .have:=h1 z;omega
   .have:=h2 z;omega
  .cases yAK.mp z
   exact ⟨rfl,yAA _,yAA _,h⟩
noncomputable def met (ah:Nat->Nat->Bool):Fr->Fr->Fr
 | none,o=>o
 | some x,none=>some x
 | some x,some y=>if ah x.1 y.1=true then some x else some y
noncomputable def mask:Fr->Fr->List (Nat×Nat)
 | some x,some y=>[(x.1,y.1)]
 | _,_=>[]
noncomputable def put (w:W) (a c:Nat) (v:Fr):W:=fun a' c'=>if a'=a /\ c'=c then some v else w a' c'
noncomputable def step (ah:Nat->Nat->Bool) (s:W×List (Nat×Nat)) (m:Mt):Option (W×List (Nat×Nat)) :=
 match s.1 m.1 m.2.1,s.1 m.2.1 m.2.2 with
 | some x,some y=>some (put s.1 m.1 m.2.2 (met ah x y),s.2++mask x y)
 | _,_=>none
noncomputable def run (ah:Nat->Nat->Bool):List Mt->W×List (Nat×Nat)->Option (W×List (Nat×Nat))
 | [],s=>some s
 | m::r,s=>(step ah s m).bind (run ah r)
theorem run_app (ah:Nat->Nat->Bool) (ms ns:List Mt) (s:W×List (Nat×Nat)):run ah (ms++ns) s=(run ah ms s).bind (run ah ns):=by
 induction ms generalizing s with
 | nil=>rfl
 | cons m r ih=>
  show (step ah s m).bind (run ah (r++ns))=((step ah s m).bind (run ah r)).bind (run ah ns)
  cases h:step ah s m with
  | none=>rfl
  | some t=>exact ih t
noncomputable def best (ah:Nat->Nat->Bool) (fr:Nat->Fr) (f b:Nat):Fr:=if h:b-f < 2 then fr f else met ah (best ah fr f (mid f b)) (best ah fr (mid f b) b)
termination_by b-f
decreasing_by
 .have:=mid_lt h;omega
 .have:=mid_lt h;omega
theorem ZBv {ah:Nat->Nat->Bool} {fr:Nat->Fr} {f b:Nat} (h:b-f < 2):best ah fr f b=fr f:=by rw [best,dif_pos h]
theorem ZBu {ah:Nat->Nat->Bool} {fr:Nat->Fr} {f b:Nat} (h:¬ b-f < 2):best ah fr f b=met ah (best ah fr f (mid f b)) (best ah fr (mid f b) b):=by rw [best,dif_neg h]
noncomputable def asks (D:Mt->Bool) (ah:Nat->Nat->Bool) (fr:Nat->Fr) (f b:Nat):List (Nat×Nat) :=
 if h:b-f < 2 then [] else asks D ah fr f (mid f b)++asks D ah fr (mid f b) b++(if D (f,mid f b,b)=true then mask (best ah fr f (mid f b)) (best ah fr (mid f b) b) else [])
termination_by b-f
decreasing_by
 .have:=mid_lt h;omega
 .have:=mid_lt h;omega
theorem asks_leaf {D:Mt->Bool} {ah:Nat->Nat->Bool} {fr:Nat->Fr} {f b:Nat} (h:b-f < 2):asks D ah fr f b=[]:=by rw [asks,dif_pos h]
theorem ZCi {D:Mt->Bool} {ah:Nat->Nat->Bool} {fr:Nat->Fr} {f b:Nat} (h:¬ b-f < 2):asks D ah fr f b=asks D ah fr f (mid f b)++asks D ah fr (mid f b) b++(if D (f,mid f b,b)=true then mask (best ah fr f (mid f b)) (best ah fr (mid f b) b) else []):=by rw [asks,dif_neg h]
noncomputable def Right (ah:Nat->Nat->Bool) (fr:Nat->Fr) (w:W) (f b:Nat):Prop:=(∀ i,f <= i->i < b->w i (i+1)=some (fr i)) /\ ∀ m∈mts f b,w m.1 m.2.2=some (best ah fr m.1 m.2.2)
theorem Right.top {ah:Nat->Nat->Bool} {fr:Nat->Fr} {w:W} {f b:Nat} (h:Right ah fr w f b) (hf:f < b):w f b=some (best ah fr f b):=by
 by_cases z:b-f < 2
 .rw [ZBv z,show b=f+1 by omega]
  exact h.1 f (yAA _) hf
 .exact h.2 (f,mid f b,b) (by rw [mts_node z];exact yAQ _ (yAK.mpr rfl))
theorem runs (D:Mt->Bool) (ah:Nat->Nat->Bool) (fr:Nat->Fr) (f b:Nat):∀ (w:W) (l:List (Nat×Nat)),f < b->(∀ i,f <= i->i < b->w i (i+1)=some (fr i))->(∀ m∈mts f b,D m=false->w m.1 m.2.2=some (best ah fr m.1 m.2.2)) ->
  ∃ w',run ah ((mts f b).filter D) (w,l)=some (w',l++asks D ah fr f b) /\ Right ah fr w' f b /\ ∀ a c,(c <= a+1∨a < f∨b < c)->w' a c=w a c:=by
 refine tree (P:=fun f b=>∀ (w:W) (l:List (Nat×Nat)),f < b->(∀ i,f <= i->i < b->w i (i+1)=some (fr i))->(∀ m∈mts f b,D m=false->w m.1 m.2.2=some (best ah fr m.1 m.2.2)) ->
  ∃ w',run ah ((mts f b).filter D) (w,l)=some (w',l++asks D ah fr f b) /\ Right ah fr w' f b /\ ∀ a c,(c <= a+1∨a < f∨b < c)->w' a c=w a c) (fun f b h w l hf hl hc=>?_) (fun f b h i1 i2 w l hf hl hc=>?_) f b
 .rw [mts_leaf h,asks_leaf h]
  exact ⟨w,by rw [yAY];rfl,⟨hl,fun m hm=>by rw [mts_leaf h] at hm;cases hm⟩,fun _ _ _=>rfl⟩
 .have hm:=mid_lt h
  rw [mts_node h] at hc
  rw [mts_node h,ZCi h,yBM,yBM,run_app,run_app]
  obtain ⟨w1,e1,r1,k1⟩:=i1 w l hm.1 (fun i a c=>hl i a (by omega)) fun m z d=>hc m (yBU _ (yBU _ z)) d
  rw [e1]
  show ∃ w',((run ah ((mts (mid f b) b).filter D) (w1,l++asks D ah fr f (mid f b))).bind _)=_ /\ _
  obtain ⟨w2,e2,r2,k2⟩:=i2 w1 (l++asks D ah fr f (mid f b)) hm.2 (fun i a c=>by rw [k1 i (i+1) (.inl (yAA _))];exact hl i (by omega) c) fun m z d=>by
   have g:=mts_mem (a:=m.1) (m:=m.2.1) (c:=m.2.2) _ _ z
   rw [k1 _ _ (by omega)]
   exact hc m (yBU _ (yAQ _ z)) d
  rw [e2]
  show ∃ w',(run ah ([(f,mid f b,b)].filter D) (w2,l++asks D ah fr f (mid f b)++asks D ah fr (mid f b) b))=_ /\ _
  have r1':Right ah fr w2 f (mid f b):=⟨fun i a c=>by rw [k2 i (i+1) (.inl (yAA _))];exact r1.1 i a c,fun m z=>by
   have g:=mts_mem (a:=m.1) (m:=m.2.1) (c:=m.2.2) _ _ z
   rw [k2 _ _ (by omega)]
   exact r1.2 m z⟩
  have t1:=r1'.top hm.1
  have t2:=r2.top hm.2
  have hleaf:∀ (w':W),(∀ i,w' i (i+1)=w2 i (i+1))->∀ i,f <= i->i < b->w' i (i+1)=some (fr i):=fun w' hw i a c=>by
   rw [hw,k2 _ _ (.inl (yAA _)),k1 _ _ (.inl (yAA _))];exact hl i a c
  by_cases hD:D (f,mid f b,b)=true
  .rw [yCT (by exact hD),if_pos hD]
   refine ⟨put w2 f b (met ah (best ah fr f (mid f b)) (best ah fr (mid f b) b)),?_,⟨hleaf _ fun i=>?_,fun m z=>?_⟩,fun a c z=>?_⟩
   .show (step ah (w2,_) (f,mid f b,b)).bind (run ah [])=_
    unfold step
    dsimp only
    rw [t1,t2]
    show some _=_
    rw [<- yAW,<- yAW]
   .unfold put
    rw [if_neg (by omega)]
   .rw [mts_node h] at z
    rcases yAX.mp z with z | z
    .have g:m.1≠f∨m.2.2≠b:=by
      rcases yAX.mp z with z | z
      .have:=mts_mem (a:=m.1) (m:=m.2.1) (c:=m.2.2) _ _ z;omega
      .have:=mts_mem (a:=m.1) (m:=m.2.1) (c:=m.2.2) _ _ z;omega
     unfold put
     rw [if_neg (by omega)]
     rcases yAX.mp z with z | z
     .exact r1'.2 m z
     .exact r2.2 m z
    .rw [yAK.mp z]
     unfold put
     rw [if_pos ⟨rfl,rfl⟩,ZBu h]
   .unfold put
    rw [if_neg (by omega),k2 _ _ (by omega),k1 _ _ (by omega)]
  .have hD':D (f,mid f b,b)=false:=by simpa using hD
   rw [yCU (by rw [hD'];decide),if_neg hD]
   refine ⟨w2,?_,⟨hleaf _ fun i=>rfl,fun m z=>?_⟩,fun a c z=>?_⟩
   .show some _=_
    rw [yAY,yAW]
   .rw [mts_node h] at z
    rcases yAX.mp z with z | z
    .rcases yAX.mp z with z | z
     .exact r1'.2 m z
     .exact r2.2 m z
    .rw [yAK.mp z]
     have:=hc (f,mid f b,b) (yAQ _ (yAK.mpr rfl)) hD'
     dsimp only at this ⊢
     rw [k2 _ _ (by omega),k1 _ _ (by omega)]
     exact this
   .rw [k2 _ _ (by omega),k1 _ _ (by omega)]
noncomputable def cnt (fr:Nat->Fr) (f b:Nat):Nat:=((List.range' f (b-f)).filter fun i=>(fr i).isSome).length
theorem cnt_split {fr:Nat->Fr} {f m b:Nat} (h1:f <= m) (h2:m <= b):cnt fr f b=cnt fr f m+cnt fr m b:=by
 unfold cnt
 rw [<- yAC,<- yBM]
 congr 2
 rw [show b-f=(m-f)+(b-m) by omega,<- List.range'_append_1,show f+(m-f)=m by omega]
theorem cnt_one {fr:Nat->Fr} {f b:Nat} (h:b=f+1):cnt fr f b=if (fr f).isSome then 1 else 0:=by
 subst h
 unfold cnt
 rw [show f+1-f=1 by omega]
 cases e:(fr f).isSome <;> simp [List.range',e]
theorem met_some {ah:Nat->Nat->Bool} (x y:Fr):(met ah x y).isSome=(x.isSome || y.isSome):=by
 cases x with
 | none=>cases y <;> rfl
 | some x=>cases y with
  | none=>rfl
  | some y=>show (if _ then _ else _:Fr).isSome=true;split <;> rfl
theorem best_some {ah:Nat->Nat->Bool} {fr:Nat->Fr} (f b:Nat):f < b->((best ah fr f b).isSome=true↔0 < cnt fr f b):=by
 refine tree (P:=fun f b=>f < b->((best ah fr f b).isSome=true↔0 < cnt fr f b)) (fun f b h hf=>?_) (fun f b h i1 i2 hf=>?_) f b
 .rw [ZBv h,cnt_one (by omega)]
  cases (fr f).isSome <;> simp
 .have hm:=mid_lt h
  have i1:=i1 hm.1
  have i2:=i2 hm.2
  rw [ZBu h,met_some,Bool.or_eq_true,cnt_split (m:=mid f b) (by omega) (by omega),i1,i2]
  omega
theorem asks_all {ah:Nat->Nat->Bool} {fr:Nat->Fr} (f b:Nat):f < b->(asks (fun _=>true) ah fr f b).length=cnt fr f b-1:=by
 refine tree (P:=fun f b=>f < b->(asks (fun _=>true) ah fr f b).length=cnt fr f b-1) (fun f b h hf=>?_) (fun f b h i1 i2 hf=>?_) f b
 .rw [asks_leaf h,cnt_one (by omega)]
  cases (fr f).isSome <;> simp
 .have hm:=mid_lt h
  have hsp:=cnt_split (fr:=fr) (f:=f) (m:=mid f b) (b:=b) (by omega) (by omega)
  rw [ZCi h,if_pos rfl,yAC,yAC,i1 hm.1,i2 hm.2]
  have b1:=best_some (ah:=ah) (fr:=fr) f (mid f b) hm.1
  have b2:=best_some (ah:=ah) (fr:=fr) (mid f b) b hm.2
  cases e1:best ah fr f (mid f b) with
  | none=>
   rw [e1] at b1
   have z1:¬ 0 < cnt fr f (mid f b):=fun z=>by cases b1.mpr z
   show _+_+0=_
   omega
  | some x=>
   rw [e1] at b1
   have z1:=b1.mp rfl
   cases e2:best ah fr (mid f b) b with
   | none=>
    rw [e2] at b2
    have z2:¬ 0 < cnt fr (mid f b) b:=fun z=>by cases b2.mpr z
    show _+_+0=_
    omega
   | some y=>
    rw [e2] at b2
    have z2:=b2.mp rfl
    show _+_+1=_
    omega
theorem best_mem {ah:Nat->Nat->Bool} {fr:Nat->Fr} {x:Nat×Nat} (f b:Nat):f < b->best ah fr f b=some x->∃ i,f <= i /\ i < b /\ fr i=some x:=by
 refine tree (P:=fun f b=>f < b->best ah fr f b=some x->∃ i,f <= i /\ i < b /\ fr i=some x) (fun f b h hf=>?_) (fun f b h i1 i2 hf=>?_) f b
 .rw [ZBv h]
  exact fun e=>⟨f,yAA _,hf,e⟩
 .have hm:=mid_lt h
  rw [ZBu h]
  intro e
  have:best ah fr f (mid f b)=some x∨best ah fr (mid f b) b=some x:=by
   revert e
   cases best ah fr f (mid f b) with
   | none=>exact fun e=>.inr e
   | some p=>cases best ah fr (mid f b) b with
    | none=>exact fun e=>.inl e
    | some q=>
     show (if _ then _ else _:Fr)=_->_
     split
     .exact fun e=>.inl e
     .exact fun e=>.inr e
  rcases this with e | e
  .obtain ⟨i,a,c,d⟩:=i1 hm.1 e;exact ⟨i,a,by omega,d⟩
  .obtain ⟨i,a,c,d⟩:=i2 hm.2 e;exact ⟨i,by omega,c,d⟩
theorem asks_mem {D:Mt->Bool} {ah:Nat->Nat->Bool} {fr:Nat->Fr} {p q:Nat} (f b:Nat):(p,q)∈asks D ah fr f b->∃ i j x y,f <= i /\ i < j /\ j < b /\ fr i=some (p,x) /\ fr j=some (q,y):=by
 refine tree (P:=fun f b=>(p,q)∈asks D ah fr f b->∃ i j x y,f <= i /\ i < j /\ j < b /\ fr i=some (p,x) /\ fr j=some (q,y)) (fun f b h=>?_) (fun f b h i1 i2=>?_) f b
 .rw [asks_leaf h];intro z;cases z
 .have hm:=mid_lt h
  rw [ZCi h]
  intro z
  rcases yAX.mp z with z | z
  .rcases yAX.mp z with z | z
   .obtain ⟨i,j,x,y,a,c,d,e⟩:=i1 z;exact ⟨i,j,x,y,a,c,by omega,e⟩
   .obtain ⟨i,j,x,y,a,c,d,e⟩:=i2 z;exact ⟨i,j,x,y,by omega,c,d,e⟩
  .split at z
   .revert z
    cases e1:best ah fr f (mid f b) with
    | none=>intro z;cases z
    | some x=>cases e2:best ah fr (mid f b) b with
     | none=>intro z;cases z
     | some y=>
      intro z
      have z:=yAK.mp z
      injection z with z1 z2
      obtain ⟨i,a,c,d⟩:=best_mem f (mid f b) hm.1 e1
      obtain ⟨j,a',c',d'⟩:=best_mem (mid f b) b hm.2 e2
      exact ⟨i,j,x.2,y.2,a,by omega,c',by rw [z1];exact d,by rw [z2];exact d'⟩
   .cases z
theorem best_first {lt:Nat->Nat->Prop} {ah:Nat->Nat->Bool} {fr:Nat->Fr} (tr:∀ x y z,lt x y->lt y z->lt x z) (f b:Nat) :
  f < b->(∀ i j x y,f <= i->i < j->j < b->fr i=some x->fr j=some y->(ah x.1 y.1=true->lt x.1 y.1) /\ (ah x.1 y.1=false->lt y.1 x.1))->∀ x,best ah fr f b=some x->∀ j y,f <= j->j < b->fr j=some y->y=x∨lt x.1 y.1:=by
 refine tree (P:=fun f b=>f < b->(∀ i j x y,f <= i->i < j->j < b->fr i=some x->fr j=some y->(ah x.1 y.1=true->lt x.1 y.1) /\ (ah x.1 y.1=false->lt y.1 x.1))->∀ x,best ah fr f b=some x->∀ j y,f <= j->j < b->fr j=some y->y=x∨lt x.1 y.1) (fun f b h hf _ x e j y h1 h2 e'=>?_) (fun f b h i1 i2 hf ha x e j y h1 h2 e'=>?_) f b
 .rw [ZBv h] at e
  have:j=f:=by omega
  rw [this,e] at e'
  cases e'
  exact .inl rfl
 .have hm:=mid_lt h
  have i1:=i1 hm.1 fun i j x y a c d=>ha i j x y a c (by omega)
  have i2:=i2 hm.2 fun i j x y a c d=>ha i j x y (by omega) c d
  rw [ZBu h] at e
  revert e
  cases e1:best ah fr f (mid f b) with
  | none=>
   intro e
   by_cases hj:j < mid f b
   .have b1:=best_some (ah:=ah) (fr:=fr) f (mid f b) hm.1
    rw [e1] at b1
    have z1:¬ 0 < cnt fr f (mid f b):=fun z=>by cases b1.mpr z
    exfalso
    refine z1 ?_
    unfold cnt
    refine List.length_pos_of_mem (a:=j) (yBS.mpr ⟨List.mem_range'_1.mpr ⟨h1,by omega⟩,?_⟩)
    rw [e'];rfl
   .exact i2 x e j y (by omega) h2 e'
  | some p=>
   cases e2:best ah fr (mid f b) b with
   | none=>
    intro e
    by_cases hj:j < mid f b
    .exact i1 x (e1.trans e) j y h1 hj e'
    .have b1:=best_some (ah:=ah) (fr:=fr) (mid f b) b hm.2
     rw [e2] at b1
     have z1:¬ 0 < cnt fr (mid f b) b:=fun z=>by cases b1.mpr z
     exfalso
     refine z1 ?_
     unfold cnt
     refine List.length_pos_of_mem (a:=j) (yBS.mpr ⟨List.mem_range'_1.mpr ⟨by omega,by omega⟩,?_⟩)
     rw [e'];rfl
   | some q=>
    obtain ⟨i0,a0,c0,d0⟩:=best_mem f (mid f b) hm.1 e1
    obtain ⟨j0,a0',c0',d0'⟩:=best_mem (mid f b) b hm.2 e2
    have hpq:=ha i0 j0 p q a0 (by omega) c0' d0 d0'
    show (if _ then _ else _:Fr)=_->_
    split
    .rename_i hah
     intro e
     cases e
     by_cases hj:j < mid f b
     .exact i1 _ e1 j y h1 hj e'
     .rcases i2 _ e2 j y (by omega) h2 e' with z | z
      .rw [z];exact .inr (hpq.1 hah)
      .exact .inr (tr _ _ _ (hpq.1 hah) z)
    .rename_i hah
     have hah:ah p.1 q.1=false:=by simpa using hah
     intro e
     cases e
     by_cases hj:j < mid f b
     .rcases i1 _ e1 j y h1 hj e' with z | z
      .rw [z];exact .inr (hpq.2 hah)
      .exact .inr (tr _ _ _ (hpq.2 hah) z)
     .exact i2 _ e2 j y (by omega) h2 e'
noncomputable def onWay (p:Nat) (m:Mt):Bool:=decide (m.1 <= p) && decide (p < m.2.2)
theorem way_out (p:Nat) (f b:Nat):(p < f∨b <= p)->(mts f b).filter (onWay p)=[]:=by
 intro h
 rw [List.filter_eq_nil_iff]
 rintro ⟨a,m,c⟩ hm hp
 have g:=mts_mem _ _ hm
 unfold onWay at hp
 rw [yBJ,decide_eq_true_iff,decide_eq_true_iff] at hp
 dsimp only at hp
 omega
theorem way_len (p:Nat) (f b:Nat):∀ k,b-f <= 2 ^ k->((mts f b).filter (onWay p)).length <= k:=by
 refine tree (P:=fun f b=>∀ k,b-f <= 2 ^ k->((mts f b).filter (onWay p)).length <= k) (fun f b h k hk=>?_) (fun f b h i1 i2 k hk=>?_) f b
 .rw [mts_leaf h];exact yAG _
 .have hm:=mid_lt h
  cases k with
  | zero=>simp at hk;omega
  | succ k=>
   rw [mts_node h,yBM,yBM,yAC,yAC]
   have h3:([(f,mid f b,b)].filter (onWay p)).length <= 1:=List.length_filter_le _ _
   have hk1:mid f b-f <= 2 ^ k:=by rw [Nat.pow_succ] at hk;unfold mid at *;omega
   have hk2:b-mid f b <= 2 ^ k:=by rw [Nat.pow_succ] at hk;unfold mid at *;omega
   have a1:=i1 k hk1
   have a2:=i2 k hk2
   by_cases hp:p < mid f b
   .rw [way_out p (mid f b) b (.inl hp)]
    simp only [yBK]
    omega
   .rw [way_out p f (mid f b) (.inr (by omega))]
    simp only [yBK]
    omega
theorem asks_le {D:Mt->Bool} {ah:Nat->Nat->Bool} {fr:Nat->Fr} (f b:Nat):(asks D ah fr f b).length <= ((mts f b).filter D).length:=by
 refine tree (P:=fun f b=>(asks D ah fr f b).length <= ((mts f b).filter D).length) (fun f b h=>?_) (fun f b h i1 i2=>?_) f b
 .rw [asks_leaf h];exact yAG _
 .rw [ZCi h,mts_node h,yBM,yBM,yAC,yAC,yAC,yAC]
  have:(if D (f,mid f b,b)=true then mask (best ah fr f (mid f b)) (best ah fr (mid f b) b) else []).length <= ([(f,mid f b,b)].filter D).length:=by
   split
   .rename_i hD
    rw [yCT (by exact hD)]
    show _ <= 1
    cases best ah fr f (mid f b) with
    | none=>exact yAG _
    | some x=>cases best ah fr (mid f b) b with
     | none=>exact yAG _
     | some y=>exact yAA _
   .exact yAG _
  omega
theorem best_same {ah:Nat->Nat->Bool} {fr fr':Nat->Fr} (f b:Nat):f < b->(∀ i,f <= i->i < b->fr' i=fr i)->best ah fr' f b=best ah fr f b:=by
 refine tree (P:=fun f b=>f < b->(∀ i,f <= i->i < b->fr' i=fr i)->best ah fr' f b=best ah fr f b) (fun f b h hf hs=>?_) (fun f b h i1 i2 hf hs=>?_) f b
 .rw [ZBv h,ZBv h]
  exact hs f (yAA _) hf
 .have hm:=mid_lt h
  rw [ZBu h,ZBu h,i1 hm.1 fun i a c=>hs i a (by omega),i2 hm.2 fun i a c=>hs i (by omega) c]
theorem take_runs {ah:Nat->Nat->Bool} {fr fr':Nat->Fr} {w:W} {n p:Nat} (l:List (Nat×Nat)) (hp:p < n) (R:Right ah fr w 0 n) (hs:∀ i,i≠p->fr' i=fr i) :
  ∃ w',run ah ((mts 0 n).filter (onWay p)) (put w p (p+1) (fr' p),l)=some (w',l++asks (onWay p) ah fr' 0 n) /\ Right ah fr' w' 0 n:=by
 have hh:∀ i,0 <= i->i < n->put w p (p+1) (fr' p) i (i+1)=some (fr' i):=fun i _ hi=>by
  unfold put
  by_cases e:i=p
  .rw [if_pos ⟨e,by omega⟩,e]
  .rw [if_neg (by omega),hs i e]
   exact R.1 i (yAG _) hi
 obtain ⟨w',a,c,_⟩:=runs (onWay p) ah fr' 0 n (put w p (p+1) (fr' p)) l (by omega) hh fun m hm hD=>by
  have g:=mts_mem (a:=m.1) (m:=m.2.1) (c:=m.2.2) _ _ hm
  unfold put
  rw [if_neg (by omega),R.2 m hm]
  congr 1
  refine (best_same (fr:=fr) _ _ (by omega) fun i h1 h2=>?_).symm
  refine hs i fun e=>?_
  unfold onWay at hD
  rw [Bool.and_eq_false_iff,decide_eq_false_iff_not,decide_eq_false_iff_not] at hD
  omega
 exact ⟨w',a,c⟩
theorem make_runs {ah:Nat->Nat->Bool} {fr:Nat->Fr} {w:W} {n:Nat} (l:List (Nat×Nat)) (hn:0 < n) (h:∀ i,i < n->w i (i+1)=some (fr i)) :
  ∃ w',run ah (mts 0 n) (w,l)=some (w',l++asks (fun _=>true) ah fr 0 n) /\ Right ah fr w' 0 n:=by
 obtain ⟨w',a,c,_⟩:=runs (fun _=>true) ah fr 0 n w l hn (fun i _ hi=>h i hi) fun m hm hD=>by cases hD
 rw [List.filter_eq_self.mpr (fun _ _=>rfl)] at a
 exact ⟨w',a,c⟩
end Po
namespace Po
end Po
namespace Law
open PySem L2
local macro_rules | `(tactic| walk_at "o")=>`(tactic| first | exact Or.inl rfl | exact Or.inr rfl)
set_option hygiene false in
local macro_rules | `(tactic| walk_at "rd")=>`(tactic| ((try dsimp only [cx_K,ZEc,tDNewK,tDNotIn,tDIn,ZFF,ZFJ,tChain,tForZ_eq,tRevL,tCompR2_eq,sFldAug_eq,cx_cloK,ZEd,ZCa,tForE_eq,tCompE_eq,tMaxD,tAug_eq,ipI_int,gSub,gCons_eq,gNil_eq,tSeq,tIfS,ZFA,tB,tOr,tAnd,tNot,tOp,tUn,tC,ZAd,tTry,ZEe,ZEa,tMethS,ZDL,tXMk,tFS,ZFI,ZEA,tTry0,ZEZ,ZDv,tMakeN,tVar_1,tVar_2,tVar_3,tVar_4,tVar_5,tVar_6,tVar_7,tVar_8,tVar_9,tVar_10,tVar_11,tVar_12,tVar_13,tVar_14,tVar_15,tVar_16,tVar_17,tVar_18,tVar_19,tVar_20,tVar_21,tVar_22,tVar_23,tVar_24,tVar_25,tVar_26,tVar_27,tVar_28,tVar_29,tVar_30,rI0_int,rI_int,rU_int,rEq_int,rNe_int,rEq_bl,rNe_bl,rEq_str,rNe_str,ex_bl,ex_int,tAsg,ZEs,tRet,tRetN,ZFE,ZFD,tNever,ZFG,tOrV,ZFC,tIf,List.set_cons_zero,List.set_cons_succ,ZEf,ZER,ZCM,tNil,List.cons_append,List.nil_append,yAY,tCB,tFld_eq,sFld_eq,tForL_eq,tForR1_eq,tForR2_eq,tCompL_eq,tCompR1_eq,tYes,tBM,tBM0,tLst,tTup,ZEb,true_and,tSl,ZFB,tNoPart,decide_eq_true_eq,Bool.not_eq_true',decide_eq_false_iff_not,L2.start,yAT,List.map_nil,yAR,yBK,Nat.reduceAdd,Nat.reduceSub,yCH,yBX,List.replicate_zero,List.replicate_succ,if_true,if_false,yCM,Bool.true_eq_false,Bool.not_true,Bool.not_false]);(try simp only [cx_K,ZEc,tDNewK,tDNotIn,tDIn,ZFF,ZFJ,tChain,tForZ_eq,tRevL,tCompR2_eq,sFldAug_eq,cx_cloK,ZEd,ZCa,tForE_eq,tCompE_eq,tMaxD,tAug_eq,ipI_int,gSub,gCons_eq,gNil_eq,tSeq,tIfS,ZFA,tB,tOr,tAnd,tNot,tOp,tUn,tC,ZAd,tTry,ZEe,ZEa,tMethS,ZDL,tXMk,tFS,ZFI,ZEA,tTry0,ZEZ,ZDv,tMakeN,tVar_1,tVar_2,tVar_3,tVar_4,tVar_5,tVar_6,tVar_7,tVar_8,tVar_9,tVar_10,tVar_11,tVar_12,tVar_13,tVar_14,tVar_15,tVar_16,tVar_17,tVar_18,tVar_19,tVar_20,tVar_21,tVar_22,tVar_23,tVar_24,tVar_25,tVar_26,tVar_27,tVar_28,tVar_29,tVar_30,rI0_int,rI_int,rU_int,rEq_int,rNe_int,rEq_bl,rNe_bl,rEq_str,rNe_str,ex_bl,ex_int,tAsg,ZEs,tRet,tRetN,ZFE,ZFD,tNever,ZFG,tOrV,ZFC,tIf,List.set_cons_zero,List.set_cons_succ,ZEf,ZER,ZCM,tNil,List.cons_append,List.nil_append,yAY,tCB,tFld_eq,sFld_eq,tForL_eq,tForR1_eq,tForR2_eq,tCompL_eq,tCompR1_eq,tYes,tBM,tBM0,tLst,tTup,ZEb,true_and,tSl,ZFB,tNoPart,decide_eq_true_eq,Bool.not_eq_true',decide_eq_false_iff_not,L2.start,yAT,List.map_nil,yAR,yBK,Nat.reduceAdd,Nat.reduceSub,yCH,yBX,List.replicate_zero,List.replicate_succ,if_true,if_false,yCM,Bool.true_eq_false,Bool.not_true,Bool.not_false])))
local macro_rules | `(tactic| walk_at "up")=>`(tactic| first | assumption | (refine Same.get (by assumption) ?_;walk_at "up"))
local macro_rules | `(tactic| walk_at "lk")=>`(tactic| ((repeat (first | rw [lkc,if_pos rfl] | rw [lkc,if_neg (by decide +kernel)]));first | done | rfl))
noncomputable def top (i:Nat):Stmt:=PySem.Challenge.pw_sorthall_k76_refused_and_stopped.main.body.getD i (.Pass ⟨0,0,0,0⟩)
noncomputable abbrev ZA3:Stmt:=ZAt (top 10) 0
noncomputable abbrev ZAu:Stmt:=top 12
noncomputable abbrev ZBG:Stmt:=ZAt (top 13) 0
noncomputable abbrev ZAn:Stmt:=ZAt (top 13) 1
noncomputable abbrev ZAs:Stmt:=ZAt (top 13) 2
noncomputable abbrev ZBQ:Stmt:=ZAt (top 13) 3
noncomputable abbrev ZBH:Stmt:=ZAt (top 13) 4
noncomputable abbrev ZBP:Stmt:=ZAt (top 13) 5
noncomputable abbrev ZA4:Stmt:=ZAt (top 13) 6
noncomputable abbrev ZBF:Stmt:=ZAt (top 13) 7
noncomputable abbrev ZAZ:Stmt:=ZAt (top 14) 0
noncomputable abbrev ZAb:Stmt:=ZAt (top 14) 1
noncomputable abbrev ZA2:Stmt:=top 16
noncomputable abbrev ZA6:Stmt:=ZAt (top 18) 0
noncomputable abbrev ZA5:Stmt:=ZAt (top 18) 1
noncomputable abbrev ZAw:Stmt:=ZAt (top 18) 2
noncomputable abbrev ZAv:Stmt:=ZAt (top 18) 4
noncomputable abbrev ZAg:Stmt:=ZAt (top 21) 0
noncomputable abbrev ZAc:Stmt:=ZAt (top 21) 1
noncomputable abbrev ZBp:Stmt:=top 23
noncomputable abbrev ZCE:Stmt:=top 24
noncomputable abbrev ZBo:Stmt:=top 25
noncomputable abbrev ZES:Stmt:=top 26
noncomputable abbrev ZBw:Stmt:=top 27
noncomputable abbrev ZDF:Stmt:=top 28
noncomputable abbrev ZBq:Stmt:=top 29
noncomputable abbrev ZCk:Stmt:=top 30
noncomputable abbrev ZBO:Stmt:=top 31
noncomputable abbrev ZBn:Stmt:=top 32
noncomputable abbrev ZDO:Stmt:=top 33
theorem sc_Spent_init:FnScope ["self","asked"] ["self","asked"] (ZAB ZA3):=⟨rfl,rfl,rfl,by decide +kernel,rfl,by decide +kernel,by decide +kernel⟩
theorem sc_meetings_of:FnScope ["first","beyond","middle"] ["first","beyond"] (ZAB ZAu):=⟨rfl,rfl,rfl,by decide +kernel,rfl,by decide +kernel,by decide +kernel⟩
theorem sc_Pour_init:FnScope ["self","asker","pieces","piece"] ["self","asker","pieces"] (ZAB ZBG):=⟨rfl,rfl,rfl,by decide +kernel,rfl,by decide +kernel,by decide +kernel⟩
theorem sc_Pour_front_of:FnScope ["self","piece","taken","places"] ["self","piece","taken"] (ZAB ZAn):=⟨rfl,rfl,rfl,by decide +kernel,rfl,by decide +kernel,by decide +kernel⟩
theorem sc_Pour_goes_on:FnScope ["self","p","q"] ["self","p","q"] (ZAB ZAs):=⟨rfl,rfl,rfl,by decide +kernel,rfl,by decide +kernel,by decide +kernel⟩
theorem sc_Pour_met:FnScope ["self","one","other"] ["self","one","other"] (ZAB ZBQ):=⟨rfl,rfl,rfl,by decide +kernel,rfl,by decide +kernel,by decide +kernel⟩
theorem sc_Pour_held:FnScope ["self","meetings","went_on","told","first","middle","beyond"] ["self","meetings","went_on"] (ZAB ZBH):=⟨rfl,rfl,rfl,by decide +kernel,rfl,by decide +kernel,by decide +kernel⟩
theorem sc_Pour_top:FnScope ["self"] ["self"] (ZAB ZBP):=⟨rfl,rfl,rfl,by decide +kernel,rfl,by decide +kernel,by decide +kernel⟩
theorem sc_Pour_first:FnScope ["self","top"] ["self"] (ZAB ZA4):=⟨rfl,rfl,rfl,by decide +kernel,rfl,by decide +kernel,by decide +kernel⟩
theorem sc_Pour_take:FnScope ["self","top","piece","taken","way","went_on"] ["self"] (ZAB ZBF):=⟨rfl,rfl,rfl,by decide +kernel,rfl,by decide +kernel,by decide +kernel⟩
theorem sc_LastPour_front_of:FnScope ["self","piece","taken","places"] ["self","piece","taken"] (ZAB ZAZ):=⟨rfl,rfl,rfl,by decide +kernel,rfl,by decide +kernel,by decide +kernel⟩
theorem sc_LastPour_goes_on:FnScope ["self","p","q"] ["self","p","q"] (ZAB ZAb):=⟨rfl,rfl,rfl,by decide +kernel,rfl,by decide +kernel,by decide +kernel⟩
theorem sc_so_manieth:FnScope ["asker","many","things","singly","from_behind","pour","taken","place","rest"] ["asker","many"] (ZAB ZA2):=⟨rfl,rfl,rfl,by decide +kernel,rfl,by decide +kernel,by decide +kernel⟩
theorem sc_Asker_init:FnScope ["self","row","rule","most"] ["self","row","rule","most"] (ZAB ZA6):=⟨rfl,rfl,rfl,by decide +kernel,rfl,by decide +kernel,by decide +kernel⟩
theorem sc_Asker_many:FnScope ["self"] ["self"] (ZAB ZA5):=⟨rfl,rfl,rfl,by decide +kernel,rfl,by decide +kernel,by decide +kernel⟩
theorem sc_Asker_ahead:FnScope ["self","p","q","later","earlier","said"] ["self","p","q"] (ZAB ZAw):=⟨rfl,rfl,rfl,by decide +kernel,rfl,by decide +kernel,by decide +kernel⟩
theorem sc_Asker_widen:FnScope ["self","more"] ["self","more"] (ZAB ZAv):=⟨rfl,rfl,rfl,by decide +kernel,rfl,by decide +kernel,by decide +kernel⟩
theorem sc_AskedRule_init:FnScope ["self","teller"] ["self","teller"] (ZAB ZAg):=⟨rfl,rfl,rfl,by decide +kernel,rfl,by decide +kernel,by decide +kernel⟩
theorem sc_AskedRule_before:FnScope ["self","x","y","teller"] ["self","x","y"] (ZAB ZAc):=⟨rfl,rfl,rfl,by decide +kernel,rfl,by decide +kernel,by decide +kernel⟩
theorem sc_cell_at:FnScope ["_law_script","_law_k"] ["_law_script","_law_k"] (ZAB ZBp):=⟨rfl,rfl,rfl,by decide +kernel,rfl,by decide +kernel,by decide +kernel⟩
theorem sc_stream:FnScope ["_law_seed","_law_many_here","_law_found","_law_number","_law_k"] ["_law_seed","_law_many_here"] (ZAB ZCE):=⟨rfl,rfl,rfl,by decide +kernel,rfl,by decide +kernel,by decide +kernel⟩
theorem sc_numbers:FnScope ["_law_script"] ["_law_script"] (ZAB ZBo):=⟨rfl,rfl,rfl,by decide +kernel,rfl,by decide +kernel,by decide +kernel⟩
theorem sc_row:FnScope ["_law_numbers_here","_law_kind","_law_base","_law_keys"] ["_law_numbers_here","_law_kind"] (ZAB ZES):=⟨rfl,rfl,rfl,by decide +kernel,rfl,by decide +kernel,by decide +kernel⟩
theorem sc_teller:FnScope ["_law_said","_law_tells"] ["_law_said"] (ZAB ZBw):=⟨rfl,rfl,rfl,by decide +kernel,rfl,by decide +kernel,by decide +kernel⟩
theorem sc_many:FnScope ["_law_total","_law_one","_law_two","_law_way"] ["_law_total","_law_one","_law_two"] (ZAB ZDF):=⟨rfl,rfl,rfl,by decide +kernel,rfl,by decide +kernel,by decide +kernel⟩
theorem sc_another:FnScope ["_law_e"] ["_law_e"] (ZAB ZBq):=⟨rfl,rfl,rfl,by decide +kernel,rfl,by decide +kernel,by decide +kernel⟩
theorem sc_tried:FnScope ["_law_asker","_law_many_here","_law_kinds","_law_found","_law_e"] ["_law_asker","_law_many_here"] (ZAB ZCk):=⟨rfl,rfl,rfl,by decide +kernel,rfl,by decide +kernel,by decide +kernel⟩
theorem sc_no_place:FnScope ["_law_row_here","_law_many_here","_law_most","_law_said","_law_found","_law_kinds"] ["_law_row_here","_law_many_here","_law_most"] (ZAB ZBO):=⟨rfl,rfl,rfl,by decide +kernel,rfl,by decide +kernel,by decide +kernel⟩
theorem sc_stopped:FnScope ["_law_row_here","_law_many_here","_law_needed","_law_most","_law_said","_law_asker","_law_found","_law_kinds"] ["_law_row_here","_law_many_here","_law_needed","_law_most"] (ZAB ZBn):=⟨rfl,rfl,rfl,by decide +kernel,rfl,by decide +kernel,by decide +kernel⟩
theorem sc_law:FnScope ["_law_script","_law_row_here","_law_far","_law_none","_law_k","_law_many_here","_law_said","_law_found","_law_needed","_law_most"] ["_law_script"] (ZAB ZDO):=⟨rfl,rfl,rfl,by decide +kernel,rfl,by decide +kernel,by decide +kernel⟩
noncomputable abbrev ZAH:Stmt:=inBody ZBw 0
theorem csc_teller:CloScope ["_law_x","_law_y","_law_first","_law_said"] ["_law_x","_law_y"] ["_law_said"] (ZAB ZAH):=⟨rfl,rfl,rfl,by decide +kernel,rfl,rfl,by decide,by decide +kernel,by decide +kernel,by decide +kernel,fun x h=>(show ∀ y∈(ZAB ZAH).names,y.2=.free->y.1∈(["_law_said"]:List Str) by decide +kernel) _ (PySem.mem_of_lookup h) rfl⟩
structure Bt (K:W.Frag) (mg:Str->Option Value) (C_Pour C_LastPour C_Asker C_AskedRule C_HallError C_NoRule C_NoPaper C_NoPlace C_NoKey C_NoRow C_NoOrder C_TooFar C_Spent:Addr):Prop where
 b_len:mg "len"=none
 b_range:mg "range"=none
 b_list:mg "list"=none
 b_isinstance:mg "isinstance"=none
 b_max:mg "max"=none
 b_min:mg "min"=none
 b_sum:mg "sum"=none
 b_sorted:mg "sorted"=none
 b_dict:mg "dict"=none
 b_ValueError:mg "ValueError"=none
 m_Pour:mg "Pour"=some (.ref C_Pour)
 cl_Pour:Cls K C_Pour
 n_Pour_asker:NoAttr K C_Pour "asker"
 n_Pour_pieces:NoAttr K C_Pour "pieces"
 n_Pour_taken:NoAttr K C_Pour "taken"
 n_Pour_meetings:NoAttr K C_Pour "meetings"
 n_Pour_went_on:NoAttr K C_Pour "went_on"
 m_LastPour:mg "LastPour"=some (.ref C_LastPour)
 cl_LastPour:Cls K C_LastPour
 n_LastPour_asker:NoAttr K C_LastPour "asker"
 n_LastPour_pieces:NoAttr K C_LastPour "pieces"
 n_LastPour_taken:NoAttr K C_LastPour "taken"
 n_LastPour_meetings:NoAttr K C_LastPour "meetings"
 n_LastPour_went_on:NoAttr K C_LastPour "went_on"
 m_Asker:mg "Asker"=some (.ref C_Asker)
 cl_Asker:Cls K C_Asker
 n_Asker_row:NoAttr K C_Asker "row"
 n_Asker_rule:NoAttr K C_Asker "rule"
 n_Asker_most:NoAttr K C_Asker "most"
 n_Asker_asked:NoAttr K C_Asker "asked"
 n_Asker_told:NoAttr K C_Asker "told"
 m_AskedRule:mg "AskedRule"=some (.ref C_AskedRule)
 cl_AskedRule:Cls K C_AskedRule
 n_AskedRule_teller:NoAttr K C_AskedRule "teller"
 m_HallError:mg "HallError"=some (.ref C_HallError)
 m_NoRule:mg "NoRule"=some (.ref C_NoRule)
 m_NoPaper:mg "NoPaper"=some (.ref C_NoPaper)
 m_NoPlace:mg "NoPlace"=some (.ref C_NoPlace)
 m_NoKey:mg "NoKey"=some (.ref C_NoKey)
 m_NoRow:mg "NoRow"=some (.ref C_NoRow)
 m_NoOrder:mg "NoOrder"=some (.ref C_NoOrder)
 m_TooFar:mg "TooFar"=some (.ref C_TooFar)
 m_Spent:mg "Spent"=some (.ref C_Spent)
 xq_NoPlace:PySem.W.excIn K C_NoPlace bmV "ValueError.__new__"=true
 xc_NoPlace:ExcC K C_NoPlace
 xd_NoPlace:PySem.W.hasDictIn K C_NoPlace=true
 xm_NoPlace_HallError:PySem.W.exmOne K (.ref C_NoPlace) (.ref C_HallError)=some true
 xc_Spent:ExcC K C_Spent
 xk_Spent:XCls K C_Spent
 xi_Spent:∃ fI,ZCo K C_Spent fI bmV "ValueError.__new__"=true
 xm_Spent_HallError:PySem.W.exmOne K (.ref C_Spent) (.ref C_HallError)=some true
 n_Spent_asked:NoAttr K C_Spent "asked"
 xb_HallError:XBase K C_HallError
 kit_int_bool:PySem.W.kitOne K (.type "int") (.type "bool")=some false
 kit_Spent_ValueError:PySem.W.kitOne K (.ref C_Spent) (.type "ValueError")=some true
 kit_Spent_NoPlace:PySem.W.kitOne K (.ref C_Spent) (.ref C_NoPlace)=some false
 kit_Spent_Spent:PySem.W.kitOne K (.ref C_Spent) (.ref C_Spent)=some true
 kit_Spent_NoPaper:PySem.W.kitOne K (.ref C_Spent) (.ref C_NoPaper)=some false
 kit_Spent_NoRule:PySem.W.kitOne K (.ref C_Spent) (.ref C_NoRule)=some false
 kit_Spent_NoKey:PySem.W.kitOne K (.ref C_Spent) (.ref C_NoKey)=some false
 kit_Spent_NoRow:PySem.W.kitOne K (.ref C_Spent) (.ref C_NoRow)=some false
 kit_Spent_NoOrder:PySem.W.kitOne K (.ref C_Spent) (.ref C_NoOrder)=some false
 kit_Spent_TooFar:PySem.W.kitOne K (.ref C_Spent) (.ref C_TooFar)=some false
 kit_NoPlace_ValueError:PySem.W.kitOne K (.ref C_NoPlace) (.type "ValueError")=some true
 kit_NoPlace_NoPlace:PySem.W.kitOne K (.ref C_NoPlace) (.ref C_NoPlace)=some true
 kit_NoPlace_Spent:PySem.W.kitOne K (.ref C_NoPlace) (.ref C_Spent)=some false
 kit_NoPlace_NoPaper:PySem.W.kitOne K (.ref C_NoPlace) (.ref C_NoPaper)=some false
 kit_NoPlace_NoRule:PySem.W.kitOne K (.ref C_NoPlace) (.ref C_NoRule)=some false
 kit_NoPlace_NoKey:PySem.W.kitOne K (.ref C_NoPlace) (.ref C_NoKey)=some false
 kit_NoPlace_NoRow:PySem.W.kitOne K (.ref C_NoPlace) (.ref C_NoRow)=some false
 kit_NoPlace_NoOrder:PySem.W.kitOne K (.ref C_NoPlace) (.ref C_NoOrder)=some false
 kit_NoPlace_TooFar:PySem.W.kitOne K (.ref C_NoPlace) (.ref C_TooFar)=some false
structure BtX (K:W.Frag) (C_PX:Addr):Prop where
 cl_PX:Cls K C_PX
 n_PX_asker:NoAttr K C_PX "asker"
 n_PX_pieces:NoAttr K C_PX "pieces"
 n_PX_taken:NoAttr K C_PX "taken"
 n_PX_meetings:NoAttr K C_PX "meetings"
 n_PX_went_on:NoAttr K C_PX "went_on"
noncomputable def cellOf (ns:List Int) (k:Int):Int:=if k < (ns.length:Int) then (ns[k.toNat]?).getD 0 else 0
noncomputable def ZEB (K:W.Frag):Sp:=fun vs H Q _=>∃ (a:Addr) (ns:List Int) (k:Int),vs=[.ref a,.int k] /\ SqL K H a (ns.map V.int) /\ 0 <= k /\ Q (.int (cellOf ns k)) H
theorem once0 {M G:Prop} (h:M->G) (t:M):G:=h t
theorem smallL {n:Nat} (h:n <= 90000):n < sizeLine:=Nat.lt_of_le_of_lt h (by decide)
noncomputable abbrev fA (rl ru:Addr) (m:V) (n:Int) (tl:Addr):List (Str×V):=[("told",.ref tl),("asked",.int n),("most",m),("rule",.ref ru),("row",.ref rl)]
noncomputable abbrev fR (g:Addr):List (Str×V):=[("teller",.ref g)]
theorem fA_canon {rl ru tl:Addr} {m:V} {n:Int}:∀ f,(putF "told" (.ref tl) (putF "asked" (.int n) (putF "most" m (putF "rule" (.ref ru) (putF "row" (.ref rl) []))))).lookup f=(fA rl ru m n tl).lookup f:=fun f=>by
 simp only [ZAR,lkc]
theorem fA_asked {rl ru tl:Addr} {m:V} {n k:Int}:∀ f,(putF "asked" (.int k) (fA rl ru m n tl)).lookup f=(fA rl ru m k tl).lookup f:=fun f=>by
 rw [ZAR]
 by_cases h:f=("asked":Str)
 .subst h
  rw [if_pos rfl]
  exact (show List.lookup _ (fA rl ru m k tl)=some (.int k) by walk_at "lk").symm
 .simp only [lkc,h,if_false]
theorem fA_most {rl ru tl:Addr} {m m':V} {n:Int}:∀ f,(putF "most" m' (fA rl ru m n tl)).lookup f=(fA rl ru m' n tl).lookup f:=fun f=>by
 rw [ZAR]
 by_cases h:f=("most":Str)
 .subst h
  rw [if_pos rfl]
  exact (show List.lookup _ (fA rl ru m' n tl)=some m' by walk_at "lk").symm
 .simp only [lkc,h,if_false]
theorem insAugV {K:W.Frag} {f:Str} {a C:Addr} {fl:List (Str×V)} {i j:Int} {H:Hp} {D:Ends} {σ:St} (h:Ins H a C fl) (cl:Cls K C) (n:NoAttr K C f) (l:fl.lookup f=some (.int i))
  {te:TE} (hte:∀ Q:VK,Q (.int j) H->te σ H Q)
  (q:∀ H',Ins H' a C (putF f (.int (i+j)) fl)->(∀ b,b≠a->H' b=H b)->D.nx σ H'):augA K te rAdd f D σ (.ref a) H:=by
 obtain ⟨dx,fs,h1,h2,h3⟩:=h.ex
 refine ⟨a,C,dx,fs,_,rfl,h1,cl,n,(h3 f).trans l,hte _ ⟨i,j,rfl,rfl,dx,fs,h1,by omega,q _ ⟨dx,_,ZAF,?_,fun g=>?_⟩ fun b hb=>ZAG hb⟩⟩
 .rw [ZBI ((h3 f).trans l)];exact h2
 .rw [ZAR,ZAR,h3]
noncomputable abbrev fS (n:Int):List (Str×V):=[("asked",.int n)]
noncomputable def ZCO (C:Addr):Sp:=fun vs H Q _=>∃ (e:Addr) (n:Int),vs=[.ref e,.int n] /\ H e=some (excM e (.ref C) none) /\ n.natAbs.log2 < 1920 /\ ∀ d,H d=none->d≠e->Q .non (upd (upd H d (xdM d (fS n))) e (excM e (.ref C) (some d)))
noncomputable def ZBE (CA:Addr):Sp:=fun vs H Q _=>∃ (x dx r:Addr) (ru:Addr) (m:V) (xs:List V),vs=[.ref x,.ref r,.ref ru,m] /\ H x=some (.ins CA dx []) /\ H r=some (.lst xs) /\
 ∀ rl tl H',(∀ b o,b≠x->H b=some o->H' b=some o)->H rl=none->H tl=none->rl≠tl->Ins H' x CA (fA rl ru m 0 tl)->H' rl=some (.lst xs)->H' tl=some (.lst [])->Q .non H'
noncomputable def ZBj (CR:Addr):Sp:=fun vs H Q _=>∃ (x dx g:Addr),vs=[.ref x,.ref g] /\ H x=some (.ins CR dx []) /\ ∀ H',(∀ b o,b≠x->H b=some o->H' b=some o)->Ins H' x CR (fR g)->Q .non H'
noncomputable def ZCr (CR:Addr) (r:V->List V->Hp->VK->Prop):Sp:=fun vs H Q _=>∃ (ru g:Addr) (x y:V),vs=[.ref ru,x,y] /\ Ins H ru CR (fR g) /\ (∃ o,H g=some (FZ o) /\ ∃ fd,o.data=.func fd) /\ r (.ref g) [x,y] H Q
noncomputable def wdn (m:V) (i:Int):V:=match m with | .int k=>.int (k+i) | m=>m
noncomputable def ZDw (CA:Addr):Sp:=fun vs H Q _=>∃ (a rl ru tl:Addr) (m:V) (n i:Int),vs=[.ref a,.int i] /\ Ins H a CA (fA rl ru m n tl) /\ (m=.non∨∃ k,m=.int k) /\ ∀ H',(∀ b,b≠a->H' b=H b)->Ins H' a CA (fA rl ru (wdn m i) n tl)->Q .non H'
noncomputable def ZCy (CA CR CS:Addr) (r:V->List V->Hp->VK->Prop):Sp:=fun vs H Q E=>∃ (a rl ru tl:Addr) (m:V) (n p q:Int),vs=[.ref a,.int p,.int q] /\ Ins H a CA (fA rl ru m n tl) /\ n.natAbs.log2 < 1920 /\
 ((∃ k,m=.int k /\ k <= n /\ ∀ d H',Same H H'->H d=none->H' d=some (xdM d (fS n))->E (.ref CS) (some d) H') ∨
 ((m=.non∨∃ k,m=.int k /\ n < k) /\ ∃ (xs ts:List V) (x y:V),H rl=some (.lst xs) /\ p≠q /\ 0 <= p /\ 0 <= q /\ xs[(max p q).toNat]?=some x /\ xs[(min p q).toNat]?=some y /\ ZCr CR r [.ref ru,x,y] H (fun v H1=>∃ b,v=.bl b /\ Ins H1 a CA (fA rl ru m n tl) /\ H1 tl=some (.lst ts) /\ ts.length <= 90000 /\
  ∀ t H2,H1 t=none->Ins H2 a CA (fA rl ru m (n+1) tl)->H2 tl=some (.lst (ts++[.ref t]))->H2 t=some (.tup [.int (max p q),.int (min p q),.bl b])->(∀ c,c≠a->c≠tl->c≠t->H2 c=H1 c)->Q (.bl (if q < p then b else !b)) H2) E0))
noncomputable def ZEh (CA:Addr):Sp:=fun vs H Q _=>∃ (a rl ru tl:Addr) (m:V) (n:Int) (xs:List V),vs=[.ref a] /\ Ins H a CA (fA rl ru m n tl) /\ H rl=some (.lst xs) /\ Q (.int xs.length) H
noncomputable def kat (ks:List Int) (p:Nat):Int:=(ks[p]?).getD 0
structure Told (H:Hp) (ks:List Int) (pr:List (Nat×Nat)) (ts:List V):Prop where
 len:ts.length=pr.length
 get:∀ (j p q:Nat),pr[j]?=some (p,q)->∃ t,ts[j]?=some (V.ref t) /\ H t=some (.tup [.int p,.int q,.bl (decide (kat ks p < kat ks q))])
theorem Told.keep {H H':Hp} {ks:List Int} {pr:List (Nat×Nat)} {ts:List V} (e:∀ t x,H t=some (.tup x)->H' t=some (.tup x)) (h:Told H ks pr ts):Told H' ks pr ts :=
 ⟨h.len,fun j p q hj=>let ⟨t,a,b⟩:=h.get j p q hj;⟨t,a,e _ _ b⟩⟩
theorem Told.snoc {H:Hp} {ks:List Int} {pr:List (Nat×Nat)} {ts:List V} {p q:Nat} {t:Addr} (h:Told H ks pr ts) (ht:H t=some (.tup [.int p,.int q,.bl (decide (kat ks p < kat ks q))])):Told H ks (pr++[(p,q)]) (ts++[.ref t]):=by
 refine ⟨by rw [yAC,yAC,h.len];rfl,fun j p' q' hj=>?_⟩
 by_cases hl:j < pr.length
 .rw [yBA hl] at hj
  obtain ⟨t',a,b⟩:=h.get j p' q' hj
  exact ⟨t',by rw [yBA (by rw [h.len];exact hl)];exact a,b⟩
 .have e:=(yAL.mp hj).1
  rw [yAC] at e
  have hj':j=pr.length:=by have:([(p,q)]:List (Nat×Nat)).length=1:=rfl;omega
  subst hj'
  rw [yAZ (yAA _),yBX] at hj
  cases hj
  exact ⟨t,by rw [<- h.len,yAZ (yAA _),yBX];rfl,ht⟩
theorem ZB8 {H H':Hp} {S:List Addr} {a C:Addr} {fl:List (Str×V)} (e:Fr S H H') (n:a∉S) (h:Ins H a C fl):Ins H' a C fl:=let ⟨dx,fs,h1,h2,h3⟩:=h.ex;⟨dx,fs,e _ _ n h1,h2,h3⟩
noncomputable def rTL (iname iq:Str) (ip:Arguments) (ib:List Stmt) (isc:Scope):V->List V->Hp->VK->Prop:=fun f vs H Q=>∃ (g x y lg:Addr) (k k' i j:Int) (ws:List V),f=.ref g /\ vs=[.ref x,.ref y] /\ Clo H g iname iq ip ib isc ["_law_said"] [.ref lg] /\ H x=some (.tup [.int k,.int i]) /\ H y=some (.tup [.int k',.int j]) /\ H lg=some (.lst ws) /\ ws.length <= 90000 /\
 ∀ t,H t=none->Q (.bl (decide (k < k'))) (upd (upd H t (.tup [.int i,.int j,.bl (decide (k < k'))])) lg (.lst (ws++[.ref t])))
theorem rT_mono {iname iq:Str} {ip:Arguments} {ib:List Stmt} {isc:Scope} {f:V} {vs:List V} {H:Hp} {Q Q':VK} (m:∀ v H,Q v H->Q' v H) (h:rTL iname iq ip ib isc f vs H Q):rTL iname iq ip ib isc f vs H Q' :=
 let ⟨g,x,y,lg,k,k',i,j,ws,e1,e2,h1,h2,h3,h4,h5,q⟩:=h;⟨g,x,y,lg,k,k',i,j,ws,e1,e2,h1,h2,h3,h4,h5,fun t ht=>m _ _ (q t ht)⟩
noncomputable abbrev ZBT:V->List V->Hp->VK->Prop:=rTL "_law_tells" "_law_teller.<locals>._law_tells" (ZAM ZAH) (ZAL ZAH) (ZAB ZAH)
noncomputable def Bd (mo:V) (n:Nat):Prop:=mo=.non∨∃ k:Nat,mo=.int k /\ n <= k
theorem small_log2 {n:Nat} (h:n <= 100000):((n:Int)).natAbs.log2 < 1920:=by
 rw [Int.natAbs_natCast]
 exact Nat.lt_of_le_of_lt (show n.log2 <= 20 by
  by_cases e:n=0
  .rw [e];decide
  .have:=(Nat.log2_lt (k:=20) e).mpr (by omega);omega) (by decide)
structure SitL (mo:V) (CA CR:Addr) (H:Hp) (ks:List Int) (xs:List V) (a rl ru tl g lg:Addr) (pr:List (Nat×Nat)):Prop where
 ha:Ins H a CA (fA rl ru mo pr.length tl)
 hrl:H rl=some (.lst xs)
 hru:Ins H ru CR (fR g)
 clo:Clo H g "_law_tells" "_law_teller.<locals>._law_tells" (ZAM ZAH) (ZAL ZAH) (ZAB ZAH) ["_law_said"] [.ref lg]
 len:xs.length=ks.length
 row:∀ (i:Nat) k,ks[i]?=some k->∃ r,xs[i]?=some (V.ref r) /\ H r=some (.tup [.int k,.int i])
 hlg:∃ ws,H lg=some (.lst ws) /\ Told H ks pr ws
 htl:∃ ts,H tl=some (.lst ts) /\ Told H ks pr ts
 ne:lg≠tl /\ rl∉[a,lg,tl] /\ ru≠a
 hmo:Bd mo pr.length
section
variable {mo:V} {CA CR:Addr} {H H':Hp} {ks:List Int} {xs:List V} {a rl ru tl g lg:Addr} {pr:List (Nat×Nat)}
theorem SitL.tupS (h:SitL mo CA CR H ks xs a rl ru tl g lg pr) {b:Addr} {o:HO} (hb:H b=some o) (n1:∀ x,o≠.lst x) (n2:∀ C d f,o≠.ins C d f):b∉[a,lg,tl]:=by
 obtain ⟨ws,hlg,_⟩:=h.hlg
 obtain ⟨ts,htl,_⟩:=h.htl
 intro z
 rcases yAH.mp z with z | z
 .exact h.ha.ne hb n2 z
 rcases yAH.mp z with z | z
 .rw [z,hlg] at hb;exact n1 _ (Option.some.inj hb).symm
 .rw [yAK.mp z,htl] at hb;exact n1 _ (Option.some.inj hb).symm
theorem SitL.ruS (h:SitL mo CA CR H ks xs a rl ru tl g lg pr):ru∉[a,lg,tl]:=by
 obtain ⟨ws,hlg,_⟩:=h.hlg
 obtain ⟨ts,htl,_⟩:=h.htl
 obtain ⟨d1,f1,e1,_⟩:=h.hru.ex
 intro z
 rcases yAH.mp z with z | z
 .exact h.ne.2.2 z
 rcases yAH.mp z with z | z
 .rw [z,hlg] at e1;cases e1
 .rw [yAK.mp z,htl] at e1;cases e1
theorem SitL.keep (h:SitL mo CA CR H ks xs a rl ru tl g lg pr) (e:Fr [a,lg,tl] H H') {pr':List (Nat×Nat)} {ts' ws':List V} (h1:Ins H' a CA (fA rl ru mo pr'.length tl)) (h2:H' tl=some (.lst ts')) (h3:Told H' ks pr' ts') (h4:H' lg=some (.lst ws')) (h5:Told H' ks pr' ws') (h6:Bd mo pr'.length):SitL mo CA CR H' ks xs a rl ru tl g lg pr' where
 ha:=h1
 hrl:=e _ _ h.ne.2.1 h.hrl
 hru:=ZB8 e h.ruS h.hru
 clo:=h.clo.mono fun b o hb=>e _ _ (h.tupS hb (fun _ z=>by cases z) (fun _ _ _ z=>by cases z)) hb
 len:=h.len
 row:=fun i k hk=>let ⟨r,a1,a2⟩:=h.row i k hk;⟨r,a1,e _ _ (h.tupS a2 (fun _ z=>by cases z) (fun _ _ _ z=>by cases z)) a2⟩
 hlg:=⟨_,h4,h5⟩
 htl:=⟨_,h2,h3⟩
 ne:=h.ne
 hmo:=h6
theorem SitL.mono (h:SitL mo CA CR H ks xs a rl ru tl g lg pr) (e:Same H H'):SitL mo CA CR H' ks xs a rl ru tl g lg pr :=
 let ⟨_,h2,h3⟩:=h.htl;let ⟨_,h4,h5⟩:=h.hlg;h.keep e.fr (h.ha.mono e) (e _ _ h2) (h3.keep fun _ _ z=>e _ _ z) (e _ _ h4) (h5.keep fun _ _ z=>e _ _ z) h.hmo
end
noncomputable def XE (mo:V) (CA CR CS:Addr) (ks:List Int) (xs:List V) (a rl ru tl g lg:Addr) (n0:Nat) (Tr:Nat->Prop) (H:Hp) (E:XK):Prop:=∀ (k n:Nat) (H':Hp) (d:Addr) (pr':List (Nat×Nat)),mo=.int k->pr'.length=k->Tr n->k < n0+n->Fr [a,lg,tl] H H'->H' d=some (xdM d (fS k))->SitL mo CA CR H' ks xs a rl ru tl g lg pr'->E (.ref CS) (some d) H'
theorem XE.sub {mo:V} {CA CR CS:Addr} {ks:List Int} {xs:List V} {a rl ru tl g lg:Addr} {n0 n1:Nat} {Tr Tr':Nat->Prop} {H H1:Hp} {E:XK} (h:XE mo CA CR CS ks xs a rl ru tl g lg n0 Tr H E) (f:Fr [a,lg,tl] H H1) (hs:∀ n,Tr' n->∃ m,Tr m /\ n1+n <= n0+m):XE mo CA CR CS ks xs a rl ru tl g lg n1 Tr' H1 E:=fun k n H' d pr' e1 e2 e3 e4 e5 e6 e7=>by
 obtain ⟨m,h1,h2⟩:=hs n e3
 exact h k m H' d pr' e1 e2 h1 (by omega) (f.trans e5) e6 e7
section
variable {mo:V} {CA CR:Addr} {H H':Hp} {ks:List Int} {xs:List V} {a rl ru tl g lg:Addr} {pr:List (Nat×Nat)}
theorem SitL.ahead (h:SitL mo CA CR H ks xs a rl ru tl g lg pr) {p q:Nat} (hpq:p≠q) (hp:p < ks.length) (hq:q < ks.length) (hpr:pr.length <= 80000) {Q:VK} {CS:Addr} {E:XK} (ex:XE mo CA CR CS ks xs a rl ru tl g lg pr.length (fun n=>n=1) H E)
  (fin:∀ H',Fr [a,lg,tl] H H'->SitL mo CA CR H' ks xs a rl ru tl g lg (pr++[(max p q,min p q)])->Q (.bl (if q < p then decide (kat ks p < kat ks q) else !decide (kat ks q < kat ks p))) H'):ZCy CA CR CS ZBT [.ref a,.int p,.int q] H Q E:=by
 have hcase:(∃ k:Nat,mo=.int k /\ pr.length=k)∨(mo=.non∨∃ k:Int,mo=.int k /\ (pr.length:Int) < k):=by
  rcases id h.hmo with z | ⟨k,z1,z2⟩
  .exact .inr (.inl z)
  .by_cases e:pr.length=k
   .exact .inl ⟨k,z1,e⟩
   .exact .inr (.inr ⟨k,z1,by omega⟩)
 rcases hcase with ⟨k,z1,z2⟩ | hmost
 .refine ⟨a,rl,ru,tl,mo,pr.length,p,q,rfl,h.ha,small_log2 (by omega),.inl ⟨k,z1,by omega,fun d H' s1 hd h1=>?_⟩⟩
  exact ex k 1 H' d pr z1 z2 rfl (by omega) s1.fr (by rw [h1,z2]) (h.mono s1)
 obtain ⟨ws,hlg,hws⟩:=h.hlg
 obtain ⟨ts,htl,hts⟩:=h.htl
 have hmx:max p q < ks.length:=by omega
 have hmn:min p q < ks.length:=by omega
 obtain ⟨x,hx,tx⟩:=h.row (max p q) _ (yAD hmx)
 obtain ⟨y,hy,ty⟩:=h.row (min p q) _ (yAD hmn)
 have emx:(max (p:Int) q).toNat=max p q:=by omega
 have emn:(min (p:Int) q).toNat=min p q:=by omega
 have kx:ks[max p q]=kat ks (max p q):=by unfold kat;rw [yAD hmx];rfl
 have ky':ks[min p q]=kat ks (min p q):=by unfold kat;rw [yAD hmn];rfl
 refine ⟨a,rl,ru,tl,mo,pr.length,p,q,rfl,h.ha,small_log2 (by omega),.inr ⟨hmost,xs,ts,.ref x,.ref y,h.hrl,by omega,by omega,by omega,by rw [emx];exact hx,by rw [emn];exact hy,?_⟩⟩
 obtain ⟨cl,C⟩:=h.clo
 obtain ⟨d1,d2,d3,d4,ho,_⟩:=C.obj
 refine ⟨ru,g,.ref x,.ref y,rfl,h.hru,⟨_,ho,_,rfl⟩,?_⟩
 rw [kx] at tx
 rw [ky'] at ty
 refine ⟨g,x,y,lg,_,_,_,_,ws,rfl,rfl,h.clo,tx,ty,hlg,by rw [hws.len];omega,fun t ht=>?_⟩
 have nta:t≠a:=h.ha.neN ht
 have ntg:lg≠t:=ZAC hlg ht
 have ntl:tl≠t:=ZAC htl ht
 have nlg:lg≠tl:=h.ne.1
 have nga:lg≠a:=h.ha.ne hlg fun _ _ _ z=>by cases z
 refine ⟨_,rfl,h.ha.keep (by rw [ZAG (Ne.symm nga),ZAG (Ne.symm nta)]),by rw [ZAG (Ne.symm nlg),ZAG ntl];exact htl,by rw [hts.len];omega,fun t2 H2 hn2 ha2 htl2 ht2 k2=>?_⟩
 have n2l:t2≠lg:=fun z=>by rw [z,ZAF] at hn2;cases hn2
 have n2t:t2≠t:=fun z=>by rw [z,ZAG (Ne.symm ntg),ZAF] at hn2;cases hn2
 have fr:Fr [a,lg,tl] H H2:=fun b o n hb=>by
  have m1:b≠a:=fun z=>n (by rw [z];exact yAE)
  have m2:b≠lg:=fun z=>n (by rw [z];exact yAJ _ yAE)
  have m3:b≠tl:=fun z=>n (by rw [z];exact yAJ _ (yAJ _ yAE))
  have e1:(upd (upd H t (.tup [.int ((max p q:Nat):Int),.int ((min p q:Nat):Int),.bl (decide (kat ks (max p q) < kat ks (min p q)))])) lg (.lst (ws++[.ref t]))) b=some o:=by rw [ZAG m2,ZAG (ZAC hb ht)];exact hb
  rw [k2 b m1 m3 (ZAC e1 hn2)]
  exact e1
 have tk:∀ b x,H b=some (.tup x)->H2 b=some (.tup x):=fun b x hb=>fr _ _ (h.tupS hb (fun _ z=>by cases z) (fun _ _ _ z=>by cases z)) hb
 have hlg2:H2 lg=some (.lst (ws++[.ref t])):=by rw [k2 lg nga nlg (Ne.symm n2l),ZAF]
 have ht':H2 t=some (.tup [.int ((max p q:Nat):Int),.int ((min p q:Nat):Int),.bl (decide (kat ks (max p q) < kat ks (min p q)))]):=by rw [k2 t nta (Ne.symm ntl) (Ne.symm n2t),ZAG (Ne.symm ntg),ZAF]
 have ht2':H2 t2=some (.tup [.int ((max p q:Nat):Int),.int ((min p q:Nat):Int),.bl (decide (kat ks (max p q) < kat ks (min p q)))]):=by
  rw [show (((max p q:Nat):Int))=max (p:Int) q by omega,show (((min p q:Nat):Int))=min (p:Int) q by omega]
  exact ht2
 have st:=h.keep fr (pr':=pr++[(max p q,min p q)]) (by rw [yAC];exact ha2) htl2 ((hts.keep tk).snoc ht2') hlg2 ((hws.keep tk).snoc ht') (by
  rcases hmost with z | ⟨k,z1,z2⟩
  .exact .inl z
  .exact .inr ⟨k.toNat,by rw [z1,Int.toNat_of_nonneg (by omega)],by rw [yAC,yBP];omega⟩)
 have g':=fin H2 fr st
 by_cases hlt:q < p
 .rw [if_pos hlt] at g'
  rw [if_pos (by omega),show max p q=p by omega,show min p q=q by omega]
  exact g'
 .rw [if_neg hlt] at g'
  rw [if_neg (by omega),show max p q=q by omega,show min p q=p by omega]
  exact g'
end
noncomputable abbrev nL (l:List Nat):List V:=l.map fun (x:Nat)=>V.int (x:Int)
theorem nL_ints (l:List Nat):nL l=(l.map fun (x:Nat)=>(x:Int)).map V.int:=by rw [List.map_map];rfl
noncomputable def lx (ks:List Int) (x y:Nat):Prop:=kat ks x < kat ks y∨(kat ks x=kat ks y /\ x < y)
theorem sqL_fr {K:W.Frag} {H H':Hp} {S:List Addr} {a:Addr} {xs:List V} (e:Fr S H H') (n:∀ o,(∀ t,o≠.tbl t)->H a=some o->a∉S) (h:SqL K H a xs):SqL K H' a xs:=by
 rcases h with (h | ⟨o,h⟩) | h
 .exact .inl (.inl (e _ _ (n _ (fun _ z=>by cases z) h) h))
 .exact .inl (.inr ⟨o,e _ _ (n _ (fun _ z=>by cases z) h) h⟩)
 .exact .inr h
theorem ZDY {a lg tl b:Addr} (n1:b≠a) (n2:b≠lg) (n3:b≠tl):b∉[a,lg,tl]:=fun z=>by
 rcases yAH.mp z with z | z
 .exact n1 z
 rcases yAH.mp z with z | z
 .exact n2 z
 .exact n3 (yAK.mp z)
noncomputable instance (ks:List Int) (x y:Nat):Decidable (lx ks x y):=by unfold lx;exact inferInstance
theorem ahead_lx {ks:List Int} {o pl:Nat} (h:o≠pl):(if pl < o then decide (kat ks o < kat ks pl) else !decide (kat ks pl < kat ks o))=decide (lx ks o pl):=by
 by_cases z:pl < o
 .rw [if_pos z]
  by_cases e:kat ks o < kat ks pl
  .rw [decide_eq_true e];exact (decide_eq_true (by unfold lx;omega)).symm
  .rw [decide_eq_false e];exact (decide_eq_false (by unfold lx;omega)).symm
 .rw [if_neg z]
  by_cases e:kat ks pl < kat ks o
  .rw [decide_eq_true e];exact (decide_eq_false (by unfold lx;omega)).symm
  .rw [decide_eq_false e];exact (decide_eq_true (by unfold lx;omega)).symm
theorem once2 {α β:Type} {M:α->β->Prop} (P:α->β->Prop) {G:Prop} (h:(∀ x y,P x y->M x y)->G) (t:∀ x y,P x y->M x y):G:=h t
noncomputable def ZCw:Sp:=fun vs H Q _=>∃ (c:Int) (m:Nat),vs=[.int c,.int m] /\ m <= 500 /\ ∀ l H' (zs:List Int),Same H H'->H l=none->H' l=some (.lst (zs.map V.int))->zs.length=m->Q (.ref l) H'
noncomputable def Things (H:Hp) (ks:List Int) (xs:List V):Prop:=xs.length=ks.length /\ ∀ (i:Nat) k,ks[i]?=some k->∃ r,xs[i]?=some (V.ref r) /\ H r=some (.tup [.int k,.int i])
noncomputable def ZFH:Sp:=fun vs H Q _=>∃ (a:Addr) (kd:Int) (zs:List Int),vs=[.ref a,.int kd] /\ H a=some (.lst (zs.map V.int)) /\ zs.length <= 250 /\ ∀ l H' ks xs,Same H H'->H l=none->H' l=some (.lst xs)->ks.length=zs.length->Things H' ks xs->Q (.ref l) H'
theorem Things.zz {H:Hp} {ks:List Int} {xs:List V} (h:Things H ks xs):∃ zz:List PrA,xs=zz.map (fun z=>V.ref z.1) /\ zz.length=ks.length /\ ∀ (i:Nat) z,zz[i]?=some z->z.2=(kat ks i,(i:Int)) /\ H z.1=some (.tup [.int (kat ks i),.int i]):=by
 have key:∀ n,n <= ks.length->∃ zz:List PrA,xs.take n=zz.map (fun z=>V.ref z.1) /\ zz.length=n /\ ∀ (i:Nat) z,zz[i]?=some z->z.2=(kat ks i,(i:Int)) /\ H z.1=some (.tup [.int (kat ks i),.int i]):=by
  intro n
  induction n with
  | zero=>intro _;exact ⟨[],rfl,rfl,fun i z e=>by simp at e⟩
  | succ n ih=>
   intro hn
   obtain ⟨zz,a1,a2,a3⟩:=ih (by omega)
   obtain ⟨r,b1,b2⟩:=h.2 n _ (yAD (show n < ks.length by omega))
   have ek:ks[n]=kat ks n:=by unfold kat;rw [yAD (show n < ks.length by omega)];rfl
   rw [ek] at b2
   refine ⟨zz++[(r,kat ks n,(n:Int))],?_,by rw [yAC,a2];rfl,fun i z e=>?_⟩
   .rw [List.take_add_one,b1,a1,yBB]
    rfl
   .by_cases hi:i < zz.length
    .rw [yBA hi] at e
     exact a3 i z e
    .have h1:=(yAL.mp e).1
     rw [yAC,yBP] at h1
     have:i=n:=by omega
     subst this
     rw [yAZ (by omega),show i-zz.length=0 by omega] at e
     cases e
     exact ⟨rfl,b2⟩
 obtain ⟨zz,a1,a2,a3⟩:=key ks.length (yAA _)
 rw [List.take_of_length_le (by rw [h.1];exact yAA _)] at a1
 exact ⟨zz,a1,a2,a3⟩
noncomputable def ZDp (pcs:List (List Nat)):List Nat:=pcs.filterMap List.head?
theorem flat_len (pcs:List (List Nat)):pcs.flatten.length=(pcs.map List.length).sum:=List.length_flatten
noncomputable def rv (bb:Bool) (xs:List Nat):List Nat:=cond bb xs.reverse xs
noncomputable def lxB (bb:Bool) (ks:List Int) (x y:Nat):Prop:=cond bb (lx ks y x) (lx ks x y)
noncomputable def ahB (bb:Bool) (ks:List Int) (x y:Nat):Bool:=cond bb (decide (lx ks y x)) (decide (lx ks x y))
theorem ahB_t {bb:Bool} {ks:List Int} {x y:Nat} (h:ahB bb ks x y=true):lxB bb ks x y:=by
 cases bb
 .exact of_decide_eq_true (p:=lx ks x y) h
 .exact of_decide_eq_true (p:=lx ks y x) h
theorem ahB_f {bb:Bool} {ks:List Int} {x y:Nat} (n:x≠y) (h:ahB bb ks x y=false):lxB bb ks y x:=by
 cases bb
 .have h:=of_decide_eq_false (p:=lx ks x y) h
  show lx ks y x
  unfold lx at *
  omega
 .have h:=of_decide_eq_false (p:=lx ks y x) h
  show lx ks x y
  unfold lx at *
  omega
theorem ZDn {bb:Bool} {ks:List Int} {x y z:Nat} (h1:lxB bb ks x y) (h2:lxB bb ks y z):lxB bb ks x z:=by
 cases bb <;> (simp only [lxB,cond] at *; unfold lx at *; omega)
theorem ZC1 {bb:Bool} {ks:List Int} {x:Nat} (h:lxB bb ks x x):False:=by
 cases bb <;> (simp only [lxB,cond] at *; unfold lx at *; omega)
noncomputable abbrev fP (ak pl tk ml wd:Addr):List (Str×V):=[("went_on",.ref wd),("meetings",.ref ml),("taken",.ref tk),("pieces",.ref pl),("asker",.ref ak)]
theorem ZEy {os:List Nat} {m o:Nat} (h:os[m]?=some o):atI (nL os) (m:Int)=some (.int o):=ZAY (by omega) (by rw [Int.toNat_natCast,yAU,h];rfl)
noncomputable abbrev kQ (p q:Nat):List Key:=[Sum.inl (p:Int),Sum.inl (q:Int)]
theorem kQ_inj {p q p' q':Nat} (h:kQ p q=kQ p' q'):p=p' /\ q=q':=by
 injection h with h1 h2
 injection h2 with h2 _
 injection h1 with h1
 injection h2 with h2
 omega
noncomputable def mxp (c:Nat×Nat):Nat×Nat:=(max c.1 c.2,min c.1 c.2)
noncomputable def FrV (H:Hp) (u:V):Po.Fr->Prop
 | none=>u=.non
 | some x=>∃ t,u=.ref t /\ H t=some (.tup [.int (x.1:Int),.int (x.2:Int)])
theorem FrV.keep {H H':Hp} {u:V} {v:Po.Fr} (h:FrV H u v) (e:∀ t x,H t=some (.tup x)->H' t=some (.tup x)):FrV H' u v:=by
 cases v with
 | none=>exact h
 | some x=>obtain ⟨t,a,b⟩:=h;exact ⟨t,a,e _ _ b⟩
noncomputable def ZCV (xs:List Nat) (t i:Nat):Po.Fr:=(xs[t]?).map fun x=>(x,i)
structure PB (bb:Bool) (CP:Addr) (H:Hp) (p ak pl tk ml wd:Addr) (pls:List Addr) (pcs:List (List Nat)):Prop where
 hp:Ins H p CP (fP ak pl tk ml wd)
 hpl:H pl=some (.lst (pls.map V.ref))
 len:pls.length=pcs.length
 pc:∀ (i:Nat) l xs,pls[i]?=some l->pcs[i]?=some xs->H l=some (.lst (nL (rv bb xs)))
theorem PB.at {bb:Bool} {CP:Addr} {H:Hp} {p ak pl tk ml wd:Addr} {pls:List Addr} {pcs:List (List Nat)} (h:PB bb CP H p ak pl tk ml wd pls pcs) {i:Nat} {xs:List Nat} (e:pcs[i]?=some xs):∃ l,pls[i]?=some l /\ H l=some (.lst (nL (rv bb xs))):=by
 have hi:=(yAL.mp e).1
 have hi':i < pls.length:=by rw [h.len];exact hi
 have e1:pls[i]?=some pls[i]:=yAD hi'
 exact ⟨_,e1,h.pc i _ xs e1 e⟩
theorem PB.fr {bb:Bool} {CP:Addr} {H H':Hp} {S:List Addr} {p ak pl tk ml wd:Addr} {pls:List Addr} {pcs:List (List Nat)} (h:PB bb CP H p ak pl tk ml wd pls pcs) (e:Fr S H H') (n1:p∉S) (n2:pl∉S) (n3:∀ l∈pls,l∉S):PB bb CP H' p ak pl tk ml wd pls pcs :=
 ⟨ZB8 e n1 h.hp,e _ _ n2 h.hpl,h.len,fun i l xs a b=>e _ _ (n3 l (yAN a)) (h.pc i l xs a b)⟩
theorem PB.mono {bb:Bool} {CP:Addr} {H H':Hp} {p ak pl tk ml wd:Addr} {pls:List Addr} {pcs:List (List Nat)} (h:PB bb CP H p ak pl tk ml wd pls pcs) (e:Same H H'):PB bb CP H' p ak pl tk ml wd pls pcs :=
 h.fr (S:=[]) e.fr yBL yBL fun _ _=>yBL
structure MsAt (H:Hp) (vs:List V) (ms:List Po.Mt):Prop where
 len:vs.length=ms.length
 get:∀ (i:Nat) m,ms[i]?=some m->∃ t,vs[i]?=some (V.ref t) /\ H t=some (.tup [.int (m.1:Int),.int (m.2.1:Int),.int (m.2.2:Int)])
theorem MsAt.keep {H H':Hp} {vs:List V} {ms:List Po.Mt} (h:MsAt H vs ms) (e:∀ t x,H t=some (.tup x)->H' t=some (.tup x)):MsAt H' vs ms:=⟨h.len,fun i m hm=>let ⟨t,a,b⟩:=h.get i m hm;⟨t,a,e _ _ b⟩⟩
theorem MsAt.app {H:Hp} {vs us:List V} {ms ns:List Po.Mt} (h:MsAt H vs ms) (g:MsAt H us ns):MsAt H (vs++us) (ms++ns):=by
 refine ⟨by rw [yAC,yAC,h.len,g.len],fun j m hj=>?_⟩
 by_cases hl:j < ms.length
 .rw [yBA hl] at hj
  rw [yBA (by rw [h.len];exact hl)]
  exact h.get j m hj
 .rw [yAZ (by omega)] at hj
  rw [yAZ (by rw [h.len];omega),h.len]
  exact g.get _ m hj
theorem MsAt.one {H:Hp} {m:Po.Mt} {t:Addr} (ht:H t=some (.tup [.int (m.1:Int),.int (m.2.1:Int),.int (m.2.2:Int)])):MsAt H [.ref t] [m]:=⟨rfl,fun j a hj=>by
 cases j with
 | zero=>cases hj;exact ⟨t,rfl,ht⟩
 | succ j=>simp at hj⟩
theorem MsAt.nil {H:Hp}:MsAt H [] []:=⟨rfl,fun j a hj=>by simp at hj⟩
noncomputable def ZBN (n:Nat):Sp:=fun vs H Q _=>∃ (f b:Nat),vs=[.int f,.int b] /\ f <= b /\ b <= 600 /\ 0 < n /\ b-f <= 2 ^ (n-1) /\ ∀ l H' ws,Same H H'->H l=none->H' l=some (.lst ws)->MsAt H' ws (Po.mts f b)->Q (.ref l) H'
theorem spMeetings_no {vs:List V} {H:Hp} {Q:VK} {E:XK} (h:ZBN 0 vs H Q E):False:=by
 obtain ⟨_,_,_,_,_,h0,_⟩:=h
 omega
noncomputable def ZBl (bb:Bool) (CP:Addr):Sp:=fun vs H Q _=>∃ (p ak pl tk ml wd:Addr) (pls:List Addr) (pcs:List (List Nat)) (i t:Nat) (xs:List Nat),vs=[.ref p,.int i,.int t] /\ PB bb CP H p ak pl tk ml wd pls pcs /\ pcs[i]?=some xs /\ ∀ u H',Same H H'->FrV H' u (ZCV xs t i)->Q u H'
noncomputable def ZCc (CA CR CS:Addr) (bb:Bool) (CP:Addr):Sp:=fun vs H Q E=>∃ (mo:V) (ks:List Int) (xs:List V) (a rl ru tl g lg p pl tk ml wd:Addr) (pr:List (Nat×Nat)) (x y:Nat),vs=[.ref p,.int x,.int y] /\ SitL mo CA CR H ks xs a rl ru tl g lg pr /\ Ins H p CP (fP a pl tk ml wd) /\ x≠y /\ x < ks.length /\ y < ks.length /\ pr.length <= 70000 /\ XE mo CA CR CS ks xs a rl ru tl g lg pr.length (fun n=>n=1) H E /\
 ∀ H',Fr [a,lg,tl] H H'->SitL mo CA CR H' ks xs a rl ru tl g lg (pr++[(max x y,min x y)])->Q (.bl (ahB bb ks x y)) H'
noncomputable def ZE3 (CA CR CS:Addr) (bb:Bool) (CP:Addr):Sp:=fun vs H Q E=>∃ (mo:V) (ks:List Int) (xs:List V) (a rl ru tl g lg p pl tk ml wd:Addr) (pr:List (Nat×Nat)) (u1 u2:V) (one other:Po.Fr),vs=[.ref p,u1,u2] /\ SitL mo CA CR H ks xs a rl ru tl g lg pr /\ Ins H p CP (fP a pl tk ml wd) /\ FrV H u1 one /\ FrV H u2 other /\ (∀ c∈Po.mask one other,c.1≠c.2 /\ c.1 < ks.length /\ c.2 < ks.length) /\ pr.length <= 70000 /\ XE mo CA CR CS ks xs a rl ru tl g lg pr.length (fun n=>n=(Po.mask one other).length) H E /\
 ∀ u H',Fr [a,lg,tl] H H'->SitL mo CA CR H' ks xs a rl ru tl g lg (pr++(Po.mask one other).map mxp)->FrV H' u (Po.met (ahB bb ks) one other)->Q u H'
structure DT (H:Hp) (d:Addr) (w:Po.W) (B:Nat) (kvs:List (List Key×V)):Prop where
 hd:H d=some (.dT kvs)
 sm:ZEz kvs
 len:kvs.length <= B
 val:∀ a c v,w a c=some v->∃ u,valV kvs (kQ a c)=some u /\ FrV H u v
theorem DT.fr {H H':Hp} {S:List Addr} {d:Addr} {w:Po.W} {B:Nat} {kvs:List (List Key×V)} (h:DT H d w B kvs) (e:Fr S H H') (n:d∉S) (t:∀ t x,H t=some (.tup x)->t∉S):DT H' d w B kvs :=
 ⟨e _ _ n h.hd,h.sm,h.len,fun a c v z=>let ⟨u,x,y⟩:=h.val a c v z;⟨u,x,y.keep fun b o q=>e _ _ (t _ _ q) q⟩⟩
theorem DT.mono {H H':Hp} {d:Addr} {w:Po.W} {B:Nat} {kvs:List (List Key×V)} (h:DT H d w B kvs) (e:Same H H'):DT H' d w B kvs:=h.fr (S:=[]) e.fr yBL fun _ _ _=>yBL
theorem mem_putK {kvs:List (List Key×V)} {k:List Key} {v:V} {kv:List Key×V} (h:kv∈putK kvs k v):kv.1=k∨∃ kv'∈kvs,kv'.1=kv.1:=by
 unfold putK at h
 split at h
 .obtain ⟨kv',h1,h2⟩:=yBF.mp h
  split at h2
  .rename_i e;rw [<- h2];exact .inl e
  .rw [<- h2];exact .inr ⟨kv',h1,rfl⟩
 .rcases yAX.mp h with h | h
  .exact .inr ⟨kv,h,rfl⟩
  .rw [yAK.mp h];exact .inl rfl
theorem len_putK {kvs:List (List Key×V)} {k:List Key} {v u:V} (h:valV kvs k=some u):(putK kvs k v).length=kvs.length:=by
 unfold putK
 rw [if_pos (by rw [ZCZ,h];rfl),yAB]
theorem DT.put {H:Hp} {d:Addr} {w:Po.W} {B:Nat} {kvs:List (List Key×V)} (h:DT H d w B kvs) {a c:Nat} {u:V} {v:Po.Fr} (ha:a < 205) (hc:c <= 500) (hu:FrV H u v) {k:Nat} (hk:k=1∨(w a c).isSome=true):DT (upd H d (.dT (putK kvs (kQ a c) u))) d (Po.put w a c v) (B+k) (putK kvs (kQ a c) u):=by
 have e:∀ t x,H t=some (.tup x)->upd H d (.dT (putK kvs (kQ a c) u)) t=some (.tup x):=fun t x ht=>by rw [ZAG (fun z=>by rw [z,h.hd] at ht;cases ht)];exact ht
 refine ⟨ZAF,fun kv hkv=>?_,?_,fun a' c' v' hv=>?_⟩
 .rcases mem_putK hkv with z | ⟨kv',h1,h2⟩
  .exact ⟨a,c,z,ha,hc⟩
  .rw [<- h2];exact h.sm kv' h1
 .have:=h.len
  rcases hk with rfl | z
  .exact yAF (ZCT _ _ _) (by omega)
  .obtain ⟨v0,hv0⟩:=Option.isSome_iff_exists.mp z
   obtain ⟨u0,hu0,_⟩:=h.val a c v0 hv0
   rw [len_putK hu0];omega
 .unfold Po.put at hv
  rw [valV_put]
  by_cases z:a'=a /\ c'=c
  .rw [if_pos z] at hv
   rw [if_pos (by rw [z.1,z.2])]
   cases hv
   exact ⟨u,rfl,hu.keep e⟩
  .rw [if_neg z] at hv
   rw [if_neg (fun y=>z (kQ_inj y))]
   obtain ⟨u',x,y⟩:=h.val a' c' v' hv
   exact ⟨u',x,y.keep e⟩
theorem SitL.but {mo:V} {CA CR:Addr} {H H':Hp} {ks:List Int} {xs:List V} {a rl ru tl g lg:Addr} {pr:List (Nat×Nat)} (h:SitL mo CA CR H ks xs a rl ru tl g lg pr) (e:∀ b o,H b=some o->(∀ k,o≠.dT k)->H' b=some o):SitL mo CA CR H' ks xs a rl ru tl g lg pr:=by
 have ki:∀ {b C:Addr} {fl:List (Str×V)},Ins H b C fl->Ins H' b C fl:=fun hi=>let ⟨dx,fs,h1,h2,h3⟩:=hi.ex;⟨dx,fs,e _ _ h1 (fun _ z=>by cases z),h2,h3⟩
 obtain ⟨ws,h4,h5⟩:=h.hlg
 obtain ⟨us,h6,h7⟩:=h.htl
 exact ⟨ki h.ha,e _ _ h.hrl (fun _ z=>by cases z),ki h.hru,h.clo.mono (fun b o hb=>e _ _ hb (fun _ z=>by cases z)),h.len,fun i k hk=>let ⟨r,a1,a2⟩:=h.row i k hk;⟨r,a1,e _ _ a2 (fun _ z=>by cases z)⟩,⟨ws,e _ _ h4 (fun _ z=>by cases z),h5.keep fun _ _ z=>e _ _ z (fun _ y=>by cases y)⟩,⟨us,e _ _ h6 (fun _ z=>by cases z),h7.keep fun _ _ z=>e _ _ z (fun _ y=>by cases y)⟩,h.ne,h.hmo⟩
theorem ZCH {α:Type} {os:List α} {i:Nat} {x:α} (h:os[i]?=some x):os.drop i=x::os.drop (i+1):=by
 obtain ⟨h1,h2⟩:=yAL.mp h
 rw [List.drop_eq_getElem_cons h1,h2]
theorem run_grow {ah:Nat->Nat->Bool}:∀ {ms:List Po.Mt} {s s':Po.W×List (Nat×Nat)},Po.run ah ms s=some s'->∃ e,s'.2=s.2++e
 | [],s,s',h=>by cases h;exact ⟨[],by rw [yAY]⟩
 | m::r,s,s',h=>by
  have h:(Po.step ah s m).bind (Po.run ah r)=some s':=h
  obtain ⟨t,h1,h2⟩:=Option.bind_eq_some_iff.mp h
  obtain ⟨e,he⟩:=run_grow h2
  unfold Po.step at h1
  split at h1
  .cases h1
   exact ⟨_,by rw [he,yAW]⟩
  .cases h1
theorem run_cut {ah:Nat->Nat->Bool} {ms:List Po.Mt} {s s':Po.W×List (Nat×Nat)} (h:Po.run ah ms s=some s') (i:Nat):∃ t,Po.run ah (ms.take i) s=some t /\ Po.run ah (ms.drop i) t=some s':=by
 rw [<- yCE i ms,Po.run_app] at h
 exact Option.bind_eq_some_iff.mp h
theorem run_dom {ah:Nat->Nat->Bool} {a c:Nat}:∀ {ms:List Po.Mt} {s s':Po.W×List (Nat×Nat)},Po.run ah ms s=some s'->(s.1 a c).isSome=true->(s'.1 a c).isSome=true
 | [],s,s',h,z=>by cases h;exact z
 | m::r,s,s',h,z=>by
  have h:(Po.step ah s m).bind (Po.run ah r)=some s':=h
  obtain ⟨t,h1,h2⟩:=Option.bind_eq_some_iff.mp h
  refine run_dom h2 ?_
  unfold Po.step at h1
  split at h1
  .cases h1
   show (Po.put s.1 _ _ _ a c).isSome=true
   unfold Po.put
   split
   .rfl
   .exact z
  .cases h1
noncomputable def ZDg (CA CR CS:Addr) (bb:Bool) (CP:Addr):Sp:=fun vs H Q E=>∃ (mo:V) (ks:List Int) (xs:List V) (a rl ru tl g lg p pl tk ml wd mt wo:Addr) (pr:List (Nat×Nat)) (mvs:List V) (ms:List Po.Mt) (w w':Po.W) (l:List (Nat×Nat)) (B c:Nat) (kvs:List (List Key×V)),vs=[.ref p,.ref mt,.ref wo] /\ SitL mo CA CR H ks xs a rl ru tl g lg pr /\ Ins H p CP (fP a pl tk ml wd) /\ p∉[a,lg,tl] /\ mt∉[a,lg,tl] /\ H mt=some (.lst mvs) /\ MsAt H mvs ms /\ ms.length <= 400 /\ (∀ m∈ms,m.1 < 205 /\ m.2.2 <= 500) /\ DT H wo w B kvs /\ B <= 500 /\ Po.run (ahB bb ks) ms (w,[])=some (w',l) /\ (∀ c∈l,c.1≠c.2 /\ c.1 < ks.length /\ c.2 < ks.length) /\ (c=1∨c=0 /\ ∀ m∈ms,(w m.1 m.2.2).isSome=true) /\ pr.length+l.length <= 60000 /\ XE mo CA CR CS ks xs a rl ru tl g lg pr.length (fun n=>n=l.length) H E /\
 ∀ d H' kvs',Fr [a,lg,tl] H H'->H d=none->DT H' d w' (B+c * ms.length) kvs'->SitL mo CA CR H' ks xs a rl ru tl g lg (pr++l.map mxp)->Q (.ref d) H'
noncomputable def ZEg (bb:Bool) (CP:Addr):Sp:=fun vs H Q _=>∃ (p ak pl tk ml wd:Addr) (pls:List Addr) (pcs:List (List Nat)) (w:Po.W) (B:Nat) (kvs:List (List Key×V)) (top:Po.Fr),vs=[.ref p] /\ PB bb CP H p ak pl tk ml wd pls pcs /\ DT H wd w B kvs /\ (w 0 pcs.length=some top∨B=0 /\ top=none) /\ ∀ u H',Same H H'->FrV H' u top->Q u H'
noncomputable def ZCx (bb:Bool) (CP:Addr):Sp:=fun vs H Q _=>∃ (p ak pl tk ml wd:Addr) (pls:List Addr) (pcs:List (List Nat)) (w:Po.W) (B:Nat) (kvs:List (List Key×V)) (top:Po.Fr),vs=[.ref p] /\ PB bb CP H p ak pl tk ml wd pls pcs /\ DT H wd w B kvs /\ (w 0 pcs.length=some top∨B=0 /\ top=none) /\ ∀ H',Same H H'->Q (match top with | none=>V.non | some x=>.int (x.1:Int)) H'
noncomputable def frs (pcs:List (List Nat)) (ts:List Nat) (i:Nat):Po.Fr:=ZCV (pcs.getD i []) (ts.getD i 0) i
structure PourAt (bb:Bool) (CP:Addr) (H:Hp) (p ak pl tk ml wd:Addr) (pls:List Addr) (pcs:List (List Nat)) (ts:List Nat) (w:Po.W) (kvs:List (List Key×V)):Prop where
 pb:PB bb CP H p ak pl tk ml wd pls pcs
 htk:H tk=some (.lst (nL ts))
 hml:∃ mvs,H ml=some (.lst mvs) /\ MsAt H mvs (Po.mts 0 pcs.length)
 hwd:DT H wd w (2 * pcs.length-1) kvs
 tlen:ts.length=pcs.length
 ne:tk≠pl /\ tk≠ml /\ ∀ l∈pls,l≠tk
noncomputable def XEI (mo:V) (CA CR CS:Addr) (ks:List Int) (xs:List V) (a rl ru tl g lg:Addr) (n0:Nat) (Tr:Nat->Prop) (x:Addr) (H:Hp) (E:XK):Prop:=∀ (k n:Nat) (H':Hp) (d:Addr) (pr':List (Nat×Nat)),mo=.int k->pr'.length=k->Tr n->k < n0+n->(∀ b o,b≠x->b∉[a,lg,tl]->H b=some o->H' b=some o)->H' d=some (xdM d (fS k))->SitL mo CA CR H' ks xs a rl ru tl g lg pr'->E (.ref CS) (some d) H'
noncomputable def ZBk (CA CR CS:Addr) (bb:Bool) (CP:Addr):Sp:=fun vs H Q E=>∃ (mo:V) (ks:List Int) (xs:List V) (a rl ru tl g lg x dx hl:Addr) (pr:List (Nat×Nat)) (hls:List Addr) (pcs:List (List Nat)),vs=[.ref x,.ref a,.ref hl] /\ H x=some (.ins CP dx []) /\ SitL mo CA CR H ks xs a rl ru tl g lg pr /\ H hl=some (.lst (hls.map V.ref)) /\ hls.length=pcs.length /\ (∀ (i:Nat) l ys,hls[i]?=some l->pcs[i]?=some ys->H l=some (.lst (nL (rv bb ys)))) /\ pcs.length <= 200 /\ (∀ ys∈pcs,ys.length <= 500 /\ ∀ y∈ys,y < ks.length) /\ (∀ (i j:Nat) xi xj y,i≠j->pcs[i]?=some xi->pcs[j]?=some xj->y∈xi->y∉xj) /\ x∉[a,lg,tl] /\ pr.length <= 50000 /\ XEI mo CA CR CS ks xs a rl ru tl g lg pr.length (fun n=>n=(Po.asks (fun _=>true) (ahB bb ks) (frs pcs (List.replicate pcs.length 0)) 0 pcs.length).length) x H E /\
 ∀ pl tk ml wd pls w H' kvs,(∀ b o,b≠x->b∉[a,lg,tl]->H b=some o->H' b=some o)->PourAt bb CP H' x a pl tk ml wd pls pcs (List.replicate pcs.length 0) w kvs->(0 < pcs.length->Po.Right (ahB bb ks) (frs pcs (List.replicate pcs.length 0)) w 0 pcs.length)->(H pl=none /\ H tk=none /\ H ml=none /\ H wd=none /\ ∀ l∈pls,H l=none)->SitL mo CA CR H' ks xs a rl ru tl g lg (pr++(Po.asks (fun _=>true) (ahB bb ks) (frs pcs (List.replicate pcs.length 0)) 0 pcs.length).map mxp)->Q .non H'
theorem SitL.newS {mo:V} {CA CR:Addr} {H:Hp} {ks:List Int} {xs:List V} {a rl ru tl g lg b:Addr} {pr:List (Nat×Nat)} (h:SitL mo CA CR H ks xs a rl ru tl g lg pr) (hb:H b=none):b∉[a,lg,tl]:=fun z=>by
 obtain ⟨_,h2,_⟩:=h.hlg
 obtain ⟨_,h3,_⟩:=h.htl
 rcases yAH.mp z with z | z
 .exact h.ha.neN hb z
 rcases yAH.mp z with z | z
 .rw [z,h2] at hb;cases hb
 .rw [yAK.mp z,h3] at hb;cases hb
theorem SitL.butN {mo:V} {CA CR C d x:Addr} {f:List (Str×V)} {H H':Hp} {ks:List Int} {xs:List V} {a rl ru tl g lg:Addr} {pr:List (Nat×Nat)} (h:SitL mo CA CR H ks xs a rl ru tl g lg pr) (hx:H x=some (.ins C d f)) (nx:x∉[a,lg,tl]) (nru:ru≠x) (e:∀ b o,b≠x->H b=some o->H' b=some o):SitL mo CA CR H' ks xs a rl ru tl g lg pr:=by
 have k:∀ {b:Addr} {o:HO},H b=some o->(∀ C d f,o≠.ins C d f)->H' b=some o:=fun {b o} hb z=>e b o (fun m=>by rw [m,hx] at hb;exact z _ _ _ (Option.some.inj hb).symm) hb
 have ki:∀ {b C:Addr} {fl:List (Str×V)},b≠x->Ins H b C fl->Ins H' b C fl:=fun n hi=>let ⟨dx,fs,h1,h2,h3⟩:=hi.ex;⟨dx,fs,e _ _ n h1,h2,h3⟩
 have na:a≠x:=fun z=>nx (by rw [<- z];exact yAE)
 obtain ⟨ws,h4,h5⟩:=h.hlg
 obtain ⟨us,h6,h7⟩:=h.htl
 exact ⟨ki na h.ha,k h.hrl (fun _ _ _ z=>by cases z),ki nru h.hru,h.clo.mono (fun b o hb=>k hb (fun _ _ _ z=>by cases z)),h.len,fun i kk hk=>let ⟨r,a1,a2⟩:=h.row i kk hk;⟨r,a1,k a2 (fun _ _ _ z=>by cases z)⟩,⟨ws,k h4 (fun _ _ _ z=>by cases z),h5.keep fun _ _ z=>k z (fun _ _ _ y=>by cases y)⟩,⟨us,k h6 (fun _ _ _ z=>by cases z),h7.keep fun _ _ z=>k z (fun _ _ _ y=>by cases y)⟩,h.ne,h.hmo⟩
theorem SitL.butX {mo:V} {CA CR CP dx x:Addr} {H H':Hp} {ks:List Int} {xs:List V} {a rl ru tl g lg:Addr} {pr:List (Nat×Nat)} (h:SitL mo CA CR H ks xs a rl ru tl g lg pr) (hx:H x=some (.ins CP dx [])) (nx:x∉[a,lg,tl]) (e:∀ b o,b≠x->H b=some o->H' b=some o):SitL mo CA CR H' ks xs a rl ru tl g lg pr :=
 h.butN hx nx (fun z=>by
  obtain ⟨d1,f1,e1,_,e3⟩:=h.hru.ex
  rw [z,hx] at e1
  cases e1
  have:=e3 ("teller":Str)
  cases this) e
theorem SitL.butI {mo:V} {CA CR CP x p2 p3 p4 p5 p6:Addr} {H H':Hp} {ks:List Int} {xs:List V} {a rl ru tl g lg:Addr} {pr:List (Nat×Nat)} (h:SitL mo CA CR H ks xs a rl ru tl g lg pr) (hx:Ins H x CP (fP p2 p3 p4 p5 p6)) (nx:x∉[a,lg,tl]) (e:∀ b o,b≠x->H b=some o->H' b=some o):SitL mo CA CR H' ks xs a rl ru tl g lg pr :=
 let ⟨d2,f2,e2,_,e5⟩:=hx.ex
 h.butN e2 nx (fun z=>by
  obtain ⟨d1,f1,e1,_,e3⟩:=h.hru.ex
  rw [z,e2] at e1
  cases e1
  have:=(e3 ("teller":Str)).symm.trans (e5 ("teller":Str))
  cases this) e
theorem front_mem {xs:List Nat} {t i:Nat} {y:Nat×Nat} (h:ZCV xs t i=some y):y.1∈xs /\ y.2=i:=by
 unfold ZCV at h
 obtain ⟨a,h1,h2⟩:=yBR.mp h
 rw [<- h2]
 exact ⟨yAN h1,rfl⟩
theorem ZEv {pcs:List (List Nat)} {ts:List Nat} {i t:Nat} {zs:List Nat} (h:pcs[i]?=some zs) (ht:ts[i]?=some t):frs pcs ts i=ZCV zs t i:=by
 unfold frs
 rw [yBI,yBI,h,ht];rfl
theorem ZCn {pcs:List (List Nat)} {ts:List Nat} {i:Nat} {y:Nat×Nat} (h:frs pcs ts i=some y):∃ zs,pcs[i]?=some zs /\ y.1∈zs /\ y.2=i:=by
 unfold frs at h
 obtain ⟨h1,h2⟩:=front_mem h
 rw [yBI] at h1
 cases e:pcs[i]? with
 | none=>rw [e] at h1;cases h1
 | some zs=>rw [e] at h1;exact ⟨zs,rfl,h1,h2⟩
theorem asks_fine {ks:List Int} {pcs:List (List Nat)} {ts:List Nat} {D:Po.Mt->Bool} {ah:Nat->Nat->Bool} {f b:Nat} (hpc:∀ ys∈pcs,∀ y∈ys,y < ks.length) (hdj:∀ (i j:Nat) xi xj y,i≠j->pcs[i]?=some xi->pcs[j]?=some xj->y∈xi->y∉xj) :
  ∀ c∈Po.asks D ah (frs pcs ts) f b,c.1≠c.2 /\ c.1 < ks.length /\ c.2 < ks.length:=by
 rintro ⟨p,q⟩ hc
 obtain ⟨i,j,x,y,_,hij,_,h1,h2⟩:=Po.asks_mem _ _ hc
 obtain ⟨z1,a1,a2,_⟩:=ZCn h1
 obtain ⟨z2,b1,b2,_⟩:=ZCn h2
 exact ⟨fun e=>hdj i j z1 z2 p (by omega) a1 b1 a2 (by rw [show p=q from e];exact b2),hpc z1 (yAN a1) p a2,hpc z2 (yAN b1) q b2⟩
theorem ZDe {pcs:List (List Nat)} {ts:List Nat} {ah:Nat->Nat->Bool} {n:Nat} {D:Po.Mt->Bool}:(Po.asks D ah (frs pcs ts) 0 n).length <= n:=by
 have h1:=Po.asks_le (D:=D) (ah:=ah) (fr:=frs pcs ts) 0 n
 have h2:=List.length_filter_le D (Po.mts 0 n)
 rw [Po.mts_len] at h2
 omega
theorem head_front {pcs:List (List Nat)} {n i:Nat}:(frs pcs (List.replicate n 0) i)=((pcs.getD i []).head?).map fun x=>(x,i):=by
 unfold frs ZCV
 have e:(List.replicate n 0).getD i 0=0:=by
  rw [yBI,yCK]
  split <;> rfl
 rw [e,List.head?_eq_getElem?]
theorem ZEq {α β:Type} (f:α->Option β):∀ l:List α,(l.filterMap f).length=(l.filter fun x=>(f x).isSome).length
 | []=>rfl
 | a::r=>by
  rw [List.filterMap_cons]
  cases e:f a with
  | none=>rw [yCU (by rw [e];exact yAS)];exact ZEq f r
  | some b=>rw [yCT (by rw [e];rfl),yAR,yAR,ZEq f r]
theorem cnt_fronts {pcs:List (List Nat)} {n:Nat}:Po.cnt (frs pcs (List.replicate n 0)) 0 pcs.length=(ZDp pcs).length:=by
 unfold Po.cnt ZDp
 rw [ZEq,Nat.sub_zero,<- List.range_eq_range']
 have e:pcs=(List.range pcs.length).map fun i=>pcs.getD i []:=by
  refine yCN fun i=>?_
  rw [yAU]
  by_cases h:i < pcs.length
  .rw [yCS h,yAD h]
   show _=some (pcs.getD i [])
   rw [yBI,yAD h];rfl
  .rw [yBG (by omega),yBG (by rw [yCA];omega)];rfl
 have e2:∀ l:List Nat,((l.map fun i=>pcs.getD i []).filter fun x=>(x.head?).isSome).length=(l.filter fun i=>(frs pcs (List.replicate n 0) i).isSome).length:=fun l=>by
  rw [List.filter_map,yAB]
  congr 1
  refine List.filter_congr fun i _=>?_
  rw [head_front,Option.isSome_map];rfl
 rw [<- e2,<- e]
theorem asks_cnt {bb:Bool} {ks:List Int} {pcs:List (List Nat)}:(Po.asks (fun _=>true) (ahB bb ks) (frs pcs (List.replicate pcs.length 0)) 0 pcs.length).length=(ZDp pcs).length-1:=by
 by_cases h:0 < pcs.length
 .rw [Po.asks_all _ _ h,cnt_fronts]
 .have:pcs=[]:=List.length_eq_zero_iff.mp (by omega)
  subst this
  rw [Po.asks_leaf (by decide)];rfl
theorem SitL.apartP {mo:V} {CA CR:Addr} {H H':Hp} {ks:List Int} {xs:List V} {a rl ru tl g lg:Addr} {pr:List (Nat×Nat)} {S:List Addr} (h:SitL mo CA CR H ks xs a rl ru tl g lg pr) (e:Fr S H H') (hS:∀ b∈S,∃ l,H b=some (.lst l)) (n:rl∉S /\ lg∉S /\ tl∉S):SitL mo CA CR H' ks xs a rl ru tl g lg pr:=by
 have k:∀ {b:Addr} {o:HO},H b=some o->(∀ l,o≠.lst l)->H' b=some o:=fun {b o} hb z=>e _ _ (fun m=>by obtain ⟨l,hl⟩:=hS b m;rw [hl] at hb;exact z _ (Option.some.inj hb).symm) hb
 have ki:∀ {b C:Addr} {fl:List (Str×V)},Ins H b C fl->Ins H' b C fl:=fun hi=>let ⟨dx,fs,h1,h2,h3⟩:=hi.ex;⟨dx,fs,k h1 (fun _ z=>by cases z),h2,h3⟩
 obtain ⟨ws,h4,h5⟩:=h.hlg
 obtain ⟨us,h6,h7⟩:=h.htl
 have hrow:∀ (i:Nat) kk,ks[i]?=some kk->∃ r,xs[i]?=some (V.ref r) /\ H' r=some (.tup [.int kk,.int i]):=fun i kk hk=>by
  obtain ⟨r,a1,a2⟩:=h.row i kk hk
  exact ⟨r,a1,k a2 (fun _ z=>by cases z)⟩
 have hclo:=h.clo.mono (H':=H') (fun b o hb=>k hb (fun _ z=>by cases z))
 have hl:=h5.keep (H':=H') (fun _ _ z=>k z (fun _ y=>by cases y))
 have ht:=h7.keep (H':=H') (fun _ _ z=>k z (fun _ y=>by cases y))
 exact ⟨ki h.ha,e _ _ n.1 h.hrl,ki h.hru,hclo,h.len,hrow,⟨ws,e _ _ n.2.1 h4,hl⟩,⟨us,e _ _ n.2.2 h6,ht⟩,h.ne,h.hmo⟩
theorem PourAt.fr {bb:Bool} {CP:Addr} {H H':Hp} {S:List Addr} {p ak pl tk ml wd:Addr} {pls:List Addr} {pcs:List (List Nat)} {ts:List Nat} {w:Po.W} {kvs:List (List Key×V)} (h:PourAt bb CP H p ak pl tk ml wd pls pcs ts w kvs) (e:Fr S H H') (hS:∀ b∈S,∃ l,H b=some (.lst l)) (n:pl∉S /\ tk∉S /\ ml∉S /\ ∀ l∈pls,l∉S):PourAt bb CP H' p ak pl tk ml wd pls pcs ts w kvs:=by
 have nt:∀ b o,H b=some o->(∀ l,o≠.lst l)->b∉S:=fun b o hb z m=>by
  obtain ⟨l,hl⟩:=hS b m
  rw [hl] at hb;exact z _ (Option.some.inj hb).symm
 obtain ⟨dx,fs,e1,_⟩:=h.pb.hp.ex
 obtain ⟨mvs,h1,h2⟩:=h.hml
 exact ⟨h.pb.fr e (nt _ _ e1 fun _ z=>by cases z) n.1 n.2.2.2,e _ _ n.2.1 h.htk,⟨mvs,e _ _ n.2.2.1 h1,h2.keep fun t z y=>e _ _ (nt _ _ y fun _ z=>by cases z) y⟩,h.hwd.fr e (nt _ _ h.hwd.hd fun _ z=>by cases z) (fun t z y=>nt _ _ y fun _ z=>by cases z),h.tlen,h.ne⟩
theorem PourAt.mono {bb:Bool} {CP:Addr} {H H':Hp} {p ak pl tk ml wd:Addr} {pls:List Addr} {pcs:List (List Nat)} {ts:List Nat} {w:Po.W} {kvs:List (List Key×V)} (h:PourAt bb CP H p ak pl tk ml wd pls pcs ts w kvs) (e:Same H H'):PourAt bb CP H' p ak pl tk ml wd pls pcs ts w kvs :=
 h.fr (S:=[]) e.fr (fun b z=>by cases z) ⟨yBL,yBL,yBL,fun _ _=>yBL⟩
structure PX (a rl lg tl p pl tk ml:Addr) (pls:List Addr):Prop where
 r:rl≠tk
 p:p∉[a,lg,tl]
 pl:pl∉[a,lg,tl]
 tk:tk∉[a,lg,tl]
 ml:ml∉[a,lg,tl]
 ls:∀ l∈pls,l∉[a,lg,tl]
theorem Right.at {ah:Nat->Nat->Bool} {fr:Nat->Po.Fr} {w:Po.W} {n:Nat} (h:Po.Right ah fr w 0 n) {m:Po.Mt} (hm:m∈Po.mts 0 n):(w m.1 m.2.2).isSome=true:=by rw [h.2 m hm];rfl
theorem frs_set {pcs:List (List Nat)} {ts:List Nat} {i t j:Nat} (h:j≠i):frs pcs (ts.set i t) j=frs pcs ts j:=by
 unfold frs
 rw [yBI (l:=ts.set i t),yCV,if_neg (fun z=>h z.symm),<- yBI]
noncomputable def ZDf (CA CR CS:Addr) (bb:Bool) (CP:Addr):Sp:=fun vs H Q E=>∃ (mo:V) (ks:List Int) (xs:List V) (a rl ru tl g lg p pl tk ml wd:Addr) (pr:List (Nat×Nat)) (pls:List Addr) (pcs:List (List Nat)) (ts:List Nat) (w:Po.W) (kvs:List (List Key×V)),vs=[.ref p] /\ SitL mo CA CR H ks xs a rl ru tl g lg pr /\ PourAt bb CP H p a pl tk ml wd pls pcs ts w kvs /\ PX a rl lg tl p pl tk ml pls /\ pcs.length <= 200 /\ (∀ ys∈pcs,∀ y∈ys,y < ks.length) /\ (∀ (i j:Nat) xi xj y,i≠j->pcs[i]?=some xi->pcs[j]?=some xj->y∈xi->y∉xj) /\ (0 < pcs.length->Po.Right (ahB bb ks) (frs pcs ts) w 0 pcs.length) /\ pr.length <= 50000 /\ XE mo CA CR CS ks xs a rl ru tl g lg pr.length (fun n=>∃ x i t,Po.best (ahB bb ks) (frs pcs ts) 0 pcs.length=some (x,i) /\ ts[i]?=some t /\ n=(Po.asks (Po.onWay i) (ahB bb ks) (frs pcs (ts.set i (t+1))) 0 pcs.length).length) H E /\
 ((pcs.length=0∨Po.best (ahB bb ks) (frs pcs ts) 0 pcs.length=none)->∀ H',Same H H'->Q .non H') /\
 (∀ x i t,0 < pcs.length->Po.best (ahB bb ks) (frs pcs ts) 0 pcs.length=some (x,i)->i < pcs.length->ts[i]?=some t->∀ wd' w' H' kvs',Fr [p,tk,a,lg,tl] H H'->PourAt bb CP H' p a pl tk ml wd' pls pcs (ts.set i (t+1)) w' kvs'->Po.Right (ahB bb ks) (frs pcs (ts.set i (t+1))) w' 0 pcs.length->SitL mo CA CR H' ks xs a rl ru tl g lg (pr++(Po.asks (Po.onWay i) (ahB bb ks) (frs pcs (ts.set i (t+1))) 0 pcs.length).map mxp)->Q (.int (x:Int)) H')
noncomputable def ZBr (pcs:List (List Nat)) (ts:List Nat):List (List Nat):=(List.range pcs.length).map fun i=>(pcs.getD i []).drop (ts.getD i 0)
theorem ZBA (pcs:List (List Nat)) (ts:List Nat):(ZBr pcs ts).length=pcs.length:=by unfold ZBr;rw [yAB,yCA]
theorem ZBx {pcs:List (List Nat)} {ts:List Nat} {i t:Nat} {zs:List Nat} (h:pcs[i]?=some zs) (ht:ts[i]?=some t):(ZBr pcs ts)[i]?=some (zs.drop t):=by
 unfold ZBr
 rw [yAU,yCS (yAL.mp h).1]
 show some ((pcs.getD i []).drop (ts.getD i 0))=_
 rw [yBI,yBI,h,ht];rfl
theorem rests_set {pcs:List (List Nat)} {ts:List Nat} {i t:Nat} {zs:List Nat} (hl:ts.length=pcs.length) (h:pcs[i]?=some zs):ZBr pcs (ts.set i t)=(ZBr pcs ts).set i (zs.drop t):=by
 have hi:=(yAL.mp h).1
 refine yCN fun j=>?_
 by_cases hj:j < pcs.length
 .rw [yCV,ZBA]
  by_cases e:i=j
  .subst e
   rw [if_pos rfl,if_pos hi,ZBx h (t:=t) (by rw [yCV,if_pos rfl,if_pos (by omega)])]
  .rw [if_neg e,ZBx (yAD hj) (t:=ts[j]) (by rw [yCV,if_neg e,yAD (by omega)]),ZBx (yAD hj) (t:=ts[j]) (yAD (by omega))]
 .rw [yBG (by rw [ZBA];omega),yBG (by rw [List.length_set,ZBA];omega)]
theorem rests_zero (pcs:List (List Nat)):ZBr pcs (List.replicate pcs.length 0)=pcs:=by
 refine yCN fun j=>?_
 by_cases hj:j < pcs.length
 .rw [ZBx (yAD hj) (t:=0) (by rw [yCK,if_pos hj]),yAD hj,List.drop_zero]
 .rw [yBG (by rw [ZBA];omega),yBG (by omega)]
theorem frs_rest {pcs:List (List Nat)} {ts:List Nat} {i:Nat} {y:Nat×Nat} (h:frs pcs ts i=some y):∃ r,(ZBr pcs ts)[i]?=some (y.1::r):=by
 unfold frs ZCV at h
 obtain ⟨a,h1,h2⟩:=yBR.mp h
 have hi:i < pcs.length:=by
  cases e:pcs[i]? with
  | none=>rw [yBI,e] at h1;simp at h1
  | some zs=>exact (yAL.mp e).1
 refine ⟨(pcs.getD i []).drop (ts.getD i 0+1),?_⟩
 unfold ZBr
 rw [yAU,yCS hi]
 show some ((pcs.getD i []).drop (ts.getD i 0))=_
 rw [ZCH h1,<- h2]
theorem ZEu {pcs:List (List Nat)} {ts:List Nat} {i x:Nat} {r:List Nat} (h:(ZBr pcs ts)[i]?=some (x::r)):frs pcs ts i=some (x,i):=by
 have hi:i < pcs.length:=by have:=(yAL.mp h).1;rw [ZBA] at this;exact this
 unfold ZBr at h
 rw [yAU,yCS hi] at h
 have h:(pcs.getD i []).drop (ts.getD i 0)=x::r:=Option.some.inj h
 unfold frs ZCV
 have:(pcs.getD i [])[ts.getD i 0]?=some x:=by
  have:=congrArg List.head? h
  rw [List.head?_drop] at this
  exact this
 rw [this];rfl
theorem flat_set:∀ {l:List (List Nat)} {i x:Nat} {r:List Nat},l[i]?=some (x::r)->l.flatten.Perm (x::(l.set i r).flatten)
 | [],i,x,r,h=>by simp at h
 | a::l,0,x,r,h=>by
  have e:a=x::r:=by simpa using h
  subst e
  exact List.Perm.refl _
 | a::l,i+1,x,r,h=>by
  have ih:=flat_set (l:=l) (i:=i) (by simpa using h)
  show (a++l.flatten).Perm (x::(a++(l.set i r).flatten))
  exact (List.Perm.append_left a ih).trans List.perm_middle
theorem ZDW {l:List (List Nat)} {y:Nat} (h:y∈l.flatten):∃ (j:Nat) (r:List Nat),l[j]?=some r /\ y∈r:=by
 obtain ⟨r,h1,h2⟩:=List.mem_flatten.mp h
 obtain ⟨j,hj,e⟩:=yCB h1
 exact ⟨j,r,by rw [yAD hj,e],h2⟩
structure Od (bb:Bool) (ks:List Int) (pcs:List (List Nat)) (ts os:List Nat):Prop where
 srt:os.Pairwise (lxB bb ks)
 low:∀ x∈os,∀ y∈(ZBr pcs ts).flatten,lxB bb ks x y
 perm:(os++(ZBr pcs ts).flatten).Perm pcs.flatten
theorem Od.zero {bb:Bool} {ks:List Int} {pcs:List (List Nat)}:Od bb ks pcs (List.replicate pcs.length 0) []:=⟨.nil,fun _ h=>(by cases h),by rw [rests_zero];exact List.Perm.refl _⟩
theorem Od.step {bb:Bool} {ks:List Int} {pcs:List (List Nat)} {ts os:List Nat} {x i t:Nat} {zs:List Nat} (h:Od bb ks pcs ts os) (hl:ts.length=pcs.length) (hs:∀ ys∈pcs,ys.Pairwise (lxB bb ks)) (hz:pcs[i]?=some zs) (ht:ts[i]?=some t) (hx:zs[t]?=some x)
  (hb:∀ j y,j < pcs.length->frs pcs ts j=some y->y=(x,i)∨lxB bb ks x y.1):Od bb ks pcs (ts.set i (t+1)) (os++[x]):=by
 have hr:(ZBr pcs ts)[i]?=some (x::zs.drop (t+1)):=by rw [ZBx hz ht,ZCH hx]
 have hp:=flat_set hr
 rw [<- rests_set hl hz] at hp
 have hxm:x∈(ZBr pcs ts).flatten:=hp.mem_iff.mpr yAE
 refine ⟨?_,fun y hy z hz'=>?_,?_⟩
 .rw [List.pairwise_append]
  exact ⟨h.srt,List.pairwise_singleton _ _,fun a ha b hb'=>by rw [yAK.mp hb'];exact h.low a ha x hxm⟩
 .rcases yAX.mp hy with hy | hy
  .exact h.low y hy z (hp.mem_iff.mpr (yAJ _ hz'))
  .rw [yAK.mp hy]
   obtain ⟨j,r,hj,hzr⟩:=ZDW hz'
   have hjn:j < pcs.length:=by have:=(yAL.mp hj).1;rw [ZBA] at this;exact this
   rw [rests_set hl hz,yCV] at hj
   by_cases e:i=j
   .rw [if_pos e,ZBA,if_pos (by omega)] at hj
    cases hj
    have:=List.Pairwise.drop (i:=t) (hs zs (yAN hz))
    rw [ZCH hx] at this
    exact (List.pairwise_cons.mp this).1 z hzr
   .rw [if_neg e] at hj
    have hso:r.Pairwise (lxB bb ks):=by
     have h2:=ZBx (pcs:=pcs) (ts:=ts) (yAD hjn) (yAD (show j < ts.length by omega))
     rw [hj] at h2
     cases h2
     exact List.Pairwise.drop (hs _ (List.getElem_mem _))
    cases r with
    | nil=>cases hzr
    | cons f rr=>
     have hfr:=ZEu hj
     have h1:lxB bb ks x f:=by
      rcases hb j (f,j) hjn hfr with z | z
      .injection z with _ z;exact absurd z.symm e
      .exact z
     rcases yAH.mp hzr with z | z
     .rw [z];exact h1
     .exact ZDn h1 ((List.pairwise_cons.mp hso).1 _ z)
 .rw [yAW]
  exact (List.Perm.append_left os hp.symm).trans h.perm
theorem best_ne {bb:Bool} {ks:List Int} {pcs:List (List Nat)} {ts:List Nat} {j:Nat} {y:Nat×Nat} (hj:j < pcs.length) (h:frs pcs ts j=some y):∃ x,Po.best (ahB bb ks) (frs pcs ts) 0 pcs.length=some x:=by
 have hb:=(Po.best_some (ah:=ahB bb ks) (fr:=frs pcs ts) 0 pcs.length (by omega)).mpr (by
  unfold Po.cnt
  refine List.length_pos_of_mem (a:=j) (yBS.mpr ⟨List.mem_range'_1.mpr ⟨yAG _,by omega⟩,?_⟩)
  rw [h];rfl)
 exact Option.isSome_iff_exists.mp hb
theorem sum_set:∀ {ts:List Nat} {i t:Nat},ts[i]?=some t->(ts.set i (t+1)).sum=ts.sum+1
 | [],i,t,h=>by simp at h
 | a::r,0,t,h=>by
  have e:a=t:=by simpa using h
  subst e
  show (a+1)+r.sum=a+r.sum+1
  omega
 | a::r,i+1,t,h=>by
  have ih:=sum_set (ts:=r) (i:=i) (t:=t) (by simpa using h)
  show a+(r.set i (t+1)).sum=a+r.sum+1
  omega
noncomputable def wk (bb:Bool) (ks:List Int) (pcs:List (List Nat)):Nat->List Nat×List Nat×List (Nat×Nat)
 | 0=>(List.replicate pcs.length 0,[],Po.asks (fun _=>true) (ahB bb ks) (frs pcs (List.replicate pcs.length 0)) 0 pcs.length)
 | k+1=>
  match Po.best (ahB bb ks) (frs pcs (wk bb ks pcs k).1) 0 pcs.length with
  | none=>wk bb ks pcs k
  | some c=>((wk bb ks pcs k).1.set c.2 ((wk bb ks pcs k).1.getD c.2 0+1),(wk bb ks pcs k).2.1++[c.1],(wk bb ks pcs k).2.2++Po.asks (Po.onWay c.2) (ahB bb ks) (frs pcs ((wk bb ks pcs k).1.set c.2 ((wk bb ks pcs k).1.getD c.2 0+1))) 0 pcs.length)
theorem ZDK {bb:Bool} {ks:List Int} {pcs:List (List Nat)} {k x i t:Nat} (h:Po.best (ahB bb ks) (frs pcs (wk bb ks pcs k).1) 0 pcs.length=some (x,i)) (ht:(wk bb ks pcs k).1[i]?=some t) :
  wk bb ks pcs (k+1)=((wk bb ks pcs k).1.set i (t+1),(wk bb ks pcs k).2.1++[x],(wk bb ks pcs k).2.2++Po.asks (Po.onWay i) (ahB bb ks) (frs pcs ((wk bb ks pcs k).1.set i (t+1))) 0 pcs.length):=by
 have e:(wk bb ks pcs k).1.getD i 0=t:=by rw [yBI,ht];rfl
 rw [wk,h]
 dsimp only
 rw [e]
structure Wf (bb:Bool) (ks:List Int) (pcs:List (List Nat)) (k:Nat):Prop where
 tl:(wk bb ks pcs k).1.length=pcs.length
 od:Od bb ks pcs (wk bb ks pcs k).1 (wk bb ks pcs k).2.1
 ol:(wk bb ks pcs k).2.1.length=k
 ts:(wk bb ks pcs k).1.sum=k
 tb:∀ t∈(wk bb ks pcs k).1,t <= k
 al:(wk bb ks pcs k).2.2.length <= pcs.length+pcs.length * k
theorem best_lx {bb:Bool} {ks:List Int} {pcs:List (List Nat)} {ts:List Nat} {x:Nat×Nat} (hdj:∀ (i j:Nat) xi xj y,i≠j->pcs[i]?=some xi->pcs[j]?=some xj->y∈xi->y∉xj) (hz:0 < pcs.length) (e:Po.best (ahB bb ks) (frs pcs ts) 0 pcs.length=some x) :
  ∀ j y,j < pcs.length->frs pcs ts j=some y->y=x∨lxB bb ks x.1 y.1:=fun j y hj h=>
 Po.best_first (lt:=lxB bb ks) (ah:=ahB bb ks) (fr:=frs pcs ts) (fun _ _ _=>ZDn) 0 pcs.length hz (fun i j x y _ hij hj h1 h2=>⟨ahB_t,ahB_f (fun e=>by
  obtain ⟨z1,a1,a2,_⟩:=ZCn h1
  obtain ⟨z2,b1,b2,_⟩:=ZCn h2
  exact hdj i j z1 z2 x.1 (by omega) a1 b1 a2 (by rw [e];exact b2))⟩) x e j y (yAG _) hj h
theorem Wf.next {bb:Bool} {ks:List Int} {pcs:List (List Nat)} {k:Nat} (h:Wf bb ks pcs k) (hk:k < (pcs.map List.length).sum):∃ x i t zs,Po.best (ahB bb ks) (frs pcs (wk bb ks pcs k).1) 0 pcs.length=some (x,i) /\ pcs[i]?=some zs /\ (wk bb ks pcs k).1[i]?=some t /\ zs[t]?=some x /\ 0 < pcs.length:=by
 have hfl:((ZBr pcs (wk bb ks pcs k).1).flatten).length=(pcs.map List.length).sum-k:=by
  have:=h.od.perm.length_eq
  rw [yAC,h.ol,flat_len pcs] at this
  omega
 obtain ⟨y,hy⟩:∃ y,y∈(ZBr pcs (wk bb ks pcs k).1).flatten:=List.exists_mem_of_length_pos (by omega)
 obtain ⟨j,r,hj,hyr⟩:=ZDW hy
 have hjn:j < pcs.length:=by have:=(yAL.mp hj).1;rw [ZBA] at this;exact this
 cases r with
 | nil=>cases hyr
 | cons f r=>
  obtain ⟨⟨x,i⟩,hb⟩:=best_ne (ks:=ks) hjn (ZEu hj)
  obtain ⟨j0,_,hj0,hj1⟩:=Po.best_mem _ _ (by omega) hb
  obtain ⟨zs,hzs,hxz,hij⟩:=ZCn hj1
  dsimp only at hxz hij
  subst hij
  obtain ⟨t,ht⟩:∃ t,(wk bb ks pcs k).1[i]?=some t:=⟨_,yAD (show i < _ by rw [h.tl];exact hj0)⟩
  refine ⟨x,i,t,zs,hb,hzs,ht,?_,by omega⟩
  rw [ZEv hzs ht] at hj1
  unfold ZCV at hj1
  obtain ⟨y',h1,h2⟩:=yBR.mp hj1
  cases h2
  exact h1
theorem Wf.zero {bb:Bool} {ks:List Int} {pcs:List (List Nat)}:Wf bb ks pcs 0:=⟨yBV ..,Od.zero,rfl,by simp [wk],fun t h=>by rw [(List.mem_replicate.mp h).2];exact yAA _,by
 have:=ZDe (pcs:=pcs) (ts:=List.replicate pcs.length 0) (D:=fun _=>true) (ah:=ahB bb ks) (n:=pcs.length)
 show (Po.asks _ _ _ _ _).length <= _
 omega⟩
theorem Wf.step {bb:Bool} {ks:List Int} {pcs:List (List Nat)} {k:Nat} (h:Wf bb ks pcs k) (hk:k < (pcs.map List.length).sum) (hs:∀ ys∈pcs,ys.Pairwise (lxB bb ks)) (hdj:∀ (i j:Nat) xi xj y,i≠j->pcs[i]?=some xi->pcs[j]?=some xj->y∈xi->y∉xj):Wf bb ks pcs (k+1):=by
 obtain ⟨x,i,t,zs,hb,hzs,ht,hx,hz⟩:=h.next hk
 have e:=ZDK hb ht
 refine ⟨?_,?_,?_,?_,?_,?_⟩ <;> rw [e] <;> dsimp only
 .rw [List.length_set];exact h.tl
 .exact h.od.step h.tl hs hzs ht hx fun j y hj hy=>best_lx hdj hz hb j y hj hy
 .rw [yAC,h.ol];rfl
 .rw [sum_set ht,h.ts]
 .intro t2 h2
  rcases List.mem_or_eq_of_mem_set h2 with z | z
  .have:=h.tb t2 z;omega
  .have:=h.tb t (yAN ht);omega
 .rw [yAC]
  have h1:=h.al
  have h2:=ZDe (pcs:=pcs) (ts:=(wk bb ks pcs k).1.set i (t+1)) (D:=Po.onWay i) (ah:=ahB bb ks) (n:=pcs.length)
  have h3:pcs.length * (k+1)=pcs.length * k+pcs.length:=Nat.mul_succ ..
  omega
theorem Wf.all {bb:Bool} {ks:List Int} {pcs:List (List Nat)} (hs:∀ ys∈pcs,ys.Pairwise (lxB bb ks)) (hdj:∀ (i j:Nat) xi xj y,i≠j->pcs[i]?=some xi->pcs[j]?=some xj->y∈xi->y∉xj):∀ k,k <= (pcs.map List.length).sum->Wf bb ks pcs k
 | 0,_=>.zero
 | k+1,h=>(Wf.all hs hdj k (by omega)).step (by omega) hs hdj
noncomputable def sg (n:Nat):List (List Nat):=(List.range n).map fun x=>[x]
theorem ZBK (n:Nat):(sg n).length=n:=by unfold sg;rw [yAB,yCA]
theorem sg_at {n i:Nat} (h:i < n):(sg n)[i]?=some [i]:=by unfold sg;rw [yAU,yCS h];rfl
theorem ZED {n i:Nat} {ys:List Nat} (h:(sg n)[i]?=some ys):ys=[i] /\ i < n:=by
 have hi:=(yAL.mp h).1
 rw [ZBK] at hi
 rw [sg_at hi] at h
 cases h
 exact ⟨rfl,hi⟩
theorem ZEC {n:Nat} {ys:List Nat} (h:ys∈sg n):∃ x,x < n /\ ys=[x]:=by
 unfold sg at h
 obtain ⟨x,h1,h2⟩:=yBF.mp h
 exact ⟨x,yBY.mp h1,h2.symm⟩
theorem ZDE:∀ n,((sg n).map List.length).sum=n
 | 0=>rfl
 | n+1=>by
  have:=ZDE n
  unfold sg at this ⊢
  rw [List.range_succ,yBB,yBB,List.sum_append,this];rfl
theorem sg_flat:∀ n,(sg n).flatten=List.range n
 | 0=>rfl
 | n+1=>by
  have:=sg_flat n
  unfold sg at this ⊢
  rw [List.range_succ,yBB,List.flatten_append,this];rfl
theorem ZEj {R:Nat->Nat->Prop} {n:Nat}:∀ ys∈sg n,ys.Pairwise R:=fun ys h=>by
 obtain ⟨x,_,rfl⟩:=ZEC h
 exact List.pairwise_singleton _ _
theorem ZDh {n:Nat}:∀ (i j:Nat) xi xj y,i≠j->(sg n)[i]?=some xi->(sg n)[j]?=some xj->y∈xi->y∉xj:=fun i j xi xj y h h1 h2 h3 h4=>by
 obtain ⟨rfl,_⟩:=ZED h1
 obtain ⟨rfl,_⟩:=ZED h2
 have e1:=yAK.mp h3
 have e2:=yAK.mp h4
 exact h (e1.symm.trans e2)
theorem ZE4 (bb:Bool) (ks:List Int) {n k:Nat} (h:k <= n):Wf bb ks (sg n) k:=Wf.all ZEj ZDh k (by rw [ZDE];exact h)
theorem pick {bb:Bool} {ks:List Int} {n k x i:Nat} (hk:k < n) (hb:Po.best (ahB bb ks) (frs (sg n) (wk bb ks (sg n) k).1) 0 (sg n).length=some (x,i)) :
  x < n /\ (wk bb ks (sg n) k).2.1.Nodup /\ ∀ y,y∈(wk bb ks (sg n) k).2.1↔y < n /\ lxB bb ks y x:=by
 have wf:=ZE4 bb ks (yBT hk)
 have hz:0 < (sg n).length:=by rw [ZBK];omega
 obtain ⟨j0,_,hj0,hj1⟩:=Po.best_mem _ _ hz hb
 obtain ⟨r0,hr0⟩:∃ r,(ZBr (sg n) (wk bb ks (sg n) k).1)[j0]?=some (x::r):=frs_rest hj1
 have hxm:x∈(ZBr (sg n) (wk bb ks (sg n) k).1).flatten:=List.mem_flatten.mpr ⟨_,yAN hr0,yAE⟩
 have hp:=wf.od.perm
 rw [sg_flat] at hp
 have hnd:((wk bb ks (sg n) k).2.1++(ZBr (sg n) (wk bb ks (sg n) k).1).flatten).Nodup:=hp.nodup_iff.mpr List.nodup_range
 have hx:x < n:=yBY.mp (hp.mem_iff.mp (yAQ _ hxm))
 have hmin:=best_lx ZDh hz hb
 refine ⟨hx,(List.nodup_append.mp hnd).1,fun y=>⟨fun hy=>⟨yBY.mp (hp.mem_iff.mp (yBU _ hy)),wf.od.low y hy x hxm⟩,fun ⟨hy,hlt⟩=>?_⟩⟩
 rcases yAX.mp (hp.mem_iff.mpr (yBY.mpr hy)) with h | h
 .exact h
 .exfalso
  obtain ⟨j,r,hj,hyr⟩:=ZDW h
  have hjn:j < (sg n).length:=by have:=(yAL.mp hj).1;rw [ZBA] at this;exact this
  have h2:=ZBx (pcs:=sg n) (ts:=(wk bb ks (sg n) k).1) (sg_at (by rw [ZBK] at hjn;exact hjn)) (yAD (show j < (wk bb ks (sg n) k).1.length by rw [wf.tl];exact hjn))
  rw [hj] at h2
  cases h2
  generalize (wk bb ks (sg n) k).1[j]'_=t at hyr hj
  cases t with
  | zero=>
   have hf:=ZEu hj
   have:y=j:=by simpa using hyr
   subst this
   rcases hmin y (y,y) hjn hf with z | z
   .injection z with z _
    rw [<- z] at hlt
    exact ZC1 hlt
   .exact ZC1 (ZDn hlt z)
  | succ t=>simp at hyr
theorem ZDt {bb:Bool} {ks:List Int} {pcs:List (List Nat)} (hs:∀ ys∈pcs,ys.Pairwise (lxB bb ks)) (hdj:∀ (i j:Nat) xi xj y,i≠j->pcs[i]?=some xi->pcs[j]?=some xj->y∈xi->y∉xj) {mo:Nat} (hmo:pcs.length <= 2 ^ mo):∀ m,m <= (pcs.map List.length).sum->(wk bb ks pcs m).2.2.length <= (pcs.length-1)+m * mo
 | 0,_=>by
  show (Po.asks _ _ _ _ _).length <= _
  rw [asks_cnt]
  have:(ZDp pcs).length <= pcs.length:=by unfold ZDp;exact List.length_filterMap_le _ _
  omega
 | m+1,hm=>by
  have wf:=Wf.all (ks:=ks) hs hdj m (by omega)
  obtain ⟨x,i,t,zs,hb,hzs,ht,hx,hz⟩:=wf.next (by omega)
  rw [ZDK hb ht]
  show (_++_:List (Nat×Nat)).length <= _
  rw [yAC]
  have h1:=ZDt (ks:=ks) hs hdj hmo m (by omega)
  have h2:(Po.asks (Po.onWay i) (ahB bb ks) (frs pcs ((wk bb ks pcs m).1.set i (t+1))) 0 pcs.length).length <= mo:=yAF (Po.asks_le _ _) (Po.way_len i 0 pcs.length mo (by omega))
  have h3:(m+1) * mo=m * mo+mo:=Nat.succ_mul ..
  omega
theorem lxB_tot {bb:Bool} {ks:List Int} {x y:Nat} (h:x≠y) (n:¬ lxB bb ks x y):lxB bb ks y x:=by
 cases bb <;> (simp only [lxB,cond] at *; unfold lx at *; omega)
theorem asc_of {A:List Nat} (h:A.Pairwise (· <= ·)) (n:A.Nodup):A.Pairwise (· < ·):=(h.and n).imp fun {a b} z=>Nat.lt_of_le_of_ne z.1 z.2
theorem ZB0:∀ {A B:List Nat},A.Nodup->(∀ x∈A,x∈B)->A.length <= B.length
 | [],_,_,_=>yAG _
 | a::A,B,hn,h=>by
  obtain ⟨n1,n2⟩:=yCC.mp hn
  have hm:=h a yAE
  have:=ZB0 (A:=A) (B:=B.erase a) n2 fun x hx=>(List.mem_erase_of_ne (fun e=>n1 (by rw [<- e];exact hx))).mpr (h x (yAJ _ hx))
  rw [List.length_erase_of_mem hm] at this
  have:=List.length_pos_of_mem hm
  rw [yAR]
  omega
theorem len_eq_of_mem {A B:List Nat} (hA:A.Nodup) (hB:B.Nodup) (h:∀ x,x∈A↔x∈B):A.length=B.length :=
 Nat.le_antisymm (ZB0 hA fun x=>(h x).mp) (ZB0 hB fun x=>(h x).mpr)
theorem nth_of {ks:List Int} {os A:List Nat} {n p m:Nat} (hos:os.Pairwise (lx ks)) (hosm:∀ x,x∈os↔x < n) (hA:A.Pairwise (· < ·)) (hAm:∀ x,x∈A↔x < n /\ lx ks x p) (hl:A.length=m) (hp:p < n):os[m]?=some p /\ (∀ x,x∈os.take m↔x∈A) /\ ∀ x,x∈os.drop (m+1)↔x < n /\ lx ks p x:=by
 have as:∀ {a b:Nat},lx ks a b->lx ks b a->False:=fun h1 h2=>by unfold lx at *;omega
 obtain ⟨j,hj⟩:=yBH ((hosm p).mpr hp)
 obtain ⟨j1,j2⟩:=yAL.mp hj
 have hnd:os.Nodup:=hos.imp fun {a b} h e=>by subst e;exact as h h
 rw [List.pairwise_iff_getElem] at hos
 have ht:∀ x,x∈os.take j↔x∈A:=fun x=>by
  rw [hAm]
  constructor
  .intro h
   obtain ⟨i,hi⟩:=yBH h
   have hij:i < j:=by have:=(yAL.mp hi).1;rw [yBC] at this;omega
   rw [yCD hij] at hi
   obtain ⟨i1,i2⟩:=yAL.mp hi
   have:=hos i j i1 j1 hij
   rw [i2,j2] at this
   exact ⟨(hosm x).mp (yAN hi),this⟩
  .rintro ⟨h1,h2⟩
   obtain ⟨i,hi⟩:=yBH ((hosm x).mpr h1)
   obtain ⟨i1,i2⟩:=yAL.mp hi
   rcases Nat.lt_trichotomy i j with z | z | z
   .exact yAN (i:=i) (by rw [yCD z];exact hi)
   .subst z
    rw [i2] at j2
    rw [j2] at h2
    exact (as h2 h2).elim
   .have:=hos j i j1 i1 z
    rw [i2,j2] at this
    exact (as this h2).elim
 have hjm:j=m:=by
  have:=len_eq_of_mem (hnd.sublist (List.take_sublist j os)) (hA.imp fun {a b} h e=>by omega) ht
  rw [yBC] at this
  omega
 subst hjm
 refine ⟨hj,ht,fun x=>?_⟩
 constructor
 .intro h
  obtain ⟨i,hi⟩:=yBH h
  rw [yCO] at hi
  obtain ⟨i1,i2⟩:=yAL.mp hi
  have:=hos j (j+1+i) j1 i1 (by omega)
  rw [i2,j2] at this
  exact ⟨(hosm x).mp (yAN hi),this⟩
 .rintro ⟨h1,h2⟩
  obtain ⟨i,hi⟩:=yBH ((hosm x).mpr h1)
  obtain ⟨i1,i2⟩:=yAL.mp hi
  rcases Nat.lt_trichotomy i j with z | z | z
  .have:=hos i j i1 j1 z
   rw [i2,j2] at this
   exact (as this h2).elim
  .subst z
   rw [i2] at j2
   rw [j2] at h2
   exact (as h2 h2).elim
  .exact yAN (i:=i-(j+1)) (by rw [yCO,show j+1+(i-(j+1))=i by omega];exact hi)
theorem onceX {α:Type} {P:TS} {D:Ends} (σ:α->St) (X:α->Hp) (p:α->Prop) {G:Prop} (h:(∀ x,p x->Cut P D (σ x) (X x))->G) (t:∀ x,p x->Cut P D (σ x) (X x)):G:=h t
noncomputable def ZCq (CA CR CS CNP:Addr):Sp:=fun vs H Q E=>∃ (mo:V) (ks:List Int) (xs:List V) (a rl ru tl g lg:Addr) (pr:List (Nat×Nat)) (mi:Int),vs=[.ref a,.int mi] /\ SitL mo CA CR H ks xs a rl ru tl g lg pr /\ ks.length <= 200 /\ pr.length <= 20000 /\ ((mi < 0∨(ks.length:Int) <= mi)->E (.ref CNP) none H) /\ ∀ m:Nat,mi=(m:Int)->m < ks.length ->
 XE mo CA CR CS ks xs a rl ru tl g lg pr.length (fun n=>n=(wk (decide (ks.length-1-m < m)) ks (sg ks.length) (min m (ks.length-1-m))).2.2.length) H E /\ ∀ (t l1 l2:Addr) (p:Nat) (A B:List Nat) (H':Hp),Fr [a,lg,tl] H H'->H t=none->H l1=none->H l2=none->l1≠l2->H' t=some (.tup [.ref l1,.int (p:Int),.ref l2])->H' l1=some (.lst (nL A))->H' l2=some (.lst (nL B))->A.Pairwise (· < ·)->B.Pairwise (· < ·)->(∀ x,x∈A↔x < ks.length /\ lx ks x p)->(∀ x,x∈B↔x < ks.length /\ lx ks p x)->A.length=m->p < ks.length->SitL mo CA CR H' ks xs a rl ru tl g lg (pr++(wk (decide (ks.length-1-m < m)) ks (sg ks.length) (min m (ks.length-1-m))).2.2.map mxp)->Q (.ref t) H'
theorem wk_grow (bb:Bool) (ks:List Int) (pcs:List (List Nat)) (k:Nat):(wk bb ks pcs k).2.2.length <= (wk bb ks pcs (k+1)).2.2.length:=by
 rw [wk]
 cases Po.best (ahB bb ks) (frs pcs (wk bb ks pcs k).1) 0 pcs.length with
 | none=>exact yAA _
 | some c=>dsimp only;rw [yAC];exact Nat.le_add_right _ _
theorem wk_first (bb:Bool) (ks:List Int) (pcs:List (List Nat)) (k:Nat):(Po.asks (fun _=>true) (ahB bb ks) (frs pcs (List.replicate pcs.length 0)) 0 pcs.length).length <= (wk bb ks pcs k).2.2.length:=by
 induction k with
 | zero=>exact yAA _
 | succ k ih=>exact yAF ih (wk_grow bb ks pcs k)
theorem wk_mono (bb:Bool) (ks:List Int) (pcs:List (List Nat)) {i k:Nat} (h:i <= k):(wk bb ks pcs i).2.2.length <= (wk bb ks pcs k).2.2.length:=by
 induction k with
 | zero=>rw [show i=0 by omega];exact yAA _
 | succ k ih=>
  by_cases z:i=k+1
  .rw [z];exact yAA _
  .exact yAF (ih (by omega)) (wk_grow bb ks pcs k)
theorem wk_take {bb:Bool} {ks:List Int} {pcs:List (List Nat)} {i k x j t n:Nat} (hi:i+1 <= k) (g1:Po.best (ahB bb ks) (frs pcs (wk bb ks pcs i).1) 0 pcs.length=some (x,j)) (g2:(wk bb ks pcs i).1[j]?=some t) (g3:n=(Po.asks (Po.onWay j) (ahB bb ks) (frs pcs ((wk bb ks pcs i).1.set j (t+1))) 0 pcs.length).length):(wk bb ks pcs i).2.2.length+n <= (wk bb ks pcs k).2.2.length:=by
 have g5:=wk_mono bb ks pcs hi
 rw [ZDK g1 g2] at g5
 dsimp only at g5
 rw [yAC] at g5
 omega
structure SgAt (mo:V) (CA CR CP:Addr) (bb:Bool) (H X:Hp) (ks:List Int) (xs:List V) (a rl ru tl g lg po pl tk ml wd:Addr) (pls:List Addr) (pr:List (Nat×Nat)) (k:Nat) (w:Po.W) (kvs:List (List Key×V)):Prop where
 st:SitL mo CA CR X ks xs a rl ru tl g lg (pr++(wk bb ks (sg ks.length) k).2.2.map mxp)
 pa:PourAt bb CP X po a pl tk ml wd pls (sg ks.length) (wk bb ks (sg ks.length) k).1 w kvs
 rt:0 < (sg ks.length).length->Po.Right (ahB bb ks) (frs (sg ks.length) (wk bb ks (sg ks.length) k).1) w 0 (sg ks.length).length
 px:PX a rl lg tl po pl tk ml pls
 fr:Fr [po,tk,a,lg,tl] H X
 new:H po=none /\ H tk=none
theorem SgAt.mono {mo:V} {CA CR CP:Addr} {bb:Bool} {H X Y:Hp} {ks:List Int} {xs:List V} {a rl ru tl g lg po pl tk ml wd:Addr} {pls:List Addr} {pr:List (Nat×Nat)} {k:Nat} {w:Po.W} {kvs:List (List Key×V)} (h:SgAt mo CA CR CP bb H X ks xs a rl ru tl g lg po pl tk ml wd pls pr k w kvs) (e:Same X Y):SgAt mo CA CR CP bb H Y ks xs a rl ru tl g lg po pl tk ml wd pls pr k w kvs :=
 ⟨h.st.mono e,h.pa.mono e,h.rt,h.px,h.fr.trans e.fr,h.new⟩
theorem SgAt.fr3 {mo:V} {CA CR CP:Addr} {bb:Bool} {H X:Hp} {ks:List Int} {xs:List V} {a rl ru tl g lg po pl tk ml wd:Addr} {pls:List Addr} {pr:List (Nat×Nat)} {k:Nat} {w:Po.W} {kvs:List (List Key×V)} (h:SgAt mo CA CR CP bb H X ks xs a rl ru tl g lg po pl tk ml wd pls pr k w kvs):Fr [a,lg,tl] H X:=fun b o n hb=>h.fr b o (fun z=>by
 rcases yAH.mp z with z | z
 .rw [z,h.new.1] at hb;cases hb
 rcases yAH.mp z with z | z
 .rw [z,h.new.2] at hb;cases hb
 .exact n z) hb
theorem SgAt.free {mo:V} {CA CR CP:Addr} {bb:Bool} {H X:Hp} {ks:List Int} {xs:List V} {a rl ru tl g lg po pl tk ml wd b:Addr} {pls:List Addr} {pr:List (Nat×Nat)} {k:Nat} {w:Po.W} {kvs:List (List Key×V)} (h:SgAt mo CA CR CP bb H X ks xs a rl ru tl g lg po pl tk ml wd pls pr k w kvs) (hb:X b=none):H b=none:=by
 cases e:H b with
 | none=>rfl
 | some o=>
  have n:=h.st.newS hb
  rw [h.fr3 b o n e] at hb;cases hb
noncomputable abbrev TabT (H:Hp) (Pt:Addr):Prop:=TabSt H Pt (ZDI ZAH) "_law_teller.<locals>._law_tells"
noncomputable def nd76 (ks:List Int) (m:Nat):List (Nat×Nat):=(wk (decide (ks.length-1-m < m)) ks (sg ks.length) (min m (ks.length-1-m))).2.2
theorem isX {R:Bool->Prop} {K:W.Frag} {H:Hp} {ea C:Addr} {c:V} {b:Bool} {dd:Option Addr} (h:H ea=some (excO ea (.ref C) dd)) (x:ExcC K C) (hd:PySem.W.hasDictIn K C=true) (k:PySem.W.kitOne K (.ref C) (cval c)=some b) (hc:ZE6 c=true) (q:R b) :
  ∃ a C' c' b' dd',[V.ref ea,c]=[.ref a,c'] /\ ZE6 c'=true /\ H a=some (excO a (.ref C') dd') /\ ExcC K C' /\ PySem.W.hasDictIn K C'=true /\ PySem.W.kitOne K (.ref C') (cval c')=some b' /\ R b':=⟨ea,C,c,b,dd,rfl,hc,h,x,hd,k,q⟩
noncomputable def ZCj (CS CNP:Addr):Sp:=fun vs H Q _=>∃ (e C:Addr) (dd:Option Addr),vs=[.ref e] /\ H e=some (excO e (.ref C) dd) /\ (C=CS∨C=CNP) /\ Q (.bl false) H
structure Fd76 (ks:List Int) (H:Hp) (f:Addr) (m p:Nat):Prop where
 ex:∃ l1 l2:Addr,H f=some (.tup [.ref l1,.int (p:Int),.ref l2])
 lt:p < ks.length
 nth:∃ A:List Nat,A.Pairwise (· < ·) /\ (∀ x,x∈A↔x < ks.length /\ lx ks x p) /\ A.length=m
noncomputable def ZCb (CA CR:Addr):Sp:=fun vs H Q _=>∃ (mo:V) (ks:List Int) (xs:List V) (a rl ru tl g lg:Addr) (pr:List (Nat×Nat)) (mi:Int),vs=[.ref a,.int mi] /\ SitL mo CA CR H ks xs a rl ru tl g lg pr /\ ks.length <= 200 /\ pr.length <= 20000 /\
 ((mi < 0∨(ks.length:Int) <= mi)->∀ t l1 H',Same H H'->H' t=some (.tup [.non,.ref l1])->H' l1=some (.lst [.bl true,.bl true,.bl false])->Q (.ref t) H') /\
 ∀ m:Nat,mi=(m:Int)->m < ks.length->(∀ (k:Nat) t l1 H' pr',mo=.int k->k < pr.length+(nd76 ks m).length->pr'.length=k->Fr [a,lg,tl] H H'->H' t=some (.tup [.non,.ref l1])->H' l1=some (.lst [.bl true,.bl false,.bl true,.int k])->SitL mo CA CR H' ks xs a rl ru tl g lg pr'->Q (.ref t) H') /\
 ∀ t f l0 p H',Fr [a,lg,tl] H H'->H' t=some (.tup [.ref f,.ref l0])->H' l0=some (.lst [])->Fd76 ks H' f m p->SitL mo CA CR H' ks xs a rl ru tl g lg (pr++(nd76 ks m).map mxp)->Q (.ref t) H'
noncomputable def ZCP (K:W.Frag):Sp:=fun vs H Q _=>∃ (a:Addr) (ns:List Int),vs=[.ref a] /\ SqL K H a (ns.map V.int) /\ ns.length <= 63 /\ ∀ l H' (zs:List Int),Same H H'->H l=none->H' l=some (.lst (zs.map V.int))->zs.length <= 63->Q (.ref l) H'
noncomputable def ZDN:Sp:=fun vs H Q _=>∃ (n:Nat) (o t:Int),vs=[.int (n:Int),.int o,.int t] /\ 1 <= n /\ n <= 1000 /\ ∀ (m:Nat) H',Same H H'->m < n->Q (.int (m:Int)) H'
theorem SitL.widened {mo mo':V} {CA CR:Addr} {H H':Hp} {ks:List Int} {xs:List V} {a rl ru tl g lg:Addr} {pr:List (Nat×Nat)} (h:SitL mo CA CR H ks xs a rl ru tl g lg pr) (k:∀ b,b≠a->H' b=H b) (ha:Ins H' a CA (fA rl ru mo' pr.length tl)) (hb:Bd mo' pr.length):SitL mo' CA CR H' ks xs a rl ru tl g lg pr:=by
 obtain ⟨ws,h4,h5⟩:=h.hlg
 obtain ⟨us,h6,h7⟩:=h.htl
 have kk:∀ {b:Addr} {o:HO},H b=some o->(∀ C d f,o≠.ins C d f)->H' b=some o:=fun {b o} hb n=>(k b (h.ha.ne hb n)).trans hb
 exact ⟨ha,kk h.hrl (fun _ _ _ z=>by cases z),ZB8 (S:=[a]) (fun b o n hb=>(k b (fun z=>n (by rw [z];exact yAE))).trans hb) (fun z=>h.ne.2.2 (yAK.mp z)) h.hru,h.clo.mono fun b o hb=>kk hb (fun _ _ _ z=>by cases z),h.len,
  fun i kx hk=>let ⟨r,a1,a2⟩:=h.row i kx hk;⟨r,a1,kk a2 (fun _ _ _ z=>by cases z)⟩,⟨ws,kk h4 (fun _ _ _ z=>by cases z),h5.keep fun _ _ z=>kk z (fun _ _ _ z=>by cases z)⟩,⟨us,kk h6 (fun _ _ _ z=>by cases z),h7.keep fun _ _ z=>kk z (fun _ _ _ z=>by cases z)⟩,h.ne,hb⟩
theorem nil_eq {K:W.Frag} {H:Hp} {x y:Addr} {Q:VK} (hx:H x=some (.lst [])) (hy:H y=some (.lst [])) (q:Q (.bl true) H):rEqD K (.ref x) (.ref y) H Q :=
 ZEx Enc.int.list (by decide) (a:=([]:List Int)) (b:=([]:List Int)) (ZDd (SqL.of hx)) (ZDd (SqL.of hy)) (by rw [decide_eq_true rfl];exact q)
theorem nil_ne {K:W.Frag} {H:Hp} {x y:Addr} {Q:VK} (hx:H x=some (.lst [])) (hy:H y=some (.lst [])) (q:Q (.bl false) H):rNeD K (.ref x) (.ref y) H Q :=
 neD_of Enc.int.list (by decide) (a:=([]:List Int)) (b:=([]:List Int)) (ZDd (SqL.of hx)) (ZDd (SqL.of hy)) (by rw [decide_eq_true rfl];exact q)
theorem bls_eq {K:W.Frag} {H:Hp} {x y:Addr} {bs:List Bool} {Q:VK} (hx:H x=some (.lst (bs.map V.bl))) (hy:H y=some (.lst (bs.map V.bl))) (q:Q (.bl true) H):rEqD K (.ref x) (.ref y) H Q:=by
 have bl:∀ zs:List Bool,DpAll K H (zs.map PyData.bool) (zs.map V.bl):=fun zs=>by
  induction zs with
  | nil=>exact .nil
  | cons z r ih=>exact .cons (by unfold Dp;rfl) ih
 exact ZEx (Enc.list Enc.bl) (by decide) (a:=bs) (b:=bs) (ZC9 (SqL.of hx) (bl bs)) (ZC9 (SqL.of hy) (bl bs)) (by rw [decide_eq_true rfl];exact q)
theorem kinds_ne {K:W.Frag} {H:Hp} {x y:Addr} {m:Int} {Q:VK} (hx:H x=some (.lst [.bl true,.bl false,.bl true,.int m])) (hy:H y=some (.lst [.bl true,.bl false,.bl true,.int m])) (q:Q (.bl false) H):rNeD K (.ref x) (.ref y) H Q :=
 neD_refl (d:=.list [.bool true,.bool false,.bool true,.int m]) (ZC9 (SqL.of hx) (.cons (ZEV _) (.cons (ZEV _) (.two (ZEV _) (ZEN _))))) (ZC9 (SqL.of hy) (.cons (ZEV _) (.cons (ZEV _) (.two (ZEV _) (ZEN _))))) (by simp [PyData.canLay0,PyData.canLayAll0]) (by simp [PyData.depth,PyData.depthAll]) q
theorem nth76 {ks:List Int} {zz ms:List PrA} {m p:Nat} (hzl:zz.length=ks.length) (hzz:∀ (i:Nat) z,zz[i]?=some z->z.2=(kat ks i,(i:Int))) (hperm:ms.Perm zz) (hsorted:ms.Pairwise fun x y=>¬ lxP y.2 x.2) (hp:p < ks.length) {A:List Nat} (hA:A.Pairwise (· < ·)) (hAm:∀ x,x∈A↔x < ks.length /\ lx ks x p) (hl:A.length=m):∃ z,ms[m]?=some z /\ z∈zz /\ z.2=(kat ks p,(p:Int)):=by
 have hz:∀ z∈zz,∃ q:Nat,z.2=(kat ks q,(q:Int)) /\ q < ks.length:=fun z hzm=>by
  obtain ⟨i,hi,e⟩:=yCB hzm
  exact ⟨i,hzz i z (by rw [yAD hi,e]),by omega⟩
 have hzp:zz.Pairwise (fun (x y:PrA)=>x.2.2≠y.2.2):=by
  rw [List.pairwise_iff_getElem]
  intro i j hi hj hij
  rw [hzz i _ (yAD hi),hzz j _ (yAD hj)]
  show (i:Int)≠j
  omega
 have hms:∀ z∈ms,∃ q:Nat,z.2=(kat ks q,(q:Int)) /\ q < ks.length:=fun z hzm=>hz z (hperm.mem_iff.mp hzm)
 have hdis:ms.Pairwise (fun (x y:PrA)=>x.2.2≠y.2.2):=(hperm.pairwise_iff fun {x y} z=>Ne.symm z).mpr hzp
 have hos:(ms.map fun z=>z.2.2.toNat).Pairwise (lx ks):=by
  rw [List.pairwise_map]
  refine (hsorted.and hdis).imp_of_mem fun {x y} hx hy z=>?_
  obtain ⟨q1,a1,_⟩:=hms x hx
  obtain ⟨q2,b1,_⟩:=hms y hy
  have z1:=z.1
  have z2:=z.2
  rw [a1,b1] at z1 z2
  rw [a1,b1]
  show lx ks (q1:Int).toNat (q2:Int).toNat
  rw [Int.toNat_natCast,Int.toNat_natCast]
  unfold lxP at z1
  dsimp only at z1 z2
  unfold lx
  omega
 have hosm:∀ x,x∈ms.map (fun z=>z.2.2.toNat)↔x < ks.length:=fun x=>by
  constructor
  .intro hx
   obtain ⟨z,hzm,rfl⟩:=yBF.mp hx
   obtain ⟨q,a1,a2⟩:=hms z hzm
   rw [a1]
   show (q:Int).toNat < _
   rw [Int.toNat_natCast]
   exact a2
  .intro hx
   have hx':x < zz.length:=by omega
   refine yBF.mpr ⟨zz[x],hperm.mem_iff.mpr (List.getElem_mem hx'),?_⟩
   rw [hzz x _ (yAD hx')]
   exact Int.toNat_natCast x
 obtain ⟨h1,_⟩:=nth_of hos hosm hA hAm hl hp
 rw [yAU] at h1
 obtain ⟨z,e1,e2⟩:=yBR.mp h1
 have hzm:=yAN e1
 obtain ⟨q,a1,a2⟩:=hms z hzm
 refine ⟨z,e1,hperm.mem_iff.mp hzm,?_⟩
 rw [a1] at e2
 have e3:q=p:=by
  have:(q:Int).toNat=p:=e2
  rw [Int.toNat_natCast] at this
  exact this
 rw [a1,e3]
noncomputable def ZCQ (Pt:Addr):Sp:=fun vs H Q _=>∃ (ks:List Int) (xs:List V) (rw:Addr) (mi:Int) (mv:V),vs=[.ref rw,.int mi,mv] /\ TabT H Pt /\ H rw=some (.lst xs) /\ Things H ks xs /\ ks.length <= 200 /\ (mi < 0∨(ks.length:Int) <= mi) /\ (mv=.non∨mv=.int 0) /\ ∀ H',(∀ b o,b≠Pt->H b=some o->H' b=some o)->TabT H' Pt->Q (.bl true) H'
noncomputable def ZCN (Pt:Addr):Sp:=fun vs H Q _=>∃ (ks:List Int) (xs:List V) (rw:Addr) (m mo:Nat),vs=[.ref rw,.int m,.int ((nd76 ks m).length:Nat),.int mo] /\ TabT H Pt /\ H rw=some (.lst xs) /\ Things H ks xs /\ ks.length <= 200 /\ m < ks.length /\ (nd76 ks m).length <= 9000 /\ mo <= (nd76 ks m).length /\ ∀ H',(∀ b o,b≠Pt->H b=some o->H' b=some o)->TabT H' Pt->Q (.bl true) H'
theorem zz_dp {K:W.Frag} {H:Hp}:∀ {zz:List PrA},(∀ z∈zz,H z.1=some (.tup [.int z.2.1,.int z.2.2]))->DpAll K H ((zz.map fun z=>z.2).map fun p=>.tuple [.int p.1,.int p.2]) (zz.map fun z=>V.ref z.1)
 | [],_=>.nil
 | z::r,h=>.cons (dp_tup (SqT.of (h z yAE)) (.two (ZEN _) (ZEN _))) (zz_dp fun y hy=>h y (yAJ _ hy))
theorem ZBi {H H':Hp} {Pt:Addr} (s:Same H H') (h:TabT H Pt):TabT H' Pt:=by
 rcases h with h | ⟨c',h,hc⟩
 .exact .inl (s _ _ h)
 .exact .inr ⟨c',s _ _ h,hc.mono fun b o hb=>s _ _ hb⟩
section
variable {P:Program} {w:World} {K:W.Frag} {mg:Str->Option Value} {base:Heap} {C_Pour C_LastPour C_Asker C_AskedRule C_HallError C_NoRule C_NoPaper C_NoPlace C_NoKey C_NoRow C_NoOrder C_TooFar C_Spent:Addr} {cc_teller Pt_teller:Addr} {C_PX:Addr} {bb:Bool}
theorem ok_teller {f:Addr} {fd:FuncData} (F:Fun K "_law_teller" "_law_teller" ZBw f fd) (hcd:fd.code=.ref cc_teller) (C:PySem.W.CodeHd base cc_teller Pt_teller) (B:ZDs mg base):FnOk P w K mg base CX0 1 f fd ["_law_said"] (ZDD Pt_teller (ZDI ZAH) "_law_tells" "_law_teller.<locals>._law_tells" (ZAM ZAH) (ZAL ZAH) (ZAB ZAH) ["_law_said"] [0] 1) :=
 teller_ok F sc_teller hcd C B rfl (fun _ _=>rfl) rfl rfl (fun _ _=>rfl) rfl (by decide) (by decide) (by decide +kernel) (by decide +kernel) (by decide +kernel) (hix_of rfl) rfl
theorem clo_teller (T:Bt K mg C_Pour C_LastPour C_Asker C_AskedRule C_HallError C_NoRule C_NoPaper C_NoPlace C_NoKey C_NoRow C_NoOrder C_TooFar C_Spent):CloOk P w K mg base 1 (ZBT):=by
 refine clo_of (k:=0) (iname:="_law_tells") (iq:="_law_teller.<locals>._law_tells") (ip:=ZAM ZAH) (ib:=ZAL ZAH) (isc:=ZAB ZAH) csc_teller (fun f vs H Q h=>?_) (fun f vs H Q h=>?_) (fun cl doc pm ctv c' us hl=>match us,hl with | [_,_],_=>rfl) (fun g cs cl cd A outer s H vs Q hr C h=>?_)
 .obtain ⟨g,x,y,lg,k,k2,i,j,ws,rfl,rfl,hclo,hx,hy,hlg,hws,q⟩:=h
  exact ⟨_,_,rfl,hclo⟩
 .obtain ⟨g,x,y,lg,k,k2,i,j,ws,rfl,rfl,hclo,hx,hy,hlg,hws,q⟩:=h
  rfl
 obtain ⟨g,x,y,lg,k,k2,i,j,ws,eg,rfl,hclo,hx,hy,hlg,hws,q⟩:=h
 cases eg
 obtain ⟨cl2,C2⟩:=hclo
 obtain rfl:=C.inj' C2
 refine ⟨_,(ZAD (ZAW (i:=2) csc_teller.nd rfl (by walk_at "o") (ZBh ZDl (ZA7 ZBd (pv 0) ZAI (fun _ _=>rfl)) (ZA7 ZBd (pv 1) ZAI (fun _ _=>rfl)) (ZAV _)))
  (ZAD (ZCR (ZEn PySem.F.plainAttrs_list PySem.F.slot_list_append PySem.F.type_list_append ZCB (pv 3) (ZAA (ZBV (ZAA (ZA7 ZBd (pv 0) ZAI (fun _ _=>rfl)) (ZAA (ZA7 ZBd (pv 1) ZAI (fun _ _=>rfl)) (ZAA (pv 2) ZAE)))) ZAE)))
  (ZAJ (ZAX (pv 2))))),?_⟩
 walk_at "rd"
 have cells:=C.cells
 have hx':hid cl H x=some (.tup [.int k,.int i]):=ZB3 cells hx (by intro ob z;cases z)
 have hy':hid cl H y=some (.tup [.int k2,.int j]):=ZB3 cells hy (by intro ob z;cases z)
 have hlg':hid cl H lg=some (.lst ws):=ZB3 cells hlg (by intro ob z;cases z)
 refine ZBW (SqT.of hx') (ZAY (by decide) rfl) (ZBW (SqT.of hy') (ZAY (by decide) rfl) ⟨_,_,rfl,rfl,.inl ⟨rfl,_,SqL.of hlg'⟩,ZBW (SqT.of hx') (ZAY (by decide) rfl) (ZBW (SqT.of hy') (ZAY (by decide) rfl) ⟨ZAS (by decide),fun t ht=>?_⟩)⟩)
 have ntl:t≠lg:=fun z=>by rw [z,hlg'] at ht;cases ht
 refine ⟨lg,ws,_,rfl,rfl,ZAK ht _ _ _ hlg',smallL (by omega),fun hn=>?_⟩
 have nt:=hn.ne (b:=t) (by rw [ZAG ntl,ZAF])
 have nl:=hn.ne (b:=lg) ZAF
 rw [back_upd nl,back_upd nt,back_hid]
 exact q t (hid_none cells ht nt)
theorem ok_Spent_init {f:Addr} {fd:FuncData} (F:Fun K "__init__" "Spent.__init__" ZA3 f fd) (T:Bt K mg C_Pour C_LastPour C_Asker C_AskedRule C_HallError C_NoRule C_NoPaper C_NoPlace C_NoKey C_NoRow C_NoOrder C_TooFar C_Spent)
 :FnOk P w K mg base CX0 1 f fd ["self","asked"] (ZCO C_Spent):=by
 refine F.ok sc_Spent_init (fun vs H Q E h=>?_) (fun cdv A outer s H vs Q E hr h=>?_)
 .obtain ⟨e,n,rfl,he,hn,q⟩:=h
  rfl
 obtain ⟨e,n,rfl,he,hn,q⟩:=h
 refine ⟨_,(ZAD (ZCR (pe_clsV T.xb_HallError T.m_HallError rfl (ZAA (pv 0) (ZAA (pe_fs1 pe_str (pv 1)) ZAE))))
  (ZAJ (ps_xfld (pv 0) (pv 1) rfl))),?_⟩
 walk_at "rd"
 exact ⟨hn,fun y=>⟨e,_,none,_,rfl,he,T.xi_Spent,e,_,none,rfl,he,T.xk_Spent,T.n_Spent_asked,.inl ⟨rfl,fun d hd hde=>q d hd hde⟩⟩⟩
theorem ok_Asker_init {f:Addr} {fd:FuncData} {dv:List Value} (F:FunD K "__init__" "Asker.__init__" ZA6 f fd dv) (T:Bt K mg C_Pour C_LastPour C_Asker C_AskedRule C_HallError C_NoRule C_NoPaper C_NoPlace C_NoKey C_NoRow C_NoOrder C_TooFar C_Spent)
 :FnOk P w K mg base CX0 1 f fd ["self","row","rule","most"] (ZBE C_Asker):=by
 refine F.ok sc_Asker_init (fun vs H Q E h=>?_) (fun cdv A outer s H vs Q E hr h=>?_)
 .obtain ⟨x,dx,r,ru,m,xs,rfl,hx,hr',q⟩:=h
  rfl
 obtain ⟨x,dx,r,ru,m,xs,rfl,hx,hr',q⟩:=h
 refine ⟨_,(ZAD (ZBs (pv 0) (ZCd call_list_of rfl T.b_list PyProof.Rows.boot_list (ZAA (pv 1) ZAE)) rfl)
  (ZAD (ZBs (pv 0) (pv 2) rfl)
  (ZAD (ZBs (pv 0) (pv 3) rfl)
  (ZAD (ZBs (pv 0) ZAI rfl)
  (ZAJ (ZBs (pv 0) (ZAz ZAE) rfl)))))),?_⟩
 walk_at "rd"
 refine ⟨r,xs,rfl,.inl (SqL.of hr'),fun rl hrl=>?_⟩
 have hxr:x≠rl:=ZAC hx hrl
 obtain ⟨H1,e1,s1,h1⟩:=newH hrl (.lst xs)
 rw [e1];clear e1
 refine setX (s1 _ _ hx) T.cl_Asker T.n_Asker_row (by decide) fun H2 x2 k2=>?_
 walk_at "rd"
 refine setX x2 T.cl_Asker T.n_Asker_rule ZFM fun H3 x3 k3=>?_
 walk_at "rd"
 refine setX x3 T.cl_Asker T.n_Asker_most ZFL fun H4 x4 k4=>?_
 walk_at "rd"
 refine setX x4 T.cl_Asker T.n_Asker_asked ZFK fun H5 x5 k5=>?_
 walk_at "rd"
 refine ⟨ZAS (by decide),fun tl htl=>?_⟩
 obtain ⟨H6,e6,s6,h6⟩:=newH htl (.lst [])
 rw [e6];clear e6
 have hxt:x≠tl:=ZAC x5 htl
 refine setX (s6 _ _ x5) T.cl_Asker T.n_Asker_told putL4 fun H7 x7 k7=>?_
 have up:∀ b o,b≠x->H b=some o->H5 b=some o:=fun b o n e=>by rw [k5 b n,k4 b n,k3 b n,k2 b n];exact s1 b o e
 have h5:H5 rl=some (.lst xs):=by rw [k5 rl (Ne.symm hxr),k4 rl (Ne.symm hxr),k3 rl (Ne.symm hxr),k2 rl (Ne.symm hxr)];exact h1
 refine q rl tl H7 (fun b o n e=>by rw [k7 b n];exact s6 _ _ (up b o n e)) hrl ?_ (ZAC h5 htl) ((Ins.of x7 (yAF putL5 (by decide))).congr fA_canon) (by rw [k7 rl (Ne.symm hxr)];exact s6 _ _ h5) (by rw [k7 tl (Ne.symm hxt)];exact h6)
 cases e:H tl with
 | none=>rfl
 | some o=>rw [up tl o (Ne.symm hxt) e] at htl;cases htl
theorem ok_Asker_widen {f:Addr} {fd:FuncData} (F:Fun K "widen" "Asker.widen" ZAv f fd) (T:Bt K mg C_Pour C_LastPour C_Asker C_AskedRule C_HallError C_NoRule C_NoPaper C_NoPlace C_NoKey C_NoRow C_NoOrder C_TooFar C_Spent)
 :FnOk P w K mg base CX0 1 f fd ["self","more"] (ZDw C_Asker):=by
 refine F.ok sc_Asker_widen (fun vs H Q E h=>?_) (fun cdv A outer s H vs Q E hr h=>?_)
 .obtain ⟨a,rl,ru,tl,m,n,i,rfl,ha,hm,q⟩:=h
  rfl
 obtain ⟨a,rl,ru,tl,m,n,i,rfl,ha,hm,q⟩:=h
 refine ⟨_,(ZAJ (ZBg (ZAT ZDU (ZAh (pv 0) rfl) ZBD (ZAV _))
  (ZAJ (ps_fldaug (pv 0) (pv 1) in_add)) ZAj)),?_⟩
 walk_at "rd"
 refine ha.get T.cl_Asker T.n_Asker_most (by walk_at "lk") ?_
 rcases hm with rfl | ⟨k,rfl⟩
 .rw [if_neg (by simp)]
  exact q H (fun _ _=>rfl) ha
 .rw [if_pos (by simp)]
  refine insAugV ha (j:=i) T.cl_Asker T.n_Asker_most (by walk_at "lk") (fun Q h=>by walk_at "rd";exact h) fun H2 ha2 k2=>?_
  walk_at "rd"
  exact q H2 k2 (ha2.congr fA_most)
theorem ok_AskedRule_init {f:Addr} {fd:FuncData} (F:Fun K "__init__" "AskedRule.__init__" ZAg f fd) (T:Bt K mg C_Pour C_LastPour C_Asker C_AskedRule C_HallError C_NoRule C_NoPaper C_NoPlace C_NoKey C_NoRow C_NoOrder C_TooFar C_Spent)
 :FnOk P w K mg base CX0 1 f fd ["self","teller"] (ZBj C_AskedRule):=by
 refine F.ok sc_AskedRule_init (fun vs H Q E h=>?_) (fun cdv A outer s H vs Q E hr h=>?_)
 .obtain ⟨x,dx,g,rfl,hx,q⟩:=h
  rfl
 obtain ⟨x,dx,g,rfl,hx,q⟩:=h
 refine ⟨_,(ZAJ (ZBs (pv 0) (pv 1) rfl)),?_⟩
 walk_at "rd"
 refine setX hx T.cl_AskedRule T.n_AskedRule_teller (by decide) fun H2 x2 k2=>?_
 exact q H2 (fun b o n e=>by rw [k2 b n];exact e) ((Ins.of x2 (yAF ZFM (by decide))).congr fun f=>by simp only [ZAR,lkc])
theorem ok_AskedRule_before {f:Addr} {fd:FuncData} (F:Fun K "before" "AskedRule.before" ZAc f fd) (T:Bt K mg C_Pour C_LastPour C_Asker C_AskedRule C_HallError C_NoRule C_NoPaper C_NoPlace C_NoKey C_NoRow C_NoOrder C_TooFar C_Spent)
  (clo_teller:CloOk P w K mg base 1 (ZBT))
 :FnOk P w K mg base CX0 2 f fd ["self","x","y"] (ZCr C_AskedRule ZBT):=by
 refine F.ok sc_AskedRule_before (fun vs H Q E h=>?_) (fun cdv A outer s H vs Q E hr h=>?_)
 .obtain ⟨ru,g,x,y,rfl,hru,⟨o,ho,hfd⟩,q⟩:=h
  rfl
 obtain ⟨ru,g,x,y,rfl,hru,⟨o,ho,hfd⟩,q⟩:=h
 refine ⟨_,(ZAD (ZAW (i:=3) sc_AskedRule_before.nd rfl (by walk_at "o") (ZAh (pv 0) rfl))
  (ZAJ (ZAX (pe_callV (clo_teller.at (hr.mono (by decide))) (pv 3) (ZAA (pv 1) (ZAA (pv 2) ZAE)))))),?_⟩
 walk_at "rd"
 refine hru.get T.cl_AskedRule T.n_AskedRule_teller (by walk_at "lk") ⟨⟨g,o,rfl,ho,hfd⟩,?_⟩
 exact q
theorem ok_Asker_ahead {f:Addr} {fd:FuncData} (F:Fun K "ahead" "Asker.ahead" ZAw f fd) (T:Bt K mg C_Pour C_LastPour C_Asker C_AskedRule C_HallError C_NoRule C_NoPaper C_NoPlace C_NoKey C_NoRow C_NoOrder C_TooFar C_Spent)
  (t_AskedRule_before:Mt P w K mg base CX0 C_AskedRule "before" 2 ["self","x","y"] (ZCr C_AskedRule ZBT))
  (kx_Spent:XKl P w K mg base CX0 "Spent" C_Spent 1 ["self","asked"] (ZCO C_Spent))
 :FnOk P w K mg base (CXE P w) 3 f fd ["self","p","q"] (ZCy C_Asker C_AskedRule C_Spent ZBT):=by
 refine F.okX sc_Asker_ahead (fun vs H Q E h=>?_) (fun cdv A outer s H vs Q E hr h=>?_)
 .obtain ⟨a,rl,ru,tl,m,n,p,q,rfl,ha,hn,hc⟩:=h
  rfl
 obtain ⟨a,rl,ru,tl,m,n,p,q,rfl,ha,hn,hc⟩:=h
 refine ⟨_,(ZAD (ZBg (PW.pt (ZEF (ZAT ZDU (ZAh (pv 0) rfl) ZBD (ZAV _)) (ZDQ (ZAT ZFN (ZAh (pv 0) rfl) (ZAh (pv 0) rfl) (ZAV _)))))
  (ZAJ (ps_raiseK kx_Spent (hr.mono (by decide)) rfl ZAp (ZAA (ZAh (pv 0) rfl) ZAE))) ZAj)
  (ZAN
  (ZAD (PS.nox (ZAW (i:=3) sc_Asker_ahead.nd rfl (by walk_at "o") (ZAO (call_max2 rfl) rfl T.b_max PyProof.Rows.boot_max (ZAA (pv 1) (ZAA (pv 2) ZAE)))))
  (ZAD (PS.nox (ZAW (i:=4) sc_Asker_ahead.nd rfl (by walk_at "o") (ZAO (call_min2 rfl) rfl T.b_min PyProof.Rows.boot_min (ZAA (pv 1) (ZAA (pv 2) ZAE)))))
  (ZAD (PS.nox (ZAW (i:=5) sc_Asker_ahead.nd rfl (by walk_at "o") (ZDB t_AskedRule_before (hr.mono (by decide)) ZAp (ZAh (pv 0) rfl) (ZAA (ZA7 ZA1 (ZAh (pv 0) rfl) (pv 3) (fun _ _=>rfl)) (ZAA (ZA7 ZA1 (ZAh (pv 0) rfl) (pv 4) (fun _ _=>rfl)) ZAE)))))
  (ZAN
  (ZAD (PS.nox (ps_fldaug (pv 0) ZAI in_add))
  (ZAD (PS.nox (ZCR (ZEn PySem.F.plainAttrs_list PySem.F.slot_list_append PySem.F.type_list_append ZCB (ZAh (pv 0) rfl) (ZAA (ZBV (ZAA (pv 3) (ZAA (pv 4) (ZAA (pv 5) ZAE)))) ZAE))))
  (ZAJ (PS.nox (ZAX (ZBb (ZAT ZDm (pv 1) (pv 3) (ZAV _)) (pv 5) (pe_not (pv 5)))))))))))))),?_⟩
 walk_at "rd"
 rcases hc with ⟨k,hk0,hk,hE⟩ | ⟨hm,hc⟩
 .refine ha.get T.cl_Asker T.n_Asker_most (by walk_at "lk") ?_
  rw [if_pos (by rw [hk0];simp)]
  refine ha.get T.cl_Asker T.n_Asker_asked (by walk_at "lk") (ha.get T.cl_Asker T.n_Asker_most (by walk_at "lk") ⟨_,_,rfl,hk0,_,rfl,?_⟩)
  rw [if_pos (by simpa using hk)]
  refine ha.get T.cl_Asker T.n_Asker_asked (by walk_at "lk") ⟨by decide,fun e he=>⟨e,n,rfl,ZAF,hn,fun d hd hde=>⟨rfl,some d,ZAF,?_⟩⟩⟩
  have hdH:H d=none:=by rw [ZAG hde] at hd;exact hd
  refine hE d _ (fun b o hb=>?_) hdH ?_
  .rw [ZBB (ZAC hb he),ZAG (ZAC hb he),ZAG (ZAC hb hdH),ZAG (ZAC hb he)];exact hb
  .rw [ZBB hde,ZAG hde,ZAF]
 apply once0
 .intro tailp
  refine ha.get T.cl_Asker T.n_Asker_most (by walk_at "lk") ?_
  rcases hm with hm | ⟨k,hm,hk⟩
  .rw [if_neg (by rw [hm];simp)]
   exact tailp
  .rw [if_pos (by rw [hm];simp)]
   refine ha.get T.cl_Asker T.n_Asker_asked (by walk_at "lk") (ha.get T.cl_Asker T.n_Asker_most (by walk_at "lk") ⟨_,_,rfl,hm,_,rfl,?_⟩)
   rw [if_neg (by simp;omega)]
   exact tailp
 obtain ⟨xs,ts,x,y,hrl,hpq,hp0,hq0,hx,hy,hb⟩:=hc
 obtain ⟨ru',g,x',y',e,hru,ho,hrT⟩:=hb
 cases e
 refine ZAU ?_
 walk_at "rd"
 refine ⟨p,q,rfl,p,q,rfl,ha.get T.cl_Asker T.n_Asker_rule (by walk_at "lk") (hru.meth (by walk_at "lk") ?_)⟩
 rw [mx_eq,mn_eq]
 refine ha.get T.cl_Asker T.n_Asker_row (by walk_at "lk") (ZBX (SqL.of hrl) (ZAY (by omega) hx) ?_)
 refine ha.get T.cl_Asker T.n_Asker_row (by walk_at "lk") (ZBX (SqL.of hrl) (ZAY (by omega) hy) ?_)
 refine ⟨ru,g,x,y,rfl,hru,ho,rT_mono (fun v H1 h=>?_) hrT⟩
 obtain ⟨b,rfl,ha1,htl1,hts,hq⟩:=h
 have nta:tl≠a:=ha1.ne htl1 fun _ _ _ z=>by cases z
 refine ZAU ?_
 walk_at "rd"
 refine ha1.aug T.cl_Asker T.n_Asker_asked (by walk_at "lk") fun H2 ha2 k2=>?_
 have ha2':=ha2.congr fA_asked
 have htl2:H2 tl=some (.lst ts):=by rw [k2 tl nta];exact htl1
 walk_at "rd"
 refine ha2'.get T.cl_Asker T.n_Asker_told (by walk_at "lk") ?_
 walk_at "rd"
 refine ⟨.inl ⟨rfl,_,SqL.of htl2⟩,ZAS (by decide),fun t ht=>?_⟩
 have ntt:t≠tl:=fun z=>by rw [z,htl2] at ht;cases ht
 have nat':t≠a:=ha2'.neN ht
 refine ⟨tl,ts,_,rfl,rfl,ZAK ht _ _ _ htl2,smallL (by omega),?_⟩
 have fin:=hq t (upd (upd H2 t (.tup [.int (max p q),.int (min p q),.bl b])) tl (.lst (ts++[.ref t]))) (by rw [<- k2 t nat'];exact ht) (ha2'.keep (by rw [ZAG (Ne.symm nta),ZAG (Ne.symm nat')])) ZAF (by rw [ZAG ntt,ZAF]) (fun c h1 h2 h3=>by rw [ZAG h2,ZAG h3,k2 c h1])
 by_cases hlt:q < p
 .rw [if_pos hlt] at fin
  show (if _ then _ else _)
  rw [if_pos (by omega)]
  exact fin
 .rw [if_neg hlt] at fin
  show (if _ then _ else _)
  rw [if_neg (by omega)]
  exact fin
theorem ok_meetings_of {n:Nat} {f:Addr} {fd:FuncData} (F:Fun K "meetings_of" "meetings_of" ZAu f fd) (T:Bt K mg C_Pour C_LastPour C_Asker C_AskedRule C_HallError C_NoRule C_NoPaper C_NoPlace C_NoKey C_NoRow C_NoOrder C_TooFar C_Spent)
  (f_meetings_of:Fn P w K mg base CX0 "meetings_of" n ["first","beyond"] (ZBN n))
 :FnOk P w K mg base CX0 (n+1) f fd ["first","beyond"] (ZBN (n+1)):=by
 refine F.ok sc_meetings_of (fun vs H Q E h=>?_) (fun cdv A outer s H vs Q E hr h=>?_)
 .obtain ⟨f,b,rfl,hfb,hb6,hn0,hbn,q⟩:=h
  rfl
 obtain ⟨f,b,rfl,hfb,hb6,hn0,hbn,q⟩:=h
 refine ⟨_,(ZAD (ZBg (ZAT ZDl (ZAa ZBc (pv 1) (pv 0)) ZAI (ZAV _))
  (ZAJ (ZAX (ZAz ZAE))) ZAj)
  (ZAD (ZAW (i:=2) sc_meetings_of.nd rfl (by walk_at "o") (ZAa ZB7 (pv 0) (ZAa ZCA (ZAa ZB7 (ZAa ZBc (pv 1) (pv 0)) ZAI) ZAI)))
  (ZAJ (ZAX (ZAa op_cat (ZAa op_cat (ZBJ f_meetings_of (hr.mono (yAA _)) rfl ZAp (ZAA (pv 0) (ZAA (pv 2) ZAE))) (ZBJ f_meetings_of (hr.mono (yAA _)) rfl ZAp (ZAA (pv 2) (ZAA (pv 1) ZAE)))) (ZAz (ZAA (ZBV (ZAA (pv 0) (ZAA (pv 2) (ZAA (pv 1) ZAE)))) ZAE))))))),?_⟩
 walk_at "rd"
 by_cases hlt:(b:Int)-f < 2
 .rw [if_pos hlt]
  refine ⟨yAG _,fun l hl=>q l _ [] (ZAK hl _) hl ZAF ?_⟩
  rw [Po.mts_leaf (by omega)]
  exact MsAt.nil
 rw [if_neg hlt]
 refine ⟨⟨by decide,by decide⟩,?_⟩
 have hm:=Po.mid_lt (f:=f) (b:=b) (by omega)
 have em:(f:Int)+((b:Int)-f+1) / 2=((Po.mid f b:Nat):Int):=by unfold Po.mid;omega
 rw [em]
 have hn2:2 ^ (n+1-1)=2 ^ n:=by rw [Nat.add_sub_cancel]
 rw [hn2] at hbn
 obtain ⟨k,rfl⟩:∃ k,n=k+1:=⟨n-1,by
  cases n with
  | zero=>rw [Nat.pow_zero] at hbn;omega
  | succ n=>rfl⟩
 rw [Nat.pow_succ] at hbn
 refine ⟨f,Po.mid f b,rfl,by omega,by omega,by omega,by rw [Nat.add_sub_cancel];unfold Po.mid at *;omega,fun l1 H1 ws1 s1 hl10 hl1 hM1=>?_⟩
 refine ⟨Po.mid f b,b,rfl,by omega,by omega,by omega,by rw [Nat.add_sub_cancel];unfold Po.mid at *;omega,fun l2 H2 ws2 s2 hl20 hl2 hM2=>?_⟩
 have len1:=hM1.len
 have len2:=hM2.len
 rw [Po.mts_len] at len1 len2
 refine ⟨l1,l2,ws1,ws2,rfl,rfl,s2 _ _ hl1,hl2,ZAS (by omega),fun l3 hl3=>?_⟩
 obtain ⟨H3,e3,s3,h3⟩:=newH hl3 (.lst (ws1++ws2))
 rw [e3];clear e3
 refine ⟨ZAS (by decide),fun t ht=>?_⟩
 obtain ⟨H4,e4,s4,h4⟩:=newH ht (.tup [.int (f:Int),.int ((Po.mid f b:Nat):Int),.int (b:Int)])
 rw [e4];clear e4
 refine ⟨ZAS (by decide),fun l4 hl4=>?_⟩
 obtain ⟨H5,e5,s5,h5⟩:=newH hl4 (.lst [.ref t])
 rw [e5];clear e5
 refine ⟨l3,l4,_,_,rfl,rfl,s5 _ _ (s4 _ _ h3),h5,ZAS (by rw [yAC,yBP];omega),fun l6 hl6=>?_⟩
 have S5:=s1.trans (s2.trans (s3.trans (s4.trans s5)))
 refine q l6 _ _ (S5.trans (ZAK hl6 _)) (S5.free hl6) ZAF ?_
 rw [Po.mts_node (by omega)]
 have up:∀ t x,H5 t=some (.tup x)->upd H5 l6 (.lst (ws1++ws2++[.ref t])) t=some (.tup x):=fun t x h=>ZAK hl6 _ _ _ h
 exact ((hM1.keep fun _ _ z=>ZAK hl6 _ _ _ (s5 _ _ (s4 _ _ (s3 _ _ (s2 _ _ z))))).app (hM2.keep fun _ _ z=>ZAK hl6 _ _ _ (s5 _ _ (s4 _ _ (s3 _ _ z))))).app (MsAt.one (ZAK hl6 _ _ _ (s5 _ _ h4)))
theorem ok_Pour_front_of {f:Addr} {fd:FuncData} (F:Fun K "front_of" "Pour.front_of" ZAn f fd) (T:Bt K mg C_Pour C_LastPour C_Asker C_AskedRule C_HallError C_NoRule C_NoPaper C_NoPlace C_NoKey C_NoRow C_NoOrder C_TooFar C_Spent)
 :FnOk P w K mg base CX0 1 f fd ["self","piece","taken"] (ZBl false C_Pour):=by
 refine F.ok sc_Pour_front_of (fun vs H Q E h=>?_) (fun cdv A outer s H vs Q E hr h=>?_)
 .obtain ⟨p,ak,pl,tk,ml,wd,pls,pcs,i,t,xs,rfl,pb,hx,q⟩:=h
  rfl
 obtain ⟨p,ak,pl,tk,ml,wd,pls,pcs,i,t,xs,rfl,pb,hx,q⟩:=h
 refine ⟨_,(ZAD (ZAW (i:=3) sc_Pour_front_of.nd rfl (by walk_at "o") (ZA7 ZA1 (ZAh (pv 0) rfl) (pv 1) (fun _ _=>rfl)))
  (ZAJ (ZAX (ZBb (ZAT ZDl (pv 2) (ZAO ZAP rfl T.b_len PySem.boot_len (ZAA (pv 3) ZAE)) (ZAV _)) (ZBV (ZAA (ZA7 ZA1 (pv 3) (pv 2) (fun _ _=>rfl)) (ZAA (pv 1) ZAE))) ZBD)))),?_⟩
 walk_at "rd"
 obtain ⟨l,el,hl⟩:=pb.at hx
 have hl:H l=some (.lst (nL xs)):=hl
 refine pb.hp.get T.cl_Pour T.n_Pour_pieces (by walk_at "lk") (ZBX (SqL.of pb.hpl) (ZAY (v:=.ref l) (by omega) (by rw [Int.toNat_natCast,yAU,el];rfl)) ?_)
 walk_at "rd"
 refine ⟨l,_,rfl,.inl (SqL.of hl),?_⟩
 rw [yAB]
 by_cases hlt:(t:Int) < xs.length
 .rw [if_pos hlt]
  have ht:t < xs.length:=by omega
  have e1:xs[t]?=some xs[t]:=yAD ht
  refine ZBX (SqL.of hl) (ZEy e1) ⟨ZAS (by decide),fun r hr'=>q _ _ (ZAK hr' _) ?_⟩
  unfold ZCV
  rw [e1]
  exact ⟨r,rfl,ZAF⟩
 .rw [if_neg hlt]
  refine q _ _ (.refl _) ?_
  unfold ZCV
  rw [yBG (by omega)]
  rfl
theorem ok_LastPour_front_of {f:Addr} {fd:FuncData} (F:Fun K "front_of" "LastPour.front_of" ZAZ f fd) (T:Bt K mg C_Pour C_LastPour C_Asker C_AskedRule C_HallError C_NoRule C_NoPaper C_NoPlace C_NoKey C_NoRow C_NoOrder C_TooFar C_Spent)
 :FnOk P w K mg base CX0 1 f fd ["self","piece","taken"] (ZBl true C_LastPour):=by
 refine F.ok sc_LastPour_front_of (fun vs H Q E h=>?_) (fun cdv A outer s H vs Q E hr h=>?_)
 .obtain ⟨p,ak,pl,tk,ml,wd,pls,pcs,i,t,xs,rfl,pb,hx,q⟩:=h
  rfl
 obtain ⟨p,ak,pl,tk,ml,wd,pls,pcs,i,t,xs,rfl,pb,hx,q⟩:=h
 refine ⟨_,(ZAD (ZAW (i:=3) sc_LastPour_front_of.nd rfl (by walk_at "o") (ZA7 ZA1 (ZAh (pv 0) rfl) (pv 1) (fun _ _=>rfl)))
  (ZAJ (ZAX (ZBb (ZAT ZDl (pv 2) (ZAO ZAP rfl T.b_len PySem.boot_len (ZAA (pv 3) ZAE)) (ZAV _)) (ZBV (ZAA (ZA7 ZA1 (pv 3) (ZAa ZBc (ZAa ZBc (ZAO ZAP rfl T.b_len PySem.boot_len (ZAA (pv 3) ZAE)) ZAI) (pv 2)) (fun _ _=>rfl)) (ZAA (pv 1) ZAE))) ZBD)))),?_⟩
 walk_at "rd"
 obtain ⟨l,el,hl⟩:=pb.at hx
 have hl:H l=some (.lst (nL xs.reverse)):=hl
 refine pb.hp.get T.cl_LastPour T.n_LastPour_pieces (by walk_at "lk") (ZBX (SqL.of pb.hpl) (ZAY (v:=.ref l) (by omega) (by rw [Int.toNat_natCast,yAU,el];rfl)) ?_)
 walk_at "rd"
 refine ⟨l,_,rfl,.inl (SqL.of hl),?_⟩
 rw [yAB,List.length_reverse]
 by_cases hlt:(t:Int) < xs.length
 .rw [if_pos hlt]
  have ht:t < xs.length:=by omega
  have e1:xs[t]?=some xs[t]:=yAD ht
  have e2:xs.reverse[xs.length-1-t]?=some xs[t]:=by
   rw [List.getElem?_reverse (by omega),show xs.length-1-(xs.length-1-t)=t by omega];exact e1
  refine ⟨l,_,rfl,.inl (SqL.of hl),?_⟩
  rw [yAB,List.length_reverse,show (xs.length:Int)-1-t=((xs.length-1-t:Nat):Int) by omega]
  refine ZBX (SqL.of hl) (ZEy e2) ⟨ZAS (by decide),fun r hr'=>q _ _ (ZAK hr' _) ?_⟩
  unfold ZCV
  rw [e1]
  exact ⟨r,rfl,ZAF⟩
 .rw [if_neg hlt]
  refine q _ _ (.refl _) ?_
  unfold ZCV
  rw [yBG (by omega)]
  rfl
theorem ok_Pour_goes_on {f:Addr} {fd:FuncData} (F:Fun K "goes_on" "Pour.goes_on" ZAs f fd) (T:Bt K mg C_Pour C_LastPour C_Asker C_AskedRule C_HallError C_NoRule C_NoPaper C_NoPlace C_NoKey C_NoRow C_NoOrder C_TooFar C_Spent)
  (t_Asker_ahead:Mt P w K mg base (CXE P w) C_Asker "ahead" 3 ["self","p","q"] (ZCy C_Asker C_AskedRule C_Spent ZBT))
 :FnOk P w K mg base (CXE P w) 4 f fd ["self","p","q"] (ZCc C_Asker C_AskedRule C_Spent false C_Pour):=by
 refine F.okX sc_Pour_goes_on (fun vs H Q E h=>?_) (fun cdv A outer s H vs Q E hr h=>?_)
 .obtain ⟨mo,ks,xs,a,rl,ru,tl,g,lg,p,pl,tk,ml,wd,pr,x,y,rfl,st,hp,hxy,hx,hy,hpr,ex,q⟩:=h
  rfl
 obtain ⟨mo,ks,xs,a,rl,ru,tl,g,lg,p,pl,tk,ml,wd,pr,x,y,rfl,st,hp,hxy,hx,hy,hpr,ex,q⟩:=h
 refine ⟨_,(ZAJ (ZAX (ZDB t_Asker_ahead (hr.mono (by decide)) ZDz (ZAh (pv 0) rfl) (ZAA (pv 1) (ZAA (pv 2) ZAE))))),?_⟩
 walk_at "rd"
 refine hp.get T.cl_Pour T.n_Pour_asker (by walk_at "lk") (st.ha.meth (by walk_at "lk") ?_)
 refine st.ahead (p:=x) (q:=y) hxy hx hy (by omega) ex fun H2 f2 s2=>?_
 rw [ahead_lx hxy]
 exact q H2 f2 s2
theorem ok_LastPour_goes_on {f:Addr} {fd:FuncData} (F:Fun K "goes_on" "LastPour.goes_on" ZAb f fd) (T:Bt K mg C_Pour C_LastPour C_Asker C_AskedRule C_HallError C_NoRule C_NoPaper C_NoPlace C_NoKey C_NoRow C_NoOrder C_TooFar C_Spent)
  (t_Asker_ahead:Mt P w K mg base (CXE P w) C_Asker "ahead" 3 ["self","p","q"] (ZCy C_Asker C_AskedRule C_Spent ZBT))
 :FnOk P w K mg base (CXE P w) 4 f fd ["self","p","q"] (ZCc C_Asker C_AskedRule C_Spent true C_LastPour):=by
 refine F.okX sc_LastPour_goes_on (fun vs H Q E h=>?_) (fun cdv A outer s H vs Q E hr h=>?_)
 .obtain ⟨mo,ks,xs,a,rl,ru,tl,g,lg,p,pl,tk,ml,wd,pr,x,y,rfl,st,hp,hxy,hx,hy,hpr,ex,q⟩:=h
  rfl
 obtain ⟨mo,ks,xs,a,rl,ru,tl,g,lg,p,pl,tk,ml,wd,pr,x,y,rfl,st,hp,hxy,hx,hy,hpr,ex,q⟩:=h
 refine ⟨_,(ZAJ (ZAX (pe_not (ZDB t_Asker_ahead (hr.mono (by decide)) ZDz (ZAh (pv 0) rfl) (ZAA (pv 1) (ZAA (pv 2) ZAE)))))),?_⟩
 walk_at "rd"
 refine hp.get T.cl_LastPour T.n_LastPour_asker (by walk_at "lk") (st.ha.meth (by walk_at "lk") ?_)
 refine st.ahead (p:=x) (q:=y) hxy hx hy (by omega) ex fun H2 f2 s2=>?_
 rw [ahead_lx hxy]
 refine ⟨_,rfl,?_⟩
 have e:(!decide (lx ks x y))=ahB true ks x y:=by
  show _=decide (lx ks y x)
  by_cases z:lx ks x y
  .rw [decide_eq_true z,decide_eq_false (fun w=>by unfold lx at *;omega)];rfl
  .rw [decide_eq_false z,decide_eq_true (by unfold lx at *;omega)];rfl
 rw [e]
 exact q H2 f2 s2
theorem ok_Pour_met {f:Addr} {fd:FuncData} (F:Fun K "met" "Pour.met" ZBQ f fd) (T:Bt K mg C_Pour C_LastPour C_Asker C_AskedRule C_HallError C_NoRule C_NoPaper C_NoPlace C_NoKey C_NoRow C_NoOrder C_TooFar C_Spent) (TX:BtX K C_PX)
  (t_Pour_goes_on:Mt P w K mg base (CXE P w) C_PX "goes_on" 4 ["self","p","q"] (ZCc C_Asker C_AskedRule C_Spent bb C_PX))
 :FnOk P w K mg base (CXE P w) 5 f fd ["self","one","other"] (ZE3 C_Asker C_AskedRule C_Spent bb C_PX):=by
 refine F.okX sc_Pour_met (fun vs H Q E h=>?_) (fun cdv A outer s H vs Q E hr h=>?_)
 .obtain ⟨mo,ks,xs,a,rl,ru,tl,g,lg,p,pl,tk,ml,wd,pr,u1,u2,one,other,rfl,st,hp,h1,h2,hc,hpr,ex,q⟩:=h
  rfl
 obtain ⟨mo,ks,xs,a,rl,ru,tl,g,lg,p,pl,tk,ml,wd,pr,u1,u2,one,other,rfl,st,hp,h1,h2,hc,hpr,ex,q⟩:=h
 refine ⟨_,(ZAD (PS.nox (ZBg (PW.pt (ZDP (ZAT ZC0 (pv 1) ZBD (ZAV _)) (ZDi (ZAT ZC0 (pv 2) ZBD (ZAV _)))))
  (ZAJ (ZAX (ZBb (ZAT ZC0 (pv 1) ZBD (ZAV _)) (pv 2) (pv 1)))) ZAj))
  (ZAJ (ZAX (ZBb (ZCK (ZDB t_Pour_goes_on (hr.mono (by decide)) ZDz (pv 0) (ZAA (ZA7 ZBd (pv 1) ZAI (fun _ _=>rfl)) (ZAA (ZA7 ZBd (pv 2) ZAI (fun _ _=>rfl)) ZAE)))) (pv 1) (pv 2))))),?_⟩
 walk_at "rd"
 have nn:∀ t,V.ref t≠V.non:=fun _ z=>by cases z
 cases one with
 | none=>
  cases (show u1=V.non from h1)
  rw [if_pos rfl,if_pos rfl]
  refine q u2 H .refl ?_ h2
  show SitL _ _ _ _ _ _ _ _ _ _ _ _ (pr++[])
  rw [yAY]
  exact st
 | some x=>
  obtain ⟨t1,rfl,ht1⟩:=h1
  rw [if_neg (nn _)]
  cases other with
  | none=>
   cases (show u2=V.non from h2)
   rw [if_pos rfl,if_neg (nn _)]
   refine q _ H .refl ?_ ⟨t1,rfl,ht1⟩
   show SitL _ _ _ _ _ _ _ _ _ _ _ _ (pr++[])
   rw [yAY]
   exact st
  | some y=>
   obtain ⟨t2,rfl,ht2⟩:=h2
   obtain ⟨g1,g2,g3⟩:=hc (x.1,y.1) yAE
   rw [if_neg (nn _)]
   refine hp.meth (by walk_at "lk") (ZBW (SqT.of ht1) (ZAY (by decide) rfl) (ZBW (SqT.of ht2) (ZAY (by decide) rfl) ?_))
   refine ⟨mo,ks,xs,a,rl,ru,tl,g,lg,p,pl,tk,ml,wd,pr,x.1,y.1,rfl,st,hp,g1,g2,g3,hpr,ex.sub .refl (fun n hn=>⟨_,rfl,by rw [hn];exact yAA _⟩),fun H2 f2 s2=>⟨_,rfl,?_⟩⟩
   have k2:∀ t z,H t=some (.tup z)->H2 t=some (.tup z):=fun t z h=>f2 _ _ (st.tupS h (fun _ z=>by cases z) (fun _ _ _ z=>by cases z)) h
   have em:Po.met (ahB bb ks) (some x) (some y)=if ahB bb ks x.1 y.1=true then some x else some y:=rfl
   by_cases hd:ahB bb ks x.1 y.1=true
   .rw [if_pos hd]
    rw [if_pos hd] at em
    exact q _ H2 f2 s2 (by rw [em];exact ⟨t1,rfl,k2 _ _ ht1⟩)
   .rw [if_neg hd]
    rw [if_neg hd] at em
    exact q _ H2 f2 s2 (by rw [em];exact ⟨t2,rfl,k2 _ _ ht2⟩)
theorem ok_Pour_held {f:Addr} {fd:FuncData} (F:Fun K "held" "Pour.held" ZBH f fd) (T:Bt K mg C_Pour C_LastPour C_Asker C_AskedRule C_HallError C_NoRule C_NoPaper C_NoPlace C_NoKey C_NoRow C_NoOrder C_TooFar C_Spent) (TX:BtX K C_PX)
  (t_Pour_met:Mt P w K mg base (CXE P w) C_PX "met" 5 ["self","one","other"] (ZE3 C_Asker C_AskedRule C_Spent bb C_PX))
 :FnOk P w K mg base (CXE P w) 6 f fd ["self","meetings","went_on"] (ZDg C_Asker C_AskedRule C_Spent bb C_PX):=by
 refine F.okX sc_Pour_held (fun vs H Q E h=>?_) (fun cdv A outer s H vs Q E hr h=>?_)
 .obtain ⟨mo,ks,xs,a,rl,ru,tl,g,lg,p,pl,tk,ml,wd,mt,wo,pr,mvs,ms,w0,w1,l,B,c,kvs,rfl,st,hp,np,nmt,hmt,hM,hml,hms,dt,hB,hrn,hl,hcc,hpr,ex,q⟩:=h
  rfl
 obtain ⟨mo,ks,xs,a,rl,ru,tl,g,lg,p,pl,tk,ml,wd,mt,wo,pr,mvs,ms,w0,w1,l,B,c,kvs,rfl,st,hp,np,nmt,hmt,hM,hml,hms,dt,hB,hrn,hl,hcc,hpr,ex,q⟩:=h
 refine ⟨_,(ZAD (PS.nox (ZAW (i:=3) sc_Pour_held.nd rfl (by walk_at "o") (ZCd (call_dictC) rfl T.b_dict PyProof.Rows.boot_dict (ZAA (pv 2) ZAE))))
  (ZAD (PS.inX (ZDj (passO ⟨rfl,rfl⟩) rfl (ZCm (pv 1)) (ZEH (n:=3) rfl (ZBL (ZAk (i:=4) sc_Pour_held.nd rfl (by walk_at "o")) (ZBL (ZAk (i:=5) sc_Pour_held.nd rfl (by walk_at "o")) (ZBL (ZAk (i:=6) sc_Pour_held.nd rfl (by walk_at "o")) ZDR))))
  (ZAJ (ZDx (ZEU hr) (pv 3) (ZBV (ZAA (pv 4) (ZAA (pv 6) ZAE))) (ZDB t_Pour_met (hr.mono (by decide)) passL (pv 0) (ZAA (pe_dget (ZEU hr) (pv 3) (ZBV (ZAA (pv 4) (ZAA (pv 5) ZAE))) (fun _ _=>rfl)) (ZAA (pe_dget (ZEU hr) (pv 3) (ZBV (ZAA (pv 5) (ZAA (pv 6) ZAE))) (fun _ _=>rfl)) ZAE))) rfl))))
  (ZAJ (PS.nox (ZAX (pv 3)))))),?_⟩
 walk_at "rd"
 refine ⟨wo,kvs,rfl,dt.hd,dt.sm,fun d hd=>?_⟩
 obtain ⟨H1,e1,s1,h1⟩:=newH hd (.dT kvs)
 rw [e1];clear e1
 have dt1:DT H1 d w0 B kvs:=⟨h1,dt.sm,dt.len,(dt.mono s1).val⟩
 have ndS:d∉[a,lg,tl]:=fun z=>by
  obtain ⟨_,h2,_⟩:=st.hlg
  obtain ⟨_,h3,_⟩:=st.htl
  rcases yAH.mp z with z | z
  .exact st.ha.neN hd z
  rcases yAH.mp z with z | z
  .rw [z,h2] at hd;cases hd
  .rw [yAK.mp z,h3] at hd;cases hd
 refine forL_of (SqL.of (s1 _ _ hmt)) (fun i σ X=>∃ v4 v5 v6 wi li kvi,σ=[some (.ref p),some (.ref mt),some (.ref wo),some (.ref d),v4,v5,v6] /\ Po.run (ahB bb ks) (ms.take i) (w0,[])=some (wi,li) /\ DT X d wi (B+c * i) kvi /\ SitL mo C_Asker C_AskedRule X ks xs a rl ru tl g lg (pr++li.map mxp) /\ Fr [a,lg,tl] H X) ⟨_,_,_,w0,[],kvs,rfl,rfl,by rw [Nat.mul_zero];exact dt1,by rw [List.map_nil,yAY];exact st.mono s1,s1.fr⟩ (fun i σ X _ ⟨_,_,_,_,_,_,_,_,_,_,e⟩=>SqL.of (e _ _ nmt hmt)) ?_ ?_
 .rintro i x σ X hx ⟨v4,v5,v6,wi,li,kvi,rfl,hrun,dti,sti,fi⟩
  have hi:=(yAL.mp hx).1
  rw [hM.len] at hi
  obtain ⟨m,hm⟩:∃ m,ms[i]?=some m:=⟨_,yAD hi⟩
  obtain ⟨t,ht1,ht2⟩:=hM.get i m hm
  rw [hx] at ht1
  cases ht1
  have htX:=fi _ _ (st.tupS ht2 (fun _ z=>by cases z) (fun _ _ _ z=>by cases z)) ht2
  refine ZC8 (SqT.of htX) rfl ?_
  walk_at "rd"
  obtain ⟨si,q1,q2⟩:=run_cut hrn i
  rw [hrun] at q1
  cases q1
  rw [ZCH hm] at q2
  obtain ⟨⟨w2,l2⟩,q3,q4⟩:=Option.bind_eq_some_iff.mp (show (Po.step (ahB bb ks) (wi,li) m).bind (Po.run (ahB bb ks) (ms.drop (i+1)))=some (w1,l) from q2)
  have hpi:=ZB8 fi np hp
  unfold Po.step at q3
  dsimp only at q3
  split at q3
  .rename_i x y e1 e2
   cases q3
   obtain ⟨u1,hu1,fv1⟩:=dti.val _ _ _ e1
   obtain ⟨u2,hu2,fv2⟩:=dti.val _ _ _ e2
   obtain ⟨le,hle⟩:=run_grow q4
   have hle:l=(li++Po.mask x y)++le:=hle
   refine hpi.meth (by walk_at "lk") ⟨ZAS (by decide),fun k1 hk1=>?_⟩
   obtain ⟨X1,eX1,sX1,hX1⟩:=newH hk1 (.tup [.int (m.1:Int),.int (m.2.1:Int)])
   rw [eX1];clear eX1
   refine ⟨d,u1,rfl,by have:=DGet.t (k:=kQ m.1 m.2.1) (sX1 _ _ dti.hd) hX1;rw [hu1] at this;exact this,ZAS (by decide),fun k2 hk2=>?_⟩
   obtain ⟨X2,eX2,sX2,hX2⟩:=newH hk2 (.tup [.int (m.2.1:Int),.int (m.2.2:Int)])
   rw [eX2];clear eX2
   have S2:=sX1.trans sX2
   refine ⟨d,u2,rfl,by have:=DGet.t (k:=kQ m.2.1 m.2.2) (S2 _ _ dti.hd) hX2;rw [hu2] at this;exact this,?_⟩
   have sti2:=sti.mono S2
   refine ⟨mo,ks,xs,a,rl,ru,tl,g,lg,p,pl,tk,ml,wd,pr++li.map mxp,u1,u2,x,y,rfl,sti2,hpi.mono S2,fv1.keep (fun _ _ z=>S2 _ _ z),fv2.keep (fun _ _ z=>S2 _ _ z),fun c hc=>hl c (by rw [hle];exact yBU _ (yAQ _ hc)),by rw [yAC,yAB];rw [hle,yAC,yAC] at hpr;omega,ex.sub (fi.trans S2.fr) (fun n hn=>⟨_,rfl,by rw [hn,hle,yAC,yAC,yAC,yAB];omega⟩),fun u Y fY stY fvY=>⟨ZAS (by decide),fun k3 hk3=>?_⟩⟩
   obtain ⟨Y2,eY2,sY2,hY2⟩:=newH hk3 (.tup [.int (m.1:Int),.int (m.2.2:Int)])
   rw [eY2];clear eY2
   have dtY:DT Y2 d wi (B+c * i) kvi:=((dti.mono S2).fr fY ndS (fun t z h=>sti2.tupS h (fun _ z=>by cases z) (fun _ _ _ z=>by cases z))).mono sY2
   have hci:c * i <= 400:=by
    rcases hcc with rfl | ⟨rfl,_⟩
    .omega
    .omega
   refine ⟨d,_,rfl,DPut.t (k:=kQ m.1 m.2.2) dtY.hd hY2 (ZBm (by have:=dtY.len;omega)),?_⟩
   have hmm:=hms m (yAN hm)
   have hk:c=1∨(wi m.1 m.2.2).isSome=true:=by
    rcases hcc with z | ⟨_,z⟩
    .exact .inl z
    .exact .inr (run_dom hrun (z m (yAN hm)))
   refine ⟨_,_,_,Po.put wi m.1 m.2.2 (Po.met (ahB bb ks) x y),li++Po.mask x y,putK kvi (kQ m.1 m.2.2) u,rfl,?_,?_,?_,?_⟩
   .rw [List.take_add_one,hm,Po.run_app,hrun]
    show (Po.step (ahB bb ks) (wi,li) m).bind (Po.run (ahB bb ks) [])=_
    unfold Po.step
    dsimp only
    rw [e1,e2]
    rfl
   .rw [Nat.mul_succ,<- Nat.add_assoc]
    exact dtY.put hmm.1 hmm.2 (fvY.keep fun _ _ z=>sY2 _ _ z) hk
   .rw [yBB,<- yAW]
    exact (stY.mono sY2).but fun b o hb n=>by rw [ZAG (fun z=>by rw [z,dtY.hd] at hb;exact n _ (Option.some.inj hb).symm)];exact hb
   .intro b o n hb
    rw [ZAG (ZAC hb hd)]
    exact sY2 _ _ (fY _ _ n (S2 _ _ (fi _ _ n hb)))
  .cases q3
 rintro σ X ⟨v4,v5,v6,wi,li,kvi,rfl,hrun,dti,sti,fi⟩
 rw [hM.len,List.take_of_length_le (yAA _),hrn] at hrun
 cases hrun
 rw [hM.len] at dti
 walk_at "rd"
 exact q d X kvi fi hd dti sti
theorem ok_Pour_top {f:Addr} {fd:FuncData} (F:Fun K "top" "Pour.top" ZBP f fd) (T:Bt K mg C_Pour C_LastPour C_Asker C_AskedRule C_HallError C_NoRule C_NoPaper C_NoPlace C_NoKey C_NoRow C_NoOrder C_TooFar C_Spent) (TX:BtX K C_PX)
 :FnOk P w K mg base CX0 1 f fd ["self"] (ZEg bb C_PX):=by
 refine F.ok sc_Pour_top (fun vs H Q E h=>?_) (fun cdv A outer s H vs Q E hr h=>?_)
 .obtain ⟨p,ak,pl,tk,ml,wd,pls,pcs,w0,B,kvs,top,rfl,pb,dt,htop,q⟩:=h
  rfl
 obtain ⟨p,ak,pl,tk,ml,wd,pls,pcs,w0,B,kvs,top,rfl,pb,dt,htop,q⟩:=h
 refine ⟨_,(ZAJ (ZAX (ZEn PySem.F.plainAttrs_dict PySem.F.slot_dict_get PySem.F.type_dict_get (mt_dget (ZEU hr)) (ZAh (pv 0) rfl) (ZAA (ZBV (ZAA ZAI (ZAA (ZAO ZAP rfl T.b_len PySem.boot_len (ZAA (ZAh (pv 0) rfl) ZAE)) ZAE))) ZAE)))),?_⟩
 walk_at "rd"
 refine pb.hp.get TX.cl_PX TX.n_PX_went_on (by walk_at "lk") ?_
 walk_at "rd"
 refine ⟨.inr (.inr (.inl ⟨rfl,.inr ⟨_,dt.hd⟩⟩)),?_⟩
 refine pb.hp.get TX.cl_PX TX.n_PX_pieces (by walk_at "lk") ?_
 walk_at "rd"
 refine ⟨pl,_,rfl,.inl (SqL.of pb.hpl),ZAS (by decide),fun t ht=>?_⟩
 rw [yAB,pb.len]
 obtain ⟨H1,e1,s1,h1⟩:=newH ht (.tup [.int ((0:Nat):Int),.int (pcs.length:Int)])
 rw [show ((0:Nat):Int)=0 from rfl] at e1
 rw [e1];clear e1
 refine ⟨wd,_,_,rfl,rfl,DGet.t (k:=kQ 0 pcs.length) (s1 _ _ dt.hd) h1,?_⟩
 rcases htop with hv | ⟨rfl,rfl⟩
 .obtain ⟨u,hu,fv⟩:=dt.val _ _ _ hv
  rw [hu]
  exact q u H1 s1 (fv.keep fun _ _ z=>s1 _ _ z)
 .have:kvs=[]:=List.length_eq_zero_iff.mp (by have:=dt.len;omega)
  rw [this]
  exact q _ H1 s1 rfl
theorem ok_Pour_first {f:Addr} {fd:FuncData} (F:Fun K "first" "Pour.first" ZA4 f fd) (T:Bt K mg C_Pour C_LastPour C_Asker C_AskedRule C_HallError C_NoRule C_NoPaper C_NoPlace C_NoKey C_NoRow C_NoOrder C_TooFar C_Spent) (TX:BtX K C_PX)
  (t_Pour_top:Mt P w K mg base CX0 C_PX "top" 1 ["self"] (ZEg bb C_PX))
 :FnOk P w K mg base CX0 2 f fd ["self"] (ZCx bb C_PX):=by
 refine F.ok sc_Pour_first (fun vs H Q E h=>?_) (fun cdv A outer s H vs Q E hr h=>?_)
 .obtain ⟨p,ak,pl,tk,ml,wd,pls,pcs,w0,B,kvs,top,rfl,pb,dt,htop,q⟩:=h
  rfl
 obtain ⟨p,ak,pl,tk,ml,wd,pls,pcs,w0,B,kvs,top,rfl,pb,dt,htop,q⟩:=h
 refine ⟨_,(ZAD (ZAW (i:=1) sc_Pour_first.nd rfl (by walk_at "o") (ZCz t_Pour_top (hr.mono (by decide)) ZAp (pv 0)))
  (ZAJ (ZAX (ZBb (ZAT ZC0 (pv 1) ZBD (ZAV _)) ZBD (ZA7 ZBd (pv 1) ZAI (fun _ _=>rfl)))))),?_⟩
 walk_at "rd"
 refine pb.hp.meth (by walk_at "lk") ⟨p,ak,pl,tk,ml,wd,pls,pcs,w0,B,kvs,top,rfl,pb,dt,htop,fun u H1 s1 fv=>?_⟩
 walk_at "rd"
 cases top with
 | none=>
  cases (show u=V.non from fv)
  rw [if_pos rfl]
  exact q H1 s1
 | some x=>
  obtain ⟨t,rfl,ht⟩:=fv
  rw [if_neg (fun z=>by cases z)]
  exact ZBW (SqT.of ht) (ZAY (by decide) rfl) (q H1 s1)
theorem ok_Pour_init {f:Addr} {fd:FuncData} (F:Fun K "__init__" "Pour.__init__" ZBG f fd) (T:Bt K mg C_Pour C_LastPour C_Asker C_AskedRule C_HallError C_NoRule C_NoPaper C_NoPlace C_NoKey C_NoRow C_NoOrder C_TooFar C_Spent) (TX:BtX K C_PX)
  (f_meetings_of:Fn P w K mg base CX0 "meetings_of" 9 ["first","beyond"] (ZBN 9))
  (t_Pour_held:Mt P w K mg base (CXE P w) C_PX "held" 6 ["self","meetings","went_on"] (ZDg C_Asker C_AskedRule C_Spent bb C_PX))
  (t_Pour_front_of:Mt P w K mg base CX0 C_PX "front_of" 1 ["self","piece","taken"] (ZBl bb C_PX))
 :FnOk P w K mg base (CXE P w) 10 f fd ["self","asker","pieces"] (ZBk C_Asker C_AskedRule C_Spent bb C_PX):=by
 refine F.okX sc_Pour_init (fun vs H Q E h=>?_) (fun cdv A outer s H vs Q E hr h=>?_)
 .obtain ⟨mo,ks,xs,a,rl,ru,tl,g,lg,x,dx,hl,pr,hls,pcs,rfl,hx,st,hhl,hlen,hls',hn,hpc,hdj,nx,hpr,ex,q⟩:=h
  rfl
 obtain ⟨mo,ks,xs,a,rl,ru,tl,g,lg,x,dx,hl,pr,hls,pcs,rfl,hx,st,hhl,hlen,hls',hn,hpc,hdj,nx,hpr,ex,q⟩:=h
 refine ⟨_,(ZAD (PS.nox (ZBs (pv 0) (pv 1) rfl))
  (ZAD (PS.nox (ZBs (pv 0) (ZDS rfl (k:=1) (js:=[]) (N':=["piece"]) (by rfl) (ZCm (pv 2)) (fun _ _ _ _=>ZAk (i:=0) (show (["piece"]:List Str).Nodup by decide +kernel) rfl (by walk_at "o")) (fun _ _ _ _=>ZCF) (fun _ _ _ _=>(ZCd (call_list_ofK K) rfl T.b_list PyProof.Rows.boot_list (ZAA (pv 0) ZAE)))) rfl))
  (ZAN
  (ZAD (PS.nox (ZBs (pv 0) (ZDS rfl (k:=1) (js:=[]) (N':=["piece"]) (by rfl) (ZCm (ZAh (pv 0) rfl)) (fun _ _ _ _=>ZAk (i:=0) (show (["piece"]:List Str).Nodup by decide +kernel) rfl (by walk_at "o")) (fun _ _ _ _=>ZCF) (fun _ _ _ _=>ZAI)) rfl))
  (ZAN
  (ZAD (PS.nox (ZBs (pv 0) (ZBJ f_meetings_of (hr.mono (by decide)) rfl ZAp (ZAA ZAI (ZAA (ZAO ZAP rfl T.b_len PySem.boot_len (ZAA (ZAh (pv 0) rfl) ZAE)) ZAE))) rfl))
  (ZAN
  (ZAD (PS.nox (ZBs (pv 0) pe_dnewT rfl))
  (ZAD (PS.nox (ZDj PassesOwn.never rfl (ZBU rfl T.b_range (ZAA (ZAO ZAP rfl T.b_len PySem.boot_len (ZAA (ZAh (pv 0) rfl) ZAE)) ZAE)) (ZAk (i:=3) sc_Pour_init.nd rfl (by walk_at "o"))
  (ZAJ (ZDx (ZEU hr) (ZAh (pv 0) rfl) (ZBV (ZAA (pv 3) (ZAA (ZAa ZB7 (pv 3) ZAI) ZAE))) (ZDB t_Pour_front_of (hr.mono (by decide)) ZAp (pv 0) (ZAA (pv 3) (ZAA ZAI ZAE))) rfl))))
  (ZAN
  (ZAJ (ZBs (pv 0) (ZDB t_Pour_held (hr.mono (by decide)) ZDz (pv 0) (ZAA (ZAh (pv 0) rfl) (ZAA (ZAh (pv 0) rfl) ZAE))) rfl)))))))))))),?_⟩
 walk_at "rd"
 have nhl:hl≠x:=fun z=>by rw [z,hx] at hhl;cases hhl
 refine setX hx TX.cl_PX TX.n_PX_asker (by decide) fun H2 x2 k2=>?_
 walk_at "rd"
 have up2:∀ b o,b≠x->H b=some o->H2 b=some o:=fun b o n e=>by rw [k2 b n];exact e
 have nlx:∀ (i:Nat) l ys,hls[i]?=some l->pcs[i]?=some ys->H2 l=some (.lst (nL (rv bb ys))):=fun i l ys h1 h2=>by
  have h:=hls' i l ys h1 h2
  exact up2 _ _ (fun z=>by rw [z,hx] at h;cases h) h
 refine ZCu (SqL.of (up2 _ _ nhl hhl)) (by rw [yAB];omega) (fun i ys σ H'=>∃ v ns,σ=[v] /\ Same H2 H' /\ ys=ns.map V.ref /\ ns.length=i /\ (∀ (j:Nat) l zs,ns[j]?=some l->pcs[j]?=some zs->H' l=some (.lst (nL (rv bb zs)))) /\ ∀ l∈ns,H2 l=none) ⟨_,[],rfl,.refl _,rfl,rfl,fun j l zs h=>by simp at h,fun l h=>by cases h⟩ (fun i ys σ H' _ ⟨_,ns,_,e,e2,e3,_⟩=>⟨SqL.of (e _ _ (up2 _ _ nhl hhl)),by rw [e2,yAB];omega⟩) ?_ ?_
 .rintro i ys u σ H' hi hu ⟨v,ns,rfl,sA,rfl,hnl,hns,hfr⟩
  rw [yAB] at hi
  have hi2:i < pcs.length:=by omega
  obtain ⟨zs,hzs⟩:∃ zs,pcs[i]?=some zs:=⟨_,yAD hi2⟩
  rw [yAU,yAD hi] at hu
  cases hu
  have hl2:=sA _ _ (nlx i _ zs (yAD hi) hzs)
  walk_at "rd"
  refine ⟨_,_,rfl,.inl (SqL.of hl2),fun l' hl'=>?_⟩
  refine Nxt.of (by rw [yAB];exact hi) ⟨_,ns++[l'],rfl,sA.new hl',by rw [yBB];rfl,by rw [yAC,hnl];rfl,fun j l zs' h1 h2=>?_,fun l h=>?_⟩
  .by_cases z:j < ns.length
   .rw [yBA z] at h1
    exact ZAK hl' _ _ _ (hns j l zs' h1 h2)
   .rw [yAZ (by omega)] at h1
    cases hk:j-ns.length with
    | zero=>
     rw [hk] at h1
     cases h1
     rw [show j=i by omega,hzs] at h2
     cases h2
     exact ZAF
    | succ m=>rw [hk] at h1;simp at h1
  .rcases yAX.mp h with h | h
   .exact hfr l h
   .rw [yAK.mp h];exact sA.free hl'
 rintro ys σ H3 ⟨v,pls,rfl,s3,rfl,hpll,hpls,hplf⟩ pl hpl0
 rw [yAB] at hpll
 obtain ⟨H4,e4,s4,h4⟩:=newH hpl0 (.lst (pls.map V.ref))
 rw [e4];clear e4
 have x4:=s4 _ _ (s3 _ _ x2)
 have nplx:pl≠x:=Ne.symm (ZAC (s3 _ _ x2) hpl0)
 refine setX x4 TX.cl_PX TX.n_PX_pieces ZFM fun H5 x5 k5=>?_
 walk_at "rd"
 have up5:∀ b o,b≠x->H4 b=some o->H5 b=some o:=fun b o n e=>by rw [k5 b n];exact e
 have hpl5:=up5 _ _ nplx h4
 have hplsx:∀ l∈pls,l≠x:=fun l h z=>by have:=hplf l h;rw [z,x2] at this;cases this
 have hpls5:∀ (j:Nat) l zs,pls[j]?=some l->pcs[j]?=some zs->H5 l=some (.lst (nL (rv bb zs))):=fun j l zs h1 h2=>up5 _ _ (hplsx l (yAN h1)) (s4 _ _ (hpls j l zs h1 h2))
 refine ZAU ?_
 walk_at "rd"
 have i5:Ins H5 x C_PX [("pieces",.ref pl),("asker",.ref a)]:=(Ins.of x5 (yAF ZFL (by decide))).congr fun f=>by simp only [ZAR,lkc]
 refine i5.get TX.cl_PX TX.n_PX_pieces (by walk_at "lk") ?_
 refine ZCu (SqL.of hpl5) (by rw [yAB];omega) (fun i ys σ H'=>∃ v,σ=[v] /\ Same H5 H' /\ ys=nL (List.replicate i 0)) ⟨_,rfl,.refl _,rfl⟩ (fun i ys σ H' _ ⟨_,_,e,e2⟩=>⟨SqL.of (e _ _ hpl5),by rw [e2,yAB,yBV];exact yAA _⟩) ?_ ?_
 .rintro i ys u σ H' hi hu ⟨v,rfl,sA,rfl⟩
  walk_at "rd"
  refine Nxt.of hi ⟨_,rfl,sA,?_⟩
  unfold nL
  rw [List.replicate_succ',yBB];rfl
 rintro ys σ H6 ⟨v,rfl,s6,rfl⟩ tk htk0
 rw [yAB,hpll,hlen]
 obtain ⟨H7,e7,s7,h7⟩:=newH htk0 (.lst (nL (List.replicate pcs.length 0)))
 rw [e7];clear e7
 have x7:=s7 _ _ (s6 _ _ x5)
 have ntkx:tk≠x:=Ne.symm (ZAC (s6 _ _ x5) htk0)
 refine setX x7 TX.cl_PX TX.n_PX_taken ZFL fun H8 x8 k8=>?_
 walk_at "rd"
 have up8:∀ b o,b≠x->H5 b=some o->H8 b=some o:=fun b o n e=>by rw [k8 b n];exact s7 _ _ (s6 _ _ e)
 have htk8:H8 tk=some (.lst (nL (List.replicate pcs.length 0))):=by rw [k8 tk ntkx];exact h7
 refine ZAU ?_
 walk_at "rd"
 have i8:Ins H8 x C_PX [("taken",.ref tk),("pieces",.ref pl),("asker",.ref a)]:=(Ins.of x8 (yAF ZFK (by decide))).congr fun f=>by simp only [ZAR,lkc]
 refine i8.get TX.cl_PX TX.n_PX_pieces (by walk_at "lk") ⟨pl,_,rfl,.inl (SqL.of (up8 _ _ nplx hpl5)),?_⟩
 rw [yAB,hpll,hlen]
 refine ⟨0,pcs.length,rfl,yAG _,by omega,by decide,yAF (by omega:pcs.length-0 <= 256) (by decide),fun ml H9 mvs s9 hml0 hml9 hMs=>?_⟩
 have x9:=s9 _ _ x8
 have nmlx:ml≠x:=Ne.symm (ZAC x8 hml0)
 refine setX x9 TX.cl_PX TX.n_PX_meetings ZFK fun H10 x10 k10=>?_
 walk_at "rd"
 have up10:∀ b o,b≠x->H8 b=some o->H10 b=some o:=fun b o n e=>by rw [k10 b n];exact s9 _ _ e
 refine ZAU ?_
 walk_at "rd"
 intro wd hwd0
 obtain ⟨H11,e11,s11,h11⟩:=newH hwd0 (.dT [])
 rw [e11];clear e11
 have x11:=s11 _ _ x10
 have nwdx:wd≠x:=Ne.symm (ZAC x10 hwd0)
 refine setX x11 TX.cl_PX TX.n_PX_went_on putL4 fun H12 x12 k12=>?_
 walk_at "rd"
 have up12:∀ b o,b≠x->H10 b=some o->H12 b=some o:=fun b o n e=>by rw [k12 b n];exact s11 _ _ e
 have i12:Ins H12 x C_PX (fP a pl tk ml wd):=(Ins.of x12 (yAF putL5 (by decide))).congr fun f=>by simp only [ZAR,lkc]
 have hml10:H10 ml=some (.lst mvs):=by rw [k10 ml nmlx];exact hml9
 have hMs12:MsAt H12 mvs (Po.mts 0 pcs.length):=hMs.keep fun t z h=>by
  have n:t≠x:=fun e=>by rw [e,x9] at h;cases h
  exact up12 _ _ n (by rw [k10 t n];exact h)
 have up:∀ b o,b≠x->H5 b=some o->H12 b=some o:=fun b o n e=>up12 _ _ n (up10 _ _ n (up8 _ _ n e))
 have upH:∀ b o,b≠x->H b=some o->H12 b=some o:=fun b o n e=>up _ _ n (up5 _ _ n (s4 _ _ (s3 _ _ (up2 _ _ n e))))
 have pb12:PB bb C_PX H12 x a pl tk ml wd pls pcs:=⟨i12,up _ _ nplx hpl5,by omega,fun i l ys h1 h2=>up _ _ (hplsx l (yAN h1)) (hpls5 i l ys h1 h2)⟩
 have st12:=st.butX hx nx upH
 have fx:∀ b,H2 b=none->H b=none:=fun b h=>by
  cases e:H b with
  | none=>rfl
  | some o=>
   have n:b≠x:=fun z=>by rw [z,x2] at h;cases h
   rw [up2 b o n e] at h;cases h
 have f5:∀ b,b≠x->H5 b=none->H b=none:=fun b n h=>fx b (s3.free (s4.free (by rw [<- k5 b n];exact h)))
 have f8:∀ b,b≠x->H8 b=none->H b=none:=fun b n h=>f5 b n (s6.free (s7.free (by rw [<- k8 b n];exact h)))
 have f10:∀ b,b≠x->H10 b=none->H b=none:=fun b n h=>f8 b n (s9.free (by rw [<- k10 b n];exact h))
 have gpl:=fx pl (s3.free hpl0)
 have gtk:=f5 tk ntkx (s6.free htk0)
 have gml:=f8 ml nmlx hml0
 have gwd:=f10 wd nwdx hwd0
 have gpls:∀ l∈pls,H l=none:=fun l h=>fx l (hplf l h)
 have n5:∀ b o,H5 b=some o->b≠tk:=fun b o h=>ZAC (s6 _ _ h) htk0
 have n8:∀ b o,H8 b=some o->b≠ml:=fun b o h=>ZAC h hml0
 have n10:∀ b o,H10 b=some o->b≠wd:=fun b o h=>ZAC h hwd0
 have hwd12:H12 wd=some (.dT []):=by rw [k12 wd nwdx];exact h11
 have htk12:=up12 _ _ ntkx (up10 _ _ ntkx htk8)
 have hml12:=up12 _ _ nmlx hml10
 have npl:pl≠wd:=n10 _ _ (up10 _ _ nplx (up8 _ _ nplx hpl5))
 have ntk:tk≠wd:=n10 _ _ (up10 _ _ ntkx htk8)
 have nml:ml≠wd:=n10 _ _ hml10
 have npls:∀ l∈pls,l≠wd /\ l≠tk:=fun l h=>by
  obtain ⟨j,hj,e⟩:=yCB h
  have e1:pls[j]?=some l:=by rw [yAD hj,e]
  have h5:=hpls5 j l _ e1 (yAD (show j < pcs.length by omega))
  exact ⟨n10 _ _ (up10 _ _ (hplsx l h) (up8 _ _ (hplsx l h) h5)),n5 _ _ h5⟩
 have ntkpl:tk≠pl:=Ne.symm (n5 _ _ hpl5)
 have ntkml:tk≠ml:=n8 tk _ htk8
 clear k2 k5 k8 k10 k12 x2 x4 x5 x7 x8 x9 x10 x11 i5 i8 up2 up5 up8 up10 up12 s3 s4 s6 s7 s9 s11 hMs h4 h7 h11 hpl5 hpls5 htk8 hml9 hml10 hpls hplf fx f5 f8 f10 n5 n8 n10 nlx up
 refine i12.get TX.cl_PX TX.n_PX_pieces (by walk_at "lk") ⟨pl,_,rfl,.inl (SqL.of pb12.hpl),?_⟩
 rw [yAB,pb12.len]
 refine ZDZ (by omega) (ZD5 (fun i σ X=>∃ v3 kvs wi,σ=[some (.ref x),some (.ref a),some (.ref hl),v3] /\ DT X wd wi i kvs /\ (∀ j,j < i->wi j (j+1)=some (frs pcs (List.replicate pcs.length 0) j)) /\ ∀ b o,b≠wd->H12 b=some o->X b=some o) ⟨_,[],fun _ _=>none,rfl,⟨hwd12,(fun kv h=>by cases h),yAA _,(fun _ _ _ h=>by cases h)⟩,fun j h=>by omega,fun b o _ h=>h⟩ ?_ ?_)
 .rintro i σ X hi ⟨v3,kvs,wi,rfl,dti,hwi,kX⟩
  have hi':i < pcs.length:=by omega
  obtain ⟨zs,hzs⟩:∃ zs,pcs[i]?=some zs:=⟨_,yAD hi'⟩
  have pbX:PB bb C_PX X x a pl tk ml wd pls pcs:=⟨ZB8 (S:=[wd]) (fun b o n h=>kX b o (fun z=>n (by rw [z];exact yAE)) h) (fun z=>nwdx (yAK.mp z).symm) pb12.hp,kX _ _ npl pb12.hpl,pb12.len,fun j l ys h1 h2=>kX _ _ (npls l (yAN h1)).1 (pb12.pc j l ys h1 h2)⟩
  walk_at "rd"
  rw [Int.zero_add]
  refine pbX.hp.meth (by walk_at "lk") ⟨x,a,pl,tk,ml,wd,pls,pcs,i,0,zs,rfl,pbX,hzs,fun u X2 sX2 fv=>?_⟩
  refine (pbX.mono sX2).hp.get TX.cl_PX TX.n_PX_went_on (by walk_at "lk") ?_
  walk_at "rd"
  refine ⟨ZAS (by decide),fun k1 hk1=>?_⟩
  obtain ⟨X3,e3,sX3,hX3⟩:=newH hk1 (.tup [.int (i:Int),.int ((i+1:Nat):Int)])
  rw [show (i:Int)+1=((i+1:Nat):Int) by omega,e3];clear e3
  have dt3:=(dti.mono sX2).mono sX3
  refine ⟨wd,_,rfl,DPut.t (k:=kQ i (i+1)) dt3.hd hX3 (ZBm (by have:=dt3.len;omega)),?_⟩
  refine ⟨_,putK kvs (kQ i (i+1)) u,Po.put wi i (i+1) (ZCV zs 0 i),rfl,dt3.put (by omega) (by omega) (fv.keep fun _ _ z=>sX3 _ _ z) (.inl rfl),fun j hj=>?_,fun b o n h=>by rw [ZAG n];exact sX3 _ _ (sX2 _ _ (kX b o n h))⟩
  unfold Po.put
  by_cases z:j=i
  .rw [if_pos ⟨z,by omega⟩,z,ZEv hzs (by rw [yCK,if_pos hi'])]
  .rw [if_neg (by omega)]
   exact hwi j (by omega)
 rintro σ X ⟨v3,kvs,wn,rfl,dtn,hwn,kX⟩
 rw [Int.toNat_natCast] at dtn hwn
 walk_at "rd"
 refine ZAU ?_
 walk_at "rd"
 have iX:Ins X x C_PX (fP a pl tk ml wd):=ZB8 (S:=[wd]) (fun b o n h=>kX b o (fun z=>n (by rw [z];exact yAE)) h) (fun z=>nwdx (yAK.mp z).symm) i12
 have stX:SitL mo C_Asker C_AskedRule X ks xs a rl ru tl g lg pr:=st12.but fun b o hb n=>kX b o (fun z=>by rw [z,hwd12] at hb;exact n _ (Option.some.inj hb).symm) hb
 have hmlX:=kX _ _ nml hml12
 have hMsX:MsAt X mvs (Po.mts 0 pcs.length):=hMs12.keep fun t z h=>kX _ _ (fun e=>by rw [e,hwd12] at h;cases h) h
 obtain ⟨w1,hrun,hright⟩:∃ w1,Po.run (ahB bb ks) (Po.mts 0 pcs.length) (wn,[])=some (w1,Po.asks (fun _=>true) (ahB bb ks) (frs pcs (List.replicate pcs.length 0)) 0 pcs.length) /\ (0 < pcs.length->Po.Right (ahB bb ks) (frs pcs (List.replicate pcs.length 0)) w1 0 pcs.length):=by
  by_cases hz:0 < pcs.length
  .obtain ⟨w1,a1,a2⟩:=Po.make_runs (ah:=ahB bb ks) (fr:=frs pcs (List.replicate pcs.length 0)) (w:=wn) [] hz hwn
   exact ⟨w1,a1,fun _=>a2⟩
  .rw [Po.mts_leaf (by omega),Po.asks_leaf (by omega)]
   exact ⟨wn,rfl,fun z=>absurd z hz⟩
 have hask:=asks_fine (ks:=ks) (ts:=List.replicate pcs.length 0) (D:=fun _=>true) (ah:=ahB bb ks) (f:=0) (b:=pcs.length) (fun ys h=>(hpc ys h).2) hdj
 have hal:=ZDe (pcs:=pcs) (ts:=List.replicate pcs.length 0) (D:=fun _=>true) (ah:=ahB bb ks) (n:=pcs.length)
 refine iX.meth (by walk_at "lk") (iX.get TX.cl_PX TX.n_PX_meetings (by walk_at "lk") (iX.get TX.cl_PX TX.n_PX_went_on (by walk_at "lk") ?_))
 have sM:=st.newS gml
 refine ⟨mo,ks,xs,a,rl,ru,tl,g,lg,x,pl,tk,ml,wd,ml,wd,pr,mvs,Po.mts 0 pcs.length,wn,w1,_,pcs.length,1,kvs,rfl,stX,iX,nx,sM,hmlX,hMsX,by rw [Po.mts_len];omega,fun m hm=>?_,dtn,by omega,hrun,hask,.inl rfl,by omega,(fun k n H' d pr' e1 e2 e3 e4 e5 e6 e7=>ex k n H' d pr' e1 e2 e3 e4 (fun b o n1 n2 h=>e5 b o n2 (kX b o (fun z=>by rw [z,gwd] at h;cases h) (upH b o n1 h))) e6 e7),fun d H14 kvs' f14 hd14 dt14 st14=>?_⟩
 .have:=Po.mts_mem (a:=m.1) (m:=m.2.1) (c:=m.2.2) _ _ hm
  omega
 have i14:=ZB8 f14 nx iX
 refine i14.set TX.cl_PX TX.n_PX_went_on (fun H15 i15 k15=>?_) ⟨_,by walk_at "lk"⟩
 have ndx:d≠x:=fun z=>by
  obtain ⟨_,_,e1,_⟩:=iX.ex
  rw [z,e1] at hd14;cases hd14
 have e15:∀ b o,b≠x->H14 b=some o->H15 b=some o:=fun b o n h=>by rw [k15 b n];exact h
 have gd:H d=none:=by
  cases e:H d with
  | none=>rfl
  | some o=>
   have h1:=upH d o ndx e
   by_cases z:d=wd
   .rw [z,dtn.hd] at hd14;cases hd14
   .rw [kX d o z h1] at hd14;cases hd14
 have pbX:PB bb C_PX X x a pl tk ml wd pls pcs:=⟨iX,kX _ _ npl pb12.hpl,pb12.len,fun j l ys h1 h2=>kX _ _ (npls l (yAN h1)).1 (pb12.pc j l ys h1 h2)⟩
 have pb14:=pbX.fr f14 nx (st.newS gpl) fun l h=>st.newS (gpls l h)
 obtain ⟨dx14,fs14,e14,_⟩:=i14.ex
 have tX:∀ b o,H14 b=some o->(∀ C d f,o≠.ins C d f)->H15 b=some o:=fun b o h n=>e15 b o (fun z=>by
  rw [z,e14] at h;exact n _ _ _ (Option.some.inj h).symm) h
 refine q pl tk ml d pls w1 H15 kvs' (fun b o n1 n2 h=>?_) ⟨⟨i15.congr fun f=>by
   simp only [ZAR,lkc]
   by_cases z:f=Str.ofString "went_on"
   .rw [if_pos z,if_pos z]
   .rw [if_neg z,if_neg z,if_neg z],tX _ _ pb14.hpl (fun _ _ _ z=>by cases z),pb14.len,fun j l ys h1 h2=>tX _ _ (pb14.pc j l ys h1 h2) (fun _ _ _ z=>by cases z)⟩,tX _ _ (f14 _ _ (st.newS gtk) (kX _ _ ntk htk12)) (fun _ _ _ z=>by cases z),⟨mvs,tX _ _ (f14 _ _ sM hmlX) (fun _ _ _ z=>by cases z),(hMsX.keep fun t z h=>f14 _ _ (stX.tupS h (fun _ z=>by cases z) (fun _ _ _ z=>by cases z)) h).keep fun t z h=>tX _ _ h (fun _ _ _ z=>by cases z)⟩,?_,by rw [yBV],?_⟩ hright ⟨gpl,gtk,gml,gd,gpls⟩ ?_
 .have n3:b≠wd:=fun z=>by rw [z,gwd] at h;cases h
  exact e15 b o n1 (f14 _ _ n2 (kX b o n3 (upH b o n1 h)))
 .have e:pcs.length+1 * (Po.mts 0 pcs.length).length=2 * pcs.length-1:=by rw [Po.mts_len];omega
  rw [e] at dt14
  exact ⟨e15 d _ ndx dt14.hd,dt14.sm,dt14.len,fun a c v h=>let ⟨u,h1,h2⟩:=dt14.val a c v h;⟨u,h1,h2.keep fun t z y=>tX _ _ y (fun _ _ _ z=>by cases z)⟩⟩
 .exact ⟨ntkpl,ntkml,fun l h=>(npls l h).2⟩
 .exact st14.butI i14 nx e15
theorem ok_Pour_take {f:Addr} {fd:FuncData} (F:Fun K "take" "Pour.take" ZBF f fd) (T:Bt K mg C_Pour C_LastPour C_Asker C_AskedRule C_HallError C_NoRule C_NoPaper C_NoPlace C_NoKey C_NoRow C_NoOrder C_TooFar C_Spent) (TX:BtX K C_PX)
  (t_Pour_top:Mt P w K mg base CX0 C_PX "top" 1 ["self"] (ZEg bb C_PX))
  (t_Pour_front_of:Mt P w K mg base CX0 C_PX "front_of" 1 ["self","piece","taken"] (ZBl bb C_PX))
  (t_Pour_held:Mt P w K mg base (CXE P w) C_PX "held" 6 ["self","meetings","went_on"] (ZDg C_Asker C_AskedRule C_Spent bb C_PX))
 :FnOk P w K mg base (CXE P w) 7 f fd ["self"] (ZDf C_Asker C_AskedRule C_Spent bb C_PX):=by
 refine F.okX sc_Pour_take (fun vs H Q E h=>?_) (fun cdv A outer s H vs Q E hr h=>?_)
 .obtain ⟨mo,ks,xs,a,rl,ru,tl,g,lg,p,pl,tk,ml,wd,pr,pls,pcs,ts,w0,kvs,rfl,st,pa,px,hn,hpc,hdj,hR,hpr,ex,q1,q2⟩:=h
  rfl
 obtain ⟨mo,ks,xs,a,rl,ru,tl,g,lg,p,pl,tk,ml,wd,pr,pls,pcs,ts,w0,kvs,rfl,st,pa,px,hn,hpc,hdj,hR,hpr,ex,q1,q2⟩:=h
 refine ⟨_,(ZAD (PS.nox (ZAW (i:=1) sc_Pour_take.nd rfl (by walk_at "o") (ZCz t_Pour_top (hr.mono (by decide)) ZAp (pv 0))))
  (ZAD (PS.nox (ZBg (ZAT ZC0 (pv 1) ZBD (ZAV _))
  (ZAJ (ZAX ZBD)) ZAj))
  (ZAN
  (ZAD (PS.nox (ZAW (i:=2) sc_Pour_take.nd rfl (by walk_at "o") (ZA7 ZBd (pv 1) ZAI (fun _ _=>rfl))))
  (ZAD (PS.nox (ZAW (i:=3) sc_Pour_take.nd rfl (by walk_at "o") (ZAa ZB7 (ZA7 ZA1 (ZAh (pv 0) rfl) (pv 2) (fun _ _=>rfl)) ZAI)))
  (ZAN
  (ZAD (PS.nox (ZCl (i:=4) sc_Pour_take.nd rfl (Or.inl rfl) rfl (k:=1) (js:=[2]) (N':=["meeting","piece"]) (by rfl) (ZCm (ZAh (pv 0) rfl)) (fun _ _ _ _=>ZAk (i:=0) (show (["meeting","piece"]:List Str).Nodup by decide +kernel) rfl (by walk_at "o")) (fun _ _ _ _=>(pifs_one (PW.pt (ZEF (ZAT op_le (ZA7 (ix_tupK K) (pv 0) ZAI (fun _ _=>rfl)) (pv 1) (ZAV _)) (ZDQ (ZAT ZDl (pv 1) (ZA7 (ix_tupK K) (pv 0) ZAI (fun _ _=>rfl)) (ZAV _))))))) (fun _ _ _ _=>(pv 0))))
  (ZAN
  (ZAD (PS.nox (ZAW (i:=5) sc_Pour_take.nd rfl (by walk_at "o") (ZCd (call_dictC) rfl T.b_dict PyProof.Rows.boot_dict (ZAA (ZAh (pv 0) rfl) ZAE))))
  (ZAN
  (ZAD (PS.nox (ZDx (ZEU hr) (pv 5) (ZBV (ZAA (pv 2) (ZAA (ZAa ZB7 (pv 2) ZAI) ZAE))) (ZDB t_Pour_front_of (hr.mono (by decide)) ZAp (pv 0) (ZAA (pv 2) (ZAA (pv 3) ZAE))) rfl))
  (ZAN
  (ZAD (ZBs (pv 0) (ZDB t_Pour_held (hr.mono (by decide)) ZDz (pv 0) (ZAA (pv 4) (ZAA (pv 5) ZAE))) rfl)
  (ZAN
  (ZAD (PS.nox (ZEG (pv 3) (pg_sub (ZAh (pv 0) rfl) (pv 2) set_list)))
  (ZAJ (PS.nox (ZAX (ZA7 ZBd (pv 1) ZAI (fun _ _=>rfl)))))))))))))))))))),?_⟩
 walk_at "rd"
 have htop:w0 0 pcs.length=some (if 0 < pcs.length then Po.best (ahB bb ks) (frs pcs ts) 0 pcs.length else none)∨2 * pcs.length-1=0 /\ (if 0 < pcs.length then Po.best (ahB bb ks) (frs pcs ts) 0 pcs.length else none)=none:=by
  by_cases hz:0 < pcs.length
  .rw [if_pos hz];exact .inl ((hR hz).top hz)
  .rw [if_neg hz];exact .inr ⟨by omega,rfl⟩
 refine pa.pb.hp.meth (by walk_at "lk") ⟨p,a,pl,tk,ml,wd,pls,pcs,w0,_,kvs,_,rfl,pa.pb,pa.hwd,htop,fun u H1 s1 fv=>?_⟩
 walk_at "rd"
 by_cases hz:0 < pcs.length
 case neg=>
  rw [if_neg hz] at fv
  cases (show u=V.non from fv)
  rw [if_pos rfl]
  exact q1 (.inl (by omega)) H1 s1
 rw [if_pos hz] at fv
 have hR:=hR hz
 cases htp:Po.best (ahB bb ks) (frs pcs ts) 0 pcs.length with
 | none=>
  rw [htp] at fv
  cases (show u=V.non from fv)
  rw [if_pos rfl]
  exact q1 (.inr htp) H1 s1
 | some xi=>
 rw [htp] at fv
 obtain ⟨x,i⟩:=xi
 obtain ⟨t0,rfl,ht0⟩:=fv
 rw [if_neg (fun z=>by cases z)]
 obtain ⟨j0,_,hj0,hj1⟩:=Po.best_mem _ _ hz htp
 obtain ⟨zs,hzs,hxz,hij⟩:=ZCn hj1
 dsimp only at hxz hij
 subst hij
 obtain ⟨t,ht⟩:∃ t,ts[i]?=some t:=⟨_,yAD (show i < ts.length by rw [pa.tlen];exact hj0)⟩
 have st1:=st.mono s1
 have pa1:=pa.mono s1
 clear htop q1
 refine ZAU ?_
 walk_at "rd"
 refine ZBW (SqT.of ht0) (ZAY (by decide) rfl) ?_
 walk_at "rd"
 refine pa1.pb.hp.get TX.cl_PX TX.n_PX_taken (by walk_at "lk") (ZBX (SqL.of pa1.htk) (ZEy ht) ?_)
 walk_at "rd"
 rw [show (t:Int)+1=((t+1:Nat):Int) by omega]
 refine ZAU ?_
 walk_at "rd"
 obtain ⟨mvs,hml1,hMs1⟩:=pa1.hml
 refine pa1.pb.hp.get TX.cl_PX TX.n_PX_meetings (by walk_at "lk") ?_
 have hml':=hMs1.len
 rw [Po.mts_len] at hml'
 refine ZCu (SqL.of hml1) (by omega) (fun k ys σ H'=>∃ v,σ=[v,some (.int (i:Int))] /\ Same H1 H' /\ MsAt H' ys (((Po.mts 0 pcs.length).take k).filter (Po.onWay i))) ⟨_,rfl,.refl _,MsAt.nil⟩ (fun k ys σ H' _ ⟨_,_,e,hM⟩=>⟨SqL.of (e _ _ hml1),by rw [hM.len];exact yAF (List.length_filter_le _ _) (by rw [yBC];omega)⟩) ?_ ?_
 .rintro k ys u σ H' hk hu ⟨v,rfl,sA,hM⟩
  obtain ⟨m,hm⟩:∃ m,(Po.mts 0 pcs.length)[k]?=some m:=⟨_,yAD (by rw [Po.mts_len];omega)⟩
  obtain ⟨tm,hm1,hm2⟩:=hMs1.get k m hm
  rw [hu] at hm1
  cases hm1
  have hm3:=sA _ _ hm2
  have etk:(Po.mts 0 pcs.length).take (k+1)=(Po.mts 0 pcs.length).take k++[m]:=by rw [List.take_add_one,hm];rfl
  walk_at "rd"
  refine ZBW (SqT.of hm3) (ZAY (by decide) rfl) ?_
  walk_at "rd"
  by_cases h1:(m.1:Int) <= i
  .rw [if_pos h1]
   refine ZBW (SqT.of hm3) (ZAY (by decide) rfl) ?_
   walk_at "rd"
   by_cases h2:(i:Int) < m.2.2
   .rw [if_pos h2]
    refine Nxt.of hk ⟨_,rfl,sA,?_⟩
    rw [etk,yBM,yCT (by unfold Po.onWay;rw [decide_eq_true (by omega),decide_eq_true (by omega)];rfl)]
    exact hM.app (MsAt.one hm3)
   .rw [if_neg h2]
    refine Nxt.of hk ⟨_,rfl,sA,?_⟩
    rw [etk,yBM,yCU (by unfold Po.onWay;rw [decide_eq_false (show ¬ i < m.2.2 by omega),Bool.and_false];decide),List.filter_nil,yAY]
    exact hM
  .rw [if_neg h1]
   refine Nxt.of hk ⟨_,rfl,sA,?_⟩
   rw [etk,yBM,yCU (by unfold Po.onWay;rw [decide_eq_false (show ¬ m.1 <= i by omega),Bool.false_and];decide),List.filter_nil,yAY]
   exact hM
 rintro ys σ H2 ⟨v,rfl,s2,hM2⟩ wy hwy0
 rw [hMs1.len,List.take_of_length_le (yAA _)] at hM2
 obtain ⟨H3,e3,s3,h3⟩:=newH hwy0 (.lst ys)
 rw [e3];clear e3
 have S3:=s1.trans (s2.trans s3)
 have pa3:=pa.mono S3
 refine ZAU ?_
 walk_at "rd"
 refine pa3.pb.hp.get TX.cl_PX TX.n_PX_went_on (by walk_at "lk") ⟨wd,kvs,rfl,pa3.hwd.hd,pa3.hwd.sm,fun d2 hd2=>?_⟩
 obtain ⟨H4,e4,s4,h4⟩:=newH hd2 (.dT kvs)
 rw [e4];clear e4
 have S4:=S3.trans s4
 have pa4:=pa.mono S4
 have dt4:DT H4 d2 w0 (2 * pcs.length-1) kvs:=⟨h4,pa4.hwd.sm,pa4.hwd.len,pa4.hwd.val⟩
 refine ZAU ?_
 walk_at "rd"
 refine pa4.pb.hp.meth (by walk_at "lk") ⟨p,a,pl,tk,ml,wd,pls,pcs,i,t+1,zs,rfl,pa4.pb,hzs,fun u H5 s5 fv=>?_⟩
 walk_at "rd"
 rw [show (i:Int)+1=((i+1:Nat):Int) by omega]
 refine ⟨ZAS (by decide),fun k1 hk1=>?_⟩
 obtain ⟨H6,e6,s6,h6⟩:=newH hk1 (.tup [.int (i:Int),.int ((i+1:Nat):Int)])
 rw [e6];clear e6
 have dt6:=(dt4.mono s5).mono s6
 have hB:2 * pcs.length-1 <= 400:=by omega
 refine ⟨d2,_,rfl,DPut.t (k:=kQ i (i+1)) dt6.hd h6 (ZBm (by have:=dt6.len;omega)),?_⟩
 have dt7:=dt6.put (a:=i) (c:=i+1) (k:=0) (by omega) (by omega) (fv.keep fun _ _ z=>s6 _ _ z) (.inr (by rw [hR.1 i (yAG _) hj0];rfl))
 rw [Nat.add_zero] at dt7
 have S6:=S4.trans (s5.trans s6)
 have hd2H:H d2=none:=S3.free hd2
 have k7:∀ b o,b≠d2->H6 b=some o->upd H6 d2 (.dT (putK kvs (kQ i (i+1)) u)) b=some o:=fun b o n h=>by rw [ZAG n];exact h
 have S7:Same H (upd H6 d2 (.dT (putK kvs (kQ i (i+1)) u))):=fun b o h=>k7 b o (ZAC h hd2H) (S6 _ _ h)
 have hwy6:=(s4.trans (s5.trans s6)) _ _ h3
 have hwy7:=k7 wy _ (fun z=>by rw [z,dt6.hd] at hwy6;cases hwy6) hwy6
 have hM7:=hM2.keep fun b z h=>by
  have h6':=(s3.trans (s4.trans (s5.trans s6))) _ _ h
  exact k7 b _ (fun z=>by rw [z,dt6.hd] at h6';cases h6') h6'
 have efr:ZCV zs (t+1) i=frs pcs (ts.set i (t+1)) i:=(ZEv hzs (by rw [yCV,if_pos rfl,if_pos (by rw [pa.tlen];exact hj0)])).symm
 rw [efr] at dt7
 have k71:∀ b z,H1 b=some (.tup z)->upd H6 d2 (.dT (putK kvs (kQ i (i+1)) u)) b=some (.tup z):=fun b z h=>by
  have h6':=(s2.trans (s3.trans (s4.trans (s5.trans s6)))) _ _ h
  exact k7 b _ (fun z=>by rw [z,dt6.hd] at h6';cases h6') h6'
 generalize upd H6 d2 (.dT (putK kvs (kQ i (i+1)) u))=H7 at dt7 S7 hwy7 hM7 k71 ⊢
 generalize putK kvs (kQ i (i+1)) u=kv7 at dt7
 have k7t:∀ b z,H1 b=some (.tup z)->H7 b=some (.tup z):=fun b z h=>k71 b z h
 have st7:=st.mono S7
 have pa7:=pa.mono S7
 have ht7:=ht0
 obtain ⟨w1,hrun,hR1⟩:=Po.take_runs (ah:=ahB bb ks) (fr:=frs pcs ts) (fr':=frs pcs (ts.set i (t+1))) (w:=w0) [] hj0 hR fun j hj=>frs_set hj
 rw [List.nil_append] at hrun
 have hask:=asks_fine (ks:=ks) (ts:=ts.set i (t+1)) (D:=Po.onWay i) (ah:=ahB bb ks) (f:=0) (b:=pcs.length) hpc hdj
 have hal:=ZDe (pcs:=pcs) (ts:=ts.set i (t+1)) (D:=Po.onWay i) (ah:=ahB bb ks) (n:=pcs.length)
 have gwy:H wy=none:=(s1.trans s2).free hwy0
 clear k7 dt6 dt4 s6 S6 hwy6 h6 hk1
 refine ZAU ?_
 walk_at "rd"
 refine pa7.pb.hp.meth (by walk_at "lk") ⟨mo,ks,xs,a,rl,ru,tl,g,lg,p,pl,tk,ml,wd,wy,d2,pr,ys,_,_,w1,_,2 * pcs.length-1,0,kv7,rfl,st7,pa7.pb.hp,px.p,st.newS gwy,hwy7,hM7,yAF (List.length_filter_le _ _) (by rw [Po.mts_len];omega),fun m hm=>?_,dt7,by omega,hrun,hask,.inr ⟨rfl,fun m hm=>?_⟩,by omega,ex.sub S7.fr (fun n hn=>⟨n,⟨x,i,t,htp,ht,hn⟩,yAA _⟩),fun d8 H8 kv8 f8 hd8 dt8 st8=>?_⟩
 .have:=Po.mts_mem (a:=m.1) (m:=m.2.1) (c:=m.2.2) _ _ (yBS.mp hm).1
  omega
 .have hm':=(yBS.mp hm).1
  unfold Po.put
  split
  .rfl
  .exact Right.at hR hm'
 have i8:=ZB8 f8 px.p pa7.pb.hp
 refine i8.set TX.cl_PX TX.n_PX_went_on (fun H9 i9 k9=>?_) ⟨_,by walk_at "lk"⟩
 have i9':Ins H9 p C_PX (fP a pl tk ml d8):=i9.congr fun f=>by
  simp only [ZAR,lkc]
  by_cases z:f=Str.ofString "went_on"
  .rw [if_pos z,if_pos z]
  .rw [if_neg z,if_neg z,if_neg z]
 obtain ⟨dx8,fs8,e8,_⟩:=i8.ex
 have e9:∀ b o,b≠p->H8 b=some o->H9 b=some o:=fun b o n h=>by rw [k9 b n];exact h
 have tX:∀ b o,H8 b=some o->(∀ C d f,o≠.ins C d f)->H9 b=some o:=fun b o h n=>e9 b o (fun z=>by rw [z,e8] at h;exact n _ _ _ (Option.some.inj h).symm) h
 have htk9:=tX _ _ (f8 _ _ px.tk pa7.htk) (fun _ _ _ z=>by cases z)
 have st9:=st8.butI i8 px.p e9
 have np8:d8≠p:=fun z=>by
  obtain ⟨_,_,e1,_⟩:=pa7.pb.hp.ex
  rw [z,e1] at hd8;cases hd8
 have ntk8:d8≠tk:=fun z=>by rw [z,pa7.htk] at hd8;cases hd8
 refine ZAU ?_
 walk_at "rd"
 refine i9'.get TX.cl_PX TX.n_PX_taken (by walk_at "lk") ?_
 refine ⟨tk,_,_,_,rfl,rfl,htk9,ixN_of (by omega) (by rw [yAB,pa.tlen];omega),?_⟩
 rw [Int.toNat_natCast]
 have e10:∀ b o,b≠tk->H9 b=some o->upd H9 tk (.lst ((nL ts).set i (.int ((t+1:Nat):Int)))) b=some o:=fun b o n h=>by rw [ZAG n];exact h
 have h10:upd H9 tk (.lst ((nL ts).set i (.int ((t+1:Nat):Int)))) tk=some (.lst (nL (ts.set i (t+1)))):=by
  rw [ZAF];unfold nL;rw [List.map_set]
 generalize upd H9 tk (.lst ((nL ts).set i (.int ((t+1:Nat):Int))))=H10 at e10 h10 ⊢
 have npt:p≠tk:=fun z=>by
  obtain ⟨_,_,e1,_⟩:=i9'.ex
  rw [z,htk9] at e1;cases e1
 have up:∀ b o,b∉[a,lg,tl]->b≠tk->H7 b=some o->(∀ C d f,o≠.ins C d f)->H10 b=some o:=fun b o n1 n2 h n3=>e10 b o n2 (tX _ _ (f8 _ _ n1 h) n3)
 have tS:∀ b z,H7 b=some (.tup z)->H10 b=some (.tup z):=fun b z h=>up b _ (st7.tupS h (fun _ z=>by cases z) (fun _ _ _ z=>by cases z)) (fun y=>by rw [y,pa7.htk] at h;cases h) h (fun _ _ _ z=>by cases z)
 have t10:=tS _ _ (k7t t0 _ ht0)
 obtain ⟨mv7,hml7,hMs7⟩:=pa7.hml
 rw [Nat.zero_mul,Nat.add_zero] at dt8
 have pa10:PourAt bb C_PX H10 p a pl tk ml d8 pls pcs (ts.set i (t+1)) w1 kv8:=⟨⟨ZB8 (S:=[tk]) (fun b o n h=>e10 b o (fun z=>n (by rw [z];exact yAE)) h) (fun z=>npt (yAK.mp z)) i9',up _ _ px.pl (Ne.symm pa.ne.1) pa7.pb.hpl (fun _ _ _ z=>by cases z),pa.pb.len,fun j l ys h1 h2=>up _ _ (px.ls l (yAN h1)) (pa.ne.2.2 l (yAN h1)) (pa7.pb.pc j l ys h1 h2) (fun _ _ _ z=>by cases z)⟩,h10,⟨mv7,up _ _ px.ml (Ne.symm pa.ne.2.1) hml7 (fun _ _ _ z=>by cases z),hMs7.keep tS⟩,⟨e10 _ _ ntk8 (tX _ _ dt8.hd (fun _ _ _ z=>by cases z)),dt8.sm,dt8.len,fun b c v h=>let ⟨u,h1,h2⟩:=dt8.val b c v h;⟨u,h1,h2.keep fun t z y=>e10 _ _ (fun e=>by rw [e,f8 _ _ px.tk pa7.htk] at y;cases y) (tX _ _ y (fun _ _ _ z=>by cases z))⟩⟩,by rw [List.length_set];exact pa.tlen,pa.ne⟩
 have st10:=st9.apartP (S:=[tk]) (H':=H10) (fun b o n h=>e10 b o (fun z=>n (by rw [z];exact yAE)) h) (fun b hb=>by rw [yAK.mp hb];exact ⟨_,htk9⟩) ⟨fun z=>px.r (yAK.mp z),fun z=>px.tk (by rw [<- yAK.mp z];exact yAJ _ yAE),fun z=>px.tk (by rw [<- yAK.mp z];exact yAJ _ (yAJ _ yAE))⟩
 walk_at "rd"
 refine ZBW (SqT.of t10) (ZAY (by decide) rfl) ?_
 refine q2 x i t hz htp hj0 ht d8 w1 H10 kv8 (fun b o n h=>?_) pa10 hR1 st10
 have m:∀ c,c∈[p,tk,a,lg,tl]->b≠c:=fun c hc z=>n (by rw [z];exact hc)
 exact e10 b o (m tk (by simp)) (e9 b o (m p (by simp)) (f8 b o (fun z=>n (yAJ _ (yAJ _ z))) (S7 _ _ h)))
theorem ok_Asker_many {f:Addr} {fd:FuncData} (F:Fun K "many" "Asker.many" ZA5 f fd) (T:Bt K mg C_Pour C_LastPour C_Asker C_AskedRule C_HallError C_NoRule C_NoPaper C_NoPlace C_NoKey C_NoRow C_NoOrder C_TooFar C_Spent)
 :FnOk P w K mg base CX0 1 f fd ["self"] (ZEh C_Asker):=by
 refine F.ok sc_Asker_many (fun vs H Q E h=>?_) (fun cdv A outer s H vs Q E hr h=>?_)
 .obtain ⟨a,rl,ru,tl,m,n,xs,rfl,ha,hrl,q⟩:=h
  rfl
 obtain ⟨a,rl,ru,tl,m,n,xs,rfl,ha,hrl,q⟩:=h
 refine ⟨_,(ZAJ (ZAX (ZAO ZAP rfl T.b_len PySem.boot_len (ZAA (ZAh (pv 0) rfl) ZAE)))),?_⟩
 walk_at "rd"
 refine ha.get T.cl_Asker T.n_Asker_row (by walk_at "lk") ⟨rl,xs,rfl,.inl (SqL.of hrl),q⟩
theorem ok_so_manieth {f:Addr} {fd:FuncData} (F:Fun K "so_manieth" "so_manieth" ZA2 f fd) (T:Bt K mg C_Pour C_LastPour C_Asker C_AskedRule C_HallError C_NoRule C_NoPaper C_NoPlace C_NoKey C_NoRow C_NoOrder C_TooFar C_Spent)
  (t_Asker_many:Mt P w K mg base CX0 C_Asker "many" 1 ["self"] (ZEh C_Asker))
  (t_Pour_first:Mt P w K mg base CX0 C_Pour "first" 2 ["self"] (ZCx false C_Pour))
  (t_LastPour_first:Mt P w K mg base CX0 C_LastPour "first" 2 ["self"] (ZCx true C_LastPour))
  (t_Pour_take:Mt P w K mg base (CXE P w) C_Pour "take" 7 ["self"] (ZDf C_Asker C_AskedRule C_Spent false C_Pour))
  (t_LastPour_take:Mt P w K mg base (CXE P w) C_LastPour "take" 7 ["self"] (ZDf C_Asker C_AskedRule C_Spent true C_LastPour))
  (k_LastPour:Kl P w K mg base (CXE P w) "LastPour" C_LastPour 10 ["self","asker","pieces"] (ZBk C_Asker C_AskedRule C_Spent true C_LastPour))
  (k_Pour:Kl P w K mg base (CXE P w) "Pour" C_Pour 10 ["self","asker","pieces"] (ZBk C_Asker C_AskedRule C_Spent false C_Pour))
 :FnOk P w K mg base (CXE P w) 12 f fd ["asker","many"] (ZCq C_Asker C_AskedRule C_Spent C_NoPlace):=by
 refine F.okX sc_so_manieth (fun vs H Q E h=>?_) (fun cdv A outer s H vs Q E hr h=>?_)
 .obtain ⟨mo,ks,xs,a,rl,ru,tl,g,lg,pr,mi,rfl,st,hk200,hpr,qE,q⟩:=h
  rfl
 obtain ⟨mo,ks,xs,a,rl,ru,tl,g,lg,pr,mi,rfl,st,hk200,hpr,qE,q⟩:=h
 refine ⟨_,(ZAD (PS.nox (ZAW (i:=2) sc_so_manieth.nd rfl (by walk_at "o") (ZCz t_Asker_many (hr.mono (by decide)) ZAp (pv 0))))
  (ZAD (ZBg (PW.pt (ZDP (ZAT ZDl (pv 1) ZAI (ZAV _)) (ZDi (ZAT ZFN (pv 1) (pv 2) (ZAV _)))))
  (ZAJ (ps_raise0 T.xq_NoPlace T.m_NoPlace rfl)) ZAj)
  (ZAN
  (ZAD (PS.nox (ZCl (i:=3) sc_so_manieth.nd rfl (Or.inl rfl) rfl (k:=1) (js:=[]) (N':=["place"]) (by rfl) (ZBU rfl T.b_range (ZAA (pv 2) ZAE)) (fun _ _ _ _=>ZAk (i:=0) (show (["place"]:List Str).Nodup by decide +kernel) rfl (by walk_at "o")) (fun _ _ _ _=>ZCF) (fun _ _ _ _=>(ZAz (ZAA (pv 0) ZAE)))))
  (ZAD (PS.nox (ZAW (i:=4) sc_so_manieth.nd rfl (by walk_at "o") (ZBh op_gt (pv 1) (ZAa ZBc (ZAa ZBc (pv 2) ZAI) (pv 1)) (ZAV _))))
  (ZAN
  (ZAD (ZAW (i:=5) sc_so_manieth.nd rfl (by walk_at "o") (ZBb (ZCK (pv 4)) (ZDy k_LastPour (hr.mono (by decide)) rfl ZDz (ZAA (pv 0) (ZAA (pv 3) ZAE))) (ZDy k_Pour (hr.mono (by decide)) rfl ZDz (ZAA (pv 0) (ZAA (pv 3) ZAE)))))
  (ZAN
  (ZAD (PS.inX (ZAW (i:=6) sc_so_manieth.nd rfl (by walk_at "o") (ZAO call_sortedB rfl T.b_sorted PyProof.Rows.boot_sorted (ZAA (pe_compX (E:=E) ⟨rfl,rfl⟩ (fun _ _ z=>z.unwish) rfl (k:=1) (js:=[5]) (N':=["turn","pour"]) (by rfl) (ZBU rfl T.b_range (ZAA (ZAO (call_min2 rfl) rfl T.b_min PyProof.Rows.boot_min (ZAA (pv 1) (ZAA (ZAa ZBc (ZAa ZBc (pv 2) ZAI) (pv 1)) ZAE))) ZAE)) (fun _ _ _ _=>ZAk (i:=0) (show (["turn","pour"]:List Str).Nodup by decide +kernel) rfl (by walk_at "o")) (fun _ _ _ _=>ZCF) (fun _ _ _ _ _ hp=>(pe_either (ZCz t_Pour_take (hr.mono (by decide)) hp (pv 1)) (ZCz t_LastPour_take (hr.mono (by decide)) hp (pv 1))))) ZAE))))
  (ZAN
  (ZAD (PS.nox (ZAW (i:=7) sc_so_manieth.nd rfl (by walk_at "o") (pe_either (ZCz t_Pour_first (hr.mono (by decide)) ZAp (pv 5)) (ZCz t_LastPour_first (hr.mono (by decide)) ZAp (pv 5)))))
  (ZAN
  (ZAD (PS.nox (ZCl (i:=8) sc_so_manieth.nd rfl (Or.inl rfl) rfl (k:=1) (js:=[7,6]) (N':=["other","place","taken"]) (by rfl) (ZBU rfl T.b_range (ZAA (pv 2) ZAE)) (fun _ _ _ _=>ZAk (i:=0) (show (["other","place","taken"]:List Str).Nodup by decide +kernel) rfl (by walk_at "o")) (fun _ _ _ _=>(pifs_one (PW.pt (ZEF (ZAT ZEo (pv 0) (pv 1) (ZAV _)) (ZDQ (ZAT (op_notIn_seqK K) (pv 0) (pv 2) rfl)))))) (fun _ _ _ _=>(pv 0))))
  (ZAN
  (ZAJ (PS.nox (ZAX (ZBb (ZCK (pv 4)) (ZBV (ZAA (pv 8) (ZAA (pv 7) (ZAA (pv 6) ZAE)))) (ZBV (ZAA (pv 6) (ZAA (pv 7) (ZAA (pv 8) ZAE)))))))))))))))))))))),?_⟩
 walk_at "rd"
 refine st.ha.meth (by walk_at "lk") ⟨a,rl,ru,tl,_,_,xs,rfl,st.ha,st.hrl,?_⟩
 walk_at "rd"
 rw [st.len]
 by_cases z0:mi < 0
 .rw [if_pos z0]
  exact qE (.inl z0)
 rw [if_neg z0]
 by_cases z1:(ks.length:Int) <= mi
 .rw [if_pos z1]
  exact qE (.inr z1)
 rw [if_neg z1]
 obtain ⟨m,rfl⟩:∃ m:Nat,mi=(m:Int):=⟨mi.toNat,by omega⟩
 have hm:m < ks.length:=by omega
 obtain ⟨ex,q⟩:=q m rfl hm
 clear z0 z1 qE
 refine ZAU ?_
 walk_at "rd"
 refine ZCg (by omega) (fun i ys σ X=>∃ v ls,σ=[v] /\ Same H X /\ ys=ls.map V.ref /\ ls.length=i /\ (∀ (j:Nat) l,ls[j]?=some l->X l=some (.lst (nL [j])))) ⟨_,[],rfl,.refl _,rfl,rfl,fun j l h=>by simp at h⟩ (fun i ys σ X ⟨_,ls,_,_,e,e2,_⟩=>by rw [e,yAB,e2];exact yAA _) ?_ ?_
 .rintro i ys σ X hi ⟨v,ls,rfl,sX,rfl,hll,hls⟩
  walk_at "rd"
  rw [Int.zero_add]
  refine ⟨ZAS (by decide),fun l hl=>?_⟩
  refine Nxt.of hi ⟨_,ls++[l],rfl,sX.new hl,by rw [yBB];rfl,by rw [yAC,hll];rfl,fun j l' h=>?_⟩
  by_cases z:j < ls.length
  .rw [yBA z] at h
   exact ZAK hl _ _ _ (hls j l' h)
  .have h1:=(yAL.mp h).1
   rw [yAC,yBP] at h1
   have:j=i:=by omega
   subst this
   rw [yAZ (by omega),hll,yBX] at h
   cases h
   exact ZAF
 rintro ys σ X ⟨v,ls,rfl,sX,rfl,hlsl,hlsat⟩ sl hsl
 rw [Int.toNat_natCast] at hlsl
 obtain ⟨H15,e15,s15,h15⟩:=newH hsl (.lst (ls.map V.ref))
 rw [e15];clear e15
 have S15:=sX.trans s15
 walk_at "rd"
 refine ZAU ?_
 walk_at "rd"
 apply onceX (α:=Bool×Addr×Hp) (fun x=>[some (.ref a),some (.int (m:Int)),some (.int (ks.length:Int)),some (.ref sl),some (.bl (decide ((ks.length:Int)-1-m < m))),some (.ref x.2.1),none,none,none]) (fun x=>x.2.2) (fun x=>x.1=decide (ks.length-1-m < m) /\ ∃ pl tk ml wd pls w kvs,SgAt mo C_Asker C_AskedRule (cond x.1 C_LastPour C_Pour) x.1 H x.2.2 ks xs a rl ru tl g lg x.2.1 pl tk ml wd pls pr 0 w kvs)
 .intro tailp
  by_cases hbb:(ks.length:Int)-1-m < m
  .rw [if_pos hbb]
   have ebb:true=decide (ks.length-1-m < m):=(decide_eq_true (by omega)).symm
   intro po dp hpo hdp npd
   have hpo':upd H15 dp (.own po) po=none:=by rw [ZAG (Ne.symm npd)];exact hpo
   have s16:Same H15 (upd (upd H15 dp (.own po)) po (.ins C_LastPour dp [])):=(ZAK hdp _).trans (ZAK hpo' _)
   have h16:(upd (upd H15 dp (.own po)) po (.ins C_LastPour dp [])) po=some (.ins C_LastPour dp []):=ZAF
   generalize upd (upd H15 dp (.own po)) po (.ins C_LastPour dp [])=H16 at s16 h16 ⊢
   have st15:=st.mono S15
   have npo:=st15.newS hpo
   refine ⟨mo,ks,xs,a,rl,ru,tl,g,lg,po,dp,sl,pr,ls,sg ks.length,rfl,h16,st15.mono s16,s16 _ _ h15,by rw [hlsl,ZBK],fun j l zs h1 h2=>?_,by rw [ZBK];omega,fun ys h=>?_,ZDh,npo,by omega,(fun k n H' d pr' e1 e2 e3 e4 e5 e6 e7=>ex k _ H' d pr' e1 e2 rfl (by rw [e3] at e4;exact yAO e4 (Nat.add_le_add_left (by rw [<- ebb];exact wk_first _ _ _ _) _)) (fun b o n h=>e5 b o (ZAC (S15 _ _ h) hpo) n (s16 _ _ (S15 _ _ h))) e6 e7),fun pl tk ml wd pls w1 H17 kvs k17 pa hright hnew st17=>⟨rfl,?_⟩⟩
   .obtain ⟨rfl,_⟩:=ZED h2
    exact s16 _ _ (s15 _ _ (hlsat j l h1))
   .obtain ⟨x,hx,rfl⟩:=ZEC h
    exact ⟨by rw [yBP];decide,fun y hy=>by rw [yAK.mp hy];omega⟩
   have frA:∀ b,H16 b=none->H b=none:=fun b h=>S15.free (s16.free h)
   refine tailp (true,po,H17) ⟨ebb,pl,tk,ml,wd,pls,w1,kvs,⟨st17,pa,hright,⟨(fun z=>by have:=frA tk hnew.2.1;rw [<- z,st.hrl] at this;cases this),npo,st.newS (frA _ hnew.1),st.newS (frA _ hnew.2.1),st.newS (frA _ hnew.2.2.1),fun l h=>st.newS (frA _ (hnew.2.2.2.2 l h))⟩,fun b o m h=>?_,S15.free hpo,frA _ hnew.2.1⟩⟩
   exact k17 b o (fun z=>m (by rw [z];exact yAE)) (fun z=>m (yAJ _ (yAJ _ z))) (s16 _ _ (S15 _ _ h))
  .rw [if_neg hbb]
   have ebb:false=decide (ks.length-1-m < m):=(decide_eq_false (by omega)).symm
   intro po dp hpo hdp npd
   have hpo':upd H15 dp (.own po) po=none:=by rw [ZAG (Ne.symm npd)];exact hpo
   have s16:Same H15 (upd (upd H15 dp (.own po)) po (.ins C_Pour dp [])):=(ZAK hdp _).trans (ZAK hpo' _)
   have h16:(upd (upd H15 dp (.own po)) po (.ins C_Pour dp [])) po=some (.ins C_Pour dp []):=ZAF
   generalize upd (upd H15 dp (.own po)) po (.ins C_Pour dp [])=H16 at s16 h16 ⊢
   have st15:=st.mono S15
   have npo:=st15.newS hpo
   refine ⟨mo,ks,xs,a,rl,ru,tl,g,lg,po,dp,sl,pr,ls,sg ks.length,rfl,h16,st15.mono s16,s16 _ _ h15,by rw [hlsl,ZBK],fun j l zs h1 h2=>?_,by rw [ZBK];omega,fun ys h=>?_,ZDh,npo,by omega,(fun k n H' d pr' e1 e2 e3 e4 e5 e6 e7=>ex k _ H' d pr' e1 e2 rfl (by rw [e3] at e4;exact yAO e4 (Nat.add_le_add_left (by rw [<- ebb];exact wk_first _ _ _ _) _)) (fun b o n h=>e5 b o (ZAC (S15 _ _ h) hpo) n (s16 _ _ (S15 _ _ h))) e6 e7),fun pl tk ml wd pls w1 H17 kvs k17 pa hright hnew st17=>⟨rfl,?_⟩⟩
   .obtain ⟨rfl,_⟩:=ZED h2
    exact s16 _ _ (s15 _ _ (hlsat j l h1))
   .obtain ⟨x,hx,rfl⟩:=ZEC h
    exact ⟨by rw [yBP];decide,fun y hy=>by rw [yAK.mp hy];omega⟩
   have frA:∀ b,H16 b=none->H b=none:=fun b h=>S15.free (s16.free h)
   refine tailp (false,po,H17) ⟨ebb,pl,tk,ml,wd,pls,w1,kvs,⟨st17,pa,hright,⟨(fun z=>by have:=frA tk hnew.2.1;rw [<- z,st.hrl] at this;cases this),npo,st.newS (frA _ hnew.1),st.newS (frA _ hnew.2.1),st.newS (frA _ hnew.2.2.1),fun l h=>st.newS (frA _ (hnew.2.2.2.2 l h))⟩,fun b o m h=>?_,S15.free hpo,frA _ hnew.2.1⟩⟩
   exact k17 b o (fun z=>m (by rw [z];exact yAE)) (fun z=>m (yAJ _ (yAJ _ z))) (s16 _ _ (S15 _ _ h))
 rintro ⟨bb,po,H17⟩ ⟨ebb,pl,tk,ml,wd,pls,w1,kvs,W0⟩
 dsimp only at ebb W0
 obtain ⟨k,ek⟩:∃ k,min m (ks.length-1-m)=k:=⟨_,rfl⟩
 rw [<- ebb,ek] at q ex
 clear sX hlsat h15 S15 hsl s15 hlsl
 have hpcs:∀ ys∈sg ks.length,∀ y∈ys,y < ks.length:=fun ys h y hy=>by
  obtain ⟨x,hx,rfl⟩:=ZEC h
  rw [yAK.mp hy];exact hx
 have hz:0 < (sg ks.length).length:=by rw [ZBK];omega
 refine ZAU ?_
 walk_at "rd"
 refine ⟨_,_,rfl,?_⟩
 rw [show (if (ks.length:Int)-1-m < m then (ks.length:Int)-1-m else (m:Int))=(k:Int) by rw [<- ek];split <;> omega]
 refine ZCg (by omega) (fun i ys σ X=>∃ v wd w kvs,σ=[v,some (.ref po)] /\ ys=nL (wk bb ks (sg ks.length) i).2.1 /\ i <= k /\ SgAt mo C_Asker C_AskedRule (cond bb C_LastPour C_Pour) bb H X ks xs a rl ru tl g lg po pl tk ml wd pls pr i w kvs) ⟨_,wd,w1,kvs,rfl,rfl,yAG _,W0⟩ (fun i ys σ X ⟨_,_,_,_,_,e,hi,_⟩=>by rw [e,yAB,(ZE4 bb ks (by omega)).ol];exact yAA _) ?_ ?_
 .rintro i ys σ X hi ⟨v,wd2,w2,kvs2,rfl,rfl,hik,W⟩
  have hi':i < k:=by omega
  have wf:=ZE4 bb ks (n:=ks.length) (k:=i) (by omega)
  obtain ⟨x,j,t,zs,hb,hzs,ht,hx,_⟩:=wf.next (by rw [ZDE];omega)
  have e:=ZDK hb ht
  have hal:=ZDt (bb:=bb) (ks:=ks) (pcs:=sg ks.length) (mo:=8) ZEj ZDh (by rw [ZBK];omega) i (by rw [ZDE];omega)
  rw [ZBK] at hal
  walk_at "rd"
  cases bb
  .refine .inl (W.pa.pb.hp.meth (by walk_at "lk") ⟨mo,ks,xs,a,rl,ru,tl,g,lg,po,pl,tk,ml,wd2,_,pls,sg ks.length,_,w2,kvs2,rfl,W.st,W.pa,W.px,by rw [ZBK];omega,hpcs,ZDh,W.rt,by rw [yAC,yAB];omega,ex.sub W.fr3 (fun n hn=>by obtain ⟨x',i',t',g1,g2,g3⟩:=hn;have g5:=wk_take (k:=k) (by omega) g1 g2 g3;exact ⟨_,rfl,by rw [yAC,yAB];omega⟩),?_,?_⟩)
   .rintro (z | z)
    .rw [ZBK] at z;omega
    .rw [hb] at z;cases z
   intro x' i' t' hz' hb' hi0 ht' wd' w' Y kv' fY paY hRY stY
   rw [hb] at hb'
   cases hb'
   rw [ht] at ht'
   cases ht'
   refine Nxt.of (by omega) ⟨_,wd',w',kv',rfl,?_,by omega,?_⟩
   .rw [e]
    unfold nL
    rw [yBB];rfl
   .refine ⟨?_,?_,?_,W.px,W.fr.trans fY,W.new⟩
    .rw [e,yBB,<- yAW]
     exact stY
    .rw [e];exact paY
    .rw [e];exact fun _=>hRY
  .refine .inr (W.pa.pb.hp.meth (by walk_at "lk") ⟨mo,ks,xs,a,rl,ru,tl,g,lg,po,pl,tk,ml,wd2,_,pls,sg ks.length,_,w2,kvs2,rfl,W.st,W.pa,W.px,by rw [ZBK];omega,hpcs,ZDh,W.rt,by rw [yAC,yAB];omega,ex.sub W.fr3 (fun n hn=>by obtain ⟨x',i',t',g1,g2,g3⟩:=hn;have g5:=wk_take (k:=k) (by omega) g1 g2 g3;exact ⟨_,rfl,by rw [yAC,yAB];omega⟩),?_,?_⟩)
   .rintro (z | z)
    .rw [ZBK] at z;omega
    .rw [hb] at z;cases z
   intro x' i' t' hz' hb' hi0 ht' wd' w' Y kv' fY paY hRY stY
   rw [hb] at hb'
   cases hb'
   rw [ht] at ht'
   cases ht'
   refine Nxt.of (by omega) ⟨_,wd',w',kv',rfl,?_,by omega,?_⟩
   .rw [e]
    unfold nL
    rw [yBB];rfl
   .refine ⟨?_,?_,?_,W.px,W.fr.trans fY,W.new⟩
    .rw [e,yBB,<- yAW]
     exact stY
    .rw [e];exact paY
    .rw [e];exact fun _=>hRY
 rintro ys σ X ⟨v,wd2,w2,kvs2,rfl,rfl,hik,W⟩ l hl0
 rw [Int.toNat_natCast] at W hik ⊢
 obtain ⟨X1,e1,sX1,hX1⟩:=newH hl0 (.lst (nL (wk bb ks (sg ks.length) k).2.1))
 rw [e1];clear e1
 have wf:=ZE4 bb ks (n:=ks.length) (k:=k) (by omega)
 have hol:=wf.ol
 refine ⟨l,(wk bb ks (sg ks.length) k).2.1.map fun (n:Nat)=>(n:Int),rfl,SqL.of (by rw [hX1,nL_ints]),by rw [yAB];omega,fun tkl ms htl0 hperm hsort=>?_⟩
 obtain ⟨T2,eT,hTp,hTs⟩:=nat_sorted hperm hsort
 subst eT
 rw [<- nL_ints]
 obtain ⟨X2,e2,sX2,hX2⟩:=newH htl0 (.lst (nL T2))
 rw [e2];clear e2
 have W2:=(W.mono sX1).mono sX2
 obtain ⟨x,j,t,zs,hb,hzs,ht,hx,_⟩:=wf.next (by rw [ZDE];omega)
 obtain ⟨hxn,hnd,hmem⟩:=pick (show k < ks.length by omega) hb
 have htop:=(W2.rt hz).top hz
 rw [hb] at htop
 have hT2nd:T2.Nodup:=hTp.nodup_iff.mpr hnd
 have hT2:=asc_of hTs hT2nd
 have hT2m:∀ y,y∈T2↔y < ks.length /\ lxB bb ks y x:=fun y=>by rw [hTp.mem_iff];exact hmem y
 have hT2l:T2.length=k:=by rw [hTp.length_eq];exact hol
 have hnewT:H tkl=none:=W.free (sX1.free htl0)
 refine ZAU ?_
 walk_at "rd"
 apply onceX (α:=Hp) (fun _=>[some (.ref a),some (.int (m:Int)),some (.int (ks.length:Int)),some (.ref sl),some (.bl (decide ((ks.length:Int)-1-m < m))),some (.ref po),some (.ref tkl),some (.int (x:Int)),none]) (fun Y=>Y) (fun Y=>Same X2 Y)
 .intro tailp
  cases bb
  .exact .inl (W2.pa.pb.hp.meth (by walk_at "lk") ⟨po,a,pl,tk,ml,wd2,pls,sg ks.length,w2,_,kvs2,some (x,j),rfl,W2.pa.pb,W2.pa.hwd,.inl htop,fun Y sY=>tailp Y sY⟩)
  .exact .inr (W2.pa.pb.hp.meth (by walk_at "lk") ⟨po,a,pl,tk,ml,wd2,pls,sg ks.length,w2,_,kvs2,some (x,j),rfl,W2.pa.pb,W2.pa.hwd,.inl htop,fun Y sY=>tailp Y sY⟩)
 intro Y sY
 have WY:=W2.mono sY
 have hTY:=sY _ _ hX2
 clear hperm hsort htop W W2 hX1 hX2
 refine ZAU ?_
 walk_at "rd"
 refine ZCg (by omega) (fun i ys σ Y'=>∃ v,σ=[v,some (.int (x:Int)),some (.ref tkl)] /\ Y'=Y /\ ys=nL ((List.range i).filter fun y=>decide (y≠x) && !decide (y∈T2))) ⟨_,rfl,rfl,rfl⟩ (fun i ys σ Y' ⟨_,_,_,e⟩=>by rw [e,yAB];exact yAF (List.length_filter_le _ _) (by rw [yCA];exact yAA _)) ?_ ?_
 .rintro i ys σ Y' hi ⟨v,rfl,rfl,rfl⟩
  walk_at "rd"
  rw [show (0+(i:Int))=(i:Int) by omega]
  have erg:∀ f:Nat->Bool,(List.range (i+1)).filter f=(List.range i).filter f++if f i=true then [i] else []:=fun f=>by
   rw [List.range_succ,yBM]
   by_cases z:f i=true
   .rw [if_pos z,yCT z];rfl
   .rw [if_neg z,yCU z];rfl
  by_cases e:i=x
  .rw [if_neg (by omega)]
   refine Nxt.of hi ⟨_,rfl,rfl,?_⟩
   rw [erg,if_neg (by simp [e]),yAY]
  .rw [if_pos (by omega)]
   refine ⟨tkl,nL T2,rfl,.inl (SqL.of hTY),rfl,flat_nats T2,?_⟩
   rw [if_pos rfl,show inV (.int (i:Int)) (nL T2)=decide (i∈T2) from inV_nats i T2]
   refine ⟨_,rfl,?_⟩
   by_cases e2:i∈T2
   .rw [if_neg (by simp [e2])]
    refine Nxt.of hi ⟨_,rfl,rfl,?_⟩
    rw [erg,if_neg (by simp [e2]),yAY]
   .rw [if_pos (by simp [e2])]
    refine Nxt.of hi ⟨_,rfl,rfl,?_⟩
    rw [erg,if_pos (by simp [e,e2])]
    unfold nL
    rw [yBB];rfl
 rintro ys σ Y' ⟨v,rfl,rfl,rfl⟩ rl2 hrl0
 rw [Int.toNat_natCast]
 obtain ⟨Z,e2,sZ,hZ⟩:=newH hrl0 (.lst (nL ((List.range ks.length).filter fun y=>decide (y≠x) && !decide (y∈T2))))
 rw [e2];clear e2
 have WZ:=WY.mono sZ
 have hTZ:=sZ _ _ hTY
 have hnewR:H rl2=none:=WY.free hrl0
 have nTR:tkl≠rl2:=ZAC hTY hrl0
 have hRm:∀ y,y∈(List.range ks.length).filter (fun y=>decide (y≠x) && !decide (y∈T2))↔y < ks.length /\ lxB bb ks x y:=fun y=>by
  rw [yBS,yBY,yBJ,decide_eq_true_iff,Bool.not_eq_true',decide_eq_false_iff_not,hT2m]
  constructor
  .rintro ⟨h1,h2,h3⟩
   exact ⟨h1,lxB_tot h2 fun z=>h3 ⟨h1,z⟩⟩
  .rintro ⟨h1,h2⟩
   exact ⟨h1,fun e=>by rw [e] at h2;exact ZC1 h2,fun z=>ZC1 (ZDn h2 z.2)⟩
 have hRa:((List.range ks.length).filter fun y=>decide (y≠x) && !decide (y∈T2)).Pairwise (· < ·):=List.Pairwise.filter _ List.pairwise_lt_range
 generalize (List.range ks.length).filter (fun y=>decide (y≠x) && !decide (y∈T2))=R at hZ hRm hRa ⊢
 have hlen:R.length+1+T2.length=ks.length:=by
  have:=len_eq_of_mem (A:=R++x::T2) (B:=List.range ks.length) (List.nodup_append.mpr ⟨hRa.imp fun {a b} h e=>by omega,yCC.mpr ⟨fun z=>ZC1 ((hT2m x).mp z).2,hT2nd⟩,fun u hu v hv e=>by
   have h1:=((hRm u).mp hu).2
   rcases yAH.mp hv with z | z
   .rw [e,z] at h1;exact ZC1 h1
   .have h2:=((hT2m v).mp z).2
    rw [<- e] at h2
    exact ZC1 (ZDn h1 h2)⟩) List.nodup_range fun y=>by
   rw [yAX,yAH,yBY,hRm,hT2m]
   constructor
   .rintro (z | z | z)
    .exact z.1
    .rw [z];exact hxn
    .exact z.1
   .intro z
    by_cases e:y=x
    .exact .inr (.inl e)
    .by_cases h:lxB bb ks y x
     .exact .inr (.inr ⟨z,h⟩)
     .exact .inl ⟨z,lxB_tot e h⟩
  rw [yAC,yAR,yCA] at this
  omega
 refine ZAU ?_
 walk_at "rd"
 by_cases hbb:(ks.length:Int)-1-m < m
 .rw [if_pos hbb]
  have eb:bb=true:=by rw [ebb];exact decide_eq_true (by omega)
  subst eb
  refine ⟨ZAS (by decide),fun tt htt=>?_⟩
  exact q tt rl2 tkl x R T2 _ (WZ.fr3.trans (ZAK htt _).fr) (WZ.free htt) hnewR hnewT (Ne.symm nTR) ZAF (ZAK htt _ _ _ hZ) (ZAK htt _ _ _ hTZ) hRa hT2 hRm hT2m (by omega) hxn (WZ.st.mono (ZAK htt _))
 .rw [if_neg hbb]
  have eb:bb=false:=by rw [ebb];exact decide_eq_false (by omega)
  subst eb
  refine ⟨ZAS (by decide),fun tt htt=>?_⟩
  exact q tt tkl rl2 x T2 R _ (WZ.fr3.trans (ZAK htt _).fr) (WZ.free htt) hnewT hnewR nTR ZAF (ZAK htt _ _ _ hTZ) (ZAK htt _ _ _ hZ) hT2 hRa hT2m hRm (by omega) hxn (WZ.st.mono (ZAK htt _))
theorem ok_cell_at {f:Addr} {fd:FuncData} (F:Fun K "_law_cell_at" "_law_cell_at" ZBp f fd) (T:Bt K mg C_Pour C_LastPour C_Asker C_AskedRule C_HallError C_NoRule C_NoPaper C_NoPlace C_NoKey C_NoRow C_NoOrder C_TooFar C_Spent)
 :FnOk P w K mg base CX0 1 f fd ["_law_script","_law_k"] (ZEB K):=by
 refine F.ok sc_cell_at (fun vs H Q E h=>?_) (fun cdv A outer s H vs Q E hr h=>?_)
 .obtain ⟨a,ns,k,rfl,hS,h0,q⟩:=h
  rfl
 obtain ⟨a,ns,k,rfl,hS,h0,q⟩:=h
 refine ⟨_,(ZAD (ZBg (ZAT ZDl (pv 1) (ZAO ZAP rfl T.b_len PySem.boot_len (ZAA (pv 0) ZAE)) (ZAV _))
  (ZAJ (ZAX (ZA7 ZA1 (pv 0) (pv 1) (fun _ _=>rfl)))) ZAj)
  (ZAJ (ZAX ZAI))),?_⟩
 walk_at "rd"
 refine ⟨a,_,rfl,.inl hS,?_⟩
 walk_at "rd"
 rw [yAB]
 unfold cellOf at q
 split
 .rename_i hk
  rw [if_pos hk] at q
  have hk':k.toNat < ns.length:=by omega
  refine ZBX hS (atI_ints h0 (yAD hk')) ?_
  rw [yAD hk'] at q
  exact q
 .rename_i hk
  rw [if_neg hk] at q
  exact q
theorem ok_stream {f:Addr} {fd:FuncData} (F:Fun K "_law_stream" "_law_stream" ZCE f fd) (T:Bt K mg C_Pour C_LastPour C_Asker C_AskedRule C_HallError C_NoRule C_NoPaper C_NoPlace C_NoKey C_NoRow C_NoOrder C_TooFar C_Spent)
 :FnOk P w K mg base CX0 1 f fd ["_law_seed","_law_many_here"] (ZCw):=by
 refine F.ok sc_stream (fun vs H Q E h=>?_) (fun cdv A outer s H vs Q E hr h=>?_)
 .obtain ⟨c,m,rfl,hm1,q⟩:=h
  rfl
 obtain ⟨c,m,rfl,hm1,q⟩:=h
 refine ⟨_,(ZAD (ZAW (i:=2) sc_stream.nd rfl (by walk_at "o") (ZAz ZAE))
  (ZAD (ZAW (i:=3) sc_stream.nd rfl (by walk_at "o") (ZAa ZB7 (ZAa ZBt (pv 0) ZAI) ZAI))
  (ZAD (ZDj PassesOwn.never rfl (ZBU rfl T.b_range (ZAA (pv 1) ZAE)) (ZAk (i:=4) sc_stream.nd rfl (by walk_at "o"))
  (ZAD (ZAW (i:=3) sc_stream.nd rfl (by walk_at "o") (ZAa ZBt (ZAa ZB7 (ZAa ZB7 (ZAa op_mul (pv 3) (pv 3)) (ZAa op_mul ZAI (pv 4))) ZAI) ZAI))
  (ZAJ (ZCR (ZEn PySem.F.plainAttrs_list PySem.F.slot_list_append PySem.F.type_list_append ZCB (pv 2) (ZAA (pv 3) ZAE))))))
  (ZAJ (ZAX (pv 2)))))),?_⟩
 walk_at "rd"
 refine ⟨yAG _,fun l hl=>⟨by decide,?_⟩⟩
 have c0:=Int.emod_nonneg c (show (1000003:Int)≠0 by decide)
 have c1:=Int.emod_lt_of_pos c (show (0:Int) < 1000003 by decide)
 obtain ⟨z0,ez⟩:∃ z0,c % 1000003+7=z0:=⟨_,rfl⟩
 rw [ez]
 refine ZDZ (by omega) (ZD5 (fun i σ H'=>∃ (z:Int) (zs:List Int) (v4:Option V),σ=[some (.int c),some (.int m),some (.ref l),some (.int z),v4] /\ (0 <= z /\ z < 2000000000) /\ H'=upd H l (.lst (zs.map V.int)) /\ zs.length=i) ⟨z0,[],_,rfl,by omega,rfl,rfl⟩ ?_ ?_)
 .rintro i σ H' hi ⟨z,zs,v4,rfl,z0,rfl,hz⟩
  walk_at "rd"
  have y0:=Int.emod_nonneg (z * z+90001 * (0+(i:Int))+17) (show (1000000007:Int)≠0 by decide)
  have y1:=Int.emod_lt_of_pos (z * z+90001 * (0+(i:Int))+17) (show (0:Int) < 1000000007 by decide)
  refine ⟨.inl ⟨by omega,by omega⟩,.inl ⟨by decide,by decide⟩,by decide,.inl ⟨rfl,_,SqL.of ZAF⟩,l,zs.map V.int,_,rfl,rfl,ZAF,by rw [yAB];exact ZBm (by omega),?_⟩
  exact ⟨_,zs++[_],_,rfl,by omega,by rw [upd_upd,yBB];rfl,by rw [yAC,hz];rfl⟩
 .rintro σ H' ⟨z,zs,v4,rfl,z0,rfl,hz⟩
  walk_at "rd"
  exact q l _ zs (ZAK hl _) hl ZAF (by omega)
theorem ok_row {f:Addr} {fd:FuncData} (F:Fun K "_law_row" "_law_row" ZES f fd) (T:Bt K mg C_Pour C_LastPour C_Asker C_AskedRule C_HallError C_NoRule C_NoPaper C_NoPlace C_NoKey C_NoRow C_NoOrder C_TooFar C_Spent)
 :FnOk P w K mg base CX0 1 f fd ["_law_numbers_here","_law_kind"] (ZFH):=by
 refine F.ok sc_row (fun vs H Q E h=>?_) (fun cdv A outer s H vs Q E hr h=>?_)
 .obtain ⟨a,kd,zs,rfl,ha,hz,q⟩:=h
  rfl
 obtain ⟨a,kd,zs,rfl,ha,hz,q⟩:=h
 refine ⟨_,(ZAD (ZAW (i:=2) sc_row.nd rfl (by walk_at "o") (ZA7 ZA1 (ZAz (ZAA ZAI (ZAA ZAI (ZAA ZAI (ZAA (ZAa op_pow ZAI ZAI) ZAE))))) (ZAa ZBt (pv 1) ZAI) (fun _ _=>rfl)))
  (ZAN
  (ZAD (ZAW (i:=3) sc_row.nd rfl (by walk_at "o") (ZDS rfl (k:=1) (js:=[2]) (N':=["_law_number","_law_base"]) (by rfl) (ZCm (pv 0)) (fun _ _ _ _=>ZAk (i:=0) (show (["_law_number","_law_base"]:List Str).Nodup by decide +kernel) rfl (by walk_at "o")) (fun _ _ _ _=>ZCF) (fun _ _ _ _=>(ZAa ZBc (ZAa ZBt (pv 0) (pv 1)) (ZAa ZCA (pv 1) ZAI)))))
  (ZAN
  (ZAD (ZBg (ZAT ZDm (ZAa ZBt (ZAa ZCA (pv 1) ZAI) ZAI) ZAI (ZAV _))
  (ZAJ (ZAW (i:=3) sc_row.nd rfl (by walk_at "o") (ZAO call_sortedB rfl T.b_sorted PyProof.Rows.boot_sorted (ZAA (pv 3) ZAE)))) ZAj)
  (ZAN
  (ZAD (ZBg (ZAT ZDm (ZAa ZBt (ZAa ZCA (pv 1) ZAI) ZAI) ZAI (ZAV _))
  (ZAJ (ZAW (i:=3) sc_row.nd rfl (by walk_at "o") (pe_sortR (pv 3) ZCS rfl T.b_sorted))) ZAj)
  (ZAN
  (ZAJ (ZAX (ZDS rfl (k:=1) (js:=[3]) (N':=["_law_k","_law_keys"]) (by rfl) (ZBU rfl T.b_range (ZAA (ZAO ZAP rfl T.b_len PySem.boot_len (ZAA (pv 3) ZAE)) ZAE)) (fun _ _ _ _=>ZAk (i:=0) (show (["_law_k","_law_keys"]:List Str).Nodup by decide +kernel) rfl (by walk_at "o")) (fun _ _ _ _=>ZCF) (fun _ _ _ _=>(ZBV (ZAA (ZA7 (ix_listK K) (pv 1) (pv 0) (fun _ _=>rfl)) (ZAA (pv 0) ZAE))))))))))))))),?_⟩
 walk_at "rd"
 refine ⟨⟨by decide,by decide,by decide⟩,ZAS (by decide),fun p hp=>⟨by decide,?_⟩⟩
 obtain ⟨b,hb0,hb⟩:∃ b:Int,0 < b /\ atI [V.int 2,V.int 7,V.int 300,V.int (10 ^ Int.toNat 60)] (kd % 4)=some (V.int b):=by
  have m0:kd % 4=0∨kd % 4=1∨kd % 4=2∨kd % 4=3:=by omega
  rcases m0 with e | e | e | e <;> rw [e]
  .exact ⟨2,by decide,ZAY (by decide) rfl⟩
  .exact ⟨7,by decide,ZAY (by decide) rfl⟩
  .exact ⟨300,by decide,ZAY (by decide) rfl⟩
  .exact ⟨10 ^ Int.toNat 60,by decide,ZAY (by decide) rfl⟩
 refine ZBX (SqL.of ZAF) hb ?_
 obtain ⟨H1,e1,s1,_⟩:=newH hp (.lst [.int 2,.int 7,.int 300,.int (10 ^ Int.toNat 60)])
 rw [e1];clear e1
 refine ZAU ?_
 walk_at "rd"
 refine ZCu (SqL.of (s1 _ _ ha)) (by rw [yAB];omega) (fun i ys σ H'=>∃ v,σ=[v,some (.int b)] /\ H'=H1 /\ ∃ cs:List Int,ys=cs.map V.int /\ cs.length=i) ⟨_,rfl,rfl,[],rfl,rfl⟩ (fun i ys σ H' _ ⟨_,_,e,cs,e2,e3⟩=>⟨by rw [e];exact SqL.of (s1 _ _ ha),by rw [e2,yAB];omega⟩) ?_ ?_
 .rintro i ys x σ H' hi hx ⟨v,rfl,rfl,cs,rfl,hcs⟩
  obtain ⟨n,hn',rfl⟩:=get_ints hx
  walk_at "rd"
  refine ⟨hb0,⟨by decide,by decide⟩,?_⟩
  exact Nxt.of hi ⟨_,rfl,rfl,cs++[_],by rw [yBB];rfl,by rw [yAC,hcs];rfl⟩
 rintro ys σ H2 ⟨v,rfl,rfl,cs,rfl,hcs⟩ k1 hk1
 rw [yAB] at hcs
 obtain ⟨H3,e3,s3,h3⟩:=newH hk1 (.lst (cs.map V.int))
 rw [e3];clear e3
 have S3:Same H H3:=s1.trans s3
 refine ZAU ?_
 walk_at "rd"
 refine ⟨⟨by decide,by decide⟩,by decide,?_⟩
 apply once2 (fun (ky:Addr) (H4:Hp)=>Same H H4 /\ H ky=none /\ ∃ ks:List Int,H4 ky=some (.lst (ks.map V.int)) /\ ks.length=zs.length)
 .intro tailp
  by_cases h1:kd / 4 % 4=1
  .rw [if_pos h1]
   refine ⟨k1,cs,rfl,SqL.of h3,by omega,fun l ms hl hperm _=>?_⟩
   exact tailp l _ ⟨S3.new hl,S3.free hl,ms,ZAF,by rw [hperm.length_eq,hcs]⟩
  .rw [if_neg h1]
   exact tailp k1 H3 ⟨S3,s1.free hk1,cs,h3,hcs⟩
 rintro ky H4 ⟨S4,hky,ks,h4,hks⟩
 clear hcs S3 h3 s3 hk1
 refine ZAU ?_
 walk_at "rd"
 refine ⟨⟨by decide,by decide⟩,by decide,?_⟩
 apply once2 (fun (ky:Addr) (H4:Hp)=>Same H H4 /\ H ky=none /\ ∃ ks:List Int,H4 ky=some (.lst (ks.map V.int)) /\ ks.length=zs.length)
 .intro tailp
  by_cases h1:kd / 4 % 4=2
  .rw [if_pos h1]
   refine ⟨ky,ks,rfl,SqL.of h4,by omega,fun l ms hl hperm _=>?_⟩
   exact tailp l _ ⟨S4.new hl,S4.free hl,ms,ZAF,by rw [hperm.length_eq,hks]⟩
  .rw [if_neg h1]
   exact tailp ky H4 ⟨S4,hky,ks,h4,hks⟩
 rintro ky H4 ⟨S4,hky,ks,h4,hks⟩
 refine ZAU ?_
 walk_at "rd"
 refine ⟨ky,_,rfl,.inl (SqL.of h4),?_⟩
 rw [yAB]
 refine ZCg (by omega) (fun i ys σ H'=>∃ v,σ=[v,some (.ref ky)] /\ Same H4 H' /\ ys.length=i /\ ∀ (j:Nat) k,j < i->ks[j]?=some k->∃ r,ys[j]?=some (V.ref r) /\ H' r=some (.tup [.int k,.int j])) ⟨_,rfl,.refl _,rfl,fun _ _ h=>by omega⟩ (fun i ys σ H' ⟨_,_,_,l,_⟩=>Nat.le_of_eq l) ?_ ?_
 .rintro i ys σ H' hi ⟨v,rfl,s5,hl,hth⟩
  have hi':i < ks.length:=by omega
  walk_at "rd"
  rw [show (0+(i:Int))=i by omega]
  refine ZBX (SqL.of (s5 _ _ h4)) (atI_ints (v:=ks[i]) (by omega) (by rw [Int.toNat_natCast];exact yAD hi')) ⟨ZAS (by decide),fun t ht=>?_⟩
  refine Nxt.of hi ⟨_,rfl,s5.new ht,by rw [yAC,hl];rfl,fun j k' hj hk'=>?_⟩
  by_cases z:j < i
  .obtain ⟨r,a1,a2⟩:=hth j k' z hk'
   exact ⟨r,by rw [yBA (by omega)];exact a1,ZAK ht _ _ _ a2⟩
  .have:j=i:=by omega
   subst this
   rw [yAD hi'] at hk';cases hk'
   exact ⟨t,by rw [<- hl,yAZ (yAA _),yBX];rfl,ZAF⟩
 rintro xs σ H5 ⟨v,rfl,s5,hxl,hth⟩ xl hxl0
 refine q xl _ ks xs (S4.trans (s5.new hxl0)) (S4.free (s5.free hxl0)) ZAF hks ⟨by omega,fun i k hk=>?_⟩
 have hi:=(yAL.mp hk).1
 obtain ⟨r,a1,a2⟩:=hth i k (by omega) hk
 exact ⟨r,a1,ZAK hxl0 _ _ _ a2⟩
theorem okh_another {f:Addr} {fd:FuncData} (F:Fun K "_law_another" "_law_another" ZBq f fd) (T:Bt K mg C_Pour C_LastPour C_Asker C_AskedRule C_HallError C_NoRule C_NoPaper C_NoPlace C_NoKey C_NoRow C_NoOrder C_TooFar C_Spent)
 :FnOkH P w K mg base 1 f fd ["_law_e"] (ZCj C_Spent C_NoPlace):=by
 refine F.okH sc_another (fun vs H Q E h=>?_) (fun cdv A outer s H vs Q E h=>?_)
 .obtain ⟨e,C,dd,rfl,he,hC,q⟩:=h
  rfl
 obtain ⟨e,C,dd,rfl,he,hC,q⟩:=h
 refine ⟨_,(ZAD (ZBg (PW.pt (ZDP (ZCK (ZAO (ZAm K) rfl T.b_isinstance PyProof.Rows.boot_isinstance (ZAA (pv 0) (ZAA (ZBy rfl T.m_NoPaper) ZAE)))) (ZDP (ZCK (ZAO (ZAm K) rfl T.b_isinstance PyProof.Rows.boot_isinstance (ZAA (pv 0) (ZAA (ZBy rfl T.m_NoRule) ZAE)))) (ZDi (ZCK (ZAO (ZAm K) rfl T.b_isinstance PyProof.Rows.boot_isinstance (ZAA (pv 0) (ZAA (ZBy rfl T.m_NoKey) ZAE))))))))
  (ZAJ (ZAX ZCS)) ZAj)
  (ZAJ (ZAX (pe_or (ZAO (ZAm K) rfl T.b_isinstance PyProof.Rows.boot_isinstance (ZAA (pv 0) (ZAA (ZBy rfl T.m_NoRow) ZAE))) (pe_or (ZAO (ZAm K) rfl T.b_isinstance PyProof.Rows.boot_isinstance (ZAA (pv 0) (ZAA (ZBy rfl T.m_NoOrder) ZAE))) (ZEm (ZAO (ZAm K) rfl T.b_isinstance PyProof.Rows.boot_isinstance (ZAA (pv 0) (ZAA (ZBy rfl T.m_TooFar) ZAE))))))))),?_⟩
 walk_at "rd"
 rcases hC with z | z
 .subst z
  refine isX he T.xc_Spent T.xk_Spent.hd T.kit_Spent_NoPaper rfl ?_
  rw [if_neg (by decide)]
  refine isX he T.xc_Spent T.xk_Spent.hd T.kit_Spent_NoRule rfl ?_
  rw [if_neg (by decide)]
  refine isX he T.xc_Spent T.xk_Spent.hd T.kit_Spent_NoKey rfl ?_
  rw [if_neg (by decide)]
  refine isX he T.xc_Spent T.xk_Spent.hd T.kit_Spent_NoRow rfl ?_
  rw [if_neg (by decide)]
  refine isX he T.xc_Spent T.xk_Spent.hd T.kit_Spent_NoOrder rfl ?_
  rw [if_neg (by decide)]
  exact isX he T.xc_Spent T.xk_Spent.hd T.kit_Spent_TooFar rfl q
 .subst z
  refine isX he T.xc_NoPlace T.xd_NoPlace T.kit_NoPlace_NoPaper rfl ?_
  rw [if_neg (by decide)]
  refine isX he T.xc_NoPlace T.xd_NoPlace T.kit_NoPlace_NoRule rfl ?_
  rw [if_neg (by decide)]
  refine isX he T.xc_NoPlace T.xd_NoPlace T.kit_NoPlace_NoKey rfl ?_
  rw [if_neg (by decide)]
  refine isX he T.xc_NoPlace T.xd_NoPlace T.kit_NoPlace_NoRow rfl ?_
  rw [if_neg (by decide)]
  refine isX he T.xc_NoPlace T.xd_NoPlace T.kit_NoPlace_NoOrder rfl ?_
  rw [if_neg (by decide)]
  exact isX he T.xc_NoPlace T.xd_NoPlace T.kit_NoPlace_TooFar rfl q
theorem ok_numbers {f:Addr} {fd:FuncData} (F:Fun K "_law_numbers" "_law_numbers" ZBo f fd) (T:Bt K mg C_Pour C_LastPour C_Asker C_AskedRule C_HallError C_NoRule C_NoPaper C_NoPlace C_NoKey C_NoRow C_NoOrder C_TooFar C_Spent)
  (f_stream:Fn P w K mg base CX0 "_law_stream" 1 ["_law_seed","_law_many_here"] (ZCw))
  (f_cell_at:Fn P w K mg base CX0 "_law_cell_at" 1 ["_law_script","_law_k"] (ZEB K))
 :FnOk P w K mg base CX0 2 f fd ["_law_script"] (ZCP K):=by
 refine F.ok sc_numbers (fun vs H Q E h=>?_) (fun cdv A outer s H vs Q E hr h=>?_)
 .obtain ⟨a,ns,rfl,hS,h63,q⟩:=h
  rfl
 obtain ⟨a,ns,rfl,hS,h63,q⟩:=h
 refine ⟨_,(ZAD (ZBg (ZAT ZDm (ZAa ZBt (ZBJ f_cell_at (hr.mono (by decide)) rfl ZAp (ZAA (pv 0) (ZAA ZAI ZAE))) ZAI) ZAI (ZAV _))
  (ZAJ (ZAX (ZBJ f_stream (hr.mono (by decide)) rfl ZAp (ZAA (ZBJ f_cell_at (hr.mono (by decide)) rfl ZAp (ZAA (pv 0) (ZAA ZAI ZAE))) (ZAA (ZAa ZBt (ZAa ZCA (ZBJ f_cell_at (hr.mono (by decide)) rfl ZAp (ZAA (pv 0) (ZAA ZAI ZAE))) ZAI) ZAI) ZAE))))) ZAj)
  (ZAJ (ZAX (pe_slice sl_list (pv 0) (po_some ZAI) (po_some ZAI))))),?_⟩
 walk_at "rd"
 refine ⟨a,ns,0,rfl,hS,by decide,?_⟩
 generalize cellOf ns 0=c0
 walk_at "rd"
 refine ⟨by decide,?_⟩
 by_cases h3:c0 % 4=3
 .rw [if_pos h3]
  refine ⟨a,ns,1,rfl,hS,by decide,?_⟩
  refine ⟨a,ns,0,rfl,hS,by decide,?_⟩
  generalize cellOf ns 1=c1
  generalize cellOf ns 0=c2
  walk_at "rd"
  have r0:=Int.emod_nonneg (c2 / 4) (show (41:Int)≠0 by decide)
  have r1:=Int.emod_lt_of_pos (c2 / 4) (show (0:Int) < 41 by decide)
  obtain ⟨m,em⟩:∃ m:Nat,c2 / 4 % 41=m:=⟨(c2 / 4 % 41).toNat,by omega⟩
  rw [em] at r0 r1 ⊢
  exact ⟨⟨by decide,by decide⟩,by decide,c1,m,rfl,by omega,fun l H' zs s h0 h1 hl=>q l H' zs s h0 h1 (by omega)⟩
 .rw [if_neg h3]
  walk_at "rd"
  refine slL_of hS fun l hl=>?_
  rw [cutV_ints]
  refine q l _ _ (ZAK hl _) hl ZAF ?_
  rw [yBC,List.length_drop]
  omega
theorem ok_many {f:Addr} {fd:FuncData} (F:Fun K "_law_many" "_law_many" ZDF f fd) (T:Bt K mg C_Pour C_LastPour C_Asker C_AskedRule C_HallError C_NoRule C_NoPaper C_NoPlace C_NoKey C_NoRow C_NoOrder C_TooFar C_Spent)
 :FnOk P w K mg base CX0 1 f fd ["_law_total","_law_one","_law_two"] (ZDN):=by
 refine F.ok sc_many (fun vs H Q E h=>?_) (fun cdv A outer s H vs Q E hr h=>?_)
 .obtain ⟨n,o,t,rfl,hn1,hn,q⟩:=h
  rfl
 obtain ⟨n,o,t,rfl,hn1,hn,q⟩:=h
 refine ⟨_,(ZAD (ZAW (i:=3) sc_many.nd rfl (by walk_at "o") (ZAa ZBt (pv 2) ZAI))
  (ZAD (ZBg (ZAT ZDl (pv 3) ZAI (ZAV _))
  (ZAJ (ZAX (ZAa ZBt (pv 1) (pv 0)))) ZAj)
  (ZAJ (ZAX (ZA7 ZA1 (ZAz (ZAA ZAI (ZAA (ZAa ZBc (pv 0) ZAI) (ZAA (ZAa ZCA (ZAa ZBc (pv 0) ZAI) ZAI) (ZAA (ZAa ZCA (pv 0) ZAI) ZAE))))) (ZAa ZBc (pv 3) ZAI) (fun _ _=>rfl)))))),?_⟩
 walk_at "rd"
 refine ⟨by decide,?_⟩
 by_cases h:t % 6 < 2
 .rw [if_pos h]
  have r0:=Int.emod_nonneg o (show (n:Int)≠0 by omega)
  have r1:=Int.emod_lt_of_pos o (show (0:Int) < n by omega)
  have:=q (o % (n:Int)).toNat H (.refl _) (by omega)
  rw [Int.toNat_of_nonneg r0] at this
  exact ⟨by omega,this⟩
 .rw [if_neg h]
  refine ⟨⟨by decide,by decide⟩,⟨by decide,by decide⟩,ZAS (by decide),fun p hp=>?_⟩
  have r1:=Int.emod_lt_of_pos t (show (0:Int) < 6 by decide)
  obtain ⟨m,hm,hat⟩:∃ m:Nat,m < n /\ atI [V.int 0,V.int ((n:Int)-1),V.int (((n:Int)-1) / 2),V.int ((n:Int) / 2)] (t % 6-2)=some (.int (m:Int)):=by
   rcases (show t % 6-2=0∨t % 6-2=1∨t % 6-2=2∨t % 6-2=3 by omega) with e | e | e | e <;> rw [e]
   .exact ⟨0,by omega,ZAY (by decide) rfl⟩
   .exact ⟨n-1,by omega,by rw [show ((n:Int)-1)=((n-1:Nat):Int) by omega];exact ZAY (by decide) rfl⟩
   .exact ⟨(n-1) / 2,by omega,by rw [show (((n:Int)-1) / 2)=(((n-1) / 2:Nat):Int) by omega];exact ZAY (by decide) rfl⟩
   .exact ⟨n / 2,by omega,by rw [show ((n:Int) / 2)=((n / 2:Nat):Int) by omega];exact ZAY (by decide) rfl⟩
  exact ZBX (SqL.of ZAF) hat (q m _ (ZAK hp _) hm)
theorem ok_tried {f:Addr} {fd:FuncData} (F:Fun K "_law_tried" "_law_tried" ZCk f fd) (T:Bt K mg C_Pour C_LastPour C_Asker C_AskedRule C_HallError C_NoRule C_NoPaper C_NoPlace C_NoKey C_NoRow C_NoOrder C_TooFar C_Spent)
  (f_so_manieth:Fn P w K mg base (CXE P w) "so_manieth" 12 ["asker","many"] (ZCq C_Asker C_AskedRule C_Spent C_NoPlace))
  (h_another:FnH P w K mg base "_law_another" 1 ["_law_e"] (ZCj C_Spent C_NoPlace))
 :FnOk P w K mg base CX0 13 f fd ["_law_asker","_law_many_here"] (ZCb C_Asker C_AskedRule):=by
 refine F.ok sc_tried (fun vs H Q E h=>?_) (fun cdv A outer s H vs Q E hr h=>?_)
 .obtain ⟨mo,ks,xs,a,rl,ru,tl,g,lg,pr,mi,rfl,st,hk,hpr,q⟩:=h
  rfl
 obtain ⟨mo,ks,xs,a,rl,ru,tl,g,lg,pr,mi,rfl,st,hk,hpr,q⟩:=h
 refine ⟨_,(ZAD (ZAW (i:=2) sc_tried.nd rfl (by walk_at "o") (ZAz ZAE))
  (ZAD (ZAW (i:=3) sc_tried.nd rfl (by walk_at "o") ZBD)
  (ZAD (ps_try (i:=4) ⟨rfl,rfl⟩ rfl rfl T.m_HallError sc_tried.nd rfl rfl (fun pn xe E hp=>
  (ZAJ (ZAW (i:=3) sc_tried.nd rfl (by walk_at "o") (pe_fnS f_so_manieth (hr.mono (by decide)) rfl hp (ZAA (pv 0) (ZAA (pv 1) ZAE)))))) (fun e=>
  (ZAD (ZAW (i:=2) sc_tried.nd rfl (by walk_at "o") (ZAz (ZAA (ZAO (ZAm K) rfl T.b_isinstance PyProof.Rows.boot_isinstance (ZAA (pv 4) (ZAA (pe_bty rfl T.b_ValueError L2.boot_ValueError) ZAE))) (ZAA (ZAO (ZAm K) rfl T.b_isinstance PyProof.Rows.boot_isinstance (ZAA (pv 4) (ZAA (ZBy rfl T.m_NoPlace) ZAE))) (ZAA (ZAO (ZAm K) rfl T.b_isinstance PyProof.Rows.boot_isinstance (ZAA (pv 4) (ZAA (ZBy rfl T.m_Spent) ZAE))) ZAE)))))
  (ZAD (ZBg (ZCK (pe_fnH h_another ((hr.mono (by decide)).h) rfl (ZAA (pv 4) ZAE)))
  (ZAJ (ZCR (pe_bmK K PySem.F.plainAttrs_list PySem.F.slot_list_append PySem.F.type_list_append ZCB (pv 2) (ZAA pe_str ZAE)))) ZAj)
  (ZAJ (ZBg (ZCK (ZAO (ZAm K) rfl T.b_isinstance PyProof.Rows.boot_isinstance (ZAA (pv 4) (ZAA (ZBy rfl T.m_Spent) ZAE))))
  (ZAJ (ZCR (pe_bmK K PySem.F.plainAttrs_list PySem.F.slot_list_append PySem.F.type_list_append ZCB (pv 2) (ZAA (pe_xfldMK K (pv 4) rfl) ZAE)))) ZAj))))))
  (ZAJ (ZAX (ZBV (ZAA (pv 3) (ZAA (pv 2) ZAE)))))))),?_⟩
 walk_at "rd"
 obtain ⟨qN,qM⟩:=q
 refine ⟨yAG _,fun p hp=>?_⟩
 obtain ⟨HP,eP,sP,hP⟩:=newH hp (.lst [])
 rw [eP];clear eP
 have stP:=st.mono sP
 have ap:=st.newS hp
 refine ⟨mo,ks,xs,a,rl,ru,tl,g,lg,pr,mi,rfl,stP,hk,hpr,fun hz=>?_,fun m em hm=>⟨fun k n H1 d pr' e1 e2 e3 e4 f1 h1 st1=>?_,fun t l1 l2 pp A B H1 f1 _ _ _ _ ht hl1 hl2 hA hB hAm hBm hAl hpp st1=>?_⟩⟩
 .refine ⟨T.xm_NoPlace_HallError,fun ea hea=>?_⟩
  obtain ⟨H2,e2,s2,h2⟩:=newH hea (excO ea (.ref C_NoPlace) none)
  rw [e2];clear e2
  walk_at "rd"
  refine isX h2 T.xc_NoPlace T.xd_NoPlace T.kit_NoPlace_ValueError rfl (isX h2 T.xc_NoPlace T.xd_NoPlace T.kit_NoPlace_NoPlace rfl (isX h2 T.xc_NoPlace T.xd_NoPlace T.kit_NoPlace_Spent rfl ⟨ZAS (by decide),fun l1 hl1=>?_⟩))
  obtain ⟨H3,e3,s3,h3⟩:=newH hl1 (.lst [.bl true,.bl true,.bl false])
  rw [e3];clear e3
  refine ⟨ea,_,none,rfl,s3 _ _ h2,.inr rfl,⟨_,rfl,?_⟩⟩
  rw [if_neg (by decide)]
  refine isX (s3 _ _ h2) T.xc_NoPlace T.xd_NoPlace T.kit_NoPlace_Spent rfl ?_
  rw [if_neg (by decide)]
  refine ⟨ZAS (by decide),fun t ht=>?_⟩
  have s5:=ZAK ht (.tup [.non,.ref l1])
  exact qN hz t l1 _ (sP.trans (s2.trans (s3.trans s5))) ZAF (s5 _ _ h3)
 .refine ⟨T.xm_Spent_HallError,fun ea hea=>?_⟩
  obtain ⟨H2,e2',s2,h2⟩:=newH hea (excO ea (.ref C_Spent) (some d))
  rw [e2'];clear e2'
  walk_at "rd"
  refine isX h2 T.xc_Spent T.xk_Spent.hd T.kit_Spent_ValueError rfl (isX h2 T.xc_Spent T.xk_Spent.hd T.kit_Spent_NoPlace rfl (isX h2 T.xc_Spent T.xk_Spent.hd T.kit_Spent_Spent rfl ⟨ZAS (by decide),fun l1 hl1=>?_⟩))
  obtain ⟨H3,e3',s3,h3⟩:=newH hl1 (.lst [.bl true,.bl false,.bl true])
  rw [e3'];clear e3'
  refine ⟨ea,_,some d,rfl,s3 _ _ h2,.inl rfl,⟨_,rfl,?_⟩⟩
  rw [if_neg (by decide)]
  refine isX (s3 _ _ h2) T.xc_Spent T.xk_Spent.hd T.kit_Spent_Spent rfl ?_
  rw [if_pos rfl]
  refine ⟨.inl ⟨rfl,_,SqL.of h3⟩,ea,_,d,_,_,rfl,.inl (s3 _ _ h2),s3 _ _ (s2 _ _ h1),T.xc_Spent,T.xk_Spent.hd,T.n_Spent_asked,by walk_at "lk",?_⟩
  refine ⟨l1,_,_,rfl,rfl,h3,ZBm (by decide),?_⟩
  refine ⟨ZAS (by decide),fun t ht=>?_⟩
  have hl1':H1 l1=none:=s2.free hl1
  have s4:Same H1 (upd H3 l1 (.lst ([.bl true,.bl false,.bl true]++[.int k]))):=fun b o hb=>by
   rw [ZAG (ZAC hb hl1')];exact s3 _ _ (s2 _ _ hb)
  have s5:=ZAK ht (.tup [.non,.ref l1])
  obtain ⟨q2,_⟩:=qM m em hm
  rw [e3] at e4
  refine q2 k t l1 _ pr' e1 e4 e2 (sP.fr.trans (f1.trans (s4.trans s5).fr)) ZAF (s5 _ _ (by rw [ZAF];rfl)) (st1.mono (s4.trans s5))
 .refine ⟨ZAS (by decide),fun t' ht'=>?_⟩
  obtain ⟨_,q3⟩:=qM m em hm
  have s5:=ZAK ht' (.tup [.ref t,.ref p])
  exact q3 t' t p pp _ (sP.fr.trans (f1.trans s5.fr)) ZAF (s5 _ _ (f1 _ _ ap hP)) ⟨⟨l1,l2,s5 _ _ ht⟩,hpp,A,hA,hAm,hAl⟩ (st1.mono s5)
theorem ok_no_place {f:Addr} {fd:FuncData} (F:Fun K "_law_no_place" "_law_no_place" ZBO f fd) (T:Bt K mg C_Pour C_LastPour C_Asker C_AskedRule C_HallError C_NoRule C_NoPaper C_NoPlace C_NoKey C_NoRow C_NoOrder C_TooFar C_Spent)
  (f_tried:Fn P w K mg base CX0 "_law_tried" 13 ["_law_asker","_law_many_here"] (ZCb C_Asker C_AskedRule))
  (f_teller:Fn P w K mg base CX0 "_law_teller" 1 ["_law_said"] (ZDD Pt_teller (ZDI ZAH) "_law_tells" "_law_teller.<locals>._law_tells" (ZAM ZAH) (ZAL ZAH) (ZAB ZAH) ["_law_said"] [0] 1))
  (k_Asker:Kl P w K mg base CX0 "Asker" C_Asker 1 ["self","row","rule","most"] (ZBE C_Asker))
  (k_AskedRule:Kl P w K mg base CX0 "AskedRule" C_AskedRule 1 ["self","teller"] (ZBj C_AskedRule))
 :FnOk P w K mg base CX0 14 f fd ["_law_row_here","_law_many_here","_law_most"] (ZCQ Pt_teller):=by
 refine F.ok sc_no_place (fun vs H Q E h=>?_) (fun cdv A outer s H vs Q E hr h=>?_)
 .obtain ⟨ks,xs,rw,mi,mv,rfl,htab,hrw,hth,hk,hmi,hmv,q⟩:=h
  rfl
 obtain ⟨ks,xs,rw,mi,mv,rfl,htab,hrw,hth,hk,hmi,hmv,q⟩:=h
 refine ⟨_,(ZAD (ZAW (i:=3) sc_no_place.nd rfl (by walk_at "o") (ZAz ZAE))
  (ZAN
  (ZAD (ZEG (ZBJ f_tried (hr.mono (by decide)) rfl ZAp (ZAA (ZDy k_Asker (hr.mono (by decide)) rfl ZAp (ZAA (pv 0) (ZAA (ZDy k_AskedRule (hr.mono (by decide)) rfl ZAp (ZAA (ZBJ f_teller (hr.mono (by decide)) rfl ZAp (ZAA (pv 3) ZAE)) ZAE)) (ZAA (pv 2) ZAE)))) (ZAA (pv 1) ZAE))) (ZEH (n:=2) rfl (ZBL (ZAk (i:=4) sc_no_place.nd rfl (by walk_at "o")) (ZBL (ZAk (i:=5) sc_no_place.nd rfl (by walk_at "o")) ZDR))))
  (ZAN
  (ZAJ (ZAX (ZDk (ZBh ZC0 (pv 4) ZBD (ZAV _)) (ZDk (ZBh (ZEI hr.units) (pv 5) (ZAz (ZAA ZCS (ZAA ZCS (ZAA ZCS ZAE)))) (ZAV _)) (ZEm (ZBh (ZEI hr.units) (pv 3) (ZAz ZAE) (ZAV _))))))))))),?_⟩
 walk_at "rd"
 refine ⟨yAG _,fun lg hlg=>?_⟩
 obtain ⟨H4,e4,s04,h4lg⟩:=newH hlg (.lst [])
 rw [e4];clear e4
 have h4:=s04 _ _ hrw
 have hth4:Things H4 ks xs:=⟨hth.1,fun i k hk=>let ⟨r,a1,a2⟩:=hth.2 i k hk;⟨r,a1,s04 _ _ a2⟩⟩
 have tab4:TabT H4 Pt_teller:=by
  rcases htab with h | ⟨c',h,hc⟩
  .exact .inl (s04 _ _ h)
  .exact .inr ⟨c',s04 _ _ h,hc.mono fun b o hb=>s04 _ _ hb⟩
 have hbd:Bd mv ([]:List (Nat×Nat)).length:=hmv.imp id fun z=>⟨0,z,yAA _⟩
 refine ZAU ?_
 walk_at "rd"
 obtain ⟨H0,eH0⟩:∃ H0,H0=H:=⟨_,rfl⟩
 rw [<- eH0] at hlg s04 hrw hth htab
 have hPtx:∃ t,H4 Pt_teller=some (.tbl t):=by
  rcases tab4 with h | ⟨c',h,_⟩
  .exact ⟨_,h⟩
  .exact ⟨_,h⟩
 refine ⟨rfl,tab4,fun g H5 md=>?_⟩
 have nP:∀ b o,H4 b=some o->(∀ t,o≠.tbl t)->b≠Pt_teller:=fun b o h n z=>by obtain ⟨t,ht⟩:=hPtx;rw [z,ht] at h;exact n _ (Option.some.inj h).symm
 intro ru dr hru hdr nrd
 have hru':upd H5 dr (.own ru) ru=none:=by rw [ZAG (Ne.symm nrd)];exact hru
 have s6:Same H5 (upd (upd H5 dr (.own ru)) ru (.ins C_AskedRule dr [])):=(ZAK hdr _).trans (ZAK hru' _)
 refine ⟨ru,dr,g,rfl,ZAF,fun H7 k7 ir=>⟨rfl,?_⟩⟩
 have k7':∀ b o,H5 b=some o->H7 b=some o:=fun b o h=>k7 b o (ZAC h hru) (s6 _ _ h)
 intro ak da hak hda nad
 have hak':upd H7 da (.own ak) ak=none:=by rw [ZAG (Ne.symm nad)];exact hak
 have s8:Same H7 (upd (upd H7 da (.own ak)) ak (.ins C_Asker da [])):=(ZAK hda _).trans (ZAK hak' _)
 have hPtB:∃ t,H5 Pt_teller=some (.tbl t):=by
  rcases md.tab with h | ⟨c',h,_⟩
  .exact ⟨_,h⟩
  .exact ⟨_,h⟩
 have u7:∀ b o,H4 b=some o->(∀ t,o≠.tbl t)->H7 b=some o:=fun b o h n=>k7' _ _ (md.same b o (nP b o h n) h)
 have h7xl:=u7 rw _ h4 fun _ z=>by cases z
 refine ⟨ak,da,rw,ru,_,xs,rfl,ZAF,s8 _ _ h7xl,fun rl tl HA k9 nrl ntl nrt ia hrl' htl=>⟨rfl,?_⟩⟩
 have u9:∀ b o,H7 b=some o->HA b=some o:=fun b o h=>k9 b o (ZAC h hak) (s8 _ _ h)
 have h7lg:=u7 lg _ h4lg fun _ z=>by cases z
 have h8ak:upd (upd H7 da (.own ak)) ak (.ins C_Asker da []) ak=some (.ins C_Asker da []):=ZAF
 obtain ⟨dr',fs'',er,_,_⟩:=ir.ex
 have nak_ru:ru≠ak:=ZAC er hak
 have st:SitL _ C_Asker C_AskedRule HA ks xs ak rl ru tl g lg []:={
  ha:=ia
  hrl:=hrl'
  hru:=ZB8 (S:=[ak]) (fun b o n h=>k9 b o (fun z=>n (by rw [z];exact yAE)) (s8 _ _ h)) (fun z=>nak_ru (yAK.mp z)) ir
  clo:=md.clo.mono fun b o h=>u9 _ _ (k7' _ _ h)
  len:=hth4.1
  row:=fun i k hk=>by
   obtain ⟨r,a1,a2⟩:=hth4.2 i k hk
   exact ⟨r,a1,u9 _ _ (u7 _ _ a2 fun _ z=>by cases z)⟩
  hlg:=⟨[],u9 _ _ h7lg,rfl,fun j p q h=>by simp at h⟩
  htl:=⟨[],htl,rfl,fun j p q h=>by simp at h⟩
  ne:=⟨ZAC (s8 _ _ h7lg) ntl,ZDY (Ne.symm (ZAC h8ak nrl)) (Ne.symm (ZAC (s8 _ _ h7lg) nrl)) nrt,nak_ru⟩
  hmo:=hbd }
 have upP:∀ b o,b≠Pt_teller->H4 b=some o->HA b=some o /\ (b≠lg->b∉[ak,lg,tl]):=fun b o n h=>by
  have h7:=k7' _ _ (md.same b o n h)
  exact ⟨u9 _ _ h7,fun nl=>ZDY (ZAC h7 hak) nl (ZAC (s8 _ _ h7) ntl)⟩
 have hTA:TabT HA Pt_teller:=by
  rcases md.tab with h | ⟨c',h,hc⟩
  .exact .inl (u9 _ _ (k7' _ _ h))
  .exact .inr ⟨c',u9 _ _ (k7' _ _ h),hc.mono fun b o hb=>u9 _ _ (k7' _ _ hb)⟩
 have nPA:Pt_teller∉[ak,lg,tl]:=by
  obtain ⟨t,ht⟩:=hPtB
  exact ZDY (ZAC (k7' _ _ ht) hak) (Ne.symm (nP lg _ h4lg fun _ z=>by cases z)) (ZAC (s8 _ _ (k7' _ _ ht)) ntl)
 have back:∀ H',Fr [ak,lg,tl] HA H'->(∀ b o,b≠Pt_teller->H0 b=some o->H' b=some o) /\ TabT H' Pt_teller:=fun H' f=>by
  refine ⟨fun b o n h=>?_,?_⟩
  .obtain ⟨x1,x2⟩:=upP b o n (s04 _ _ h)
   exact f b o (x2 (ZAC h hlg)) x1
  .rcases hTA with h | ⟨c',h,hc⟩
   .exact .inl (f _ _ nPA h)
   .exact .inr ⟨c',f _ _ nPA h,hc.mono fun b o hb=>f _ _ (st.tupS hb (fun _ z=>by cases z) (fun _ _ _ z=>by cases z)) hb⟩
 have up:∀ {b:Addr} {l:List V},H0 b=some (.lst l)->HA b=some (.lst l) /\ b∉[ak,lg,tl]:=fun {b l} h=>by
  obtain ⟨x1,x2⟩:=upP b _ (nP b _ (s04 _ _ h) fun _ z=>by cases z) (s04 _ _ h)
  exact ⟨x1,x2 (ZAC h hlg)⟩
 clear u7 u9 k9 k7 k7' md s8 s6 hPtB h7xl h7lg er h8ak nak_ru ia hrl' htl hru hru' hak' hdr hda upP
 rw [eH0] at back
 refine ⟨_,ks,xs,ak,rl,ru,tl,g,lg,[],mi,rfl,st,hk,by decide,fun _ t l1 H1 s1 ht hl1=>?_,fun m em hm=>by omega⟩
 refine ZC8 (SqT.of ht) rfl ?_
 walk_at "rd"
 refine ZAU ?_
 walk_at "rd"
 refine ⟨ZAS (by decide),fun p2 hp2=>?_⟩
 obtain ⟨H2,e2,s2,h2⟩:=newH hp2 (.lst [.bl true,.bl true,.bl false])
 rw [e2];clear e2
 refine bls_eq (bs:=[true,true,false]) (s2 _ _ hl1) h2 ⟨_,rfl,?_⟩
 rw [if_pos rfl]
 refine ⟨yAG _,fun p3 hp3=>?_⟩
 obtain ⟨H3,e3,s3,h3⟩:=newH hp3 (.lst [])
 rw [e3];clear e3
 have S3:=s1.trans (s2.trans s3)
 obtain ⟨ws,hlgA,hws⟩:=st.hlg
 have ews:ws=[]:=List.eq_nil_of_length_eq_zero hws.len
 subst ews
 obtain ⟨b1,b2⟩:=back H3 S3.fr
 exact nil_eq (S3 _ _ hlgA) h3 (q H3 b1 b2)
theorem ok_stopped {f:Addr} {fd:FuncData} (F:Fun K "_law_stopped" "_law_stopped" ZBn f fd) (T:Bt K mg C_Pour C_LastPour C_Asker C_AskedRule C_HallError C_NoRule C_NoPaper C_NoPlace C_NoKey C_NoRow C_NoOrder C_TooFar C_Spent)
  (f_tried:Fn P w K mg base CX0 "_law_tried" 13 ["_law_asker","_law_many_here"] (ZCb C_Asker C_AskedRule))
  (f_teller:Fn P w K mg base CX0 "_law_teller" 1 ["_law_said"] (ZDD Pt_teller (ZDI ZAH) "_law_tells" "_law_teller.<locals>._law_tells" (ZAM ZAH) (ZAL ZAH) (ZAB ZAH) ["_law_said"] [0] 1))
  (t_Asker_widen:Mt P w K mg base CX0 C_Asker "widen" 1 ["self","more"] (ZDw C_Asker))
  (k_Asker:Kl P w K mg base CX0 "Asker" C_Asker 1 ["self","row","rule","most"] (ZBE C_Asker))
  (k_AskedRule:Kl P w K mg base CX0 "AskedRule" C_AskedRule 1 ["self","teller"] (ZBj C_AskedRule))
 :FnOk P w K mg base CX0 14 f fd ["_law_row_here","_law_many_here","_law_needed","_law_most"] (ZCN Pt_teller):=by
 refine F.ok sc_stopped (fun vs H Q E h=>?_) (fun cdv A outer s H vs Q E hr h=>?_)
 .obtain ⟨ks,xs,rw,m,mo,rfl,htab,hrw,hth,hk,hm,hn9,hmo,q⟩:=h
  rfl
 obtain ⟨ks,xs,rw,m,mo,rfl,htab,hrw,hth,hk,hm,hn9,hmo,q⟩:=h
 refine ⟨_,(ZAD (ZAW (i:=4) sc_stopped.nd rfl (by walk_at "o") (ZAz ZAE))
  (ZAN
  (ZAD (ZAW (i:=5) sc_stopped.nd rfl (by walk_at "o") (ZDy k_Asker (hr.mono (by decide)) rfl ZAp (ZAA (pv 0) (ZAA (ZDy k_AskedRule (hr.mono (by decide)) rfl ZAp (ZAA (ZBJ f_teller (hr.mono (by decide)) rfl ZAp (ZAA (pv 4) ZAE)) ZAE)) (ZAA (pv 3) ZAE)))))
  (ZAN
  (ZAD (ZEG (ZBJ f_tried (hr.mono (by decide)) rfl ZAp (ZAA (pv 5) (ZAA (pv 1) ZAE))) (ZEH (n:=2) rfl (ZBL (ZAk (i:=6) sc_stopped.nd rfl (by walk_at "o")) (ZBL (ZAk (i:=7) sc_stopped.nd rfl (by walk_at "o")) ZDR))))
  (ZAN
  (ZAD (ZBg (ZAT ZDm (pv 3) (pv 2) (ZAV _))
  (ZAJ (ZAX (ZDk (ZBh (ZEI hr.units) (pv 7) (ZAz ZAE) (ZAV _)) (ZDk (ZBh ZDU (pv 6) ZBD (ZAV _)) (ZDk (ZBh ZDm (ZAh (pv 5) rfl) (pv 2) (ZAV _)) (ZEm (ZBh ZDm (ZAO ZAP rfl T.b_len PySem.boot_len (ZAA (pv 4) ZAE)) (pv 2) (ZAV _)))))))) ZAj)
  (ZAN
  (ZAD (ZBg (PW.pt (ZDP (ZAT ZDU (pv 6) ZBD (ZAV _)) (ZDP (ZAT (op_neD hr.units) (pv 7) (ZAz (ZAA ZCS (ZAA ZCS (ZAA ZCS (ZAA (pv 3) ZAE))))) (ZAV _)) (ZDP (ZAT ZEo (ZAO ZAP rfl T.b_len PySem.boot_len (ZAA (pv 4) ZAE)) (pv 3) (ZAV _)) (ZDi (ZAT ZEo (ZAh (pv 5) rfl) (pv 3) (ZAV _)))))))
  (ZAJ (ZAX ZCS)) ZAj)
  (ZAN
  (ZAD (ZCR (ZDB t_Asker_widen (hr.mono (by decide)) ZAp (pv 5) (ZAA (pv 2) ZAE)))
  (ZAN
  (ZAD (ZEG (ZBJ f_tried (hr.mono (by decide)) rfl ZAp (ZAA (pv 5) (ZAA (pv 1) ZAE))) (ZEH (n:=2) rfl (ZBL (ZAk (i:=6) sc_stopped.nd rfl (by walk_at "o")) (ZBL (ZAk (i:=7) sc_stopped.nd rfl (by walk_at "o")) ZDR))))
  (ZAN
  (ZAD (ZBg (PW.pt (ZDP (ZAT (op_neD hr.units) (pv 7) (ZAz ZAE) (ZAV _)) (ZDP (ZAT ZC0 (pv 6) ZBD (ZAV _)) (ZDi (ZAT ZEo (ZAO ZAP rfl T.b_len PySem.boot_len (ZAA (pv 4) ZAE)) (ZAa ZB7 (pv 3) (pv 2)) (ZAV _))))))
  (ZAJ (ZAX ZCS)) ZAj)
  (ZAN
  (ZAJ (ZAX (ZBh ZDm (ZA7 ZBd (pv 6) ZAI (fun _ _=>rfl)) (ZA7 ZBd (ZA7 ZA1 (ZAO call_sortedT rfl T.b_sorted PyProof.Rows.boot_sorted (ZAA (pv 0) ZAE)) (pv 1) (fun _ _=>rfl)) ZAI (fun _ _=>rfl)) (ZAV _)))))))))))))))))))),?_⟩
 walk_at "rd"
 refine ⟨yAG _,fun lg hlg=>?_⟩
 obtain ⟨H4,e4,s04,h4lg⟩:=newH hlg (.lst [])
 rw [e4];clear e4
 have h4:=s04 _ _ hrw
 have hth4:Things H4 ks xs:=⟨hth.1,fun i k hk=>let ⟨r,a1,a2⟩:=hth.2 i k hk;⟨r,a1,s04 _ _ a2⟩⟩
 have tab4:TabT H4 Pt_teller:=by
  rcases htab with h | ⟨c',h,hc⟩
  .exact .inl (s04 _ _ h)
  .exact .inr ⟨c',s04 _ _ h,hc.mono fun b o hb=>s04 _ _ hb⟩
 have hbd:Bd (.int (mo:Nat)) ([]:List (Nat×Nat)).length:=.inr ⟨mo,rfl,yAG _⟩
 refine ZAU ?_
 walk_at "rd"
 obtain ⟨H0,eH0⟩:∃ H0,H0=H:=⟨_,rfl⟩
 rw [<- eH0] at hlg s04 hrw hth htab
 have hPtx:∃ t,H4 Pt_teller=some (.tbl t):=by
  rcases tab4 with h | ⟨c',h,_⟩
  .exact ⟨_,h⟩
  .exact ⟨_,h⟩
 refine ⟨rfl,tab4,fun g H5 md=>?_⟩
 have nP:∀ b o,H4 b=some o->(∀ t,o≠.tbl t)->b≠Pt_teller:=fun b o h n z=>by obtain ⟨t,ht⟩:=hPtx;rw [z,ht] at h;exact n _ (Option.some.inj h).symm
 intro ru dr hru hdr nrd
 have hru':upd H5 dr (.own ru) ru=none:=by rw [ZAG (Ne.symm nrd)];exact hru
 have s6:Same H5 (upd (upd H5 dr (.own ru)) ru (.ins C_AskedRule dr [])):=(ZAK hdr _).trans (ZAK hru' _)
 refine ⟨ru,dr,g,rfl,ZAF,fun H7 k7 ir=>⟨rfl,?_⟩⟩
 have k7':∀ b o,H5 b=some o->H7 b=some o:=fun b o h=>k7 b o (ZAC h hru) (s6 _ _ h)
 intro ak da hak hda nad
 have hak':upd H7 da (.own ak) ak=none:=by rw [ZAG (Ne.symm nad)];exact hak
 have s8:Same H7 (upd (upd H7 da (.own ak)) ak (.ins C_Asker da [])):=(ZAK hda _).trans (ZAK hak' _)
 have hPtB:∃ t,H5 Pt_teller=some (.tbl t):=by
  rcases md.tab with h | ⟨c',h,_⟩
  .exact ⟨_,h⟩
  .exact ⟨_,h⟩
 have u7:∀ b o,H4 b=some o->(∀ t,o≠.tbl t)->H7 b=some o:=fun b o h n=>k7' _ _ (md.same b o (nP b o h n) h)
 have h7xl:=u7 rw _ h4 fun _ z=>by cases z
 refine ⟨ak,da,rw,ru,_,xs,rfl,ZAF,s8 _ _ h7xl,fun rl tl HA k9 nrl ntl nrt ia hrl' htl=>⟨rfl,?_⟩⟩
 have u9:∀ b o,H7 b=some o->HA b=some o:=fun b o h=>k9 b o (ZAC h hak) (s8 _ _ h)
 have h7lg:=u7 lg _ h4lg fun _ z=>by cases z
 have h8ak:upd (upd H7 da (.own ak)) ak (.ins C_Asker da []) ak=some (.ins C_Asker da []):=ZAF
 obtain ⟨dr',fs'',er,_,_⟩:=ir.ex
 have nak_ru:ru≠ak:=ZAC er hak
 have st:SitL _ C_Asker C_AskedRule HA ks xs ak rl ru tl g lg []:={
  ha:=ia
  hrl:=hrl'
  hru:=ZB8 (S:=[ak]) (fun b o n h=>k9 b o (fun z=>n (by rw [z];exact yAE)) (s8 _ _ h)) (fun z=>nak_ru (yAK.mp z)) ir
  clo:=md.clo.mono fun b o h=>u9 _ _ (k7' _ _ h)
  len:=hth4.1
  row:=fun i k hk=>by
   obtain ⟨r,a1,a2⟩:=hth4.2 i k hk
   exact ⟨r,a1,u9 _ _ (u7 _ _ a2 fun _ z=>by cases z)⟩
  hlg:=⟨[],u9 _ _ h7lg,rfl,fun j p q h=>by simp at h⟩
  htl:=⟨[],htl,rfl,fun j p q h=>by simp at h⟩
  ne:=⟨ZAC (s8 _ _ h7lg) ntl,ZDY (Ne.symm (ZAC h8ak nrl)) (Ne.symm (ZAC (s8 _ _ h7lg) nrl)) nrt,nak_ru⟩
  hmo:=hbd }
 have upP:∀ b o,b≠Pt_teller->H4 b=some o->HA b=some o /\ (b≠lg->b∉[ak,lg,tl]):=fun b o n h=>by
  have h7:=k7' _ _ (md.same b o n h)
  exact ⟨u9 _ _ h7,fun nl=>ZDY (ZAC h7 hak) nl (ZAC (s8 _ _ h7) ntl)⟩
 have hTA:TabT HA Pt_teller:=by
  rcases md.tab with h | ⟨c',h,hc⟩
  .exact .inl (u9 _ _ (k7' _ _ h))
  .exact .inr ⟨c',u9 _ _ (k7' _ _ h),hc.mono fun b o hb=>u9 _ _ (k7' _ _ hb)⟩
 have nPA:Pt_teller∉[ak,lg,tl]:=by
  obtain ⟨t,ht⟩:=hPtB
  exact ZDY (ZAC (k7' _ _ ht) hak) (Ne.symm (nP lg _ h4lg fun _ z=>by cases z)) (ZAC (s8 _ _ (k7' _ _ ht)) ntl)
 have back:∀ H',Fr [ak,lg,tl] HA H'->(∀ b o,b≠Pt_teller->H0 b=some o->H' b=some o) /\ TabT H' Pt_teller:=fun H' f=>by
  refine ⟨fun b o n h=>?_,?_⟩
  .obtain ⟨x1,x2⟩:=upP b o n (s04 _ _ h)
   exact f b o (x2 (ZAC h hlg)) x1
  .rcases hTA with h | ⟨c',h,hc⟩
   .exact .inl (f _ _ nPA h)
   .exact .inr ⟨c',f _ _ nPA h,hc.mono fun b o hb=>f _ _ (st.tupS hb (fun _ z=>by cases z) (fun _ _ _ z=>by cases z)) hb⟩
 have up:∀ {b:Addr} {l:List V},H0 b=some (.lst l)->HA b=some (.lst l) /\ b∉[ak,lg,tl]:=fun {b l} h=>by
  obtain ⟨x1,x2⟩:=upP b _ (nP b _ (s04 _ _ h) fun _ z=>by cases z) (s04 _ _ h)
  exact ⟨x1,x2 (ZAC h hlg)⟩
 clear u7 u9 k9 k7 k7' md s8 s6 hPtB h7xl h7lg er h8ak nak_ru ia hrl' htl hru hru' hak' hdr hda upP
 obtain ⟨hrwA,arw⟩:=up hrw
 rw [eH0] at back
 refine ZAU ?_
 walk_at "rd"
 refine ⟨_,ks,xs,ak,rl,ru,tl,g,lg,[],m,rfl,st,hk,by decide,(fun z=>by omega),fun m' em hm'=>?_⟩
 have em:m'=m:=by omega
 subst em
 refine ⟨fun k t l1 H1 pr' ek hlt hpk f1 ht hl1 st1=>?_,fun t f l0 p H1 f1 ht hl0 hfd st1=>?_⟩
 rotate_left
 .rw [List.nil_append] at st1
  have emo:mo=(nd76 ks m').length:=by
   have h:=st1.hmo
   rw [yAB] at h
   rcases h with z | ⟨k,z1,z2⟩
   .cases z
   .injection z1 with z1;omega
  refine ZC8 (SqT.of ht) rfl ?_
  walk_at "rd"
  refine ZAU ?_
  walk_at "rd"
  rw [if_pos (by omega)]
  refine ⟨yAG _,fun p hp=>?_⟩
  obtain ⟨H2,e2,s2,h2⟩:=newH hp (.lst [])
  rw [e2];clear e2
  obtain ⟨ws,hlg1,hws⟩:=st1.hlg
  refine nil_eq (s2 _ _ hl0) h2 ⟨_,rfl,?_⟩
  rw [if_pos rfl,if_pos (fun z=>by cases z)]
  have st2:=st1.mono s2
  refine st2.ha.get T.cl_Asker T.n_Asker_asked (by walk_at "lk") ?_
  walk_at "rd"
  rw [yAB,if_pos rfl]
  refine ⟨lg,ws,rfl,.inl (SqL.of (s2 _ _ hlg1)),?_⟩
  rw [hws.len,yAB,decide_eq_true rfl]
  obtain ⟨b1,b2⟩:=back H2 (f1.trans s2.fr)
  exact q H2 b1 b2
 .injection ek with ek
  have ek:k=mo:=by omega
  subst ek
  have hlt:k < (nd76 ks m').length:=by simpa using hlt
  obtain ⟨ws,hlg1,hws⟩:=st1.hlg
  refine ZC8 (SqT.of ht) rfl ?_
  walk_at "rd"
  refine ZAU ?_
  walk_at "rd"
  rw [if_neg (by omega)]
  refine ZAU ?_
  walk_at "rd"
  rw [if_neg (fun z=>z trivial)]
  refine ⟨ZAS (by decide),fun p hp=>?_⟩
  obtain ⟨H2,e2,s2,h2⟩:=newH hp (.lst [.bl true,.bl false,.bl true,.int k])
  rw [e2];clear e2
  refine kinds_ne (s2 _ _ hl1) h2 ⟨_,rfl,?_⟩
  rw [if_neg (by decide)]
  refine ⟨lg,ws,rfl,.inl (SqL.of (s2 _ _ hlg1)),?_⟩
  rw [hws.len,if_neg (by omega)]
  have st2:=st1.mono s2
  refine st2.ha.get T.cl_Asker T.n_Asker_asked (by walk_at "lk") ?_
  walk_at "rd"
  rw [if_neg (by omega)]
  refine ZAU ?_
  walk_at "rd"
  refine st2.ha.meth (by walk_at "lk") ⟨ak,rl,ru,tl,_,_,((nd76 ks m').length:Nat),rfl,st2.ha,.inr ⟨_,rfl⟩,fun H3 k3 ha3=>?_⟩
  have ew:wdn (V.int (k:Nat)) ((nd76 ks m').length:Nat)=V.int ((k+(nd76 ks m').length:Nat):Int):=by show V.int _=_;rw [Int.natCast_add]
  rw [ew] at ha3
  have st3:=st2.widened k3 ha3 (.inr ⟨_,rfl,by omega⟩)
  have f3:Fr [ak,lg,tl] HA H3:=f1.trans (s2.fr.trans fun b o n h=>(k3 b (fun z=>n (by rw [z];exact yAE))).trans h)
  refine ZAU ?_
  walk_at "rd"
  refine ⟨_,ks,xs,ak,rl,ru,tl,g,lg,pr',m',rfl,st3,hk,by omega,(fun z=>by omega),fun m2 em2 hm2=>?_⟩
  have em2:m2=m':=by omega
  subst em2
  refine ⟨fun k' t l1 H1 pr2 ek' hlt'=>?_,fun t f l0 p H5 f5 ht5 hl5 hfd st5=>?_⟩
  .injection ek' with ek'
   omega
  obtain ⟨ws5,hlg5,hws5⟩:=st5.hlg
  refine ZC8 (SqT.of ht5) rfl ?_
  walk_at "rd"
  refine ZAU ?_
  walk_at "rd"
  refine ⟨yAG _,fun p6 hp6=>?_⟩
  obtain ⟨H6,e6,s6,h6⟩:=newH hp6 (.lst [])
  rw [e6];clear e6
  refine nil_ne (s6 _ _ hl5) h6 ⟨_,rfl,?_⟩
  rw [if_neg (by decide)]
  rw [if_neg (fun z=>by cases z)]
  refine ⟨lg,ws5,rfl,.inl (SqL.of (s6 _ _ hlg5)),?_⟩
  rw [hws5.len,yAC,yAB,if_neg (by omega)]
  have st6:=st5.mono s6
  have hrw6:=s6 _ _ (f5 _ _ arw (f3 _ _ arw hrwA))
  have hth6:Things H6 ks xs:=⟨st6.len,st6.row⟩
  obtain ⟨⟨l1',l2',hf⟩,hplt,A,hA,hAm,hAl⟩:=hfd
  obtain ⟨b1,b2⟩:=back H6 (f3.trans (f5.trans s6.fr))
  refine ZAU ?_
  walk_at "rd"
  refine ZBW (SqT.of (s6 _ _ hf)) (ZAY (by decide) rfl) ?_
  obtain ⟨zz,ezz,hzzl,hzz⟩:=hth6.zz
  refine ⟨rw,zz,rfl,SqL.of (by rw [<- ezz];exact hrw6),fun z hzm=>?_,by omega,fun sl ms hsl hperm hsorted=>?_⟩
  .obtain ⟨i,hi,e⟩:=yCB hzm
   obtain ⟨a1,a2⟩:=hzz i z (by rw [yAD hi,e])
   rw [a1]
   exact SqT.of a2
  obtain ⟨z,hz1,hz2,hz3⟩:=nth76 hzzl (fun i z h=>(hzz i z h).1) hperm hsorted hplt hA hAm hAl
  have s7:=ZAK hsl (.lst (ms.map fun z=>V.ref z.1))
  refine ZBX (SqL.of ZAF) (ZAY (v:=.ref z.1) (by omega) (by rw [Int.toNat_natCast,yAU,hz1];rfl)) ?_
  obtain ⟨i,hi,e⟩:=yCB hz2
  obtain ⟨a1,a2⟩:=hzz i z (by rw [yAD hi,e])
  refine ZBW (SqT.of (s7 _ _ a2)) (ZAY (by decide) rfl) ?_
  walk_at "rd"
  have eip:(p:Int)=(i:Int):=by
   rw [hz3] at a1
   exact congrArg Prod.snd a1
  rw [decide_eq_true eip]
  obtain ⟨b1,b2⟩:=back _ (f3.trans (f5.trans (s6.trans s7).fr))
  exact q _ b1 b2
theorem ok_law {f:Addr} {fd:FuncData} (F:Fun K "law" "law" ZDO f fd) (T:Bt K mg C_Pour C_LastPour C_Asker C_AskedRule C_HallError C_NoRule C_NoPaper C_NoPlace C_NoKey C_NoRow C_NoOrder C_TooFar C_Spent)
  (f_row:Fn P w K mg base CX0 "_law_row" 1 ["_law_numbers_here","_law_kind"] (ZFH))
  (f_many:Fn P w K mg base CX0 "_law_many" 1 ["_law_total","_law_one","_law_two"] (ZDN))
  (f_so_manieth:Fn P w K mg base (CXE P w) "so_manieth" 12 ["asker","many"] (ZCq C_Asker C_AskedRule C_Spent C_NoPlace))
  (f_numbers:Fn P w K mg base CX0 "_law_numbers" 2 ["_law_script"] (ZCP K))
  (f_cell_at:Fn P w K mg base CX0 "_law_cell_at" 1 ["_law_script","_law_k"] (ZEB K))
  (f_no_place:Fn P w K mg base CX0 "_law_no_place" 14 ["_law_row_here","_law_many_here","_law_most"] (ZCQ Pt_teller))
  (f_teller:Fn P w K mg base CX0 "_law_teller" 1 ["_law_said"] (ZDD Pt_teller (ZDI ZAH) "_law_tells" "_law_teller.<locals>._law_tells" (ZAM ZAH) (ZAL ZAH) (ZAB ZAH) ["_law_said"] [0] 1))
  (f_stopped:Fn P w K mg base CX0 "_law_stopped" 14 ["_law_row_here","_law_many_here","_law_needed","_law_most"] (ZCN Pt_teller))
  (k_Asker_3:KlD P w K mg base CX0 "Asker" C_Asker 1 ["self","row","rule","most"] (ZBE C_Asker) [.non])
  (k_AskedRule:Kl P w K mg base CX0 "AskedRule" C_AskedRule 1 ["self","teller"] (ZBj C_AskedRule))
 :FnOk P w K mg base CX0 15 f fd ["_law_script"] (ZEi K [(cc_teller,Pt_teller)]):=by
 refine F.ok sc_law (fun vs H Q E h=>?_) (fun cdv A outer s H vs Q E hr h=>?_)
 .obtain ⟨a,ns,rfl,hS,h63,hT,q⟩:=h
  rfl
 obtain ⟨a,ns,rfl,hS,h63,hT,q⟩:=h
 refine ⟨_,(ZAD (ZAW (i:=1) sc_law.nd rfl (by walk_at "o") (ZBJ f_row (hr.mono (by decide)) rfl ZAp (ZAA (ZBJ f_numbers (hr.mono (by decide)) rfl ZAp (ZAA (pv 0) ZAE)) (ZAA (ZBJ f_cell_at (hr.mono (by decide)) rfl ZAp (ZAA (pv 0) (ZAA ZAI ZAE))) ZAE))))
  (ZAN
  (ZAD (ZAW (i:=2) sc_law.nd rfl (by walk_at "o") (ZAa ZBt (ZBJ f_cell_at (hr.mono (by decide)) rfl ZAp (ZAA (pv 0) (ZAA ZAI ZAE))) (ZAa op_pow ZAI ZAI)))
  (ZAN
  (ZAD (ZAW (i:=3) sc_law.nd rfl (by walk_at "o") (ZAz (ZAA (pe_un un_neg ZAI) (ZAA (ZAO ZAP rfl T.b_len PySem.boot_len (ZAA (pv 1) ZAE)) (ZAA (ZAa ZB7 (ZAO ZAP rfl T.b_len PySem.boot_len (ZAA (pv 1) ZAE)) (pv 2)) (ZAA (ZAa ZBc (pe_un un_neg ZAI) (pv 2)) ZAE))))))
  (ZAN
  (ZAD (ZDj PassesOwn.never rfl (ZBU rfl T.b_range (ZAA ZAI ZAE)) (ZAk (i:=4) sc_law.nd rfl (by walk_at "o"))
  (ZAJ (ZBg (pt_not (ZCK (ZBJ f_no_place (hr.mono (by decide)) rfl ZAp (ZAA (pv 1) (ZAA (ZA7 ZA1 (pv 3) (pv 4) (fun _ _=>rfl)) (ZAA (ZA7 ZA1 (ZAz (ZAA ZBD (ZAA ZAI (ZAA ZBD (ZAA ZAI ZAE))))) (ZAa ZBt (ZAa ZB7 (pv 4) (ZBJ f_cell_at (hr.mono (by decide)) rfl ZAp (ZAA (pv 0) (ZAA ZAI ZAE)))) ZAI) (fun _ _=>rfl)) ZAE))))))
  (ZAJ (ZAX ZCS)) ZAj)))
  (ZAN
  (ZAD (ZBg (ZAT (ZEI hr.units) (pv 1) (ZAz ZAE) (ZAV _))
  (ZAJ (ZAX ZCS)) ZAj)
  (ZAN
  (ZAD (ZAW (i:=5) sc_law.nd rfl (by walk_at "o") (ZBJ f_many (hr.mono (by decide)) rfl ZAp (ZAA (ZAO ZAP rfl T.b_len PySem.boot_len (ZAA (pv 1) ZAE)) (ZAA (ZBJ f_cell_at (hr.mono (by decide)) rfl ZAp (ZAA (pv 0) (ZAA ZAI ZAE))) (ZAA (ZBJ f_cell_at (hr.mono (by decide)) rfl ZAp (ZAA (pv 0) (ZAA ZAI ZAE))) ZAE)))))
  (ZAN
  (ZAD (ZAW (i:=6) sc_law.nd rfl (by walk_at "o") (ZAz ZAE))
  (ZAN
  (ZAD (ZAW (i:=7) sc_law.nd rfl (by walk_at "o") (ZBJ f_so_manieth (hr.mono (by decide)) rfl passE (ZAA (pe_mkD k_Asker_3 (hr.mono (by decide)) rfl ZAp (ZAA (pv 1) (ZAA (ZDy k_AskedRule (hr.mono (by decide)) rfl ZAp (ZAA (ZBJ f_teller (hr.mono (by decide)) rfl ZAp (ZAA (pv 6) ZAE)) ZAE)) ZAE))) (ZAA (pv 5) ZAE))))
  (ZAN
  (ZAD (ZAW (i:=8) sc_law.nd rfl (by walk_at "o") (ZAO ZAP rfl T.b_len PySem.boot_len (ZAA (pv 6) ZAE)))
  (ZAN
  (ZAD (ZBg (ZAT ZEo (ZA7 ZBd (pv 7) ZAI (fun _ _=>rfl)) (ZA7 ZBd (ZA7 ZA1 (ZAO call_sortedT rfl T.b_sorted PyProof.Rows.boot_sorted (ZAA (pv 1) ZAE)) (pv 5) (fun _ _=>rfl)) ZAI (fun _ _=>rfl)) (ZAV _))
  (ZAJ (ZAX ZCS)) ZAj)
  (ZAN
  (ZAD (ZDj PassesOwn.never rfl (ZCm (ZAz (ZAA (pv 8) (ZAA (ZAa ZBc (pv 8) ZAI) (ZAA ZAI (ZAA (ZAa ZBt (ZAa ZCA (ZBJ f_cell_at (hr.mono (by decide)) rfl ZAp (ZAA (pv 0) (ZAA ZAI ZAE))) ZAI) (ZAa ZB7 (pv 8) ZAI)) ZAE)))))) (ZAk (i:=9) sc_law.nd rfl (by walk_at "o"))
  (ZAJ (ZBg (PW.pt (ZEF (ZAT ZFN (pv 9) ZAI (ZAV _)) (ZDQ (pt_not (ZCK (ZBJ f_stopped (hr.mono (by decide)) rfl ZAp (ZAA (pv 1) (ZAA (pv 5) (ZAA (pv 8) (ZAA (pv 9) ZAE))))))))))
  (ZAJ (ZAX ZCS)) ZAj)))
  (ZAN
  (ZAJ (ZAX ZCS)))))))))))))))))))))))),?_⟩
 walk_at "rd"
 have hPt:H Pt_teller=some (.tbl #[]):=hT _ yAE
 refine ⟨a,ns,rfl,hS,h63,fun nl H1 zs S1 hnl hnl1 hzl=>?_⟩
 refine ⟨a,ns,2,rfl,S1.seq hS,by decide,?_⟩
 generalize cellOf ns 2=c2
 refine ⟨nl,c2,zs,rfl,hnl1,by omega,fun rw H2 ks xs S2 hrw hrw2 hkl hth=>?_⟩
 have SH2:=S1.trans S2
 have hk200:ks.length <= 200:=by omega
 refine ZAU ?_
 walk_at "rd"
 refine ⟨a,ns,3,rfl,SH2.seq hS,by decide,?_⟩
 walk_at "rd"
 refine ⟨⟨by decide,by decide,by decide⟩,by decide,?_⟩
 have f0:=Int.emod_nonneg (cellOf ns 3) (show (10 ^ Int.toNat 60:Int)≠0 by decide)
 generalize cellOf ns 3 % 10 ^ Int.toNat 60=far at f0 ⊢
 refine ZAU ?_
 walk_at "rd"
 refine ⟨rw,xs,rfl,.inl (SqL.of hrw2),rw,xs,rfl,.inl (SqL.of hrw2),ZAS (by decide),fun p0 hp0=>?_⟩
 rw [hth.1]
 obtain ⟨H3,e3,s3,h3⟩:=newH hp0 (.lst [.int (-1),.int (ks.length:Int),.int ((ks.length:Int)+far),.int (-1-far)])
 rw [e3];clear e3
 have SH3:=SH2.trans s3
 have hrw3:=s3 _ _ hrw2
 have hth3:Things H3 ks xs:=⟨hth.1,fun i k hk=>let ⟨r,a1,a2⟩:=hth.2 i k hk;⟨r,a1,s3 _ _ a2⟩⟩
 have hPt3:=SH3 _ _ hPt
 have nP:∀ {b:Addr} {o:HO},H3 b=some o->(∀ t,o≠.tbl t)->b≠Pt_teller:=fun {b o} h n z=>by rw [z,hPt3] at h;exact n _ (Option.some.inj h).symm
 have scr:∀ X,(∀ b o,b≠Pt_teller->H3 b=some o->X b=some o)->SqL K X a (ns.map V.int):=fun X e=>sqL_fr (S:=[Pt_teller]) (fun b o n h=>e b o (fun z=>n (by rw [z];exact yAE)) (SH3 _ _ h)) (fun o ho h z=>by rw [yAK.mp z,hPt] at h;exact ho _ (Option.some.inj h).symm) hS
 have thX:∀ {X:Hp},(∀ b o,b≠Pt_teller->H3 b=some o->X b=some o)->Things X ks xs:=fun {X} e=>⟨hth3.1,fun i k hk=>let ⟨r,a1,a2⟩:=hth3.2 i k hk;⟨r,a1,e _ _ (nP a2 fun _ z=>by cases z) a2⟩⟩
 clear S1 S2 SH2 s3 hrw2 hth hnl1 hnl hrw
 refine ZAU ?_
 walk_at "rd"
 refine ZDZ (by decide) (ZD5 (fun i σ X=>∃ v4:Option V,σ=[some (.ref a),some (.ref rw),some (.int far),some (.ref p0),v4,none,none,none,none,none] /\ (∀ b o,b≠Pt_teller->H3 b=some o->X b=some o) /\ TabT X Pt_teller) ⟨_,rfl,fun _ _ _ h=>h,.inl hPt3⟩ (fun i σ X hi z=>?_) fun σ X z=>?_)
 .obtain ⟨v4,rfl,eX,tX⟩:=z
  walk_at "rd"
  rw [show (0+(i:Int))=i by omega]
  obtain ⟨mi,hat,hmi⟩:∃ mi:Int,atI [V.int (-1),V.int (ks.length:Int),V.int ((ks.length:Int)+far),V.int (-1-far)] (i:Int)=some (.int mi) /\ (mi < 0∨(ks.length:Int) <= mi):=by
   rcases (show i=0∨i=1∨i=2∨i=3 by omega) with e | e | e | e <;> subst e
   .exact ⟨_,ZAY (by decide) rfl,.inl (by decide)⟩
   .exact ⟨_,ZAY (by decide) rfl,.inr (Int.le_refl _)⟩
   .exact ⟨_,ZAY (by decide) rfl,.inr (by omega)⟩
   .exact ⟨_,ZAY (by decide) rfl,.inl (by omega)⟩
  refine ZBX (SqL.of (eX _ _ (nP h3 fun _ z=>by cases z) h3)) hat ⟨ZAS (by decide),fun p1 hp1=>?_⟩
  obtain ⟨X1,e1,s1,h1⟩:=newH hp1 (.lst [.non,.int 0,.non,.int 0])
  rw [e1];clear e1
  refine ⟨a,ns,4,rfl,s1.seq (scr X eX),by decide,?_⟩
  walk_at "rd"
  refine ⟨by decide,?_⟩
  obtain ⟨mv,hat2,hmv⟩:∃ mv:V,atI [V.non,V.int 0,V.non,V.int 0] (((i:Int)+cellOf ns 4) % 4)=some mv /\ (mv=.non∨mv=.int 0):=by
   have m0:((i:Int)+cellOf ns 4) % 4=0∨((i:Int)+cellOf ns 4) % 4=1∨((i:Int)+cellOf ns 4) % 4=2∨((i:Int)+cellOf ns 4) % 4=3:=by omega
   rcases m0 with e | e | e | e <;> rw [e]
   .exact ⟨_,ZAY (by decide) rfl,.inl rfl⟩
   .exact ⟨_,ZAY (by decide) rfl,.inr rfl⟩
   .exact ⟨_,ZAY (by decide) rfl,.inl rfl⟩
   .exact ⟨_,ZAY (by decide) rfl,.inr rfl⟩
  refine ZBX (SqL.of h1) hat2 ?_
  have eX1:∀ b o,b≠Pt_teller->H3 b=some o->X1 b=some o:=fun b o n h=>s1 _ _ (eX b o n h)
  refine ⟨ks,xs,rw,mi,mv,rfl,ZBi s1 tX,eX1 _ _ (nP hrw3 fun _ z=>by cases z) hrw3,thX eX1,hk200,hmi,hmv,fun X2 e2 t2=>⟨_,rfl,?_⟩⟩
  rw [if_neg (by decide)]
  exact ⟨_,rfl,fun b o n h=>e2 b o n (eX1 b o n h),t2⟩
 obtain ⟨v4,rfl,eX,tX⟩:=z
 walk_at "rd"
 have hrwX:=eX _ _ (nP hrw3 fun _ z=>by cases z) hrw3
 obtain ⟨zz,ezz,hzzl,hzz⟩:=(thX eX).zz
 have hzt:∀ z∈zz,X z.1=some (.tup [.int z.2.1,.int z.2.2]):=fun z hzm=>by
  obtain ⟨i,hi,e⟩:=yCB hzm
  obtain ⟨a1,a2⟩:=hzz i z (by rw [yAD hi,e])
  rw [a1];exact a2
 refine ZAU ?_
 walk_at "rd"
 refine ⟨yAG _,fun p1 hp1=>?_⟩
 obtain ⟨X1,e1,s1,h1⟩:=newH hp1 (.lst [])
 rw [e1];clear e1
 have eX1:∀ b o,b≠Pt_teller->H3 b=some o->X1 b=some o:=fun b o n h=>s1 _ _ (eX b o n h)
 refine ZEx (Enc.int.two Enc.int).list (by decide) (a:=zz.map fun z=>z.2) (b:=[]) (ZC9 (SqL.of (by rw [<- ezz];exact s1 _ _ hrwX)) (zz_dp fun z hz=>s1 _ _ (hzt z hz))) (ZC9 (SqL.of h1) .nil) ⟨_,rfl,?_⟩
 by_cases hnil:zz=[]
 .rw [if_pos (by rw [hnil];rfl)]
  exact q _
 rw [if_neg (by simp [hnil])]
 have hn1:1 <= ks.length:=by
  rw [<- hzzl]
  exact List.length_pos_iff.mpr hnil
 clear hzt hzz hzzl ezz hnil zz hrwX
 have tX1:=ZBi s1 tX
 refine ZAU ?_
 walk_at "rd"
 refine ⟨rw,xs,rfl,.inl (SqL.of (eX1 _ _ (nP hrw3 fun _ z=>by cases z) hrw3)),?_⟩
 rw [hth3.1]
 refine ⟨a,ns,3,rfl,scr X1 eX1,by decide,a,ns,4,rfl,scr X1 eX1,by decide,?_⟩
 refine ⟨ks.length,_,_,rfl,hn1,by omega,fun m X2 s2 hm=>?_⟩
 have eX2:∀ b o,b≠Pt_teller->H3 b=some o->X2 b=some o:=fun b o n h=>s2 _ _ (eX1 b o n h)
 have tX2:=ZBi s2 tX1
 clear eX eX1 tX tX1 s1 s2 h1
 refine ZAU ?_
 walk_at "rd"
 obtain ⟨H0,eH0⟩:∃ H0,H0=X2:=⟨_,rfl⟩
 rw [<- eH0] at eX2 tX2 ⊢
 refine ⟨yAG _,fun lg hlg=>?_⟩
 obtain ⟨H4,e4,s04,h4lg⟩:=newH hlg (.lst [])
 rw [e4];clear e4
 have hrw0:=eX2 _ _ (nP hrw3 fun _ z=>by cases z) hrw3
 have h4:=s04 _ _ hrw0
 have hth0:=thX eX2
 have hth4:Things H4 ks xs:=⟨hth0.1,fun i k hk=>let ⟨r,a1,a2⟩:=hth0.2 i k hk;⟨r,a1,s04 _ _ a2⟩⟩
 have tab4:TabT H4 Pt_teller:=ZBi s04 tX2
 have hbd:Bd .non ([]:List (Nat×Nat)).length:=.inl rfl
 clear eH0 nP
 refine ZAU ?_
 walk_at "rd"
 have hPtx:∃ t,H4 Pt_teller=some (.tbl t):=by
  rcases tab4 with h | ⟨c',h,_⟩
  .exact ⟨_,h⟩
  .exact ⟨_,h⟩
 refine ⟨rfl,tab4,fun g H5 md=>?_⟩
 have nP:∀ b o,H4 b=some o->(∀ t,o≠.tbl t)->b≠Pt_teller:=fun b o h n z=>by obtain ⟨t,ht⟩:=hPtx;rw [z,ht] at h;exact n _ (Option.some.inj h).symm
 intro ru dr hru hdr nrd
 have hru':upd H5 dr (.own ru) ru=none:=by rw [ZAG (Ne.symm nrd)];exact hru
 have s6:Same H5 (upd (upd H5 dr (.own ru)) ru (.ins C_AskedRule dr [])):=(ZAK hdr _).trans (ZAK hru' _)
 refine ⟨ru,dr,g,rfl,ZAF,fun H7 k7 ir=>⟨rfl,?_⟩⟩
 have k7':∀ b o,H5 b=some o->H7 b=some o:=fun b o h=>k7 b o (ZAC h hru) (s6 _ _ h)
 intro ak da hak hda nad
 have hak':upd H7 da (.own ak) ak=none:=by rw [ZAG (Ne.symm nad)];exact hak
 have s8:Same H7 (upd (upd H7 da (.own ak)) ak (.ins C_Asker da [])):=(ZAK hda _).trans (ZAK hak' _)
 have hPtB:∃ t,H5 Pt_teller=some (.tbl t):=by
  rcases md.tab with h | ⟨c',h,_⟩
  .exact ⟨_,h⟩
  .exact ⟨_,h⟩
 have u7:∀ b o,H4 b=some o->(∀ t,o≠.tbl t)->H7 b=some o:=fun b o h n=>k7' _ _ (md.same b o (nP b o h n) h)
 have h7xl:=u7 rw _ h4 fun _ z=>by cases z
 refine ⟨ak,da,rw,ru,_,xs,rfl,ZAF,s8 _ _ h7xl,fun rl tl HA k9 nrl ntl nrt ia hrl' htl=>⟨rfl,?_⟩⟩
 have u9:∀ b o,H7 b=some o->HA b=some o:=fun b o h=>k9 b o (ZAC h hak) (s8 _ _ h)
 have h7lg:=u7 lg _ h4lg fun _ z=>by cases z
 have h8ak:upd (upd H7 da (.own ak)) ak (.ins C_Asker da []) ak=some (.ins C_Asker da []):=ZAF
 obtain ⟨dr',fs'',er,_,_⟩:=ir.ex
 have nak_ru:ru≠ak:=ZAC er hak
 have st:SitL _ C_Asker C_AskedRule HA ks xs ak rl ru tl g lg []:={
  ha:=ia
  hrl:=hrl'
  hru:=ZB8 (S:=[ak]) (fun b o n h=>k9 b o (fun z=>n (by rw [z];exact yAE)) (s8 _ _ h)) (fun z=>nak_ru (yAK.mp z)) ir
  clo:=md.clo.mono fun b o h=>u9 _ _ (k7' _ _ h)
  len:=hth4.1
  row:=fun i k hk=>by
   obtain ⟨r,a1,a2⟩:=hth4.2 i k hk
   exact ⟨r,a1,u9 _ _ (u7 _ _ a2 fun _ z=>by cases z)⟩
  hlg:=⟨[],u9 _ _ h7lg,rfl,fun j p q h=>by simp at h⟩
  htl:=⟨[],htl,rfl,fun j p q h=>by simp at h⟩
  ne:=⟨ZAC (s8 _ _ h7lg) ntl,ZDY (Ne.symm (ZAC h8ak nrl)) (Ne.symm (ZAC (s8 _ _ h7lg) nrl)) nrt,nak_ru⟩
  hmo:=hbd }
 have upP:∀ b o,b≠Pt_teller->H4 b=some o->HA b=some o /\ (b≠lg->b∉[ak,lg,tl]):=fun b o n h=>by
  have h7:=k7' _ _ (md.same b o n h)
  exact ⟨u9 _ _ h7,fun nl=>ZDY (ZAC h7 hak) nl (ZAC (s8 _ _ h7) ntl)⟩
 have hTA:TabT HA Pt_teller:=by
  rcases md.tab with h | ⟨c',h,hc⟩
  .exact .inl (u9 _ _ (k7' _ _ h))
  .exact .inr ⟨c',u9 _ _ (k7' _ _ h),hc.mono fun b o hb=>u9 _ _ (k7' _ _ hb)⟩
 have nPA:Pt_teller∉[ak,lg,tl]:=by
  obtain ⟨t,ht⟩:=hPtB
  exact ZDY (ZAC (k7' _ _ ht) hak) (Ne.symm (nP lg _ h4lg fun _ z=>by cases z)) (ZAC (s8 _ _ (k7' _ _ ht)) ntl)
 have back:∀ H',Fr [ak,lg,tl] HA H'->(∀ b o,b≠Pt_teller->H0 b=some o->H' b=some o) /\ TabT H' Pt_teller:=fun H' f=>by
  refine ⟨fun b o n h=>?_,?_⟩
  .obtain ⟨x1,x2⟩:=upP b o n (s04 _ _ h)
   exact f b o (x2 (ZAC h hlg)) x1
  .rcases hTA with h | ⟨c',h,hc⟩
   .exact .inl (f _ _ nPA h)
   .exact .inr ⟨c',f _ _ nPA h,hc.mono fun b o hb=>f _ _ (st.tupS hb (fun _ z=>by cases z) (fun _ _ _ z=>by cases z)) hb⟩
 have up:∀ {b:Addr} {l:List V},H0 b=some (.lst l)->HA b=some (.lst l) /\ b∉[ak,lg,tl]:=fun {b l} h=>by
  obtain ⟨x1,x2⟩:=upP b _ (nP b _ (s04 _ _ h) fun _ z=>by cases z) (s04 _ _ h)
  exact ⟨x1,x2 (ZAC h hlg)⟩
 clear u7 u9 k9 k7 k7' md s8 s6 hPtB h7xl h7lg er h8ak nak_ru ia hrl' htl hru hru' hak' hdr hda upP
 obtain ⟨hrwA,arw⟩:=up hrw0
 have n0:∀ {b:Addr} {o:HO},H0 b=some o->(∀ t,o≠.tbl t)->b≠Pt_teller:=fun {b o} h n=>nP b o (s04 _ _ h) n
 refine ⟨.non,ks,xs,ak,rl,ru,tl,g,lg,[],m,rfl,st,hk200,by decide,(fun z=>by omega),fun m' em hm'=>⟨(fun k n H' d pr' ek=>nomatch ek),fun t l1 l2 pp A B H5 f5 _ _ _ _ ht hl1 hl2 hA hB hAm hBm hAl hpp st5=>?_⟩⟩
 have em:m'=m:=by omega
 subst em
 rw [List.nil_append] at st5
 obtain ⟨ws,hlg5,hws⟩:=st5.hlg
 have hnl:ws.length=(nd76 ks m').length:=by rw [hws.len,yAB];rfl
 have hal:=ZDt (bb:=decide (ks.length-1-m' < m')) (ks:=ks) (pcs:=sg ks.length) (mo:=8) ZEj ZDh (by rw [ZBK];omega) (min m' (ks.length-1-m')) (by rw [ZDE];omega)
 rw [ZBK] at hal
 have hn9:(nd76 ks m').length <= 9000:=by
  have:(nd76 ks m').length <= ks.length-1+min m' (ks.length-1-m') * 8:=hal
  omega
 refine ZAU ?_
 walk_at "rd"
 refine ⟨lg,ws,rfl,.inl (SqL.of hlg5),?_⟩
 rw [hnl]
 obtain ⟨b1,b2⟩:=back H5 f5
 have hth5:Things H5 ks xs:=⟨st5.len,st5.row⟩
 refine ZAU ?_
 walk_at "rd"
 refine ZBW (SqT.of ht) (ZAY (by decide) rfl) ?_
 obtain ⟨zz,ezz,hzzl,hzz⟩:=hth5.zz
 refine ⟨rw,zz,rfl,SqL.of (by rw [<- ezz];exact f5 _ _ arw hrwA),fun z hzm=>?_,by omega,fun sl ms hsl hperm hsorted=>?_⟩
 .obtain ⟨i,hi,e⟩:=yCB hzm
  obtain ⟨a1,a2⟩:=hzz i z (by rw [yAD hi,e])
  rw [a1]
  exact SqT.of a2
 obtain ⟨z,hz1,hz2,hz3⟩:=nth76 hzzl (fun i z h=>(hzz i z h).1) hperm hsorted hpp hA hAm hAl
 obtain ⟨H6,e6,s6,h6⟩:=newH hsl (.lst (ms.map fun z=>V.ref z.1))
 rw [e6];clear e6
 refine ZBX (SqL.of h6) (ZAY (v:=.ref z.1) (by omega) (by rw [Int.toNat_natCast,yAU,hz1];rfl)) ?_
 obtain ⟨i,hi,e⟩:=yCB hz2
 obtain ⟨a1,a2⟩:=hzz i z (by rw [yAD hi,e])
 refine ZBW (SqT.of (s6 _ _ a2)) (ZAY (by decide) rfl) ?_
 walk_at "rd"
 have eip:(pp:Int)=(i:Int):=by
  rw [hz3] at a1
  exact congrArg Prod.snd a1
 rw [if_neg (fun z=>z eip)]
 have e6:∀ b o,b≠Pt_teller->H0 b=some o->H6 b=some o:=fun b o n h=>s6 _ _ (b1 b o n h)
 have t6:=ZBi s6 b2
 clear hz1 hz2 hz3 hzz hzzl ezz hperm hsorted h6 a1 a2 eip hi e
 refine ZAU ?_
 walk_at "rd"
 have scr6:=scr H6 (fun b o n h=>e6 b o n (eX2 b o n h))
 refine ⟨a,ns,3,rfl,scr6,by decide,?_⟩
 walk_at "rd"
 refine ⟨⟨by decide,by decide⟩,by omega,ZAS (by decide),fun lp hlp=>?_⟩
 have h5:0 <= cellOf ns 3 / 7 % (((nd76 ks m').length:Int)+1) /\ cellOf ns 3 / 7 % (((nd76 ks m').length:Int)+1) <= (nd76 ks m').length:=by
  have z1:=Int.emod_nonneg (cellOf ns 3 / 7) (show (((nd76 ks m').length:Int)+1)≠0 by omega)
  have z2:=Int.emod_lt_of_pos (cellOf ns 3 / 7) (show 0 < (((nd76 ks m').length:Int)+1) by omega)
  omega
 generalize cellOf ns 3 / 7 % (((nd76 ks m').length:Int)+1)=c5 at h5 ⊢
 obtain ⟨HL,eL,sL,hL⟩:=newH hlp (.lst [.int ((nd76 ks m').length:Nat),.int (((nd76 ks m').length:Int)-1),.int 0,.int c5])
 rw [eL];clear eL
 have nlp:lp≠Pt_teller:=fun z=>by
  rw [z] at hlp
  rcases t6 with h | ⟨c',h,hc⟩ <;> · rw [h] at hlp;cases hlp
 refine forL_of (SqL.of hL) (fun i σ X=>∃ v9:Option V,σ=[some (.ref a),some (.ref rw),some (.int far),some (.ref p0),v4,some (.int (m':Int)),some (.ref lg),some (.ref t),some (.int ((nd76 ks m').length:Nat)),v9] /\ (∀ b o,b≠Pt_teller->HL b=some o->X b=some o) /\ TabT X Pt_teller) ⟨_,rfl,fun _ _ _ h=>h,ZBi sL t6⟩ (fun i σ X _ z=>?_) (fun i x σ X hx z=>?_) fun σ X z=>?_
 .obtain ⟨_,_,e,_⟩:=z
  exact SqL.of (e _ _ nlp hL)
 .obtain ⟨v9,rfl,e,tabX⟩:=z
  obtain ⟨c,rfl,hc⟩:∃ c:Int,x=.int c /\ c <= (nd76 ks m').length:=by
   rcases i with _ | _ | _ | _ | i
   .cases hx;exact ⟨_,rfl,by omega⟩
   .cases hx;exact ⟨_,rfl,by omega⟩
   .cases hx;exact ⟨_,rfl,by omega⟩
   .cases hx;exact ⟨_,rfl,by omega⟩
   .cases hx
  walk_at "rd"
  by_cases hc0:0 <= c
  .rw [if_pos (by omega)]
   obtain ⟨mo,rfl⟩:=Int.eq_ofNat_of_zero_le hc0
   have eXX:∀ b o,b≠Pt_teller->H0 b=some o->X b=some o:=fun b o n h=>e b o n (sL _ _ (e6 b o n h))
   refine ⟨ks,xs,rw,m',mo,rfl,tabX,eXX _ _ (n0 hrw0 fun _ z=>by cases z) hrw0,⟨hth0.1,fun i k hk=>let ⟨r,a1,a2⟩:=hth0.2 i k hk;⟨r,a1,eXX _ _ (n0 a2 fun _ z=>by cases z) a2⟩⟩,hk200,hm,hn9,by omega,fun X2 e2 t2=>⟨_,rfl,?_⟩⟩
   rw [if_neg (by decide)]
   exact ⟨_,rfl,fun b o n h=>e2 b o n (e b o n h),t2⟩
  .rw [if_neg (by omega)]
   exact ⟨_,rfl,e,tabX⟩
 obtain ⟨v9,rfl,e,tabX⟩:=z
 refine ZAU ?_
 walk_at "rd"
 exact q _
end
theorem all_mk {l:PySem.W.OpenLaw} {w:World} {K:W.Frag} {h:Heap} {mg:Str->Option Value} {fa C_zaH f_zae f_zaf f_zas f_zao f_zat f_zak f_zap f_zaq C_zaF f_zaa f_zab C_zaG f_zan T_zan f_zai f_zag f_zaj C_zaE f_zad f_zac C_HallError C_NoRule C_NoPaper C_NoPlace C_NoKey C_NoRow C_NoOrder C_TooFar C_Spent f_zam f_zah f_zal f_zaw f_zaz f_zaD f_zau f_zaB f_zaA f_zar f_zav f_zaC f_zax f_zay cc_zay Pt_zay:Addr} (X:K.In h) (G:h.Ns mainGlobals mg) (hfa:mg "law"=some (.ref fa))
  {od_zae an_zae:Option Addr} {sl_zae:Array (Option Value)} {oc_zae kV_zae dc_zae pm_zae cd_zae ct_zae:Value}
  {od_zaf an_zaf:Option Addr} {sl_zaf:Array (Option Value)} {oc_zaf kV_zaf dc_zaf pm_zaf cd_zaf ct_zaf:Value}
  {od_zas an_zas:Option Addr} {sl_zas:Array (Option Value)} {oc_zas kV_zas dc_zas pm_zas cd_zas ct_zas:Value}
  {od_zao an_zao:Option Addr} {sl_zao:Array (Option Value)} {oc_zao kV_zao dc_zao pm_zao cd_zao ct_zao:Value}
  {od_zat an_zat:Option Addr} {sl_zat:Array (Option Value)} {oc_zat kV_zat dc_zat pm_zat cd_zat ct_zat:Value}
  {od_zak an_zak:Option Addr} {sl_zak:Array (Option Value)} {oc_zak kV_zak dc_zak pm_zak cd_zak ct_zak:Value}
  {od_zap an_zap:Option Addr} {sl_zap:Array (Option Value)} {oc_zap kV_zap dc_zap pm_zap cd_zap ct_zap:Value}
  {od_zaq an_zaq:Option Addr} {sl_zaq:Array (Option Value)} {oc_zaq kV_zaq dc_zaq pm_zaq cd_zaq ct_zaq:Value}
  {od_zaa an_zaa:Option Addr} {sl_zaa:Array (Option Value)} {oc_zaa kV_zaa dc_zaa pm_zaa cd_zaa ct_zaa:Value}
  {od_zab an_zab:Option Addr} {sl_zab:Array (Option Value)} {oc_zab kV_zab dc_zab pm_zab cd_zab ct_zab:Value}
  {ocT_zan:Value} {odT_zan:Option Addr} {nT_zan:Nat} {slT_zan:Array (Option Value)}
  {od_zan an_zan:Option Addr} {sl_zan:Array (Option Value)} {oc_zan kV_zan dc_zan pm_zan cd_zan ct_zan:Value}
  {od_zai an_zai:Option Addr} {sl_zai:Array (Option Value)} {oc_zai kV_zai dc_zai pm_zai cd_zai ct_zai:Value}
  {od_zag an_zag:Option Addr} {sl_zag:Array (Option Value)} {oc_zag kV_zag dc_zag pm_zag cd_zag ct_zag:Value}
  {od_zaj an_zaj:Option Addr} {sl_zaj:Array (Option Value)} {oc_zaj kV_zaj dc_zaj pm_zaj cd_zaj ct_zaj:Value}
  {od_zad an_zad:Option Addr} {sl_zad:Array (Option Value)} {oc_zad kV_zad dc_zad pm_zad cd_zad ct_zad:Value}
  {od_zac an_zac:Option Addr} {sl_zac:Array (Option Value)} {oc_zac kV_zac dc_zac pm_zac cd_zac ct_zac:Value}
  {od_zam an_zam:Option Addr} {sl_zam:Array (Option Value)} {oc_zam kV_zam dc_zam pm_zam cd_zam ct_zam:Value}
  {od_zah an_zah:Option Addr} {sl_zah:Array (Option Value)} {oc_zah kV_zah dc_zah pm_zah cd_zah ct_zah:Value}
  {od_zal an_zal:Option Addr} {sl_zal:Array (Option Value)} {oc_zal kV_zal dc_zal pm_zal cd_zal ct_zal:Value}
  {od_zaw an_zaw:Option Addr} {sl_zaw:Array (Option Value)} {oc_zaw kV_zaw dc_zaw pm_zaw cd_zaw ct_zaw:Value}
  {od_zaz an_zaz:Option Addr} {sl_zaz:Array (Option Value)} {oc_zaz kV_zaz dc_zaz pm_zaz cd_zaz ct_zaz:Value}
  {od_zaD an_zaD:Option Addr} {sl_zaD:Array (Option Value)} {oc_zaD kV_zaD dc_zaD pm_zaD cd_zaD ct_zaD:Value}
  {od_zau an_zau:Option Addr} {sl_zau:Array (Option Value)} {oc_zau kV_zau dc_zau pm_zau cd_zau ct_zau:Value}
  {od_zaB an_zaB:Option Addr} {sl_zaB:Array (Option Value)} {oc_zaB kV_zaB dc_zaB pm_zaB cd_zaB ct_zaB:Value}
  {od_zaA an_zaA:Option Addr} {sl_zaA:Array (Option Value)} {oc_zaA kV_zaA dc_zaA pm_zaA cd_zaA ct_zaA:Value}
  {od_zar an_zar:Option Addr} {sl_zar:Array (Option Value)} {oc_zar kV_zar dc_zar pm_zar cd_zar ct_zar:Value}
  {od_zav an_zav:Option Addr} {sl_zav:Array (Option Value)} {oc_zav kV_zav dc_zav pm_zav cd_zav ct_zav:Value}
  {od_zaC an_zaC:Option Addr} {sl_zaC:Array (Option Value)} {oc_zaC kV_zaC dc_zaC pm_zaC cd_zaC ct_zaC:Value}
  {od_zax an_zax:Option Addr} {sl_zax:Array (Option Value)} {oc_zax kV_zax dc_zax pm_zax cd_zax ct_zax:Value}
  {oc2_zay:Value} {od2_zay:Option Addr} {vs_zay:Array Value} {sl2_zay:Array (Option Value)}
  {od_zay an_zay:Option Addr} {sl_zay:Array (Option Value)} {oc_zay kV_zay dc_zay pm_zay ct_zay:Value}
  (a_zaH:W.nsIn K mainGlobals "Pour"=some (some (.ref C_zaH)))
  (pg_zaH:PySem.W.plainGet K C_zaH Str.empty=true)
  (hd_zaH:PySem.W.hasDictIn K C_zaH=true)
  (po_zaH:PySem.W.plainOver K C_zaH=true)
  (sa_zaH:W.findIn K (.ref C_zaH) "__setattr__"=some (some (.builtin "object.__setattr__")))
  (mk_zaH:PySem.W.makesIn K C_zaH=true)
  (kc_zaH:W.keepIn K (.ref C_zaH)=true)
  (n_zaH_asker:W.findIn K (.ref C_zaH) "asker"=some none)
  (n_zaH_pieces:W.findIn K (.ref C_zaH) "pieces"=some none)
  (n_zaH_taken:W.findIn K (.ref C_zaH) "taken"=some none)
  (n_zaH_meetings:W.findIn K (.ref C_zaH) "meetings"=some none)
  (n_zaH_went_on:W.findIn K (.ref C_zaH) "went_on"=some none)
  (a_zae:W.findIn K (.ref C_zaH) "front_of"=some (some (.ref f_zae)))
  (i_zae:PySem.W.isFn K (.ref f_zae)=true)
  (l_zae:K.lookup f_zae=some ⟨oc_zae,od_zae,.func (W.fnOf "front_of" "Pour.front_of" (ZAM ZAn) (ZAL ZAn) (ZAB ZAn) .none kV_zae dc_zae pm_zae an_zae cd_zae ct_zae),sl_zae⟩)
  (c_zae:W.codeIn K cd_zae "Pour.front_of"=true)
  (k_zae:W.keepIn K (.ref f_zae)=true)
  (a_zaf:W.findIn K (.ref C_zaH) "goes_on"=some (some (.ref f_zaf)))
  (i_zaf:PySem.W.isFn K (.ref f_zaf)=true)
  (l_zaf:K.lookup f_zaf=some ⟨oc_zaf,od_zaf,.func (W.fnOf "goes_on" "Pour.goes_on" (ZAM ZAs) (ZAL ZAs) (ZAB ZAs) .none kV_zaf dc_zaf pm_zaf an_zaf cd_zaf ct_zaf),sl_zaf⟩)
  (c_zaf:W.codeIn K cd_zaf "Pour.goes_on"=true)
  (k_zaf:W.keepIn K (.ref f_zaf)=true)
  (a_zas:W.findIn K (.ref C_zaH) "met"=some (some (.ref f_zas)))
  (i_zas:PySem.W.isFn K (.ref f_zas)=true)
  (l_zas:K.lookup f_zas=some ⟨oc_zas,od_zas,.func (W.fnOf "met" "Pour.met" (ZAM ZBQ) (ZAL ZBQ) (ZAB ZBQ) .none kV_zas dc_zas pm_zas an_zas cd_zas ct_zas),sl_zas⟩)
  (c_zas:W.codeIn K cd_zas "Pour.met"=true)
  (k_zas:W.keepIn K (.ref f_zas)=true)
  (a_zao:W.findIn K (.ref C_zaH) "held"=some (some (.ref f_zao)))
  (i_zao:PySem.W.isFn K (.ref f_zao)=true)
  (l_zao:K.lookup f_zao=some ⟨oc_zao,od_zao,.func (W.fnOf "held" "Pour.held" (ZAM ZBH) (ZAL ZBH) (ZAB ZBH) .none kV_zao dc_zao pm_zao an_zao cd_zao ct_zao),sl_zao⟩)
  (c_zao:W.codeIn K cd_zao "Pour.held"=true)
  (k_zao:W.keepIn K (.ref f_zao)=true)
  (a_zat:W.findIn K (.ref C_zaH) "top"=some (some (.ref f_zat)))
  (i_zat:PySem.W.isFn K (.ref f_zat)=true)
  (l_zat:K.lookup f_zat=some ⟨oc_zat,od_zat,.func (W.fnOf "top" "Pour.top" (ZAM ZBP) (ZAL ZBP) (ZAB ZBP) .none kV_zat dc_zat pm_zat an_zat cd_zat ct_zat),sl_zat⟩)
  (c_zat:W.codeIn K cd_zat "Pour.top"=true)
  (k_zat:W.keepIn K (.ref f_zat)=true)
  (a_zak:W.findIn K (.ref C_zaH) "first"=some (some (.ref f_zak)))
  (i_zak:PySem.W.isFn K (.ref f_zak)=true)
  (l_zak:K.lookup f_zak=some ⟨oc_zak,od_zak,.func (W.fnOf "first" "Pour.first" (ZAM ZA4) (ZAL ZA4) (ZAB ZA4) .none kV_zak dc_zak pm_zak an_zak cd_zak ct_zak),sl_zak⟩)
  (c_zak:W.codeIn K cd_zak "Pour.first"=true)
  (k_zak:W.keepIn K (.ref f_zak)=true)
  (a_zap:W.findIn K (.ref C_zaH) "__init__"=some (some (.ref f_zap)))
  (i_zap:PySem.W.isFn K (.ref f_zap)=true)
  (l_zap:K.lookup f_zap=some ⟨oc_zap,od_zap,.func (W.fnOf "__init__" "Pour.__init__" (ZAM ZBG) (ZAL ZBG) (ZAB ZBG) .none kV_zap dc_zap pm_zap an_zap cd_zap ct_zap),sl_zap⟩)
  (c_zap:W.codeIn K cd_zap "Pour.__init__"=true)
  (k_zap:W.keepIn K (.ref f_zap)=true)
  (a_zaq:W.findIn K (.ref C_zaH) "take"=some (some (.ref f_zaq)))
  (i_zaq:PySem.W.isFn K (.ref f_zaq)=true)
  (l_zaq:K.lookup f_zaq=some ⟨oc_zaq,od_zaq,.func (W.fnOf "take" "Pour.take" (ZAM ZBF) (ZAL ZBF) (ZAB ZBF) .none kV_zaq dc_zaq pm_zaq an_zaq cd_zaq ct_zaq),sl_zaq⟩)
  (c_zaq:W.codeIn K cd_zaq "Pour.take"=true)
  (k_zaq:W.keepIn K (.ref f_zaq)=true)
  (a_zaF:W.nsIn K mainGlobals "LastPour"=some (some (.ref C_zaF)))
  (pg_zaF:PySem.W.plainGet K C_zaF Str.empty=true)
  (hd_zaF:PySem.W.hasDictIn K C_zaF=true)
  (po_zaF:PySem.W.plainOver K C_zaF=true)
  (sa_zaF:W.findIn K (.ref C_zaF) "__setattr__"=some (some (.builtin "object.__setattr__")))
  (mk_zaF:PySem.W.makesIn K C_zaF=true)
  (kc_zaF:W.keepIn K (.ref C_zaF)=true)
  (n_zaF_asker:W.findIn K (.ref C_zaF) "asker"=some none)
  (n_zaF_pieces:W.findIn K (.ref C_zaF) "pieces"=some none)
  (n_zaF_taken:W.findIn K (.ref C_zaF) "taken"=some none)
  (n_zaF_meetings:W.findIn K (.ref C_zaF) "meetings"=some none)
  (n_zaF_went_on:W.findIn K (.ref C_zaF) "went_on"=some none)
  (a_zaa:W.findIn K (.ref C_zaF) "front_of"=some (some (.ref f_zaa)))
  (i_zaa:PySem.W.isFn K (.ref f_zaa)=true)
  (l_zaa:K.lookup f_zaa=some ⟨oc_zaa,od_zaa,.func (W.fnOf "front_of" "LastPour.front_of" (ZAM ZAZ) (ZAL ZAZ) (ZAB ZAZ) .none kV_zaa dc_zaa pm_zaa an_zaa cd_zaa ct_zaa),sl_zaa⟩)
  (c_zaa:W.codeIn K cd_zaa "LastPour.front_of"=true)
  (k_zaa:W.keepIn K (.ref f_zaa)=true)
  (a_zab:W.findIn K (.ref C_zaF) "goes_on"=some (some (.ref f_zab)))
  (i_zab:PySem.W.isFn K (.ref f_zab)=true)
  (l_zab:K.lookup f_zab=some ⟨oc_zab,od_zab,.func (W.fnOf "goes_on" "LastPour.goes_on" (ZAM ZAb) (ZAL ZAb) (ZAB ZAb) .none kV_zab dc_zab pm_zab an_zab cd_zab ct_zab),sl_zab⟩)
  (c_zab:W.codeIn K cd_zab "LastPour.goes_on"=true)
  (k_zab:W.keepIn K (.ref f_zab)=true)
  (a_LastPour_met:W.findIn K (.ref C_zaF) "met"=some (some (.ref f_zas)))
  (a_LastPour_held:W.findIn K (.ref C_zaF) "held"=some (some (.ref f_zao)))
  (a_LastPour_top:W.findIn K (.ref C_zaF) "top"=some (some (.ref f_zat)))
  (a_LastPour_first:W.findIn K (.ref C_zaF) "first"=some (some (.ref f_zak)))
  (a_LastPour_init:W.findIn K (.ref C_zaF) "__init__"=some (some (.ref f_zap)))
  (a_LastPour_take:W.findIn K (.ref C_zaF) "take"=some (some (.ref f_zaq)))
  (a_zaG:W.nsIn K mainGlobals "Asker"=some (some (.ref C_zaG)))
  (pg_zaG:PySem.W.plainGet K C_zaG Str.empty=true)
  (hd_zaG:PySem.W.hasDictIn K C_zaG=true)
  (po_zaG:PySem.W.plainOver K C_zaG=true)
  (sa_zaG:W.findIn K (.ref C_zaG) "__setattr__"=some (some (.builtin "object.__setattr__")))
  (mk_zaG:PySem.W.makesIn K C_zaG=true)
  (kc_zaG:W.keepIn K (.ref C_zaG)=true)
  (n_zaG_row:W.findIn K (.ref C_zaG) "row"=some none)
  (n_zaG_rule:W.findIn K (.ref C_zaG) "rule"=some none)
  (n_zaG_most:W.findIn K (.ref C_zaG) "most"=some none)
  (n_zaG_asked:W.findIn K (.ref C_zaG) "asked"=some none)
  (n_zaG_told:W.findIn K (.ref C_zaG) "told"=some none)
  (a_zan:W.findIn K (.ref C_zaG) "__init__"=some (some (.ref f_zan)))
  (i_zan:PySem.W.isFn K (.ref f_zan)=true)
  (l_zan:K.lookup f_zan=some ⟨oc_zan,od_zan,.func (W.fnOf "__init__" "Asker.__init__" (ZAM ZA6) (ZAL ZA6) (ZAB ZA6) (.ref T_zan) kV_zan dc_zan pm_zan an_zan cd_zan ct_zan),sl_zan⟩)
  (c_zan:W.codeIn K cd_zan "Asker.__init__"=true)
  (d_zan:K.lookup T_zan=some ⟨ocT_zan,odT_zan,.seq ([.none]:List Value).toArray nT_zan,slT_zan⟩)
  (k_zan:W.keepIn K (.ref f_zan)=true)
  (a_zai:W.findIn K (.ref C_zaG) "widen"=some (some (.ref f_zai)))
  (i_zai:PySem.W.isFn K (.ref f_zai)=true)
  (l_zai:K.lookup f_zai=some ⟨oc_zai,od_zai,.func (W.fnOf "widen" "Asker.widen" (ZAM ZAv) (ZAL ZAv) (ZAB ZAv) .none kV_zai dc_zai pm_zai an_zai cd_zai ct_zai),sl_zai⟩)
  (c_zai:W.codeIn K cd_zai "Asker.widen"=true)
  (k_zai:W.keepIn K (.ref f_zai)=true)
  (a_zag:W.findIn K (.ref C_zaG) "ahead"=some (some (.ref f_zag)))
  (i_zag:PySem.W.isFn K (.ref f_zag)=true)
  (l_zag:K.lookup f_zag=some ⟨oc_zag,od_zag,.func (W.fnOf "ahead" "Asker.ahead" (ZAM ZAw) (ZAL ZAw) (ZAB ZAw) .none kV_zag dc_zag pm_zag an_zag cd_zag ct_zag),sl_zag⟩)
  (c_zag:W.codeIn K cd_zag "Asker.ahead"=true)
  (k_zag:W.keepIn K (.ref f_zag)=true)
  (a_zaj:W.findIn K (.ref C_zaG) "many"=some (some (.ref f_zaj)))
  (i_zaj:PySem.W.isFn K (.ref f_zaj)=true)
  (l_zaj:K.lookup f_zaj=some ⟨oc_zaj,od_zaj,.func (W.fnOf "many" "Asker.many" (ZAM ZA5) (ZAL ZA5) (ZAB ZA5) .none kV_zaj dc_zaj pm_zaj an_zaj cd_zaj ct_zaj),sl_zaj⟩)
  (c_zaj:W.codeIn K cd_zaj "Asker.many"=true)
  (k_zaj:W.keepIn K (.ref f_zaj)=true)
  (a_zaE:W.nsIn K mainGlobals "AskedRule"=some (some (.ref C_zaE)))
  (pg_zaE:PySem.W.plainGet K C_zaE Str.empty=true)
  (hd_zaE:PySem.W.hasDictIn K C_zaE=true)
  (po_zaE:PySem.W.plainOver K C_zaE=true)
  (sa_zaE:W.findIn K (.ref C_zaE) "__setattr__"=some (some (.builtin "object.__setattr__")))
  (mk_zaE:PySem.W.makesIn K C_zaE=true)
  (kc_zaE:W.keepIn K (.ref C_zaE)=true)
  (n_zaE_teller:W.findIn K (.ref C_zaE) "teller"=some none)
  (a_zad:W.findIn K (.ref C_zaE) "__init__"=some (some (.ref f_zad)))
  (i_zad:PySem.W.isFn K (.ref f_zad)=true)
  (l_zad:K.lookup f_zad=some ⟨oc_zad,od_zad,.func (W.fnOf "__init__" "AskedRule.__init__" (ZAM ZAg) (ZAL ZAg) (ZAB ZAg) .none kV_zad dc_zad pm_zad an_zad cd_zad ct_zad),sl_zad⟩)
  (c_zad:W.codeIn K cd_zad "AskedRule.__init__"=true)
  (k_zad:W.keepIn K (.ref f_zad)=true)
  (a_zac:W.findIn K (.ref C_zaE) "before"=some (some (.ref f_zac)))
  (i_zac:PySem.W.isFn K (.ref f_zac)=true)
  (l_zac:K.lookup f_zac=some ⟨oc_zac,od_zac,.func (W.fnOf "before" "AskedRule.before" (ZAM ZAc) (ZAL ZAc) (ZAB ZAc) .none kV_zac dc_zac pm_zac an_zac cd_zac ct_zac),sl_zac⟩)
  (c_zac:W.codeIn K cd_zac "AskedRule.before"=true)
  (k_zac:W.keepIn K (.ref f_zac)=true)
  (a_HallError:W.nsIn K mainGlobals "HallError"=some (some (.ref C_HallError)))
  (a_NoRule:W.nsIn K mainGlobals "NoRule"=some (some (.ref C_NoRule)))
  (a_NoPaper:W.nsIn K mainGlobals "NoPaper"=some (some (.ref C_NoPaper)))
  (a_NoPlace:W.nsIn K mainGlobals "NoPlace"=some (some (.ref C_NoPlace)))
  (a_NoKey:W.nsIn K mainGlobals "NoKey"=some (some (.ref C_NoKey)))
  (a_NoRow:W.nsIn K mainGlobals "NoRow"=some (some (.ref C_NoRow)))
  (a_NoOrder:W.nsIn K mainGlobals "NoOrder"=some (some (.ref C_NoOrder)))
  (a_TooFar:W.nsIn K mainGlobals "TooFar"=some (some (.ref C_TooFar)))
  (a_Spent:W.nsIn K mainGlobals "Spent"=some (some (.ref C_Spent)))
  (xq_NoPlace:PySem.W.excIn K C_NoPlace bmV "ValueError.__new__"=true)
  (xg_NoPlace:W.findIn K (.ref C_NoPlace) "__getattribute__"=some (some (.builtin "BaseException.__getattribute__")))
  (xh_NoPlace:W.findIn K (.ref C_NoPlace) "__getattr__"=some none)
  (xa_NoPlace:W.findIn K (.ref C_NoPlace) "__class__"=some (some (.builtin "object.__class__")))
  (xs_NoPlace:PySem.W.specialIn K (.builtin "object.__class__") "__get__"=some (some (.builtin "getset_descriptor.__get__")))
  (xt_NoPlace:PySem.W.takesIn K (.builtin "object.__class__")=some true)
  (xo_NoPlace:PySem.W.mroIn K C_NoPlace (.type "object")=some true)
  (xb_NoPlace:PySem.W.mroIn K C_NoPlace (.type "BaseException")=some true)
  (xd_NoPlace:PySem.W.hasDictIn K C_NoPlace=true)
  (xm_NoPlace_HallError:PySem.W.exmOne K (.ref C_NoPlace) (.ref C_HallError)=some true)
  (a_zam:W.findIn K (.ref C_Spent) "__init__"=some (some (.ref f_zam)))
  (i_zam:PySem.W.isFn K (.ref f_zam)=true)
  (l_zam:K.lookup f_zam=some ⟨oc_zam,od_zam,.func (W.fnOf "__init__" "Spent.__init__" (ZAM ZA3) (ZAL ZA3) (ZAB ZA3) .none kV_zam dc_zam pm_zam an_zam cd_zam ct_zam),sl_zam⟩)
  (c_zam:W.codeIn K cd_zam "Spent.__init__"=true)
  (k_zam:W.keepIn K (.ref f_zam)=true)
  (xg_Spent:W.findIn K (.ref C_Spent) "__getattribute__"=some (some (.builtin "BaseException.__getattribute__")))
  (xh_Spent:W.findIn K (.ref C_Spent) "__getattr__"=some none)
  (xa_Spent:W.findIn K (.ref C_Spent) "__class__"=some (some (.builtin "object.__class__")))
  (xs_Spent:PySem.W.specialIn K (.builtin "object.__class__") "__get__"=some (some (.builtin "getset_descriptor.__get__")))
  (xt_Spent:PySem.W.takesIn K (.builtin "object.__class__")=some true)
  (xo_Spent:PySem.W.mroIn K C_Spent (.type "object")=some true)
  (xb_Spent:PySem.W.mroIn K C_Spent (.type "BaseException")=some true)
  (xd_Spent:PySem.W.hasDictIn K C_Spent=true)
  (xv_Spent:ZD7 K C_Spent=true)
  (xw_Spent:W.findIn K (.ref C_Spent) "__setattr__"=some (some (.builtin "object.__setattr__")))
  (xi_Spent:ZCo K C_Spent f_zam bmV "ValueError.__new__"=true)
  (xp_Spent:W.keepIn K (.ref C_Spent)=true)
  (xm_Spent_HallError:PySem.W.exmOne K (.ref C_Spent) (.ref C_HallError)=some true)
  (n_Spent_asked:W.findIn K (.ref C_Spent) "asked"=some none)
  (xbg_HallError:PySem.W.specialIn K (.ref C_HallError) "__getattribute__"=some (some (.builtin "type.__getattribute__")))
  (xbr_HallError:PySem.W.readsIn K C_HallError (.type "type")=true)
  (xbf_HallError:PySem.W.findCls K (.ref C_HallError) (.type "type") "__init__"=some (.val (.builtin "ValueError.__init__")))
  (a_zah:W.nsIn K mainGlobals "meetings_of"=some (some (.ref f_zah)))
  (l_zah:K.lookup f_zah=some ⟨oc_zah,od_zah,.func (W.fnOf "meetings_of" "meetings_of" (ZAM ZAu) (ZAL ZAu) (ZAB ZAu) .none kV_zah dc_zah pm_zah an_zah cd_zah ct_zah),sl_zah⟩)
  (c_zah:W.codeIn K cd_zah "meetings_of"=true)
  (k_zah:W.keepIn K (.ref f_zah)=true)
  (a_zal:W.nsIn K mainGlobals "so_manieth"=some (some (.ref f_zal)))
  (l_zal:K.lookup f_zal=some ⟨oc_zal,od_zal,.func (W.fnOf "so_manieth" "so_manieth" (ZAM ZA2) (ZAL ZA2) (ZAB ZA2) .none kV_zal dc_zal pm_zal an_zal cd_zal ct_zal),sl_zal⟩)
  (c_zal:W.codeIn K cd_zal "so_manieth"=true)
  (k_zal:W.keepIn K (.ref f_zal)=true)
  (a_zaw:W.nsIn K mainGlobals "_law_cell_at"=some (some (.ref f_zaw)))
  (l_zaw:K.lookup f_zaw=some ⟨oc_zaw,od_zaw,.func (W.fnOf "_law_cell_at" "_law_cell_at" (ZAM ZBp) (ZAL ZBp) (ZAB ZBp) .none kV_zaw dc_zaw pm_zaw an_zaw cd_zaw ct_zaw),sl_zaw⟩)
  (c_zaw:W.codeIn K cd_zaw "_law_cell_at"=true)
  (k_zaw:W.keepIn K (.ref f_zaw)=true)
  (a_zaz:W.nsIn K mainGlobals "_law_stream"=some (some (.ref f_zaz)))
  (l_zaz:K.lookup f_zaz=some ⟨oc_zaz,od_zaz,.func (W.fnOf "_law_stream" "_law_stream" (ZAM ZCE) (ZAL ZCE) (ZAB ZCE) .none kV_zaz dc_zaz pm_zaz an_zaz cd_zaz ct_zaz),sl_zaz⟩)
  (c_zaz:W.codeIn K cd_zaz "_law_stream"=true)
  (k_zaz:W.keepIn K (.ref f_zaz)=true)
  (a_zaD:W.nsIn K mainGlobals "_law_row"=some (some (.ref f_zaD)))
  (l_zaD:K.lookup f_zaD=some ⟨oc_zaD,od_zaD,.func (W.fnOf "_law_row" "_law_row" (ZAM ZES) (ZAL ZES) (ZAB ZES) .none kV_zaD dc_zaD pm_zaD an_zaD cd_zaD ct_zaD),sl_zaD⟩)
  (c_zaD:W.codeIn K cd_zaD "_law_row"=true)
  (k_zaD:W.keepIn K (.ref f_zaD)=true)
  (a_zau:W.nsIn K mainGlobals "_law_numbers"=some (some (.ref f_zau)))
  (l_zau:K.lookup f_zau=some ⟨oc_zau,od_zau,.func (W.fnOf "_law_numbers" "_law_numbers" (ZAM ZBo) (ZAL ZBo) (ZAB ZBo) .none kV_zau dc_zau pm_zau an_zau cd_zau ct_zau),sl_zau⟩)
  (c_zau:W.codeIn K cd_zau "_law_numbers"=true)
  (k_zau:W.keepIn K (.ref f_zau)=true)
  (a_zaB:W.nsIn K mainGlobals "_law_many"=some (some (.ref f_zaB)))
  (l_zaB:K.lookup f_zaB=some ⟨oc_zaB,od_zaB,.func (W.fnOf "_law_many" "_law_many" (ZAM ZDF) (ZAL ZDF) (ZAB ZDF) .none kV_zaB dc_zaB pm_zaB an_zaB cd_zaB ct_zaB),sl_zaB⟩)
  (c_zaB:W.codeIn K cd_zaB "_law_many"=true)
  (k_zaB:W.keepIn K (.ref f_zaB)=true)
  (a_zaA:W.nsIn K mainGlobals "_law_tried"=some (some (.ref f_zaA)))
  (l_zaA:K.lookup f_zaA=some ⟨oc_zaA,od_zaA,.func (W.fnOf "_law_tried" "_law_tried" (ZAM ZCk) (ZAL ZCk) (ZAB ZCk) .none kV_zaA dc_zaA pm_zaA an_zaA cd_zaA ct_zaA),sl_zaA⟩)
  (c_zaA:W.codeIn K cd_zaA "_law_tried"=true)
  (k_zaA:W.keepIn K (.ref f_zaA)=true)
  (a_zar:W.nsIn K mainGlobals "_law_no_place"=some (some (.ref f_zar)))
  (l_zar:K.lookup f_zar=some ⟨oc_zar,od_zar,.func (W.fnOf "_law_no_place" "_law_no_place" (ZAM ZBO) (ZAL ZBO) (ZAB ZBO) .none kV_zar dc_zar pm_zar an_zar cd_zar ct_zar),sl_zar⟩)
  (c_zar:W.codeIn K cd_zar "_law_no_place"=true)
  (k_zar:W.keepIn K (.ref f_zar)=true)
  (a_zav:W.nsIn K mainGlobals "_law_stopped"=some (some (.ref f_zav)))
  (l_zav:K.lookup f_zav=some ⟨oc_zav,od_zav,.func (W.fnOf "_law_stopped" "_law_stopped" (ZAM ZBn) (ZAL ZBn) (ZAB ZBn) .none kV_zav dc_zav pm_zav an_zav cd_zav ct_zav),sl_zav⟩)
  (c_zav:W.codeIn K cd_zav "_law_stopped"=true)
  (k_zav:W.keepIn K (.ref f_zav)=true)
  (a_zaC:W.nsIn K mainGlobals "law"=some (some (.ref f_zaC)))
  (l_zaC:K.lookup f_zaC=some ⟨oc_zaC,od_zaC,.func (W.fnOf "law" "law" (ZAM ZDO) (ZAL ZDO) (ZAB ZDO) .none kV_zaC dc_zaC pm_zaC an_zaC cd_zaC ct_zaC),sl_zaC⟩)
  (c_zaC:W.codeIn K cd_zaC "law"=true)
  (k_zaC:W.keepIn K (.ref f_zaC)=true)
  (a_zax:W.nsIn K mainGlobals "_law_another"=some (some (.ref f_zax)))
  (l_zax:K.lookup f_zax=some ⟨oc_zax,od_zax,.func (W.fnOf "_law_another" "_law_another" (ZAM ZBq) (ZAL ZBq) (ZAB ZBq) .none kV_zax dc_zax pm_zax an_zax cd_zax ct_zax),sl_zax⟩)
  (c_zax:W.codeIn K cd_zax "_law_another"=true)
  (k_zax:W.keepIn K (.ref f_zax)=true)
  (a_zay:W.nsIn K mainGlobals "_law_teller"=some (some (.ref f_zay)))
  (l_zay:K.lookup f_zay=some ⟨oc_zay,od_zay,.func (W.fnOf "_law_teller" "_law_teller" (ZAM ZBw) (ZAL ZBw) (ZAB ZBw) .none kV_zay dc_zay pm_zay an_zay (.ref cc_zay) ct_zay),sl_zay⟩)
  (c_zay:W.codeIn K (.ref cc_zay) "_law_teller"=true)
  (lc_zay:K.lookup cc_zay=some ⟨oc2_zay,od2_zay,.fields vs_zay,sl2_zay⟩)
  (tp_zay:vs_zay[11]?=some (.ref Pt_zay))
  (k_zay:W.keepIn K (.ref f_zay)=true)
  (z_len:W.nsIn K mainGlobals "len"=some none)
  (z_range:W.nsIn K mainGlobals "range"=some none)
  (z_list:W.nsIn K mainGlobals "list"=some none)
  (z_isinstance:W.nsIn K mainGlobals "isinstance"=some none)
  (z_max:W.nsIn K mainGlobals "max"=some none)
  (z_min:W.nsIn K mainGlobals "min"=some none)
  (z_sum:W.nsIn K mainGlobals "sum"=some none)
  (z_sorted:W.nsIn K mainGlobals "sorted"=some none)
  (z_dict:W.nsIn K mainGlobals "dict"=some none)
  (z_ValueError:W.nsIn K mainGlobals "ValueError"=some none)
  (kit_int_bool:PySem.W.kitOne K (.type "int") (.type "bool")=some false)
  (kit_Spent_ValueError:PySem.W.kitOne K (.ref C_Spent) (.type "ValueError")=some true)
  (kit_Spent_NoPlace:PySem.W.kitOne K (.ref C_Spent) (.ref C_NoPlace)=some false)
  (kit_Spent_Spent:PySem.W.kitOne K (.ref C_Spent) (.ref C_Spent)=some true)
  (kit_Spent_NoPaper:PySem.W.kitOne K (.ref C_Spent) (.ref C_NoPaper)=some false)
  (kit_Spent_NoRule:PySem.W.kitOne K (.ref C_Spent) (.ref C_NoRule)=some false)
  (kit_Spent_NoKey:PySem.W.kitOne K (.ref C_Spent) (.ref C_NoKey)=some false)
  (kit_Spent_NoRow:PySem.W.kitOne K (.ref C_Spent) (.ref C_NoRow)=some false)
  (kit_Spent_NoOrder:PySem.W.kitOne K (.ref C_Spent) (.ref C_NoOrder)=some false)
  (kit_Spent_TooFar:PySem.W.kitOne K (.ref C_Spent) (.ref C_TooFar)=some false)
  (kit_NoPlace_ValueError:PySem.W.kitOne K (.ref C_NoPlace) (.type "ValueError")=some true)
  (kit_NoPlace_NoPlace:PySem.W.kitOne K (.ref C_NoPlace) (.ref C_NoPlace)=some true)
  (kit_NoPlace_Spent:PySem.W.kitOne K (.ref C_NoPlace) (.ref C_Spent)=some false)
  (kit_NoPlace_NoPaper:PySem.W.kitOne K (.ref C_NoPlace) (.ref C_NoPaper)=some false)
  (kit_NoPlace_NoRule:PySem.W.kitOne K (.ref C_NoPlace) (.ref C_NoRule)=some false)
  (kit_NoPlace_NoKey:PySem.W.kitOne K (.ref C_NoPlace) (.ref C_NoKey)=some false)
  (kit_NoPlace_NoRow:PySem.W.kitOne K (.ref C_NoPlace) (.ref C_NoRow)=some false)
  (kit_NoPlace_NoOrder:PySem.W.kitOne K (.ref C_NoPlace) (.ref C_NoOrder)=some false)
  (kit_NoPlace_TooFar:PySem.W.kitOne K (.ref C_NoPlace) (.ref C_TooFar)=some false)
  (nt:PySem.W.noTabs K=true) :
  ∃ (tabs:List (Addr×Addr)) (fd:FuncData),PySem.W.noTabs K=true /\ (∀ t∈tabs,∃ y∈(["_law_teller"]:List Str),PySem.W.tabIn K y=some t) /\ (∀ (s:Shared) (v:Value),BindsTo s fd ⟨[v],[]⟩ [("_law_script",v)]) /\ ∀ base:Heap,K.In base->base.Ns mainGlobals mg->(∀ t∈tabs,PySem.W.CodeHd base t.1 t.2)->ZDs mg base->FnOk l.prog w K mg base CX0 15 fa fd ["_law_script"] (ZEi K tabs):=by
 have e:=hfa.symm.trans (PySem.W.mg_of X G a_zaC)
 cases e
 have cl_zaH:Cls K C_zaH:=⟨pg_zaH,hd_zaH,po_zaH,sa_zaH⟩
 have F_zae:=ZAi (st:=ZAn) l_zae c_zae k_zae
 have b_zae:=F_zae.binds (ps:=["self","piece","taken"]) fun _ _ _ _ _ _ us hl=>by obtain ⟨_,_,_,rfl⟩:=us3 hl;rfl
 have F_zaf:=ZAi (st:=ZAs) l_zaf c_zaf k_zaf
 have b_zaf:=F_zaf.binds (ps:=["self","p","q"]) fun _ _ _ _ _ _ us hl=>by obtain ⟨_,_,_,rfl⟩:=us3 hl;rfl
 have F_zas:=ZAi (st:=ZBQ) l_zas c_zas k_zas
 have b_zas:=F_zas.binds (ps:=["self","one","other"]) fun _ _ _ _ _ _ us hl=>by obtain ⟨_,_,_,rfl⟩:=us3 hl;rfl
 have F_zao:=ZAi (st:=ZBH) l_zao c_zao k_zao
 have b_zao:=F_zao.binds (ps:=["self","meetings","went_on"]) fun _ _ _ _ _ _ us hl=>by obtain ⟨_,_,_,rfl⟩:=us3 hl;rfl
 have F_zat:=ZAi (st:=ZBP) l_zat c_zat k_zat
 have b_zat:=F_zat.binds (ps:=["self"]) fun _ _ _ _ _ _ us hl=>by obtain ⟨_,rfl⟩:=us1 hl;rfl
 have F_zak:=ZAi (st:=ZA4) l_zak c_zak k_zak
 have b_zak:=F_zak.binds (ps:=["self"]) fun _ _ _ _ _ _ us hl=>by obtain ⟨_,rfl⟩:=us1 hl;rfl
 have F_zap:=ZAi (st:=ZBG) l_zap c_zap k_zap
 have b_zap:=F_zap.binds (ps:=["self","asker","pieces"]) fun _ _ _ _ _ _ us hl=>by obtain ⟨_,_,_,rfl⟩:=us3 hl;rfl
 have F_zaq:=ZAi (st:=ZBF) l_zaq c_zaq k_zaq
 have b_zaq:=F_zaq.binds (ps:=["self"]) fun _ _ _ _ _ _ us hl=>by obtain ⟨_,rfl⟩:=us1 hl;rfl
 have TX_Pour:BtX K C_zaH:=⟨cl_zaH,n_zaH_asker,n_zaH_pieces,n_zaH_taken,n_zaH_meetings,n_zaH_went_on⟩
 have cl_zaF:Cls K C_zaF:=⟨pg_zaF,hd_zaF,po_zaF,sa_zaF⟩
 have F_zaa:=ZAi (st:=ZAZ) l_zaa c_zaa k_zaa
 have b_zaa:=F_zaa.binds (ps:=["self","piece","taken"]) fun _ _ _ _ _ _ us hl=>by obtain ⟨_,_,_,rfl⟩:=us3 hl;rfl
 have F_zab:=ZAi (st:=ZAb) l_zab c_zab k_zab
 have b_zab:=F_zab.binds (ps:=["self","p","q"]) fun _ _ _ _ _ _ us hl=>by obtain ⟨_,_,_,rfl⟩:=us3 hl;rfl
 have TX_LastPour:BtX K C_zaF:=⟨cl_zaF,n_zaF_asker,n_zaF_pieces,n_zaF_taken,n_zaF_meetings,n_zaF_went_on⟩
 have cl_zaG:Cls K C_zaG:=⟨pg_zaG,hd_zaG,po_zaG,sa_zaG⟩
 have F_zan:=funD_mk (st:=ZA6) l_zan c_zan k_zan d_zan
 have b_zan_4:=F_zan.binds (ps:=["self","row","rule","most"]) (ds:=[]) fun _ _ _ _ _ _ _ us hl=>by obtain ⟨_,_,_,_,rfl⟩:=us4 (us_len (n:=4) hl rfl);exact ⟨_,rfl,rfl⟩
 have b_zan_3:=F_zan.binds (ps:=["self","row","rule","most"]) (ds:=[.none]) fun _ _ _ _ _ _ _ us hl=>by obtain ⟨_,_,_,rfl⟩:=us3 (us_len (n:=3) hl rfl);exact ⟨_,rfl,rfl⟩
 have F_zai:=ZAi (st:=ZAv) l_zai c_zai k_zai
 have b_zai:=F_zai.binds (ps:=["self","more"]) fun _ _ _ _ _ _ us hl=>by obtain ⟨_,_,rfl⟩:=us2 hl;rfl
 have F_zag:=ZAi (st:=ZAw) l_zag c_zag k_zag
 have b_zag:=F_zag.binds (ps:=["self","p","q"]) fun _ _ _ _ _ _ us hl=>by obtain ⟨_,_,_,rfl⟩:=us3 hl;rfl
 have F_zaj:=ZAi (st:=ZA5) l_zaj c_zaj k_zaj
 have b_zaj:=F_zaj.binds (ps:=["self"]) fun _ _ _ _ _ _ us hl=>by obtain ⟨_,rfl⟩:=us1 hl;rfl
 have cl_zaE:Cls K C_zaE:=⟨pg_zaE,hd_zaE,po_zaE,sa_zaE⟩
 have F_zad:=ZAi (st:=ZAg) l_zad c_zad k_zad
 have b_zad:=F_zad.binds (ps:=["self","teller"]) fun _ _ _ _ _ _ us hl=>by obtain ⟨_,_,rfl⟩:=us2 hl;rfl
 have F_zac:=ZAi (st:=ZAc) l_zac c_zac k_zac
 have b_zac:=F_zac.binds (ps:=["self","x","y"]) fun _ _ _ _ _ _ us hl=>by obtain ⟨_,_,_,rfl⟩:=us3 hl;rfl
 have F_zam:=ZAi (st:=ZA3) l_zam c_zam k_zam
 have b_zam:=F_zam.binds (ps:=["self","asked"]) fun _ _ _ _ _ _ us hl=>by obtain ⟨_,_,rfl⟩:=us2 hl;rfl
 have F_zah:=ZAi (st:=ZAu) l_zah c_zah k_zah
 have b_zah:=F_zah.binds (ps:=["first","beyond"]) fun _ _ _ _ _ _ us hl=>by obtain ⟨_,_,rfl⟩:=us2 hl;rfl
 have F_zal:=ZAi (st:=ZA2) l_zal c_zal k_zal
 have b_zal:=F_zal.binds (ps:=["asker","many"]) fun _ _ _ _ _ _ us hl=>by obtain ⟨_,_,rfl⟩:=us2 hl;rfl
 have F_zaw:=ZAi (st:=ZBp) l_zaw c_zaw k_zaw
 have b_zaw:=F_zaw.binds (ps:=["_law_script","_law_k"]) fun _ _ _ _ _ _ us hl=>by obtain ⟨_,_,rfl⟩:=us2 hl;rfl
 have F_zaz:=ZAi (st:=ZCE) l_zaz c_zaz k_zaz
 have b_zaz:=F_zaz.binds (ps:=["_law_seed","_law_many_here"]) fun _ _ _ _ _ _ us hl=>by obtain ⟨_,_,rfl⟩:=us2 hl;rfl
 have F_zaD:=ZAi (st:=ZES) l_zaD c_zaD k_zaD
 have b_zaD:=F_zaD.binds (ps:=["_law_numbers_here","_law_kind"]) fun _ _ _ _ _ _ us hl=>by obtain ⟨_,_,rfl⟩:=us2 hl;rfl
 have F_zau:=ZAi (st:=ZBo) l_zau c_zau k_zau
 have b_zau:=F_zau.binds (ps:=["_law_script"]) fun _ _ _ _ _ _ us hl=>by obtain ⟨_,rfl⟩:=us1 hl;rfl
 have F_zaB:=ZAi (st:=ZDF) l_zaB c_zaB k_zaB
 have b_zaB:=F_zaB.binds (ps:=["_law_total","_law_one","_law_two"]) fun _ _ _ _ _ _ us hl=>by obtain ⟨_,_,_,rfl⟩:=us3 hl;rfl
 have F_zaA:=ZAi (st:=ZCk) l_zaA c_zaA k_zaA
 have b_zaA:=F_zaA.binds (ps:=["_law_asker","_law_many_here"]) fun _ _ _ _ _ _ us hl=>by obtain ⟨_,_,rfl⟩:=us2 hl;rfl
 have F_zar:=ZAi (st:=ZBO) l_zar c_zar k_zar
 have b_zar:=F_zar.binds (ps:=["_law_row_here","_law_many_here","_law_most"]) fun _ _ _ _ _ _ us hl=>by obtain ⟨_,_,_,rfl⟩:=us3 hl;rfl
 have F_zav:=ZAi (st:=ZBn) l_zav c_zav k_zav
 have b_zav:=F_zav.binds (ps:=["_law_row_here","_law_many_here","_law_needed","_law_most"]) fun _ _ _ _ _ _ us hl=>by obtain ⟨_,_,_,_,rfl⟩:=us4 hl;rfl
 have F_zaC:=ZAi (st:=ZDO) l_zaC c_zaC k_zaC
 have b_zaC:=F_zaC.binds (ps:=["_law_script"]) fun _ _ _ _ _ _ us hl=>by obtain ⟨_,rfl⟩:=us1 hl;rfl
 have F_zax:=ZAi (st:=ZBq) l_zax c_zax k_zax
 have b_zax:=F_zax.binds (ps:=["_law_e"]) fun _ _ _ _ _ _ us hl=>by obtain ⟨_,rfl⟩:=us1 hl;rfl
 have F_zay:=ZAi (st:=ZBw) l_zay c_zay k_zay
 have b_zay:=F_zay.binds (ps:=["_law_said"]) fun _ _ _ _ _ _ us hl=>by obtain ⟨_,rfl⟩:=us1 hl;rfl
 have T:Bt K mg C_zaH C_zaF C_zaG C_zaE C_HallError C_NoRule C_NoPaper C_NoPlace C_NoKey C_NoRow C_NoOrder C_TooFar C_Spent:=⟨PySem.W.mg_none_of X G z_len,PySem.W.mg_none_of X G z_range,PySem.W.mg_none_of X G z_list,PySem.W.mg_none_of X G z_isinstance,PySem.W.mg_none_of X G z_max,PySem.W.mg_none_of X G z_min,PySem.W.mg_none_of X G z_sum,PySem.W.mg_none_of X G z_sorted,PySem.W.mg_none_of X G z_dict,PySem.W.mg_none_of X G z_ValueError,PySem.W.mg_of X G a_zaH,cl_zaH,n_zaH_asker,n_zaH_pieces,n_zaH_taken,n_zaH_meetings,n_zaH_went_on,PySem.W.mg_of X G a_zaF,cl_zaF,n_zaF_asker,n_zaF_pieces,n_zaF_taken,n_zaF_meetings,n_zaF_went_on,PySem.W.mg_of X G a_zaG,cl_zaG,n_zaG_row,n_zaG_rule,n_zaG_most,n_zaG_asked,n_zaG_told,PySem.W.mg_of X G a_zaE,cl_zaE,n_zaE_teller,PySem.W.mg_of X G a_HallError,PySem.W.mg_of X G a_NoRule,PySem.W.mg_of X G a_NoPaper,PySem.W.mg_of X G a_NoPlace,PySem.W.mg_of X G a_NoKey,PySem.W.mg_of X G a_NoRow,PySem.W.mg_of X G a_NoOrder,PySem.W.mg_of X G a_TooFar,PySem.W.mg_of X G a_Spent,xq_NoPlace,⟨xg_NoPlace,xh_NoPlace,xa_NoPlace,xs_NoPlace,xt_NoPlace,xo_NoPlace,xb_NoPlace⟩,xd_NoPlace,xm_NoPlace_HallError,⟨xg_Spent,xh_Spent,xa_Spent,xs_Spent,xt_Spent,xo_Spent,xb_Spent⟩,⟨xd_Spent,xv_Spent,xw_Spent⟩,⟨_,xi_Spent⟩,xm_Spent_HallError,n_Spent_asked,⟨xbg_HallError,xbr_HallError,xbf_HallError⟩,kit_int_bool,kit_Spent_ValueError,kit_Spent_NoPlace,kit_Spent_Spent,kit_Spent_NoPaper,kit_Spent_NoRule,kit_Spent_NoKey,kit_Spent_NoRow,kit_Spent_NoOrder,kit_Spent_TooFar,kit_NoPlace_ValueError,kit_NoPlace_NoPlace,kit_NoPlace_Spent,kit_NoPlace_NoPaper,kit_NoPlace_NoRule,kit_NoPlace_NoKey,kit_NoPlace_NoRow,kit_NoPlace_NoOrder,kit_NoPlace_TooFar⟩
 refine ⟨[(cc_zay,Pt_zay)],W.fnOf "law" "law" (ZAM ZDO) (ZAL ZDO) (ZAB ZDO) .none kV_zaC dc_zaC pm_zaC an_zaC cd_zaC ct_zaC,nt,List.forall_mem_cons.mpr ⟨⟨"_law_teller",by simp,tabIn_of a_zay l_zay rfl lc_zay tp_zay⟩,fun _ h=>nomatch h⟩,fun s v=>.of_eq rfl,fun base _ _ hC hB=>?_⟩
 have f_zaD':Fn l.prog w K mg base CX0 "_law_row" 1 ["_law_numbers_here","_law_kind"] (ZFH):=⟨_,_,ok_row F_zaD T ,b_zaD,k_zaD,PySem.W.mg_of X G a_zaD⟩
 have f_zaB':Fn l.prog w K mg base CX0 "_law_many" 1 ["_law_total","_law_one","_law_two"] (ZDN):=⟨_,_,ok_many F_zaB T ,b_zaB,k_zaB,PySem.W.mg_of X G a_zaB⟩
 have t_Asker_many':Mt l.prog w K mg base CX0 C_zaG "many" 1 ["self"] (ZEh C_zaG):=⟨cl_zaG,_,_,ok_Asker_many F_zaj T ,b_zaj,a_zaj,i_zaj,k_zaj⟩
 have t_Pour_top':Mt l.prog w K mg base CX0 C_zaH "top" 1 ["self"] (ZEg false C_zaH):=⟨cl_zaH,_,_,ok_Pour_top F_zat T TX_Pour ,b_zat,a_zat,i_zat,k_zat⟩
 have t_Pour_first':Mt l.prog w K mg base CX0 C_zaH "first" 2 ["self"] (ZCx false C_zaH):=⟨cl_zaH,_,_,ok_Pour_first F_zak T TX_Pour t_Pour_top',b_zak,a_zak,i_zak,k_zak⟩
 have t_LastPour_top':Mt l.prog w K mg base CX0 C_zaF "top" 1 ["self"] (ZEg true C_zaF):=⟨cl_zaF,_,_,ok_Pour_top F_zat T TX_LastPour ,b_zat,a_LastPour_top,i_zat,k_zat⟩
 have t_LastPour_first':Mt l.prog w K mg base CX0 C_zaF "first" 2 ["self"] (ZCx true C_zaF):=⟨cl_zaF,_,_,ok_Pour_first F_zak T TX_LastPour t_LastPour_top',b_zak,a_LastPour_first,i_zak,k_zak⟩
 have t_Pour_front_of':Mt l.prog w K mg base CX0 C_zaH "front_of" 1 ["self","piece","taken"] (ZBl false C_zaH):=⟨cl_zaH,_,_,ok_Pour_front_of F_zae T ,b_zae,a_zae,i_zae,k_zae⟩
 have clo_teller':CloOk l.prog w K mg base 1 (ZBT):=clo_teller T
 have t_AskedRule_before':Mt l.prog w K mg base CX0 C_zaE "before" 2 ["self","x","y"] (ZCr C_zaE ZBT):=⟨cl_zaE,_,_,ok_AskedRule_before F_zac T clo_teller',b_zac,a_zac,i_zac,k_zac⟩
 have kx_Spent':XKl l.prog w K mg base CX0 "Spent" C_Spent 1 ["self","asked"] (ZCO C_Spent):=⟨PySem.W.mg_of X G a_Spent,_,_,ok_Spent_init F_zam T ,b_zam,xi_Spent,i_zam,xp_Spent⟩
 have t_Asker_ahead':Mt l.prog w K mg base (CXE l.prog w) C_zaG "ahead" 3 ["self","p","q"] (ZCy C_zaG C_zaE C_Spent ZBT):=⟨cl_zaG,_,_,ok_Asker_ahead F_zag T t_AskedRule_before' kx_Spent',b_zag,a_zag,i_zag,k_zag⟩
 have t_Pour_goes_on':Mt l.prog w K mg base (CXE l.prog w) C_zaH "goes_on" 4 ["self","p","q"] (ZCc C_zaG C_zaE C_Spent false C_zaH):=⟨cl_zaH,_,_,ok_Pour_goes_on F_zaf T t_Asker_ahead',b_zaf,a_zaf,i_zaf,k_zaf⟩
 have t_Pour_met':Mt l.prog w K mg base (CXE l.prog w) C_zaH "met" 5 ["self","one","other"] (ZE3 C_zaG C_zaE C_Spent false C_zaH):=⟨cl_zaH,_,_,ok_Pour_met F_zas T TX_Pour t_Pour_goes_on',b_zas,a_zas,i_zas,k_zas⟩
 have t_Pour_held':Mt l.prog w K mg base (CXE l.prog w) C_zaH "held" 6 ["self","meetings","went_on"] (ZDg C_zaG C_zaE C_Spent false C_zaH):=⟨cl_zaH,_,_,ok_Pour_held F_zao T TX_Pour t_Pour_met',b_zao,a_zao,i_zao,k_zao⟩
 have t_Pour_take':Mt l.prog w K mg base (CXE l.prog w) C_zaH "take" 7 ["self"] (ZDf C_zaG C_zaE C_Spent false C_zaH):=⟨cl_zaH,_,_,ok_Pour_take F_zaq T TX_Pour t_Pour_top' t_Pour_front_of' t_Pour_held',b_zaq,a_zaq,i_zaq,k_zaq⟩
 have t_LastPour_front_of':Mt l.prog w K mg base CX0 C_zaF "front_of" 1 ["self","piece","taken"] (ZBl true C_zaF):=⟨cl_zaF,_,_,ok_LastPour_front_of F_zaa T ,b_zaa,a_zaa,i_zaa,k_zaa⟩
 have t_LastPour_goes_on':Mt l.prog w K mg base (CXE l.prog w) C_zaF "goes_on" 4 ["self","p","q"] (ZCc C_zaG C_zaE C_Spent true C_zaF):=⟨cl_zaF,_,_,ok_LastPour_goes_on F_zab T t_Asker_ahead',b_zab,a_zab,i_zab,k_zab⟩
 have t_LastPour_met':Mt l.prog w K mg base (CXE l.prog w) C_zaF "met" 5 ["self","one","other"] (ZE3 C_zaG C_zaE C_Spent true C_zaF):=⟨cl_zaF,_,_,ok_Pour_met F_zas T TX_LastPour t_LastPour_goes_on',b_zas,a_LastPour_met,i_zas,k_zas⟩
 have t_LastPour_held':Mt l.prog w K mg base (CXE l.prog w) C_zaF "held" 6 ["self","meetings","went_on"] (ZDg C_zaG C_zaE C_Spent true C_zaF):=⟨cl_zaF,_,_,ok_Pour_held F_zao T TX_LastPour t_LastPour_met',b_zao,a_LastPour_held,i_zao,k_zao⟩
 have t_LastPour_take':Mt l.prog w K mg base (CXE l.prog w) C_zaF "take" 7 ["self"] (ZDf C_zaG C_zaE C_Spent true C_zaF):=⟨cl_zaF,_,_,ok_Pour_take F_zaq T TX_LastPour t_LastPour_top' t_LastPour_front_of' t_LastPour_held',b_zaq,a_LastPour_take,i_zaq,k_zaq⟩
 have f_zah':Fn l.prog w K mg base CX0 "meetings_of" 9 ["first","beyond"] (ZBN 9):=rec_fn (sp:=ZBN) (fun _ _ _ _ z=>spMeetings_no z) b_zah k_zah (PySem.W.mg_of X G a_zah) (fun n h=>ok_meetings_of F_zah T h) 9
 have k_zaF':Kl l.prog w K mg base (CXE l.prog w) "LastPour" C_zaF 10 ["self","asker","pieces"] (ZBk C_zaG C_zaE C_Spent true C_zaF):=⟨PySem.W.mg_of X G a_zaF,_,_,ok_Pour_init F_zap T TX_LastPour f_zah' t_LastPour_held' t_LastPour_front_of',b_zap,mk_zaF,a_LastPour_init,i_zap,kc_zaF⟩
 have k_zaH':Kl l.prog w K mg base (CXE l.prog w) "Pour" C_zaH 10 ["self","asker","pieces"] (ZBk C_zaG C_zaE C_Spent false C_zaH):=⟨PySem.W.mg_of X G a_zaH,_,_,ok_Pour_init F_zap T TX_Pour f_zah' t_Pour_held' t_Pour_front_of',b_zap,mk_zaH,a_zap,i_zap,kc_zaH⟩
 have f_zal':Fn l.prog w K mg base (CXE l.prog w) "so_manieth" 12 ["asker","many"] (ZCq C_zaG C_zaE C_Spent C_NoPlace):=⟨_,_,ok_so_manieth F_zal T t_Asker_many' t_Pour_first' t_LastPour_first' t_Pour_take' t_LastPour_take' k_zaF' k_zaH',b_zal,k_zal,PySem.W.mg_of X G a_zal⟩
 have f_zaz':Fn l.prog w K mg base CX0 "_law_stream" 1 ["_law_seed","_law_many_here"] (ZCw):=⟨_,_,ok_stream F_zaz T ,b_zaz,k_zaz,PySem.W.mg_of X G a_zaz⟩
 have f_zaw':Fn l.prog w K mg base CX0 "_law_cell_at" 1 ["_law_script","_law_k"] (ZEB K):=⟨_,_,ok_cell_at F_zaw T ,b_zaw,k_zaw,PySem.W.mg_of X G a_zaw⟩
 have f_zau':Fn l.prog w K mg base CX0 "_law_numbers" 2 ["_law_script"] (ZCP K):=⟨_,_,ok_numbers F_zau T f_zaz' f_zaw',b_zau,k_zau,PySem.W.mg_of X G a_zau⟩
 have h_another':FnH l.prog w K mg base "_law_another" 1 ["_law_e"] (ZCj C_Spent C_NoPlace):=⟨_,_,okh_another F_zax T,b_zax,k_zax,PySem.W.mg_of X G a_zax⟩
 have f_zaA':Fn l.prog w K mg base CX0 "_law_tried" 13 ["_law_asker","_law_many_here"] (ZCb C_zaG C_zaE):=⟨_,_,ok_tried F_zaA T f_zal' h_another',b_zaA,k_zaA,PySem.W.mg_of X G a_zaA⟩
 have f_zay':Fn l.prog w K mg base CX0 "_law_teller" 1 ["_law_said"] (ZDD Pt_zay (ZDI ZAH) "_law_tells" "_law_teller.<locals>._law_tells" (ZAM ZAH) (ZAL ZAH) (ZAB ZAH) ["_law_said"] [0] 1):=⟨_,_,ok_teller F_zay rfl (hC (cc_zay,Pt_zay) (by simp)) hB,b_zay,k_zay,PySem.W.mg_of X G a_zay⟩
 have k_zaG':Kl l.prog w K mg base CX0 "Asker" C_zaG 1 ["self","row","rule","most"] (ZBE C_zaG):=⟨PySem.W.mg_of X G a_zaG,_,_,ok_Asker_init F_zan T ,b_zan_4,mk_zaG,a_zan,i_zan,kc_zaG⟩
 have k_zaE':Kl l.prog w K mg base CX0 "AskedRule" C_zaE 1 ["self","teller"] (ZBj C_zaE):=⟨PySem.W.mg_of X G a_zaE,_,_,ok_AskedRule_init F_zad T ,b_zad,mk_zaE,a_zad,i_zad,kc_zaE⟩
 have f_zar':Fn l.prog w K mg base CX0 "_law_no_place" 14 ["_law_row_here","_law_many_here","_law_most"] (ZCQ Pt_zay):=⟨_,_,ok_no_place F_zar T f_zaA' f_zay' k_zaG' k_zaE',b_zar,k_zar,PySem.W.mg_of X G a_zar⟩
 have t_Asker_widen':Mt l.prog w K mg base CX0 C_zaG "widen" 1 ["self","more"] (ZDw C_zaG):=⟨cl_zaG,_,_,ok_Asker_widen F_zai T ,b_zai,a_zai,i_zai,k_zai⟩
 have f_zav':Fn l.prog w K mg base CX0 "_law_stopped" 14 ["_law_row_here","_law_many_here","_law_needed","_law_most"] (ZCN Pt_zay):=⟨_,_,ok_stopped F_zav T f_zaA' f_zay' t_Asker_widen' k_zaG' k_zaE',b_zav,k_zav,PySem.W.mg_of X G a_zav⟩
 have k_zaG_3':KlD l.prog w K mg base CX0 "Asker" C_zaG 1 ["self","row","rule","most"] (ZBE C_zaG) [.non]:=⟨PySem.W.mg_of X G a_zaG,_,_,_,ok_Asker_init F_zan T ,b_zan_3,(.cons rfl .nil),mk_zaG,a_zan,i_zan,kc_zaG⟩
 exact ok_law F_zaC T f_zaD' f_zaB' f_zal' f_zau' f_zaw' f_zar' f_zay' f_zav' k_zaG_3' k_zaE'
end Law
open PySem PySem.W PyProof.Rows
set_option maxRecDepth 100000 in
set_option maxHeartbeats 0 in
theorem PySem.Challenge.cw_sorthall_k76_refused_and_stopped_holds : PySem.Challenge.rw_sorthall_k76_refused_and_stopped.Holds := by
 refine L2.hd0 ?_
 k_fill
 refine L2.walk_ofT2 (l:=PySem.Challenge.rw_sorthall_k76_refused_and_stopped) (k:=15) (x:="_law_script") (names:=["_law_teller"]) rfl rfl ⟨rfl,by decide,by decide,rfl⟩ (fun w h Y=>PySem.W.km_in_of Y) (List.forall_mem_cons.mpr ⟨⟨_,rfl⟩,fun _ h=>nomatch h⟩) ?F
 case F=>
  intro w mg fa h KX G hmg
  refine' Law.all_mk KX G hmg ?a_zaH ?pg_zaH ?hd_zaH ?po_zaH ?sa_zaH ?mk_zaH ?kc_zaH ?n_zaH_asker ?n_zaH_pieces ?n_zaH_taken ?n_zaH_meetings ?n_zaH_went_on ?a_zae ?i_zae ?l_zae ?c_zae ?k_zae ?a_zaf ?i_zaf ?l_zaf ?c_zaf ?k_zaf ?a_zas ?i_zas ?l_zas ?c_zas ?k_zas ?a_zao ?i_zao ?l_zao ?c_zao ?k_zao ?a_zat ?i_zat ?l_zat ?c_zat ?k_zat ?a_zak ?i_zak ?l_zak ?c_zak ?k_zak ?a_zap ?i_zap ?l_zap ?c_zap ?k_zap ?a_zaq ?i_zaq ?l_zaq ?c_zaq ?k_zaq ?a_zaF ?pg_zaF ?hd_zaF ?po_zaF ?sa_zaF ?mk_zaF ?kc_zaF ?n_zaF_asker ?n_zaF_pieces ?n_zaF_taken ?n_zaF_meetings ?n_zaF_went_on ?a_zaa ?i_zaa ?l_zaa ?c_zaa ?k_zaa ?a_zab ?i_zab ?l_zab ?c_zab ?k_zab ?a_LastPour_met ?a_LastPour_held ?a_LastPour_top ?a_LastPour_first ?a_LastPour_init ?a_LastPour_take ?a_zaG ?pg_zaG ?hd_zaG ?po_zaG ?sa_zaG ?mk_zaG ?kc_zaG ?n_zaG_row ?n_zaG_rule ?n_zaG_most ?n_zaG_asked ?n_zaG_told ?a_zan ?i_zan ?l_zan ?c_zan ?d_zan ?k_zan ?a_zai ?i_zai ?l_zai ?c_zai ?k_zai ?a_zag ?i_zag ?l_zag ?c_zag ?k_zag ?a_zaj ?i_zaj ?l_zaj ?c_zaj ?k_zaj ?a_zaE ?pg_zaE ?hd_zaE ?po_zaE ?sa_zaE ?mk_zaE ?kc_zaE ?n_zaE_teller ?a_zad ?i_zad ?l_zad ?c_zad ?k_zad ?a_zac ?i_zac ?l_zac ?c_zac ?k_zac ?a_HallError ?a_NoRule ?a_NoPaper ?a_NoPlace ?a_NoKey ?a_NoRow ?a_NoOrder ?a_TooFar ?a_Spent ?xq_NoPlace ?xg_NoPlace ?xh_NoPlace ?xa_NoPlace ?xs_NoPlace ?xt_NoPlace ?xo_NoPlace ?xb_NoPlace ?xd_NoPlace ?xm_NoPlace_HallError ?a_zam ?i_zam ?l_zam ?c_zam ?k_zam ?xg_Spent ?xh_Spent ?xa_Spent ?xs_Spent ?xt_Spent ?xo_Spent ?xb_Spent ?xd_Spent ?xv_Spent ?xw_Spent ?xi_Spent ?xp_Spent ?xm_Spent_HallError ?n_Spent_asked ?xbg_HallError ?xbr_HallError ?xbf_HallError ?a_zah ?l_zah ?c_zah ?k_zah ?a_zal ?l_zal ?c_zal ?k_zal ?a_zaw ?l_zaw ?c_zaw ?k_zaw ?a_zaz ?l_zaz ?c_zaz ?k_zaz ?a_zaD ?l_zaD ?c_zaD ?k_zaD ?a_zau ?l_zau ?c_zau ?k_zau ?a_zaB ?l_zaB ?c_zaB ?k_zaB ?a_zaA ?l_zaA ?c_zaA ?k_zaA ?a_zar ?l_zar ?c_zar ?k_zar ?a_zav ?l_zav ?c_zav ?k_zav ?a_zaC ?l_zaC ?c_zaC ?k_zaC ?a_zax ?l_zax ?c_zax ?k_zax ?a_zay ?l_zay ?c_zay ?lc_zay ?tp_zay ?k_zay ?z_len ?z_range ?z_list ?z_isinstance ?z_max ?z_min ?z_sum ?z_sorted ?z_dict ?z_ValueError ?kit_int_bool ?kit_Spent_ValueError ?kit_Spent_NoPlace ?kit_Spent_Spent ?kit_Spent_NoPaper ?kit_Spent_NoRule ?kit_Spent_NoKey ?kit_Spent_NoRow ?kit_Spent_NoOrder ?kit_Spent_TooFar ?kit_NoPlace_ValueError ?kit_NoPlace_NoPlace ?kit_NoPlace_Spent ?kit_NoPlace_NoPaper ?kit_NoPlace_NoRule ?kit_NoPlace_NoKey ?kit_NoPlace_NoRow ?kit_NoPlace_NoOrder ?kit_NoPlace_TooFar ?nt
  (case a_zaH=>k_is)
  (case pg_zaH=>k_is)
  (case hd_zaH=>k_is)
  (case po_zaH=>k_is)
  (case sa_zaH=>k_is)
  (case mk_zaH=>k_is)
  (case kc_zaH=>k_is)
  (case n_zaH_asker=>k_is)
  (case n_zaH_pieces=>k_is)
  (case n_zaH_taken=>k_is)
  (case n_zaH_meetings=>k_is)
  (case n_zaH_went_on=>k_is)
  (case a_zae=>k_is)
  (case i_zae=>k_is)
  (case l_zae=>k_is)
  (case c_zae=>k_is)
  (case k_zae=>k_is)
  (case a_zaf=>k_is)
  (case i_zaf=>k_is)
  (case l_zaf=>k_is)
  (case c_zaf=>k_is)
  (case k_zaf=>k_is)
  (case a_zas=>k_is)
  (case i_zas=>k_is)
  (case l_zas=>k_is)
  (case c_zas=>k_is)
  (case k_zas=>k_is)
  (case a_zao=>k_is)
  (case i_zao=>k_is)
  (case l_zao=>k_is)
  (case c_zao=>k_is)
  (case k_zao=>k_is)
  (case a_zat=>k_is)
  (case i_zat=>k_is)
  (case l_zat=>k_is)
  (case c_zat=>k_is)
  (case k_zat=>k_is)
  (case a_zak=>k_is)
  (case i_zak=>k_is)
  (case l_zak=>k_is)
  (case c_zak=>k_is)
  (case k_zak=>k_is)
  (case a_zap=>k_is)
  (case i_zap=>k_is)
  (case l_zap=>k_is)
  (case c_zap=>k_is)
  (case k_zap=>k_is)
  (case a_zaq=>k_is)
  (case i_zaq=>k_is)
  (case l_zaq=>k_is)
  (case c_zaq=>k_is)
  (case k_zaq=>k_is)
  (case a_zaF=>k_is)
  (case pg_zaF=>k_is)
  (case hd_zaF=>k_is)
  (case po_zaF=>k_is)
  (case sa_zaF=>k_is)
  (case mk_zaF=>k_is)
  (case kc_zaF=>k_is)
  (case n_zaF_asker=>k_is)
  (case n_zaF_pieces=>k_is)
  (case n_zaF_taken=>k_is)
  (case n_zaF_meetings=>k_is)
  (case n_zaF_went_on=>k_is)
  (case a_zaa=>k_is)
  (case i_zaa=>k_is)
  (case l_zaa=>k_is)
  (case c_zaa=>k_is)
  (case k_zaa=>k_is)
  (case a_zab=>k_is)
  (case i_zab=>k_is)
  (case l_zab=>k_is)
  (case c_zab=>k_is)
  (case k_zab=>k_is)
  (case a_LastPour_met=>k_is)
  (case a_LastPour_held=>k_is)
  (case a_LastPour_top=>k_is)
  (case a_LastPour_first=>k_is)
  (case a_LastPour_init=>k_is)
  (case a_LastPour_take=>k_is)
  (case a_zaG=>k_is)
  (case pg_zaG=>k_is)
  (case hd_zaG=>k_is)
  (case po_zaG=>k_is)
  (case sa_zaG=>k_is)
  (case mk_zaG=>k_is)
  (case kc_zaG=>k_is)
  (case n_zaG_row=>k_is)
  (case n_zaG_rule=>k_is)
  (case n_zaG_most=>k_is)
  (case n_zaG_asked=>k_is)
  (case n_zaG_told=>k_is)
  (case a_zan=>k_is)
  (case i_zan=>k_is)
  (case l_zan=>k_is)
  (case c_zan=>k_is)
  (case d_zan=>k_is)
  (case k_zan=>k_is)
  (case a_zai=>k_is)
  (case i_zai=>k_is)
  (case l_zai=>k_is)
  (case c_zai=>k_is)
  (case k_zai=>k_is)
  (case a_zag=>k_is)
  (case i_zag=>k_is)
  (case l_zag=>k_is)
  (case c_zag=>k_is)
  (case k_zag=>k_is)
  (case a_zaj=>k_is)
  (case i_zaj=>k_is)
  (case l_zaj=>k_is)
  (case c_zaj=>k_is)
  (case k_zaj=>k_is)
  (case a_zaE=>k_is)
  (case pg_zaE=>k_is)
  (case hd_zaE=>k_is)
  (case po_zaE=>k_is)
  (case sa_zaE=>k_is)
  (case mk_zaE=>k_is)
  (case kc_zaE=>k_is)
  (case n_zaE_teller=>k_is)
  (case a_zad=>k_is)
  (case i_zad=>k_is)
  (case l_zad=>k_is)
  (case c_zad=>k_is)
  (case k_zad=>k_is)
  (case a_zac=>k_is)
  (case i_zac=>k_is)
  (case l_zac=>k_is)
  (case c_zac=>k_is)
  (case k_zac=>k_is)
  (case a_HallError=>k_is)
  (case a_NoRule=>k_is)
  (case a_NoPaper=>k_is)
  (case a_NoPlace=>k_is)
  (case a_NoKey=>k_is)
  (case a_NoRow=>k_is)
  (case a_NoOrder=>k_is)
  (case a_TooFar=>k_is)
  (case a_Spent=>k_is)
  (case xq_NoPlace=>k_exc)
  (case xg_NoPlace=>k_is)
  (case xh_NoPlace=>k_is)
  (case xa_NoPlace=>k_is)
  (case xs_NoPlace=>k_is)
  (case xt_NoPlace=>k_is)
  (case xo_NoPlace=>k_is)
  (case xb_NoPlace=>k_is)
  (case xd_NoPlace=>k_is)
  (case xm_NoPlace_HallError=>kts_exm)
  (case a_zam=>k_is)
  (case i_zam=>k_is)
  (case l_zam=>k_is)
  (case c_zam=>k_is)
  (case k_zam=>k_is)
  (case xg_Spent=>k_is)
  (case xh_Spent=>k_is)
  (case xa_Spent=>k_is)
  (case xs_Spent=>k_is)
  (case xt_Spent=>k_is)
  (case xo_Spent=>k_is)
  (case xb_Spent=>k_is)
  (case xd_Spent=>k_is)
  (case xv_Spent=>kernel_rfl)
  (case xw_Spent=>k_is)
  (case xi_Spent=>kernel_rfl)
  (case xp_Spent=>k_is)
  (case xm_Spent_HallError=>kts_exm)
  (case n_Spent_asked=>k_is)
  (case xbg_HallError=>k_is)
  (case xbr_HallError=>k_is)
  (case xbf_HallError=>k_is)
  (case a_zah=>k_is)
  (case l_zah=>k_is)
  (case c_zah=>k_is)
  (case k_zah=>k_is)
  (case a_zal=>k_is)
  (case l_zal=>k_is)
  (case c_zal=>k_is)
  (case k_zal=>k_is)
  (case a_zaw=>k_is)
  (case l_zaw=>k_is)
  (case c_zaw=>k_is)
  (case k_zaw=>k_is)
  (case a_zaz=>k_is)
  (case l_zaz=>k_is)
  (case c_zaz=>k_is)
  (case k_zaz=>k_is)
  (case a_zaD=>k_is)
  (case l_zaD=>k_is)
  (case c_zaD=>k_is)
  (case k_zaD=>k_is)
  (case a_zau=>k_is)
  (case l_zau=>k_is)
  (case c_zau=>k_is)
  (case k_zau=>k_is)
  (case a_zaB=>k_is)
  (case l_zaB=>k_is)
  (case c_zaB=>k_is)
  (case k_zaB=>k_is)
  (case a_zaA=>k_is)
  (case l_zaA=>k_is)
  (case c_zaA=>k_is)
  (case k_zaA=>k_is)
  (case a_zar=>k_is)
  (case l_zar=>k_is)
  (case c_zar=>k_is)
  (case k_zar=>k_is)
  (case a_zav=>k_is)
  (case l_zav=>k_is)
  (case c_zav=>k_is)
  (case k_zav=>k_is)
  (case a_zaC=>k_is)
  (case l_zaC=>k_is)
  (case c_zaC=>k_is)
  (case k_zaC=>k_is)
  (case a_zax=>k_is)
  (case l_zax=>k_is)
  (case c_zax=>k_is)
  (case k_zax=>k_is)
  (case a_zay=>k_is)
  (case l_zay=>k_is)
  (case c_zay=>k_is)
  (case lc_zay=>k_is)
  (case tp_zay=>rfl)
  (case k_zay=>k_is)
  (case z_len=>k_is)
  (case z_range=>k_is)
  (case z_list=>k_is)
  (case z_isinstance=>k_is)
  (case z_max=>k_is)
  (case z_min=>k_is)
  (case z_sum=>k_is)
  (case z_sorted=>k_is)
  (case z_dict=>k_is)
  (case z_ValueError=>k_is)
  (case kit_int_bool=>kit_is)
  (case kit_Spent_ValueError=>kit_is)
  (case kit_Spent_NoPlace=>kit_is)
  (case kit_Spent_Spent=>kit_is)
  (case kit_Spent_NoPaper=>kit_is)
  (case kit_Spent_NoRule=>kit_is)
  (case kit_Spent_NoKey=>kit_is)
  (case kit_Spent_NoRow=>kit_is)
  (case kit_Spent_NoOrder=>kit_is)
  (case kit_Spent_TooFar=>kit_is)
  (case kit_NoPlace_ValueError=>kit_is)
  (case kit_NoPlace_NoPlace=>kit_is)
  (case kit_NoPlace_Spent=>kit_is)
  (case kit_NoPlace_NoPaper=>kit_is)
  (case kit_NoPlace_NoRule=>kit_is)
  (case kit_NoPlace_NoKey=>kit_is)
  (case kit_NoPlace_NoRow=>kit_is)
  (case kit_NoPlace_NoOrder=>kit_is)
  (case kit_NoPlace_TooFar=>kit_is)
  (case nt=>kernel_rfl)
