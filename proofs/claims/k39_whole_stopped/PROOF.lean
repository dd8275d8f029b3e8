import PyProof.Rows.All
import Wide.All
import OpenK.AllK
import Wide.FinOn
import Lean
import PyProof.EqAt
import PyProof.EqKinds
import PyProof.TupleCall
import PyProof.Rows.FStrParts
import KE.KRevIter
import PyProof.CollectIter
import PyProof.SumWalkG
import KE.KDictOf
import PyProof.IsiH_list
import PyProof.RaisesAny
import PyProof.P3In
import PyProof.Rows.SortRuns
import PyProof.Rows.SortShell
import PySem.Challenge.RW_sorthall_k39_whole_stopped
local macro_rules | `(tactic| omega)=>`(tactic| first | with_reducible assumption | lia | omega (splitDisjunctions:=true))
set_option Elab.async false
set_option linter.all false
set_option maxRecDepth 100000
open Nat renaming le_refl→yAA,zero_le→yAC,le_trans→yAD,ne_of_lt→yAE,lt_of_lt_of_le→yAI,le_succ→yAR,lt_irrefl→yBB,zero_add→yBG,le_of_lt→yBH,sub_self→yBK,lt_succ_self→yBN,min_eq_left→yBP
open List renaming length_map→yAB,length_append→yAF,mem_cons→yAG,length_cons→yAJ,length_take→yAK,size_toArray→yAL,getElem?_eq_getElem→yAM,mem_cons_self→yAN,mem_cons_of_mem→yAO,getElem?_map→yAP,map_cons→yAQ,mem_append_right→yAT,mem_singleton→yAW,getElem?_eq_some_iff→yAX,getElem?_append_right→yAY,getElem?_append_left→yAZ,append_assoc→yBA,mem_append→yBC,mem_of_getElem?→yBD,length_drop→yBE,getElem?_eq_none→yBF,append_nil→yBI,lookup_cons→yBL,getD_eq_getElem?_getD→yBM,getElem?_of_mem→yBO,getElem?_take_of_lt→yBQ,length_nil→yBR,take_append_drop→yBS,extract_eq_drop_take→yBU,map_append→yBV,length_replicate→yBW,length_reverse→yBX,take_of_length_le→yBY,getElem?_drop→yBZ,perm_append_comm→yCA
open Array renaming length_toList→yAH,getElem?_toList→yAU,getElem?_eq_some_iff→yAV,toList_append→yBJ,toList_extract→yBT
open Bool renaming false_ne_true→yAS
namespace L2
open PySem PySem.W
theorem left_boot {p q:Program} {loose:List Str} {Xt:Shared->Bool} {α:Type} {Yf:Shared->α} {Ya:World->α} {N:Nat} {g0:Bool}
  (open_:∀ w:World,(fencedOpening treeTable p w N).map (fun s=>(s.heap,s.gens,s.drawn,s.toks))=some (boot_heap w.params,Array.mk [],boot_drawn,boot_toks))
  (h:∀ (w:World) (os:OsState),(topFrom treeTable p w N ⟨boot_heap w.params,Array.mk [],boot_drawn,boot_toks,os⟩).map (fun s=>(openSeen q loose (importedModules p.main.body) Xt g0 s,Yf s))=some (openGood q loose,Ya w)):LeftO p q loose Xt Yf Ya N g0:=fun w=>by
 obtain ⟨⟨hh,gs,d,k,os⟩,e,e'⟩:=Option.map_eq_some_iff.mp (open_ w)
 obtain ⟨rfl,rfl,rfl,rfl⟩:hh=boot_heap w.params /\ gs=Array.mk [] /\ d=boot_drawn /\ k=boot_toks:=by simpa using e'
 unfold openEnds
 rw [e]
 exact h w os
theorem left_two {p q:Program} {loose:List Str} {Xt:Shared->Bool} {α:Type} {Yf:Shared->α} {Ya:World->α} {N:Nat} {g0:Bool}
  (open_:∀ w:World,(fencedOpening treeTable p w N).map (fun s=>(s.heap,s.gens,s.drawn,s.toks))=some (boot_heap w.params,Array.mk [],boot_drawn,boot_toks))
  (h1:∀ (w:World) (os:OsState),(topFrom treeTable p w N ⟨boot_heap w.params,Array.mk [],boot_drawn,boot_toks,os⟩).map (fun s=>openSeen q loose (importedModules p.main.body) Xt g0 s)=some (openGood q loose))
  (h2:∀ (w:World) (os:OsState),(topFrom treeTable p w N ⟨boot_heap w.params,Array.mk [],boot_drawn,boot_toks,os⟩).map (fun s=>Yf s)=some (Ya w)):LeftO p q loose Xt Yf Ya N g0 :=
 left_boot open_ fun w os=>by
  have a:=h1 w os
  have b:=h2 w os
  generalize topFrom treeTable p w N ⟨boot_heap w.params,Array.mk [],boot_drawn,boot_toks,os⟩=r at a b
  cases r with
  | none=>cases a
  | some s=>exact congrArg some (Prod.ext (Option.some.inj a) (Option.some.inj b))
noncomputable def s0B (w:World) (os:OsState):Shared:=⟨boot_heap w.params,Array.mk [],boot_drawn,boot_toks,os⟩
noncomputable def ofLB:List Obj->Nat->BT->BT
 | [],_,t=>t
 | o::r,n,t=>ofLB r (n+1) (t.ins n o)
noncomputable def sTB (w:World) (os:OsState):SharedT:=⟨ofLB (boot_heap w.params).objs.toList 0 .nil,(boot_heap w.params).objs.size,(boot_heap w.params).life,Array.mk [],boot_drawn,boot_toks,os⟩
noncomputable def topRunQ (p:Program) (w:World) (n₀:Nat) (ann:Option Value):Nat->SharedT->Thread->Option SharedT
 | 0,_,_=>none
 | n+1,s,t=>match through t with
  | true=>some s
  | false=>match PySem.W.Fast.tw6613529449190102663 n₀ ann t with
   | false=>none
   | true=>match PySem.W.Fast.tw10156331382660048174 (PySem.W.Fast.tw11892475500146522536 PySem.W.Fast.tw14364793385576792824) p w s t with
    | some (s',t')=>topRunQ p w n₀ ann n s' t'
    | none=>none
theorem topRunQ_spec {p:Program} {w:World} {n₀:Nat} {ann:Option Value}:∀ {n:Nat} {s s':SharedT} {t:Thread},topRunQ p w n₀ ann n s t=some s'->topRun treeTable p w n₀ ann n s.abs t=some s'.abs
 | 0,_,_,_,h=>by cases h
 | n+1,s,s',t,h=>by
  unfold topRunQ at h
  rw [<- PySem.W.Fast.te6613529449190102663,<- PySem.W.Fast.te10156331382660048174,<- PySem.W.Fast.te11892475500146522536,<- PySem.W.Fast.te14364793385576792824] at h
  unfold topRun
  cases he:through t with
  | true=>rw [he] at h;cases h;rfl
  | false=>
   rw [he] at h
   cases hk:stepOk n₀ ann t with
   | false=>rw [hk] at h;cases h
   | true=>
    rw [hk] at h
    cases hs:stepT (denote treeTable) p w s t with
    | none=>rw [hs] at h;cases h
    | some r=>obtain ⟨s₂,t₂⟩:=r;rw [hs] at h;rw [stepT_spec hs];exact topRunQ_spec h
set_option maxHeartbeats 0 in
theorem sTB_abs:∀ (w:World) (os:OsState),(sTB w os).abs=s0B w os:=by
 intro w os
 kernel_rfl
set_option maxHeartbeats 0 in
theorem s0B_ns:∀ (w:World) (os:OsState),((s0B w os).heap.isNs mainGlobals && (s0B w os).gens.size == 0)=true:=by
 intro w os
 kernel_rfl
noncomputable def topOkB (p:Program) (s₀ s₁:Shared):Bool:=staticsOk (importedModules p.main.body) s₀.heap s₁.heap && namesBound p s₁.heap && gensDone s₁ && laidKept s₀.heap s₁.heap
theorem via_tree {α:Type} {p:Program} {N:Nat} {F:Shared->α} {G:α} (w:World) (os:OsState)
  (h:(topRunQ p w (s0B w os).heap.objs.size ((s0B w os).heap.nsMap mainGlobals "__annotations__") N (sTB w os) (topStub p)).map (fun s=>(topOkB p (s0B w os) s.abs,F s.abs))=some (true,G)):(topFrom treeTable p w N ⟨boot_heap w.params,Array.mk [],boot_drawn,boot_toks,os⟩).map F=some G:=by
 obtain ⟨s',e1,e2⟩:=Option.map_eq_some_iff.mp h
 have r:=topRunQ_spec e1
 rw [sTB_abs] at r
 obtain ⟨e3,e4⟩:=Prod.mk.inj e2
 show (topFrom treeTable p w N (s0B w os)).map F=some G
 unfold topFrom
 rw [s0B_ns w os]
 dsimp only
 rw [r,Option.bind_some]
 unfold topOkB at e3
 rw [e3]
 exact congrArg some e4
noncomputable def vw (p:Program) (ix:List Nat):Program:={ p with main:={ p.main with body:=ix.filterMap fun i=>p.main.body[i]? } }
noncomputable def Vw:Program:=vw PySem.Challenge.pw_sorthall_k39_whole_stopped [0,3,5,6,7,8,10,11,12,14,16,17,19,21,22,23,24,25,26,27,28,29,30,31,32,33,34]
set_option maxHeartbeats 0 in
theorem seen1:∀ (w:World) (os:OsState),(topFrom treeTable PySem.Challenge.pw_sorthall_k39_whole_stopped w 4752 ⟨boot_heap w.params,Array.mk [],boot_drawn,boot_toks,os⟩).map (fun s=>openSeen L2.Vw (["stretch_from"]:List Str) (importedModules PySem.Challenge.pw_sorthall_k39_whole_stopped.main.body) (fun s=>xlAt L2.Vw [] s && recOk (RowW.records (OpenRow.toRowW (OpenLaw.row PySem.Challenge.rw_sorthall_k39_whole_stopped))) s) true s)=some (openGood L2.Vw (["stretch_from"]:List Str)):=by
 intro w os
 refine via_tree w os ?_
 rw [PySem.W.Fast.te4187177175401517315]
 kernel_rfl
local macro_rules | `(tactic| o_law)=>`(tactic| refine holds_law (by decide +kernel) fun said=>?_)
set_option hygiene false in
local macro_rules | `(tactic| o_head $H)=>`(tactic| (refine holds_open (q:=L2.Vw) (loose:=(["stretch_from"]:List Str)) (Xt:=fun s=>xlAt L2.Vw [] s && recOk (RowW.records _) s) (XP:=XL L2.Vw []) (Yf:=Hook.obs $H) (Ya:=Hook.val $H) (YP:=Hook.says $H) (N:=4752) ?hl (Hook.of $H) (Hook.keeps $H) (fun s e=>xl_of s (Bool.and_eq_true_iff.mp e).1) XL.keeps (by rfl) (by rfl) (by rfl) (fun s e=>recFacts_of (Bool.and_eq_true_iff.mp e).2) (by rfl) (by first | assumption | decide +kernel) (by decide +kernel) ⟨rfl,rfl,rfl,rfl,rfl,by decide +kernel⟩ ?hw ?hc;(case hl=>(refine L2.left_two (PySem.W.boot_open (by rfl) (by decide) (fun s=>rfl)) (fun w os=>?h1) (fun w os=>?h2);(case h1=>exact L2.seen1 w os);(case h2=>(refine L2.via_tree w os ?_;kernel_rfl))))))
set_option maxHeartbeats 0 in
open_top hd0 for PySem.Challenge.rw_sorthall_k39_whole_stopped
end L2
namespace L2
open PySem PySem.Spec PyProof.Rows
noncomputable abbrev Key:=Sum Int Str
noncomputable def keyIs:Key->Value->Bool
 | .inl k,v=>Value.isInt k v
 | .inr x,v=>Value.isStrOf x v
noncomputable def keyH (w:World):Key->Int
 | .inl k=>hashInt k
 | .inr x=>hashStr w x
theorem ZAk:∀ {k:Key} {v:Value},keyIs k v=true->(∃ i t,k=Sum.inl i /\ v=Value.int i t)∨(∃ x t,k=Sum.inr x /\ v=Value.str x t)
 | .inl i,v,h=>by
  obtain ⟨t,e⟩:=Value.isInt_shape (k:=i) (v:=v) h
  exact .inl ⟨i,t,rfl,e⟩
 | .inr x,v,h=>by
  obtain ⟨t,e⟩:=Value.isStrOf_shape (x:=x) (v:=v) h
  exact .inr ⟨x,t,rfl,e⟩
theorem key_ll (a b:Int):decide ((Sum.inl a:Key)=Sum.inl b)=(a == b):=by
 by_cases e:a=b
 .subst e;simp
 .have h:¬ (Sum.inl a:Key)=Sum.inl b:=fun q=>e (Sum.inl.inj q)
  rw [decide_eq_false h]
  exact (beq_eq_false_iff_ne.mpr e).symm
theorem key_rr (a b:Str):decide ((Sum.inr a:Key)=Sum.inr b)=decide (a=b):=by
 by_cases e:a=b
 .subst e;simp
 .have h:¬ (Sum.inr a:Key)=Sum.inr b:=fun q=>e (Sum.inr.inj q)
  rw [decide_eq_false h,decide_eq_false e]
theorem key_lr (a:Int) (b:Str):decide ((Sum.inl a:Key)=Sum.inr b)=false:=decide_eq_false (fun q=>nomatch q)
theorem key_rl (a:Str) (b:Int):decide ((Sum.inr a:Key)=Sum.inl b)=false:=decide_eq_false (fun q=>nomatch q)
noncomputable def mixKind (prog:Program) (w:World):PySem.KeyKind prog w Key where
 is:=keyIs
 hash:=keyH w
 inj:=fun v a b ha hb=>by
  rcases ZAk ha with ⟨i,t,rfl,rfl⟩ | ⟨x,t,rfl,rfl⟩
  .rcases ZAk hb with ⟨j,u,rfl,e⟩ | ⟨y,u,rfl,e⟩
   .injection e with e1 _;rw [e1]
   .exact nomatch e
  .rcases ZAk hb with ⟨j,u,rfl,e⟩ | ⟨y,u,rfl,e⟩
   .exact nomatch e
   .injection e with e1 _;rw [e1]
 byValue:=fun k v h=>by
  rcases ZAk h with ⟨i,t,rfl,rfl⟩ | ⟨x,t,rfl,rfl⟩ <;> rfl
 pyHash:=fun hv h=>by
  rcases ZAk hv with ⟨i,t,rfl,rfl⟩ | ⟨x,t,rfl,rfl⟩
  .exact wpAny_pyHash_int h
  .exact wpAny_pyHash_str h
 eqBool:=fun hu hv h=>by
  rcases ZAk hu with ⟨i,t,rfl,rfl⟩ | ⟨x,t,rfl,rfl⟩
  .rcases ZAk hv with ⟨j,u,rfl,rfl⟩ | ⟨y,u,rfl,rfl⟩
   .rw [key_ll] at h;exact wpAny_eqBool_int h
   .rw [key_lr] at h;exact SeqAt.EqAt.int_str i t y u _ _ _ _ h
  .rcases ZAk hv with ⟨j,u,rfl,rfl⟩ | ⟨y,u,rfl,rfl⟩
   .rw [key_rl] at h;exact SeqAt.EqAt.str_int x t j u _ _ _ _ h
   .rw [key_rr] at h;exact wpAny_eqBool_str h
 «strs»:=fun k x t v h=>by
  rcases ZAk h with ⟨i,u,rfl,e⟩ | ⟨y,u,rfl,e⟩
  .exact nomatch e
  .injection e with e1 _
   subst e1
   cases v <;> rfl
inductive V where
 | non | bl (b:Bool) | int (i:Int) | str (x:Str) | byt (b:Array UInt8) | flt (b:UInt64) | ref (a:Addr) | ty (n:String)
 deriving DecidableEq
noncomputable def RelV:V->Value->Prop
 | .non,u=>u=Value.none
 | .bl b,u=>u=Value.bool b
 | .int i,u=>∃ t,u=Value.int i t
 | .str x,u=>∃ t,u=Value.str x t
 | .byt b,u=>∃ t,u=Value.bytes b t
 | .flt b,u=>∃ t,u=Value.float b t
 | .ref a,u=>u=Value.ref a
 | .ty n,u=>u=Value.type n
noncomputable abbrev Vals:List V->List Value->Prop:=Paired RelV
theorem Vals.length {xs:List V} {us:List Value} (r:Vals xs us):xs.length=us.length:=Paired.length r
theorem Vals.get:∀ {xs:List V} {us:List Value} {i:Nat} {x:V},Vals xs us->xs[i]?=some x->∃ u,us[i]?=some u /\ RelV x u
 | _,_,_,_,.nil,e=>by simp at e
 | _,_,0,_,.cons r _,e=>by simp at e;subst e;exact ⟨_,rfl,r⟩
 | _,_,i+1,x,.cons _ t,e=>by
  obtain ⟨u,h1,h2⟩:=Vals.get (i:=i) (x:=x) t (by simpa using e)
  exact ⟨u,by simpa using h1,h2⟩
theorem Vals.append:∀ {xs ys:List V} {us ws:List Value},Vals xs us->Vals ys ws->Vals (xs++ys) (us++ws)
 | _,_,_,_,.nil,s=>s
 | _,_,_,_,.cons r t,s=>.cons r (Vals.append t s)
theorem Vals.take:∀ {xs:List V} {us:List Value} (n:Nat),Vals xs us->Vals (xs.take n) (us.take n)
 | _,_,0,_=>.nil
 | _,_,_+1,.nil=>.nil
 | _,_,n+1,.cons r t=>.cons r (Vals.take n t)
theorem Vals.drop:∀ {xs:List V} {us:List Value} (n:Nat),Vals xs us->Vals (xs.drop n) (us.drop n)
 | _,_,0,r=>r
 | _,_,_+1,.nil=>.nil
 | _,_,n+1,.cons _ t=>Vals.drop n t
noncomputable def RelO:Option V->Option Value->Prop
 | some v,some u=>RelV v u
 | none,none=>True
 | _,_=>False
noncomputable def KV {κ:Type}:List (κ×V)->List (κ×Value)->Prop:=Paired fun (p:κ×V) (q:κ×Value)=>p.1=q.1 /\ RelV p.2 q.2
noncomputable def kV:Key->V
 | .inl i=>.int i
 | .inr x=>.str x
inductive HO where
 | lst (xs:List V)
 | tup (xs:List V)
 | dK (kvs:List (Key×V)) | dT (kvs:List (List Key×V))
 | set (S:Int->Bool) (n:Nat)
 | ins (C dx:Addr) (fs:List (Str×V))
 | own (x:Addr)
 | xd (fs:List (Str×V))
 | met (f x:Addr)
 | rng (lo hi:Int)
 | frz (o:Obj) (u:HO)
 | tbl (ps:Array Value)
 | ext (φ:Heap->Prop)
noncomputable abbrev Hp:=Addr->Option HO
noncomputable def upd (H:Hp) (a:Addr) (o:HO):Hp:=fun b=>if b=a then some o else H b
theorem ZAE {H:Hp} {a:Addr} {o:HO}:upd H a o a=some o:=by unfold upd;rw [if_pos rfl]
theorem ZAF {H:Hp} {a b:Addr} {o:HO} (h:b≠a):upd H a o b=H b:=by unfold upd;rw [if_neg h]
theorem ZDk {H:Hp} {a:Addr} {o u:HO}:upd (upd H a o) a u=upd H a u:=by
 funext b;unfold upd;split <;> rfl
theorem ZAG {H:Hp} {a b:Addr} {o:HO} (h:H a=some o) (h':H b=none):a≠b:=by
 intro e;subst e;rw [h] at h';cases h'
section
variable (P:Program) (w:World)
noncomputable def ObjOk (H:Hp) (h:Heap) (a:Addr):HO->Prop
 | .lst xs=>xs.length <= sizeLine /\ ∃ (its:List Value) (n:Nat),Vals xs its /\ h.get? a=some { cls:=.type "list",data:=.seq its.toArray n }
 | .tup xs=>xs.length <= sizeLine /\ ∃ its:List Value,Vals xs its /\ IsTup h a its.toArray
 | .dK kvs=>kvs.length <= sizeLine /\ (a == sysModules)=false /\ ∃ vs,KV kvs vs /\ h.DictOf (mixKind P w) a vs
 | .dT kvs=>kvs.length <= sizeLine /\ (a == sysModules)=false /\ ∃ xs:List (List Key×Addr×Value),
   Paired (fun (p:List Key×V) (q:List Key×Addr×Value)=>p.1=q.1 /\ H q.2.1=some (.tup (p.1.map kV)) /\ RelV p.2 q.2.2) kvs xs /\
   ∃ o es ep,h.get? a=some o /\ o.ExactDict /\ o.data=.dict es ep /\ es.toList=xs.map (entryOfKey (tupleKind (mixKind P w))) /\ (xs.map (·.1)).Nodup
 | .set S n=>h.SetOf (intKind P w) a S n
 | .ins C dx fs=>H dx=some (.own a) /\ fs.length <= 1000 /\ dx≠a /\ h.get? a=some (PySem.W.instObj C dx) /\
   ∃ mA,h.Ns1 dx mA /\ (∀ f,RelO (fs.lookup f) (mA f)) /\ PySem.Within mA (fs.map (·.1))
 | .own _=>∃ o,h.get? a=some o
 | .xd fs=>∃ mA,h.Ns1 a mA /\ ∀ f,RelO (fs.lookup f) (mA f)
 | .rng lo hi=>∃ t u v,h.get? a=some { cls:=.type "range",data:=.fields #[.int lo t,.int hi u,.int 1 v] }
 | .frz o u=>h.get? a=some o /\ ObjOk H h a u
 | .tbl ps=>h.get? a=some { cls:=.none,data:=.fields ps }
 | .met f x=>h.get? a=some (PySem.W.methodObj (.ref f) (.ref x))
 | .ext φ=>φ h /\ (∃ o,h.get? a=some o) /\ ∀ h1 h2:Heap,φ h1->(∀ o,h1.get? a=some o->h2.get? a=some o)->φ h2
noncomputable def HOk (H:Hp) (h:Heap):Prop:=∀ a o,H a=some o->ObjOk P w H h a o
end
section
variable {P:Program} {w:World} {H H':Hp} {h h':Heap} {a:Addr} {o:HO}
theorem ObjOk.lt (x:ObjOk P w H h a o):a < h.objs.size:=by
 cases o with
 | lst xs=>obtain ⟨_,_,_,_,e⟩:=x;exact Heap.lt_size e
 | tup xs=>obtain ⟨_,_,_,p⟩:=x;exact p.lt
 | dK kvs=>obtain ⟨_,_,_,_,o,_,_,e,_⟩:=x;exact Heap.lt_size e
 | dT kvs=>obtain ⟨_,_,_,_,o,_,_,e,_⟩:=x;exact Heap.lt_size e
 | set S n=>obtain ⟨o,_,_,_,e,_⟩:=x;exact Heap.lt_size e
 | ins C dx fs=>obtain ⟨_,_,_,e,_⟩:=x;exact Heap.lt_size e
 | own y=>obtain ⟨_,e⟩:=x;exact Heap.lt_size e
 | xd fs=>obtain ⟨_,⟨_,_,_,e,_⟩,_⟩:=x;exact Heap.lt_size e
 | rng lo hi=>obtain ⟨_,_,_,e⟩:=x;exact Heap.lt_size e
 | frz ob u=>obtain ⟨e,_⟩:=x;exact Heap.lt_size e
 | tbl ps=>exact Heap.lt_size (show h.get? a=some _ from x)
 | met f y=>exact Heap.lt_size (show h.get? a=some _ from x)
 | ext φ=>obtain ⟨_,⟨_,e⟩,_⟩:=x;exact Heap.lt_size e
theorem Paired.mapP {α β:Type} {F G:α->β->Prop}:∀ {l₁:List α} {l₂:List β},Paired F l₁ l₂->(∀ a b,F a b->G a b)->Paired G l₁ l₂
 | _,_,.nil,_=>.nil
 | _,_,.cons r t,f=>.cons (f _ _ r) (Paired.mapP t f)
theorem ObjOk.stay (x:ObjOk P w H h a o) (k:∀ b u,(b=a∨H b=some (.own a))->h.get? b=some u->h'.get? b=some u)
  (ho:∀ b,H b=some (.own a)->H' b=some (.own a)) (ht:∀ b xs,H b=some (.tup xs)->H' b=some (.tup xs)):ObjOk P w H' h' a o:=by
 induction o with
 | lst xs=>obtain ⟨z,its,n,r,e⟩:=x;exact ⟨z,its,n,r,k _ _ (.inl rfl) e⟩
 | tup xs=>obtain ⟨z,its,r,ob,e,c⟩:=x;exact ⟨z,its,r,ob,k _ _ (.inl rfl) e,c⟩
 | dK kvs=>obtain ⟨z,y,vs,r,ob,es,ep,e,c⟩:=x;exact ⟨z,y,vs,r,ob,es,ep,k _ _ (.inl rfl) e,c⟩
 | dT kvs=>
  obtain ⟨z,y,xs,r,ob,es,ep,e,c⟩:=x
  exact ⟨z,y,xs,Paired.mapP r fun p q z=>⟨z.1,ht _ _ z.2.1,z.2.2⟩,ob,es,ep,k _ _ (.inl rfl) e,c⟩
 | set S n=>obtain ⟨ob,es,ep,t,e,c⟩:=x;exact ⟨ob,es,ep,t,k _ _ (.inl rfl) e,c⟩
 | ins C dx fs=>
  obtain ⟨d,z,ne,e,mA,⟨od,es,ep,e2,c⟩,r⟩:=x
  exact ⟨ho _ d,z,ne,k _ _ (.inl rfl) e,mA,⟨od,es,ep,k _ _ (.inr d) e2,c⟩,r⟩
 | own y=>obtain ⟨ob,e⟩:=x;exact ⟨ob,k _ _ (.inl rfl) e⟩
 | xd fs=>obtain ⟨mA,⟨od,es,ep,e,c⟩,r⟩:=x;exact ⟨mA,⟨od,es,ep,k _ _ (.inl rfl) e,c⟩,r⟩
 | rng lo hi=>obtain ⟨t,u,v,e⟩:=x;exact ⟨t,u,v,k _ _ (.inl rfl) e⟩
 | frz ob u ih=>obtain ⟨e,q⟩:=x;exact ⟨k _ _ (.inl rfl) e,ih q⟩
 | tbl ps=>
  have e:h.get? a=some { cls:=.none,data:=.fields ps }:=x
  show h'.get? a=some { cls:=.none,data:=.fields ps }
  exact k a _ (.inl rfl) e
 | met f y=>
  have e:h.get? a=some (PySem.W.methodObj (.ref f) (.ref y)):=x
  show h'.get? a=some (PySem.W.methodObj (.ref f) (.ref y))
  exact k a _ (.inl rfl) e
 | ext φ=>obtain ⟨p,⟨o,e⟩,st⟩:=x;exact ⟨st _ _ p fun o q=>k _ _ (.inl rfl) q,⟨o,k _ _ (.inl rfl) e⟩,st⟩
theorem HOk.lt (x:HOk P w H h) (e:H a=some o):a < h.objs.size:=(x a o e).lt
theorem HOk.fresh (x:HOk P w H h) (e:h.objs.size <= a):H a=none:=by
 cases q:H a with
 | none=>rfl
 | some u=>exact absurd (yAI (x.lt q) e) (yBB _)
theorem HOk.kept (x:HOk P w H h) (k:∀ b u,h.get? b=some u->h'.get? b=some u):HOk P w H h':=fun a o e=>
 (x a o e).stay (fun b u _ q=>k b u q) (fun _ q=>q) fun _ _ q=>q
theorem HOk.laid (x:HOk P w H h) (k:∀ b u,h.get? b=some u->h'.get? b=some u) (hp:h.objs.size <= a) (new:ObjOk P w (upd H a o) h' a o):HOk P w (upd H a o) h':=fun b u e=>by
 have hn:=x.fresh hp
 by_cases hb:b=a
 .subst hb;rw [ZAE] at e;cases e;exact new
 .rw [ZAF hb] at e
  exact (x b u e).stay (fun c v _ q=>k c v q) (fun c q=>by rw [ZAF (ZAG q hn)];exact q) fun c xs q=>by rw [ZAF (ZAG q hn)];exact q
end
noncomputable def Rd (H:Hp) (a:Addr) (u:HO):Prop:=H a=some u∨∃ o,H a=some (.frz o u)
theorem Rd.ok {P:Program} {w:World} {H:Hp} {h:Heap} {a:Addr} {u:HO} (r:Rd H a u) (x:HOk P w H h):ObjOk P w H h a u:=by
 rcases r with r | ⟨o,r⟩
 .exact x a u r
 .obtain ⟨_,q⟩:=x a _ r
  exact q
noncomputable def Mut:Option HO->Prop
 | some (.lst _)=>True
 | some (.dK _)=>True
 | some (.dT _)=>True
 | some (.set _ _)=>True
 | some (.ins _ _ _)=>True
 | some (.ext _)=>True
 | _=>False
section
variable {P:Program} {w:World} {H:Hp} {h h':Heap} {x e:Addr} {o':HO}
theorem HOk.write (ok:HOk P w H h) (mu:Mut (H x)) (he:e=x∨H e=some (.own x)) (k:∀ b u,b≠e->h.get? b=some u->h'.get? b=some u) (heo:∃ u,h'.get? e=some u)
  (new:ObjOk P w (upd H x o') h' x o'):HOk P w (upd H x o') h':=fun b u q=>by
 have nown:∀ c y,H c=some (.own y)->c≠x:=fun c y r z=>by subst z;rw [r] at mu;exact mu
 have ntup:∀ c xs,H c=some (.tup xs)->c≠x:=fun c xs r z=>by subst z;rw [r] at mu;exact mu
 by_cases hb:b=x
 .subst hb;rw [ZAE] at q;cases q;exact new
 .rw [ZAF hb] at q
  by_cases hbe:b=e
  .have q':H b=some (.own x):=by
    rcases he with z | z
    .exact absurd (hbe.trans z) hb
    .rw [hbe];exact z
   rw [q] at q';cases q'
   obtain ⟨v,hv⟩:=heo
   exact ⟨v,by rw [hbe];exact hv⟩
  .refine (ok b u q).stay (fun c v hc r=>k c v ?_ r) (fun c r=>by rw [ZAF (nown c b r)];exact r) fun c xs r=>by rw [ZAF (ntup c xs r)];exact r
   rcases hc with rfl | hc
   .exact hbe
   .rintro rfl
    rcases he with z | z
    .exact nown c b hc z
    .rw [hc] at z;cases z;exact hb rfl
end
structure Un (fs ex:List Addr) (H H':Hp) (h h':Heap):Prop where
 keep:∀ b o,h.get? b=some o->H b=none->b∉fs->b∉ex->h'.get? b=some o
 slot:∀ b o,h.get? b=some o->H b=none->b∈fs->b∉ex->∃ sl,h'.get? b=some { o with slots:=sl }
 free:∀ b o,h.get? b=some o->H b=none->b∉ex->H' b=none
 there:∀ b o,h.get? b=some o->b∉ex->∃ o',h'.get? b=some o'
 tups:∀ b xs,H b=some (.tup xs)->H' b=some (.tup xs)
 frzs:∀ b o u,H b=some (.frz o u)->H' b=some (.frz o u)
 tbls:∀ b ps,H b=some (.tbl ps)->∃ more,H' b=some (.tbl (ps++more))
section
variable {fs fs' ex ex':List Addr} {H H1 H2:Hp} {h h1 h2 h':Heap} {a x e:Addr} {o:HO}
theorem Un.any (u:Un fs ex H H1 h h1) {b:Addr} {ob:Obj} (q:h.get? b=some ob) (n:H b=none) (hx:b∉ex):∃ sl,h1.get? b=some { ob with slots:=sl }:=by
 by_cases hb:b∈fs
 .exact u.slot b ob q n hb hx
 .exact ⟨ob.slots,u.keep b ob q n hb hx⟩
theorem Un.trans (a:Un fs ex H H1 h h1) (b:Un fs ex H1 H2 h1 h2):Un fs ex H H2 h h2 where
 keep:=fun c ob q n hc hx=>b.keep c ob (a.keep c ob q n hc hx) (a.free c ob q n hx) hc hx
 slot:=fun c ob q n hc hx=>by
  obtain ⟨sl,e1⟩:=a.slot c ob q n hc hx
  obtain ⟨sl',e2⟩:=b.slot c _ e1 (a.free c ob q n hx) hc hx
  exact ⟨sl',e2⟩
 free:=fun c ob q n hx=>by
  obtain ⟨o',e1⟩:=a.there c ob q hx
  exact b.free c o' e1 (a.free c ob q n hx) hx
 there:=fun c ob q hx=>by
  obtain ⟨o',e1⟩:=a.there c ob q hx
  exact b.there c o' e1 hx
 tups:=fun c xs q=>b.tups c xs (a.tups c xs q)
 frzs:=fun c ob xs q=>b.frzs c ob xs (a.frzs c ob xs q)
 tbls:=fun c ps q=>by
  obtain ⟨m1,e1⟩:=a.tbls c ps q
  obtain ⟨m2,e2⟩:=b.tbls c _ e1
  exact ⟨m1++m2,by rw [e2,Array.append_assoc]⟩
theorem Un.kept (k:∀ b u,h.get? b=some u->h'.get? b=some u):Un fs ex H H h h' :=
 ⟨fun b ob q _ _ _=>k b ob q,fun b ob q _ _ _=>⟨ob.slots,k b ob q⟩,fun _ _ _ n _=>n,fun b ob q _=>⟨ob,k b ob q⟩,fun _ _ q=>q,fun _ _ _ q=>q,fun _ ps q=>⟨#[],by rw [q];simp⟩⟩
theorem Un.refl:Un fs ex H H h h:=Un.kept fun _ _ q=>q
theorem Un.laid (k:∀ b u,h.get? b=some u->h'.get? b=some u) (hp:h.objs.size <= a) (hn:H a=none):Un fs ex H (upd H a o) h h' where
 keep:=fun b u q _ _ _=>k b u q
 slot:=fun b u q _ _ _=>⟨u.slots,k b u q⟩
 free:=fun b u q n _=>by rw [ZAF (yAE (yAI (Heap.lt_size q) hp))];exact n
 there:=fun b u q _=>⟨u,k b u q⟩
 tups:=fun b xs q=>by rw [ZAF (ZAG q hn)];exact q
 frzs:=fun b u xs q=>by rw [ZAF (ZAG q hn)];exact q
 tbls:=fun b ps q=>⟨#[],by rw [ZAF (ZAG q hn),q];simp⟩
theorem Un.write (mu:Mut (H x)) (he:e=x∨H e=some (.own x)) (k:∀ b u,b≠e->h.get? b=some u->h'.get? b=some u) (heo:∃ u,h'.get? e=some u):Un fs ex H (upd H x o) h h':=by
 have hx:∀ b,H b=none->b≠x:=fun b n z=>by subst z;rw [n] at mu;exact mu
 have hb:∀ b,H b=none->b≠e:=fun b n z=>by
  subst z
  rcases he with r | r
  .exact hx b n r
  .rw [n] at r;cases r
 have hm:∀ b u,H b=some u->¬ Mut (some u)->b≠x:=fun b u q nm z=>by subst z;rw [q] at mu;exact nm mu
 refine ⟨fun b u q n _ _=>k b u (hb b n) q,fun b u q n _ _=>⟨u.slots,k b u (hb b n) q⟩,fun b u q n _=>by rw [ZAF (hx b n)];exact n,fun b u q _=>?_,
  fun b xs q=>by rw [ZAF (hm b _ q fun z=>z)];exact q,fun b u xs q=>by rw [ZAF (hm b _ q fun z=>z)];exact q,fun b ps q=>⟨#[],by rw [ZAF (hm b _ q fun z=>z),q];simp⟩⟩
 by_cases hbe:b=e
 .subst hbe;exact heo
 .exact ⟨u,k b u hbe q⟩
end
noncomputable def trk (h:Heap) (H:Hp):List Addr:=(List.range h.objs.size).filter fun a=>(H a).isSome
noncomputable def hidT (h:Heap) (H:Hp):Heap:=PySem.W.hideAll h (trk h H)
theorem hidT_size (h:Heap) (H:Hp):(hidT h H).objs.size=h.objs.size:=PySem.W.hideAll_size _ _
theorem hidT_get {h:Heap} {H:Hp} {b:Addr} {o:Obj} (e:h.get? b=some o) (n:H b=none):(hidT h H).get? b=some o :=
 PySem.W.hideAll_get _ e fun hm=>by
  have q:(H b).isSome=true:=(List.mem_filter.mp hm).2
  rw [n] at q;simp at q
theorem of_hidT {h:Heap} {H:Hp} {b:Addr} {o:Obj} (e:(hidT h H).get? b=some o):h.get? b=some o /\ H b=none:=by
 have e':h.get? b=some o:=PySem.W.of_hideAll (trk h H) e
 refine ⟨e',?_⟩
 cases q:H b with
 | none=>rfl
 | some x=>
  have hm:b∈trk h H:=List.mem_filter.mpr ⟨List.mem_range.mpr (Heap.lt_size e'),by simp [q]⟩
  have z:(hidT h H).get? b=none:=PySem.W.hideAll_none (trk h H) hm
  rw [z] at e;cases e
structure Mod (K:W.Frag) (mg:Str->Option Value) (base:Heap):Prop where
 kin:K.In base
 glob:base.Ns mainGlobals mg
 blt:∃ mb,base.Ns builtinsNs mb /\ ∀ x:Str,x≠"__name__"->mb x=bootBuiltins x
 nolimit:base.NoLimit
structure Cx where
 prog:Program
 w:World
 K:W.Frag
 mg:Str->Option Value
 base:Heap
 A:Around
 N:List Str
 s₀:Shared
 H₀:Hp
 env:Env
 outer:List Env
 stack:List Env
 ex:List Addr
 fn:Str->Bool
 calm:Bool
 pn:List (Addr×Obj)
 xe:Value->Shared->Prop
noncomputable def frs (l:List Env):List Addr:=l.filterMap (·.frame)
noncomputable abbrev Cx.fs (X:Cx):List Addr:=frs X.outer
noncomputable def Vis (sc:Scope) (x:Str):Prop:=sc.names.lookup x=some .local∨sc.names.lookup x=some .cell∨sc.names.lookup x=some .free
noncomputable def Loc (sc:Scope) (x:Str):Prop:=sc.names.lookup x=some .local∨sc.names.lookup x=some .cell
noncomputable def Look (env:Env) (h:Heap) (m:Str->Option Value) (x:Str) (u:Value):Prop :=
 (env.kindOf x=some .local /\ m x=some u)∨((env.kindOf x=some .cell∨env.kindOf x=some .free) /\ ∃ c,env.cells.lookup x=some c /\ h.IsCell c (some u))
structure Cx.Ok (X:Cx):Prop where
 mod:Mod X.K X.mg X.base
 kind:X.env.scope.kind=.function
 glob:X.env.globals=mainGlobals
 blt:X.env.builtins=builtinsNs
 above:X.s₀.heap.objs.size <= X.env.locals
 inj:∀ x y c,X.env.cells.lookup x=some c->X.env.cells.lookup y=some c->x=y
 has:∀ x,(X.env.kindOf x=some .cell∨X.env.kindOf x=some .free)->∃ c,X.env.cells.lookup x=some c
 cab:∀ x c,X.fn x=true->X.env.cells.lookup x=some c->X.s₀.heap.objs.size <= c
 hd:X.calm=true->X.A.handled=none
 frames:X.A.frames=some X.stack
 stk:X.stack=X.outer∨(X.stack=X.env::X.outer /\ X.env.frame=some X.env.locals)
 exf:∀ b∈X.ex,b≠X.env.locals /\ ∀ x c,X.env.cells.lookup x=some c->c≠b
 bs:∀ b o,X.base.get? b=some o->X.s₀.heap.get? b=some o /\ X.H₀ b=none
 bsz:X.base.objs.size <= X.s₀.heap.objs.size
 noex:∀ b o,X.base.get? b=some o->b∉X.ex
 exfs:∀ b∈X.ex,b∉X.fs
 funs:X.s₀.heap.FunFrames X.base X.outer
 frf:∀ b∈X.fs,X.H₀ b=none
structure Inv (X:Cx) (pins:List (Addr×Obj)) (σ:List (Option V)) (H:Hp) (s:Shared):Prop where
 ok:X.Ok
 os:s.os=X.s₀.os
 bare:AllBare s.gens
 base:Un X.fs X.ex X.H₀ H X.s₀.heap s.heap
 loc:∃ m,s.heap.Ns X.env.locals m /\ ∀ (i:Nat) (x:Str) (v:V),X.N[i]?=some x->σ[i]?=some (some v)->Vis X.env.scope x->∃ u,RelV v u /\ Look X.env s.heap m x u
 cell:∀ x c,X.env.cells.lookup x=some c->∃ v,s.heap.IsCell c v
 free:H X.env.locals=none
 freeC:∀ x c,X.env.cells.lookup x=some c->H c=none
 pin:∀ p∈X.pn++pins,s.heap.get? p.1=some p.2 /\ H p.1=none /\ p.1≠X.env.locals /\ p.1∉X.fs /\ ∀ v,p.2.data≠.cell v
 hok:HOk X.prog X.w H s.heap
 len:σ.length=X.N.length
section
variable {X:Cx} {pins:List (Addr×Obj)} {σ:List (Option V)} {H H':Hp} {s:Shared} {h':Heap}
theorem Cx.Ok.nofr (ok:X.Ok) {b:Addr} {o:Obj} (e:X.base.get? b=some o):b∉X.fs:=fun hb=>by
 have:=(ok.funs.mem hb).1
 rw [e] at this;cases this
theorem Inv.bs (I:Inv X pins σ H s):∀ b o,X.base.get? b=some o->s.heap.get? b=some o /\ H b=none:=fun b o e=>
 ⟨I.base.keep b o (I.ok.bs b o e).1 (I.ok.bs b o e).2 (I.ok.nofr e) (I.ok.noex b o e),I.base.free b o (I.ok.bs b o e).1 (I.ok.bs b o e).2 (I.ok.noex b o e)⟩
theorem Inv.bk (I:Inv X pins σ H s):∀ b o,X.base.get? b=some o->s.heap.get? b=some o:=fun b o e=>(I.bs b o e).1
theorem Inv.mod (I:Inv X pins σ H s):Mod X.K X.mg X.base:=I.ok.mod
theorem Inv.kIn (I:Inv X pins σ H s):X.K.In s.heap:=I.ok.mod.kin.keeps I.bk
theorem Inv.lt (I:Inv X pins σ H s):X.env.locals < s.heap.objs.size:=let ⟨_,hn,_⟩:=I.loc;hn.lt
theorem Inv.sz (I:Inv X pins σ H s):X.s₀.heap.objs.size <= s.heap.objs.size:=yAD I.ok.above (yBH I.lt)
theorem Inv.nofs (I:Inv X pins σ H s) {a:Addr} (h:s.heap.objs.size <= a):a∉X.fs:=fun hb=>by
 obtain ⟨_,o,ho,_⟩:=I.ok.funs.mem hb
 exact absurd (yAI (Heap.lt_size ho) (yAD I.sz h)) (yBB _)
theorem Inv.cne (I:Inv X pins σ H s):∀ x c,X.env.cells.lookup x=some c->c≠X.env.locals:=fun x c e z=>by
 obtain ⟨v,o,ho,hd⟩:=I.cell x c e
 obtain ⟨m,⟨o',es,ep,ho',hd',_⟩,_⟩:=I.loc
 rw [z,ho'] at ho;cases ho;rw [hd'] at hd;cases hd
theorem Inv.funs (I:Inv X pins σ H s):s.heap.FunFrames X.base X.outer:=by
 have all:∀ (l:List Env),(∀ b∈frs l,b∈X.fs)->X.s₀.heap.FunFrames X.base l->s.heap.FunFrames X.base l:=by
  intro l
  induction l with
  | nil=>intro _ _;trivial
  | cons env r ih=>
   intro hs hl
   obtain ⟨hk,⟨L,o,hf,hn,ho,hd⟩,hr⟩:=hl
   have hL:L∈X.fs:=hs L (by unfold frs;rw [List.filterMap_cons,hf];exact yAN)
   obtain ⟨sl,e⟩:=I.base.slot L o ho (I.ok.frf L hL) hL fun z=>I.ok.exfs L z hL
   exact ⟨hk,⟨L,_,hf,hn,e,hd⟩,ih (fun b hb=>hs b (by unfold frs;rw [List.filterMap_cons,hf];exact yAO _ hb)) hr⟩
 exact all X.outer (fun _ hb=>hb) I.ok.funs
theorem Inv.stack (I:Inv X pins σ H s):s.heap.FunFrames X.base X.stack:=by
 rcases I.ok.stk with e | ⟨e,hf⟩
 .rw [e];exact I.funs
 .rw [e]
  obtain ⟨m,hn,_⟩:=I.loc
  refine .cons (by rw [I.ok.kind];decide) hf hn ?_ I.funs
  exact Heap.get?_none_of_le (yAD I.ok.bsz I.ok.above)
theorem Inv.stkSub (I:Inv X pins σ H s):∀ b∈frs X.stack,b∈X.env.locals::X.fs:=fun b hb=>by
 rcases I.ok.stk with e | ⟨e,hf⟩
 .rw [e] at hb;exact yAO _ hb
 .rw [e] at hb
  unfold frs at hb
  rw [List.filterMap_cons,hf] at hb
  exact hb
theorem Inv.stkFree (I:Inv X pins σ H s):∀ b∈frs X.stack,H b=none:=fun b hb=>by
 rcases yAG.mp (I.stkSub b hb) with e | hb
 .rw [e];exact I.free
 .obtain ⟨_,o,ho,_⟩:=I.ok.funs.mem hb
  exact I.base.free b o ho (I.ok.frf b hb) fun z=>I.ok.exfs b z hb
theorem Inv.step {g':Array GenState} {t':Nat} {d':Drawn} {ch:List Addr} (I:Inv X pins σ H s)
  (hch:∀ b∈ch,(b∈X.ex∨X.s₀.heap.objs.size <= b) /\ b≠X.env.locals /\ (∀ x c,X.env.cells.lookup x=some c->c≠b) /\ ∀ p∈X.pn++pins,p.1≠b)
  (keep:∀ b o,b≠X.env.locals->b∉X.fs->b∉ch->s.heap.get? b=some o->H b=none->h'.get? b=some o)
  (slot:∀ b o,b≠X.env.locals->b∈X.fs->b∉ch->s.heap.get? b=some o->H b=none->∃ sl,h'.get? b=some { o with slots:=sl }) (free:∀ b o,b∉ch->s.heap.get? b=some o->H b=none->H' b=none)
  (there:∀ b o,b∉ch->s.heap.get? b=some o->∃ o',h'.get? b=some o')
  (tups:∀ b xs,H b=some (.tup xs)->H' b=some (.tup xs)) (frzs:∀ b o u,H b=some (.frz o u)->H' b=some (.frz o u)) (tbls:∀ b ps,H b=some (.tbl ps)->∃ more,H' b=some (.tbl (ps++more)))
  (ns:∀ m,s.heap.Ns X.env.locals m->h'.Ns X.env.locals m) (hok:HOk X.prog X.w H' h') (hg:AllBare g') :
  Inv X pins σ H' { s with heap:=h',gens:=g',drawn:=d',toks:=t' }:=by
 have neL:∀ b o,X.s₀.heap.get? b=some o->b≠X.env.locals:=fun b o e=>yAE (yAI (Heap.lt_size e) I.ok.above)
 have neC:∀ b o,X.s₀.heap.get? b=some o->b∉X.ex->b∉ch:=fun b o e hx hb=>by
  rcases (hch b hb).1 with z | z
  .exact hx z
  .exact absurd (yAI (Heap.lt_size e) z) (yBB _)
 have cellK:∀ x c,X.env.cells.lookup x=some c->∀ v,s.heap.IsCell c v->h'.IsCell c v:=fun x c e v ⟨o,ho,hd⟩=>by
  have nch:c∉ch:=fun z=>(hch c z).2.2.1 x c e rfl
  by_cases hc:c∈X.fs
  .obtain ⟨sl,q⟩:=slot c o (I.cne x c e) hc nch ho (I.freeC x c e)
   exact ⟨_,q,hd⟩
  .exact ⟨o,keep c o (I.cne x c e) hc nch ho (I.freeC x c e),hd⟩
 refine ⟨I.ok,I.os,hg,⟨fun b o e n hb hx=>?_,fun b o e n hb hx=>?_,fun b o e n hx=>?_,fun b o e hx=>?_,fun b xs e=>tups b xs (I.base.tups b xs e),fun b o xs e=>frzs b o xs (I.base.frzs b o xs e),fun b ps e=>?_⟩,?_,fun x c e=>?_,?_,fun x c e=>?_,fun p hp=>?_,hok,I.len⟩
 .exact keep b o (neL b o e) hb (neC b o e hx) (I.base.keep b o e n hb hx) (I.base.free b o e n hx)
 .obtain ⟨sl,e1⟩:=I.base.slot b o e n hb hx
  obtain ⟨sl',e2⟩:=slot b _ (neL b o e) hb (neC b o e hx) e1 (I.base.free b o e n hx)
  exact ⟨sl',e2⟩
 .obtain ⟨o',e1⟩:=I.base.there b o e hx
  exact free b o' (neC b o e hx) e1 (I.base.free b o e n hx)
 .obtain ⟨o',e1⟩:=I.base.there b o e hx
  exact there b o' (neC b o e hx) e1
 .obtain ⟨m1,e1⟩:=I.base.tbls b ps e
  obtain ⟨m2,e2⟩:=tbls b _ e1
  exact ⟨m1++m2,by rw [e2,Array.append_assoc]⟩
 .obtain ⟨m,hn,hl⟩:=I.loc
  refine ⟨m,ns m hn,fun i x v e1 e2 e3=>?_⟩
  obtain ⟨u,r,l⟩:=hl i x v e1 e2 e3
  refine ⟨u,r,?_⟩
  rcases l with l | ⟨k,c,e,z⟩
  .exact .inl l
  .exact .inr ⟨k,c,e,cellK x c e _ z⟩
 .obtain ⟨v,z⟩:=I.cell x c e
  exact ⟨v,cellK x c e v z⟩
 .obtain ⟨m,⟨o,_,_,ho,_⟩,_⟩:=I.loc
  exact free _ o (fun z=>(hch _ z).2.1 rfl) ho I.free
 .obtain ⟨v,o,ho,hd⟩:=I.cell x c e
  exact free c o (fun z=>(hch c z).2.2.1 x c e rfl) ho (I.freeC x c e)
 .obtain ⟨e,n,ne,nf,d⟩:=I.pin p hp
  have nch:p.1∉ch:=fun z=>(hch p.1 z).2.2.2 p hp rfl
  exact ⟨keep p.1 p.2 ne nf nch e n,free p.1 p.2 nch e n,ne,nf,d⟩
theorem Inv.un {t':Nat} (I:Inv X pins σ H s) (u:Un X.fs [] H H' s.heap h') (hok:HOk X.prog X.w H' h'):Inv X pins σ H' { s with heap:=h',toks:=t' }:=by
 obtain ⟨m,⟨o,es,ep,ho,r⟩,_⟩:=id I.loc
 obtain ⟨sl,hL⟩:=u.any ho I.free (by simp)
 exact I.step (g':=s.gens) (d':=s.drawn) (ch:=[]) (fun _ z=>nomatch z) (fun b o _ hb _ e n=>u.keep b o e n hb (by simp)) (fun b o _ hb _ e n=>u.slot b o e n hb (by simp)) (fun b o _ e n=>u.free b o e n (by simp)) (fun b o _ e=>u.there b o e (by simp)) u.tups u.frzs u.tbls (fun m' hm=>by
  obtain ⟨o',es',ep',ho',r'⟩:=hm
  rw [ho] at ho';cases ho'
  exact ⟨_,es',ep',hL,r'⟩) hok I.bare
theorem Inv.call {g':Array GenState} {t':Nat} {d':Drawn} {ch:List Addr} (I:Inv X pins σ H s) (u:Un (frs X.stack) ch H H' s.heap h') (hok:HOk X.prog X.w H' h') (hg:AllBare g')
  (hch:∀ b∈ch,(b∈X.ex∨X.s₀.heap.objs.size <= b) /\ b≠X.env.locals /\ (∀ x c,X.env.cells.lookup x=some c->c≠b) /\ ∀ p∈X.pn++pins,p.1≠b) :
  Inv X pins σ H' { s with heap:=h',gens:=g',drawn:=d',toks:=t' }:=by
 obtain ⟨m,⟨o,es,ep,ho,r⟩,_⟩:=id I.loc
 obtain ⟨sl,hL⟩:=u.any ho I.free fun z=>(hch _ z).2.1 rfl
 exact I.step (ch:=ch) hch (fun b o hL hb hc e n=>u.keep b o e n (fun z=>(yAG.mp (I.stkSub b z)).elim hL hb) hc) (fun b o _ _ hc e n=>u.any e n hc) (fun b o hc e n=>u.free b o e n hc) (fun b o hc e=>u.there b o e hc) u.tups u.frzs u.tbls (fun m' hm=>by
  obtain ⟨o',es',ep',ho',r'⟩:=hm
  rw [ho] at ho';cases ho'
  exact ⟨_,es',ep',hL,r'⟩) hok hg
theorem Inv.turned {t':Nat} {it:Addr} (I:Inv X pins σ H s) (k:∀ b o,b≠it->s.heap.get? b=some o->h'.get? b=some o) (hn:H it=none) (hL:it≠X.env.locals)
  (h1:it∈X.ex∨X.s₀.heap.objs.size <= it) (h2:∀ x c,X.env.cells.lookup x=some c->c≠it) (h3:∀ p∈X.pn++pins,p.1≠it):Inv X pins σ H { s with heap:=h',toks:=t' }:=by
 have nit:∀ b u,H b=some u->b≠it:=fun b u e z=>by rw [z,hn] at e;cases e
 refine I.step (g':=s.gens) (d':=s.drawn) (ch:=[it]) (fun b hb=>?_) (fun b o _ _ hc e _=>k b o (fun z=>hc (by simp [z])) e) (fun b o _ _ hc e _=>⟨o.slots,k b o (fun z=>hc (by simp [z])) e⟩) (fun _ _ _ _ n=>n)
  (fun b o hc e=>⟨o,k b o (fun z=>hc (by simp [z])) e⟩) (fun _ _ e=>e) (fun _ _ _ e=>e) (fun b ps e=>⟨#[],by rw [e];simp⟩) (fun m hm=>?_) (fun b u e=>?_) I.bare
 .have e:b=it:=by simpa using hb
  subst e
  exact ⟨h1,hL,h2,h3⟩
 .obtain ⟨o,es,ep,ho,r⟩:=hm
  exact ⟨o,es,ep,k _ o (Ne.symm hL) ho,r⟩
 .refine (I.hok b u e).stay (fun c v hc q=>k c v ?_ q) (fun _ q=>q) fun _ _ q=>q
  rcases hc with z | z
  .rw [z];exact nit b u e
  .exact nit c _ z
theorem Inv.tok (I:Inv X pins σ H s) (t:Nat):Inv X pins σ H { s with toks:=t }:=I.un (h':=s.heap) (t':=t) Un.refl I.hok
theorem Inv.kept {t':Nat} (I:Inv X pins σ H s) (k:∀ b u,s.heap.get? b=some u->h'.get? b=some u):Inv X pins σ H { s with heap:=h',toks:=t' }:=I.un (Un.kept k) (I.hok.kept k)
theorem Inv.laid {a:Addr} {o:HO} {t':Nat} (I:Inv X pins σ H s) (k:∀ b u,s.heap.get? b=some u->h'.get? b=some u) (hp:s.heap.objs.size <= a) (new:ObjOk X.prog X.w (upd H a o) h' a o) :
  Inv X pins σ (upd H a o) { s with heap:=h',toks:=t' }:=I.un (Un.laid k hp (I.hok.fresh hp)) (I.hok.laid k hp new)
theorem Inv.write {x e:Addr} {o:HO} {t':Nat} (I:Inv X pins σ H s) (mu:Mut (H x)) (he:e=x∨H e=some (.own x)) (k:∀ b u,b≠e->s.heap.get? b=some u->h'.get? b=some u) (heo:∃ u,h'.get? e=some u)
  (new:ObjOk X.prog X.w (upd H x o) h' x o):Inv X pins σ (upd H x o) { s with heap:=h',toks:=t' }:=I.un (Un.write mu he k heo) (I.hok.write mu he k heo new)
theorem Inv.pins_of {pins':List (Addr×Obj)} (I:Inv X pins σ H s) (h:∀ p∈pins',s.heap.get? p.1=some p.2 /\ H p.1=none /\ p.1≠X.env.locals /\ p.1∉X.fs /\ ∀ v,p.2.data≠.cell v):Inv X pins' σ H s :=
 ⟨I.ok,I.os,I.bare,I.base,I.loc,I.cell,I.free,I.freeC,fun p hp=>(yBC.mp hp).elim (fun z=>I.pin p (List.mem_append_left _ z)) (h p),I.hok,I.len⟩
theorem ZDU {N:List Str} (hN:N.Nodup) {i j:Nat} {x:Str} (a:N[i]?=some x) (b:N[j]?=some x):i=j:=by
 obtain ⟨h1,e1⟩:=yAX.mp a
 obtain ⟨h2,e2⟩:=yAX.mp b
 exact (List.getElem_inj hN).mp (e1.trans e2.symm)
theorem store_ok2 {M:Model} {A:Around} {E:Value->Shared->Prop} {i:Nat} {x:Str} {v:V} {u:Value} {Q:Unit->Shared->Prop} (I:Inv X pins σ H s) (hN:X.N.Nodup) (hi:X.N[i]?=some x) (hx:Loc X.env.scope x) (r:RelV v u)
  (h:∀ s',Inv X pins (σ.set i (some v)) H s'->(∃ a,Heap.SameBut a s.heap s'.heap /\ (a=X.env.locals∨X.env.cells.lookup x=some a))->Q () s') (hf:X.fn x=true∨X.env.scope.names.lookup x=some .local:=by first | exact .inl rfl | exact .inr rfl | assumption):wpAny M A (storeName X.env x u) Q E s:=by
 obtain ⟨m,hn,hl⟩:=id I.loc
 have hcls:(X.env.scope.kind == .class || (X.env.scope.kind == .module && X.env.locals != X.env.globals))=false:=by rw [I.ok.kind];rfl
 have hiσ:i < σ.length:=by rw [I.len];exact (yAX.mp hi).1
 have cne:=I.cne
 have tracked:∀ {a:Addr} {h':Heap},(∃ o,s.heap.get? a=some o /\ H a=none)->Heap.SameBut a s.heap h'->HOk X.prog X.w H h':=fun {a h'} ha hs b ob e=>by
  obtain ⟨_,_,hfree⟩:=ha
  refine (I.hok b ob e).stay (fun c w' hc q=>(hs.2 c ?_).trans q) (fun _ q=>q) fun _ _ q=>q
  rintro rfl
  rcases hc with rfl | hc
  .rw [hfree] at e;cases e
  .rw [hfree] at hc;cases hc
 rcases hx with hk | hk
 .refine wpAny_storeName_local hk hn (fun h' hn' hs=>?_) hcls
  obtain ⟨oL,_,_,hoL,_⟩:=id hn
  refine h _ ⟨I.ok,I.os,I.bare,⟨fun b o e n hb hx=>?_,fun b o e n hb hx=>?_,I.base.free,fun b o e hx=>?_,I.base.tups,I.base.frzs,I.base.tbls⟩,⟨_,hn',fun j y v' e1 e2 e3=>?_⟩,fun y c e=>?_,I.free,I.freeC,fun p hp=>?_,tracked ⟨oL,hoL,I.free⟩ hs,by simpa using I.len⟩ ⟨_,hs,.inl rfl⟩
  .exact (hs.2 b (yAE (yAI (Heap.lt_size e) I.ok.above))).trans (I.base.keep b o e n hb hx)
  .obtain ⟨sl,e1⟩:=I.base.slot b o e n hb hx
   exact ⟨sl,(hs.2 b (yAE (yAI (Heap.lt_size e) I.ok.above))).trans e1⟩
  .obtain ⟨o',e1⟩:=I.base.there b o e hx
   exact ⟨o',(hs.2 b (yAE (yAI (Heap.lt_size e) I.ok.above))).trans e1⟩
  .by_cases hj:j=i
   .subst hj
    rw [hi] at e1;cases e1
    rw [List.getElem?_set_self hiσ] at e2
    cases e2
    exact ⟨u,r,.inl ⟨hk,by simp⟩⟩
   .rw [List.getElem?_set_ne (Ne.symm hj)] at e2
    obtain ⟨u',r',q⟩:=hl j y v' e1 e2 e3
    refine ⟨u',r',?_⟩
    rcases q with ⟨k,e⟩ | ⟨k,c,e,z⟩
    .refine .inl ⟨k,?_⟩
     have:y≠x:=fun e=>hj (ZDU hN e1 (e ▸ hi))
     simp [this,e]
    .exact .inr ⟨k,c,e,z.sameBut hs (cne y c e)⟩
  .obtain ⟨w',z⟩:=I.cell y c e
   exact ⟨w',z.sameBut hs (cne y c e)⟩
  .obtain ⟨e,n,ne,nf,d⟩:=I.pin p hp
   exact ⟨(hs.2 p.1 ne).trans e,n,ne,nf,d⟩
 .have hfn:X.fn x=true:=by
   rcases hf with z | z
   .exact z
   .rw [z] at hk;cases hk
  obtain ⟨c,hc⟩:=I.ok.has x (.inl hk)
  obtain ⟨w',z⟩:=I.cell x c hc
  refine wpAny_storeName_cell I.ok.kind hk hc z (fun h' hc' hs=>?_)
  obtain ⟨oc,hoc,hocd⟩:=id z
  refine h { s with heap:=h' } ⟨I.ok,I.os,I.bare,⟨fun b o e n hb hx=>?_,fun b o e n hb hx=>?_,I.base.free,fun b o e hx=>?_,I.base.tups,I.base.frzs,I.base.tbls⟩,⟨m,hn.sameBut hs (Ne.symm (cne x c hc)),fun j y v' e1 e2 e3=>?_⟩,fun y c' e=>?_,I.free,I.freeC,fun p hp=>?_,tracked ⟨oc,hoc,I.freeC x c hc⟩ hs,by simpa using I.len⟩ ⟨c,hs,.inr hc⟩
  .exact (hs.2 b (yAE (yAI (Heap.lt_size e) (I.ok.cab x c hfn hc)))).trans (I.base.keep b o e n hb hx)
  .obtain ⟨sl,e1⟩:=I.base.slot b o e n hb hx
   exact ⟨sl,(hs.2 b (yAE (yAI (Heap.lt_size e) (I.ok.cab x c hfn hc)))).trans e1⟩
  .obtain ⟨o',e1⟩:=I.base.there b o e hx
   exact ⟨o',(hs.2 b (yAE (yAI (Heap.lt_size e) (I.ok.cab x c hfn hc)))).trans e1⟩
  .by_cases hj:j=i
   .subst hj
    rw [hi] at e1;cases e1
    rw [List.getElem?_set_self hiσ] at e2
    cases e2
    exact ⟨u,r,.inr ⟨.inl hk,c,hc,hc'⟩⟩
   .rw [List.getElem?_set_ne (Ne.symm hj)] at e2
    obtain ⟨u',r',q⟩:=hl j y v' e1 e2 e3
    refine ⟨u',r',?_⟩
    rcases q with q | ⟨k,c',e,z'⟩
    .exact .inl q
    .refine .inr ⟨k,c',e,z'.sameBut hs ?_⟩
     rintro rfl
     exact hj (ZDU hN e1 (I.ok.inj _ _ _ e hc ▸ hi))
  .by_cases hcc:c'=c
   .subst hcc;exact ⟨_,hc'⟩
   .obtain ⟨w2,z2⟩:=I.cell y c' e
    exact ⟨w2,z2.sameBut hs hcc⟩
  .obtain ⟨e,n,ne,nf,d⟩:=I.pin p hp
   refine ⟨(hs.2 p.1 ?_).trans e,n,ne,nf,d⟩
   intro q
   rw [q,hoc] at e
   have q':oc=p.2:=Option.some.inj e
   exact d w' (by rw [<- q'];exact hocd)
theorem ZB6 {M:Model} {A:Around} {E:Value->Shared->Prop} {i:Nat} {x:Str} {v:V} {u:Value} {Q:Unit->Shared->Prop} (I:Inv X pins σ H s) (hN:X.N.Nodup) (hi:X.N[i]?=some x) (hx:Loc X.env.scope x) (r:RelV v u)
  (h:∀ s',Inv X pins (σ.set i (some v)) H s'->Q () s') (hf:X.fn x=true∨X.env.scope.names.lookup x=some .local:=by first | exact .inl rfl | exact .inr rfl | assumption):wpAny M A (storeName X.env x u) Q E s :=
 store_ok2 I hN hi hx r (fun s' I' _=>h s' I') hf
theorem Inv.call' {s':Shared} {ch:List Addr} (I:Inv X pins σ H s) (ho:s'.os=s.os) (u:Un (frs X.stack) ch H H' s.heap s'.heap) (hok:HOk X.prog X.w H' s'.heap) (hg:AllBare s'.gens)
  (hch:∀ b∈ch,(b∈X.ex∨X.s₀.heap.objs.size <= b) /\ b≠X.env.locals /\ (∀ x c,X.env.cells.lookup x=some c->c≠b) /\ ∀ p∈X.pn++pins,p.1≠b):Inv X pins σ H' s':=by
 obtain ⟨h',g',d',t',o'⟩:=s'
 have e:o'=s.os:=ho
 subst e
 exact I.call (g':=g') (t':=t') (d':=d') u hok hg hch
end
noncomputable abbrev XK:=Value->Option Addr->Hp->Prop
noncomputable abbrev St:=List (Option V)
noncomputable abbrev VK:=V->Hp->Prop
noncomputable abbrev TE:=St->Hp->VK->Prop
noncomputable abbrev TT:=St->Hp->(Bool->Hp->Prop)->Prop
noncomputable abbrev TA:=St->Hp->(List V->Hp->Prop)->Prop
structure Ends where
 nx:St->Hp->Prop
 rt:VK
 bk:St->Hp->Prop:=fun _ _=>False
 ct:St->Hp->Prop:=fun _ _=>False
noncomputable abbrev TS:=Ends->St->Hp->Prop
noncomputable def EP (X:Cx) (pins:List (Addr×Obj)) (σ:St) (Q:VK) (u:Value) (s':Shared):Prop:=∃ v H',Inv X pins σ H' s' /\ RelV v u /\ Q v H'
noncomputable def TP (X:Cx) (pins:List (Addr×Obj)) (σ:St) (Q:Bool->Hp->Prop) (b:Bool) (s':Shared):Prop:=∃ H',Inv X pins σ H' s' /\ Q b H'
noncomputable def AP (X:Cx) (pins:List (Addr×Obj)) (σ:St) (Q:List V->Hp->Prop) (us:List Value) (s':Shared):Prop:=∃ vs H',Inv X pins σ H' s' /\ Vals vs us /\ Q vs H'
noncomputable def SP (X:Cx) (pins:List (Addr×Obj)) (D:Ends) (f:Flow) (s':Shared):Prop :=
 match f with
 | .next=>∃ σ' H',Inv X pins σ' H' s' /\ D.nx σ' H'
 | .brk=>∃ σ' H',Inv X pins σ' H' s' /\ D.bk σ' H'
 | .cont=>∃ σ' H',Inv X pins σ' H' s' /\ D.ct σ' H'
 | .ret u=>∃ v σ' H',Inv X pins σ' H' s' /\ RelV v u /\ D.rt v H'
noncomputable def PE (X:Cx) (e:Expr) (t:TE):Prop :=
 ∀ (pins:List (Addr×Obj)) (s:Shared) (σ:St) (H:Hp) (Q:VK),Inv X pins σ H s->t σ H Q->wpAny (model X.prog X.w) X.A (eval e X.env) (EP X pins σ Q) X.xe s
noncomputable def PT (X:Cx) (e:Expr) (t:TT):Prop :=
 ∀ (pins:List (Addr×Obj)) (s:Shared) (σ:St) (H:Hp) (Q:Bool->Hp->Prop),Inv X pins σ H s->t σ H Q->wpAny (model X.prog X.w) X.A (isTrue e X.env (eval e X.env)) (TP X pins σ Q) X.xe s
noncomputable def PW (X:Cx) (e:Expr) (t:TT):Prop :=
 ∀ (whole:Sem Value) (pins:List (Addr×Obj)) (s:Shared) (σ:St) (H:Hp) (Q:Bool->Hp->Prop),Inv X pins σ H s->t σ H Q->wpAny (model X.prog X.w) X.A (isTrue e X.env whole) (TP X pins σ Q) X.xe s
theorem PW.pt {X:Cx} {e:Expr} {t:TT} (h:PW X e t):PT X e t:=h _
noncomputable def PA (X:Cx) (es:List Expr) (t:TA):Prop :=
 ∀ (pos:Pos) (pins:List (Addr×Obj)) (s:Shared) (σ:St) (H:Hp) (Q:List V->Hp->Prop),Inv X pins σ H s->t σ H Q->wpAny (model X.prog X.w) X.A (spliced (backTo pos (starEach es X.env))) (AP X pins σ Q) X.xe s
noncomputable def PS (X:Cx) (st:Stmt) (t:TS):Prop :=
 ∀ (pins:List (Addr×Obj)) (s:Shared) (σ:St) (H:Hp) (D:Ends),Inv X pins σ H s->t D σ H->wpAny (model X.prog X.w) X.A (exec st X.env) (SP X pins D) X.xe s
noncomputable def PSs (X:Cx) (st:List Stmt) (t:TS):Prop :=
 ∀ (pins:List (Addr×Obj)) (s:Shared) (σ:St) (H:Hp) (D:Ends),Inv X pins σ H s->t D σ H->wpAny (model X.prog X.w) X.A (execs st X.env) (SP X pins D) X.xe s
theorem thn {α:Type} {t:Sem α} {Q Q':α->Shared->Prop} {M:Model} {A:Around} {E:Value->Shared->Prop} {s:Shared} (h:wpAny M A t Q E s) (hQ:∀ a s,Q a s->Q' a s):wpAny M A t Q' E s:=wpAny_mono h hQ fun _ _ x=>x
section
variable {X:Cx}
noncomputable def tVar (i:Nat):TE:=fun σ H Q=>∃ v,σ[i]?=some (some v) /\ Q v H
noncomputable def tC (v:V):TE:=fun _ H Q=>Q v H
theorem pe_var {i:Nat} {x:Str} {pos:Pos} (hN:X.N[i]?=some x) (hv:Vis X.env.scope x) (hd:(x == ("__debug__":Str))=false:=by decide) (hcd:(x == ("__classdict__":Str))=false:=by decide):PE X (.Name x pos) (tVar i):=by
 intro pins s σ H Q I h
 obtain ⟨v,e,h⟩:=h
 obtain ⟨m,hn,hl⟩:=I.loc
 obtain ⟨u,r,l⟩:=hl i x v hN e hv
 have fin:EP X pins σ Q u s:=⟨v,H,I,r,h⟩
 rcases l with ⟨hk,hm⟩ | ⟨hk,c,hc,hcell⟩
 .exact wpAny_Name (wpAny_loadName_local I.ok.kind hk hn hm fin) hd
 .rcases hk with hk | hk
  .exact wpAny_Name (wpAny_loadName_cell I.ok.kind hk hc hcell fin) hd
  .exact wpAny_Name (wpAny_loadName_free I.ok.kind hk hc hcell fin hcd) hd
theorem ZAI {i j pos}:PE X (.Constant (.int i) j pos) (tC (.int i)):=fun _ _ _ H _ I h=>wpAny_Constant_int ⟨.int i,H,I.tok _,⟨_,rfl⟩,h⟩
theorem ZDR {b j pos}:PE X (.Constant (.bool b) j pos) (tC (.bl b)):=fun _ _ _ H _ I h=>Constant_bool ⟨.bl b,H,I,rfl,h⟩
theorem ZEB {j pos}:PE X (.Constant .none j pos) (tC .non):=fun _ _ _ H _ I h=>Constant_none ⟨.non,H,I,rfl,h⟩
theorem ZCs {x j pos}:PE X (.Constant (.str x) j pos) (tC (.str x)):=fun _ _ _ H _ I h=>Calls.Constant_str ⟨.str x,H,I.tok _,⟨_,rfl⟩,h⟩
noncomputable def Gl (X:Cx) (x:Str):Prop:=X.env.kindOf x=some .globalImplicit
theorem ZCO {E:Value->Shared->Prop} {pins:List (Addr×Obj)} {s:Shared} {σ:St} {H:Hp} {x:Str} {u:Value} {pos:Pos} {Q:Value->Shared->Prop} (I:Inv X pins σ H s) (hg:Gl X x) (hm:X.mg x=some u) (h:Q u s)
  (hd:(x == ("__debug__":Str))=false:=by decide):wpAny (model X.prog X.w) X.A (eval (.Name x pos) X.env) Q E s :=
 Calls.Name_function_global I.ok.kind hg (Calls.loadGlobal_global (by rw [I.ok.glob];exact I.mod.glob.keeps I.bk) hm h) hd
theorem ZCR {E:Value->Shared->Prop} {pins:List (Addr×Obj)} {s:Shared} {σ:St} {H:Hp} {x:Str} {u:Value} {pos:Pos} {Q:Value->Shared->Prop} (I:Inv X pins σ H s) (hg:Gl X x) (hm:X.mg x=none) (hv:bootBuiltins x=some u) (h:Q u s)
  (hn:x≠"__name__":=by decide) (hd:(x == ("__debug__":Str))=false:=by decide):wpAny (model X.prog X.w) X.A (eval (.Name x pos) X.env) Q E s:=by
 obtain ⟨mb,h1,h2⟩:=I.mod.blt
 exact Calls.Name_function_global I.ok.kind hg (Calls.loadGlobal_builtin (by rw [I.ok.glob];exact I.mod.glob.keeps I.bk) hm (by rw [I.ok.blt];exact h1.keeps I.bk) ((h2 x hn).trans hv) h) hd
theorem pe_bltn {x:Str} {v:V} {u:Value} {pos:Pos} (hg:Gl X x) (hm:X.mg x=none) (hv:bootBuiltins x=some u) (r:RelV v u) (hn:x≠"__name__":=by decide) (hd:(x == ("__debug__":Str))=false:=by decide):PE X (.Name x pos) (tC v) :=
 fun _ _ _ H _ I h=>ZCR I hg hm hv ⟨v,H,I,r,h⟩ hn hd
variable {a b:Expr} {ta tb:TE} {pos:Pos}
noncomputable def tB (t:TE):TT:=fun σ H Q=>t σ H fun x H1=>∃ c,x=.bl c /\ Q c H1
theorem ZBt {e:Expr} {t:TE} (h:PE X e t) (he:∀ whole,isTrue e X.env whole=(do let v <- whole;standAt e.pos;holding [v] (truthy v)):=by intro _;rfl):PT X e (tB t):=by
 intro pins s σ H Q I hw
 refine isTrue_plain (thn (h pins s σ H _ I hw) fun v s1 zz=>?_) (he _)
 obtain ⟨x,H1,I1,r1,q1⟩:=zz
 obtain ⟨d,rfl,q⟩:=q1
 cases r1
 exact wpAny_truthy_bool ⟨H1,I1,q⟩
variable {tA tB':TT} {rest:List Expr}
noncomputable def tAnd (t u:TT):TT:=fun σ H Q=>t σ H fun c H1=>if c=true then u σ H1 Q else Q false H1
noncomputable def tOr (t u:TT):TT:=fun σ H Q=>t σ H fun c H1=>if c=true then Q true H1 else u σ H1 Q
noncomputable def tNot (t:TT):TT:=fun σ H Q=>t σ H fun c H1=>Q (!c) H1
theorem ZCp (ha:PT X a tA):PW X (.BoolOp .And [a] pos) tA:=by
 intro wh pins s σ H Q I h
 refine isTrue_and (thn (ha pins s σ H Q I h) fun c s1 e=>?_)
 cases c with
 | true=>exact isTrue_and_nil e
 | false=>exact e
theorem ZCo (ha:PT X a tA):PW X (.BoolOp .Or [a] pos) tA:=by
 intro wh pins s σ H Q I h
 refine isTrue_or (thn (ha pins s σ H Q I h) fun c s1 e=>?_)
 cases c with
 | false=>exact isTrue_or_nil e
 | true=>exact e
theorem ZDd (ha:PT X a tA) (hb:PW X (.BoolOp .And (b::rest) pos) tB'):PW X (.BoolOp .And (a::b::rest) pos) (tAnd tA tB'):=by
 intro wh pins s σ H Q I h
 refine isTrue_and (thn (ha pins s σ H _ I h) fun c s1 ⟨H1,I1,q1⟩=>?_)
 cases c with
 | true=>exact hb wh pins s1 σ H1 Q I1 q1
 | false=>exact ⟨H1,I1,q1⟩
theorem ZC4 (ha:PT X a tA) (hb:PW X (.BoolOp .Or (b::rest) pos) tB'):PW X (.BoolOp .Or (a::b::rest) pos) (tOr tA tB'):=by
 intro wh pins s σ H Q I h
 refine isTrue_or (thn (ha pins s σ H _ I h) fun c s1 ⟨H1,I1,q1⟩=>?_)
 cases c with
 | true=>exact ⟨H1,I1,q1⟩
 | false=>exact hb wh pins s1 σ H1 Q I1 q1
theorem ZCA (ha:PT X a tA):PT X (.UnaryOp .Not a pos) (tNot tA):=by
 intro pins s σ H Q I h
 exact isTrue_not (ha pins s σ H (fun c H1=>Q (!c) H1) I h)
noncomputable def ZEs (ta tb:TE):TE:=fun σ H Q=>ta σ H fun x H1=>∃ c,x=.bl c /\ if c=true then tb σ H1 Q else Q (.bl false) H1
noncomputable def tOrV (ta tb:TE):TE:=fun σ H Q=>ta σ H fun x H1=>∃ c,x=.bl c /\ if c=true then Q (.bl true) H1 else tb σ H1 Q
noncomputable def ZEp (ta:TE):TE:=fun σ H Q=>ta σ H fun x H1=>∃ c,x=.bl c /\ Q (.bl (!c)) H1
theorem pe_one {op} {t:TE} (h:PE X a t):PE X (.BoolOp op [a] pos) t:=fun pins s σ H Q I hw=>BoolOp_one (h pins s σ H Q I hw)
theorem pe_and (ha:PE X a ta) (hb:PE X (.BoolOp .And (b::rest) pos) tb):PE X (.BoolOp .And (a::b::rest) pos) (ZEs ta tb):=by
 intro pins s σ H Q I h
 refine BoolOp_and (thn (ha pins s σ H _ I h) fun v s1 zz=>?_)
 obtain ⟨x,H1,I1,r1,q1⟩:=zz
 obtain ⟨c,rfl,q1⟩:=q1
 cases r1
 refine wpAny_truthy_bool ?_
 cases c with
 | true=>exact hb pins s1 σ H1 Q I1 q1
 | false=>exact ⟨.bl false,H1,I1,rfl,q1⟩
theorem pe_not (ha:PE X a ta):PE X (.UnaryOp .Not a pos) (ZEp ta):=by
 intro pins s σ H Q I h
 refine UnaryOp_ (thn (ha pins s σ H _ I h) fun v s1 zz=>?_)
 obtain ⟨x,H1,I1,r1,q1⟩:=zz
 obtain ⟨c,rfl,q1⟩:=q1
 cases r1
 exact not_of (wpAny_truthy_bool ⟨.bl (!c),H1,I1,rfl,q1⟩)
noncomputable def tIf (t:TT) (ta tb:TE):TE:=fun σ H Q=>t σ H fun c H1=>if c=true then ta σ H1 Q else tb σ H1 Q
theorem pe_ifExp {c:Expr} (hc:PT X c tA) (ha:PE X a ta) (hb:PE X b tb):PE X (.IfExp c a b pos) (tIf tA ta tb):=by
 intro pins s σ H Q I h
 refine wpAny_IfExp (thn (hc pins s σ H _ I h) fun d s1 ⟨H1,I1,q1⟩=>?_)
 cases d with
 | true=>exact ha pins s1 σ H1 Q I1 q1
 | false=>exact hb pins s1 σ H1 Q I1 q1
end
noncomputable def SqL (K:W.Frag) (H:Hp) (a:Addr) (xs:List V):Prop :=
 Rd H a (.lst xs) ∨
  ∃ (o:Obj) (its:Array Value) (n:Nat),K.lookup a=some o /\ o.cls=.type "list" /\ o.dict=none /\ o.data=.seq its n /\ its.size <= sizeLine /\ Vals xs its.toList
noncomputable def SqT (K:W.Frag) (H:Hp) (a:Addr) (xs:List V):Prop :=
 Rd H a (.tup xs) ∨
  ∃ (o:Obj) (its:Array Value) (n:Nat),K.lookup a=some o /\ o.cls=.type "tuple" /\ o.data=.seq its n /\ its.size <= sizeLine /\ Vals xs its.toList
noncomputable def absV:Value->Option V
 | .none=>some .non
 | .bool b=>some (.bl b)
 | .int i _=>some (.int i)
 | .str x _=>some (.str x)
 | .bytes b _=>some (.byt b)
 | .float b _=>some (.flt b)
 | .ref a=>some (.ref a)
 | .type n=>some (.ty n)
 | _=>none
theorem RelV.abs {x:V} {u:Value} (r:RelV x u):absV u=some x:=by
 cases x with
 | non=>cases r;rfl
 | bl _=>cases r;rfl
 | int _=>obtain ⟨t,rfl⟩:=r;rfl
 | str _=>obtain ⟨t,rfl⟩:=r;rfl
 | byt _=>obtain ⟨t,rfl⟩:=r;rfl
 | flt _=>obtain ⟨t,rfl⟩:=r;rfl
 | ref _=>cases r;rfl
 | ty _=>cases r;rfl
theorem RelV.inj {x y:V} {u:Value} (r:RelV x u) (q:RelV y u):x=y:=Option.some.inj (r.abs.symm.trans q.abs)
theorem Vals.inj:∀ {xs ys:List V} {us:List Value},Vals xs us->Vals ys us->xs=ys
 | _,_,_,.nil,.nil=>rfl
 | _,_,_,.cons r t,.cons r' t'=>by rw [r.inj r',Vals.inj t t']
section
variable {X:Cx} {pins:List (Addr×Obj)} {σ:St} {H:Hp} {s:Shared} {a:Addr} {xs ys:List V}
theorem SqL.of {K:W.Frag} (h:H a=some (.lst xs)):SqL K H a xs:=.inl (.inl h)
theorem SqT.of {K:W.Frag} (h:H a=some (.tup xs)):SqT K H a xs:=.inl (.inl h)
theorem Inv.list (I:Inv X pins σ H s) (h:SqL X.K H a xs):∃ its:List Value,Vals xs its /\ PlainL s.heap a its.toArray /\ xs.length <= sizeLine:=by
 rcases h with h | ⟨o,its,n,hk,hc,hd,hs,hz,r⟩
 .obtain ⟨z,its,n,r,e⟩:=h.ok I.hok
  exact ⟨its,r,⟨_,n,e,rfl,rfl,rfl⟩,z⟩
 .refine ⟨its.toList,r,⟨o,n,I.kIn a o hk,hc,hd,by simpa using hs⟩,?_⟩
  have e:=r.length
  simp only [yAH] at e
  omega
theorem Inv.tuple (I:Inv X pins σ H s) (h:SqT X.K H a xs):∃ its:List Value,Vals xs its /\ IsTup s.heap a its.toArray /\ xs.length <= sizeLine:=by
 rcases h with h | ⟨o,its,n,hk,hc,hs,hz,r⟩
 .obtain ⟨z,its,r,p⟩:=h.ok I.hok
  exact ⟨its,r,p,z⟩
 .refine ⟨its.toList,r,⟨o,I.kIn a o hk,hc,n,by simpa using hs⟩,?_⟩
  have e:=r.length
  simp only [yAH] at e
  omega
theorem Inv.list_inj (I:Inv X pins σ H s) (h:SqL X.K H a xs) (h':SqL X.K H a ys):xs=ys:=by
 obtain ⟨its,r,⟨o,n,e,_,_,d⟩,_⟩:=I.list h
 obtain ⟨its',r',⟨o',n',e',_,_,d'⟩,_⟩:=I.list h'
 rw [e] at e';cases e'
 rw [d] at d'
 injection d' with d1 _
 have:its=its':=by simpa using congrArg Array.toList d1
 subst this
 exact r.inj r'
end
noncomputable abbrev Cx.wish (X:Cx) (E:Value->Shared->Prop):Cx:={ X with xe:=E }
noncomputable abbrev Cx.nox (X:Cx):Cx:=X.wish fun _ _=>False
theorem Cx.Ok.wish {X:Cx} (ok:X.Ok) (E:Value->Shared->Prop):(X.wish E).Ok :=
 ⟨ok.mod,ok.kind,ok.glob,ok.blt,ok.above,ok.inj,ok.has,ok.cab,ok.hd,ok.frames,ok.stk,ok.exf,ok.bs,ok.bsz,ok.noex,ok.exfs,ok.funs,ok.frf⟩
theorem Cx.Ok.unwish {X:Cx} {E:Value->Shared->Prop} (ok:(X.wish E).Ok):X.Ok :=
 ⟨ok.mod,ok.kind,ok.glob,ok.blt,ok.above,ok.inj,ok.has,ok.cab,ok.hd,ok.frames,ok.stk,ok.exf,ok.bs,ok.bsz,ok.noex,ok.exfs,ok.funs,ok.frf⟩
section
variable {X:Cx} {pins:List (Addr×Obj)} {σ:St} {H:Hp} {s:Shared} {E:Value->Shared->Prop}
theorem Inv.wish (I:Inv X pins σ H s) (E:Value->Shared->Prop):Inv (X.wish E) pins σ H s:=⟨I.ok.wish E,I.os,I.bare,I.base,I.loc,I.cell,I.free,I.freeC,I.pin,I.hok,I.len⟩
theorem Inv.unwish (I:Inv (X.wish E) pins σ H s):Inv X pins σ H s:=⟨I.ok.unwish,I.os,I.bare,I.base,I.loc,I.cell,I.free,I.freeC,I.pin,I.hok,I.len⟩
theorem SP.unwish {D:Ends} {f:Flow} {s':Shared} (h:SP (X.wish E) pins D f s'):SP X pins D f s':=by
 cases f with
 | next=>obtain ⟨σ',H',I,q⟩:=h;exact ⟨σ',H',I.unwish,q⟩
 | brk=>obtain ⟨σ',H',I,q⟩:=h;exact ⟨σ',H',I.unwish,q⟩
 | cont=>obtain ⟨σ',H',I,q⟩:=h;exact ⟨σ',H',I.unwish,q⟩
 | ret u=>obtain ⟨v,σ',H',I,r,q⟩:=h;exact ⟨v,σ',H',I.unwish,r,q⟩
theorem PSs.nox {st:List Stmt} {t:TS} (h:PSs X.nox st t):PSs X st t:=fun pins s σ H D I hw=>
 wpAny_mono (h pins s σ H D (I.wish _) hw) (fun _ _ q=>q.unwish) fun _ _ z=>False.elim z
end
section
variable {X:Cx} {st:Stmt} {rest:List Stmt} {t u:TS} {e:Expr} {te:TE} {pos:Pos}
noncomputable def ZEq:TS:=fun D σ H=>D.nx σ H
noncomputable def tSeq (t u:TS):TS:=fun D σ H=>t { D with nx:=u D } σ H
theorem ZAU:PSs X [] ZEq:=fun _ _ σ H _ I h=>wpAny_execs_nil ⟨σ,H,I,h⟩
theorem ZAC (h1:PS X st t) (h2:PSs X rest u):PSs X (st::rest) (tSeq t u):=by
 intro pins s σ H D I h
 refine wpAny_execs_cons (thn (h1 pins s σ H { D with nx:=u D } I h) fun f s1 q=>?_)
 cases f with
 | next=>
  obtain ⟨σ',H',I',q⟩:=q
  exact h2 pins s1 σ' H' D I' q
 | ret v=>exact q
 | brk=>exact q
 | cont=>exact q
theorem ZAH (h1:PS X st t):PSs X [st] t:=by
 intro pins s σ H D I h
 refine wpAny_execs_cons (thn (h1 pins s σ H D I h) fun f s1 q=>?_)
 cases f with
 | next=>exact wpAny_execs_nil q
 | ret v=>exact q
 | brk=>exact q
 | cont=>exact q
noncomputable def tBreak:TS:=fun D σ H=>D.bk σ H
theorem Inv.quiet {pins:List (Addr×Obj)} {σ:St} {H:Hp} {s:Shared} (I:Inv X pins σ H s):interactive X.env=false:=by simp [interactive,I.ok.kind]
noncomputable def ZEr (te:TE):TS:=fun D σ H=>te σ H fun _ H1=>D.nx σ H1
theorem ZA8 (he:PE X e te) (hs:swapsWith e none pos.line X.env=pure false:=by rfl):PS X (.Expr e pos) (ZEr te):=by
 intro pins s σ H D I h
 exact wpAny_Expr_any (thn (he pins s σ H _ I h) fun v s1 ⟨x,H1,I1,r1,q1⟩=>⟨σ,H1,I1,q1⟩) I.quiet hs
noncomputable def tRet (te:TE):TS:=fun D σ H=>te σ H D.rt
theorem ZAS (he:PE X e te):PS X (.Return (some e) pos) (tRet te):=by
 intro pins s σ H D I h
 exact wpAny_Return_some (thn (he pins s σ H _ I h) fun v s1 ⟨x,H1,I1,r1,q1⟩=>⟨x,σ,H1,I1,r1,q1⟩)
noncomputable def tRetN:TS:=fun D _ H=>D.rt .non H
noncomputable def tIfS (c:TT) (t u:TS):TS:=fun D σ H=>c σ H fun b H1=>if b=true then t D σ H1 else u D σ H1
theorem ZAt {c:Expr} {a b:List Stmt} {tc:TT} (hc:PT X c tc) (ha:PSs X a t) (hb:PSs X b u):PS X (.If c a b pos) (tIfS tc t u):=by
 intro pins s σ H D I h
 refine wpAny_If (thn (hc pins s σ H _ I h) fun d s1 ⟨H1,I1,q1⟩=>?_)
 cases d with
 | true=>exact ha pins s1 σ H1 D I1 q1
 | false=>exact hb pins s1 σ H1 D I1 q1
noncomputable def ZEM:TS:=fun _ _ _=>False
theorem ps_never:PS X st ZEM:=fun _ _ _ _ _ _ h=>h.elim
end
noncomputable abbrev TG:=V->St->Hp->(St->Hp->Prop)->Prop
noncomputable abbrev TGs:=List V->St->Hp->(St->Hp->Prop)->Prop
noncomputable def PG (X:Cx) (target:Expr) (t:TG):Prop :=
 ∀ (pins:List (Addr×Obj)) (s:Shared) (σ:St) (H:Hp) (v:V) (u:Value) (Q:St->Hp->Prop),Inv X pins σ H s->RelV v u->t v σ H Q ->
  wpAny (model X.prog X.w) X.A (assign target X.env u) (fun _ s'=>∃ σ' H',Inv X pins σ' H' s' /\ Q σ' H') X.xe s
noncomputable def PGs (X:Cx) (ts:List Expr) (t:TGs):Prop :=
 ∀ (pins:List (Addr×Obj)) (s:Shared) (σ:St) (H:Hp) (vs:List V) (us:List Value) (Q:St->Hp->Prop),Inv X pins σ H s->Vals vs us->t vs σ H Q ->
  wpAny (model X.prog X.w) X.A (assignInOrder ((assignEach ts X.env).map (·.2)) us) (fun _ s'=>∃ σ' H',Inv X pins σ' H' s' /\ Q σ' H') X.xe s
noncomputable abbrev TSet:=V->V->V->Hp->(Hp->Prop)->Prop
noncomputable abbrev TIp:=V->V->Hp->VK->Prop
noncomputable def PIp (X:Cx) (op:Operator) (t:TIp):Prop :=
 ∀ (pins:List (Addr×Obj)) (s:Shared) (σ:St) (H:Hp) (x y:V) (v u:Value) (Q:VK),Inv X pins σ H s->RelV x v->RelV y u->t x y H Q ->
  wpAny (model X.prog X.w) X.A (inplaceOp op v u) (EP X pins σ Q) X.xe s
section
variable {X:Cx} {pos:Pos}
noncomputable def ZD0 (i:Nat):TG:=fun v σ H Q=>Q (σ.set i (some v)) H
theorem ZAb {i:Nat} {x:Str} (hN:X.N.Nodup) (hi:X.N[i]?=some x) (hx:Loc X.env.scope x) (hf:X.fn x=true∨X.env.scope.names.lookup x=some .local:=by first | exact .inl rfl | exact .inr rfl | assumption):PG X (.Name x pos) (ZD0 i):=by
 intro pins s σ H v u Q I r h
 exact wpAny_assign_Name (ZB6 I hN hi hx r (fun s' I'=>⟨_,H,I',h⟩) hf)
noncomputable def gNil:TGs:=fun vs σ H Q=>vs=[] /\ Q σ H
noncomputable def ZE0 (t:TG) (u:TGs):TGs:=fun vs σ H Q=>∃ v r,vs=v::r /\ t v σ H fun σ' H'=>u r σ' H' Q
theorem ZDP:PGs X [] gNil:=by
 intro pins s σ H vs us Q I r h
 obtain ⟨e,h⟩:=h
 subst e
 cases r
 exact assignInOrder_nil ⟨σ,H,I,h⟩
theorem ZBF {e:Expr} {es:List Expr} {t:TG} {u:TGs} (h1:PG X e t) (h2:PGs X es u)
  (hs:(assignEach (e::es) X.env).map (·.2)=assign e X.env::(assignEach es X.env).map (·.2):=by rfl):PGs X (e::es) (ZE0 t u):=by
 intro pins s σ H vs us Q I r h
 obtain ⟨v,vr,e1,h⟩:=h
 subst e1
 cases r with
 | cons r rr=>
  rw [hs]
  refine assignInOrder_cons (thn (h1 pins s σ H _ _ _ I r h) fun _ s1 zz=>?_)
  obtain ⟨σ1,H1,I1,q1⟩:=zz
  exact h2 pins s1 σ1 H1 _ _ Q I1 rr q1
noncomputable def gTup (K:W.Frag) (n:Nat) (t:TGs):TG:=fun v σ H Q=>∃ a xs,v=.ref a /\ SqT K H a xs /\ xs.length=n /\ t xs σ H Q
theorem ZEA {es:List Expr} {k:Nat} {t:TGs} {n:Nat} (hc:X.calm=true) (h:PGs X es t)
  (hn:(assignEach es X.env).length=n:=by rfl) (hst:(assignEach es X.env).findIdx? (·.1)=none:=by rfl):PG X (.Tuple es k pos) (gTup X.K n t):=by
 intro pins s σ H v u Q I r hw
 obtain ⟨a,xs,e1,hq,hl,hw⟩:=hw
 subst e1
 cases r
 obtain ⟨its,rv,ht,hz⟩:=I.tuple hq
 refine assign_Tuple_tuple (I.ok.hd hc) ht (by simp [hn,<- hl,rv.length]) hst fun h' hx=>?_
 have I1:Inv X pins σ H { s with heap:=h' }:=I.kept (t':=s.toks) fun b o e=>hx b o (yAE (Heap.lt_size e)) e
 exact h pins _ σ H xs _ Q I1 (by simpa using rv) hw
noncomputable def gSub (to ti:TE) (t:TSet):TG:=fun v σ H Q=>to σ H fun o H1=>ti σ H1 fun i H2=>t o i v H2 fun H3=>Q σ H3
noncomputable def tAsg (te:TE) (g:TG):TS:=fun D σ H=>te σ H fun x H1=>g x σ H1 D.nx
theorem ZEY {tg e:Expr} {te:TE} {g:TG} (he:PE X e te) (hg:PG X tg g) (hs:swapsWithSole [tg] e pos.line X.env=pure false:=by rfl) (hw:swappedStores [tg] e X.env=pure none:=by rfl)
  (h1:(assignEach [tg] X.env).map (·.2)=[assign tg X.env]:=by rfl):PS X (.Assign [tg] e pos) (tAsg te g):=by
 intro pins s σ H D I h
 refine wpAny_Assign_stores (thn (he pins s σ H _ I h) fun v s1 zz=>?_) hs hw
 obtain ⟨x,H1,I1,r1,q1⟩:=zz
 rw [h1]
 exact thn (hg pins s1 σ H1 x v _ I1 r1 q1) fun _ s2 q=>q
theorem ZAQ {i:Nat} {x:Str} {e:Expr} {te:TE} {pos':Pos} (hN:X.N.Nodup) (hi:X.N[i]?=some x) (hx:Loc X.env.scope x) (he:PE X e te) (hs:swapsWith e (some (.Name x pos')) pos.line X.env=pure false:=by rfl) (hf:X.fn x=true∨X.env.scope.names.lookup x=some .local:=by first | exact .inl rfl | exact .inr rfl | assumption) :
  PS X (.Assign [.Name x pos'] e pos) (tAsg te (ZD0 i)):=by
 intro pins s σ H D I h
 refine wpAny_Assign_Name (thn (he pins s σ H _ I h) fun v s1 zz=>?_) hs
 obtain ⟨y,H1,I1,r1,q1⟩:=zz
 exact ZB6 I1 hN hi hx r1 (fun s2 I2=>⟨_,H1,I2,q1⟩) hf
noncomputable def tPar (i j:Nat) (ta:TA):TS:=fun D σ H=>ta σ H fun vs H1=>∃ v w,vs=[v,w] /\ D.nx ((σ.set i (some v)).set j (some w)) H1
noncomputable def tAug (i:Nat) (te:TE) (ti:TIp):TS:=fun D σ H=>∃ x,σ[i]?=some (some x) /\ te σ H fun y H1=>ti x y H1 fun z H2=>D.nx (σ.set i (some z)) H2
theorem ZEX {i:Nat} {x:Str} {e:Expr} {te:TE} {op:Operator} {ti:TIp} {pos':Pos} (hN:X.N.Nodup) (hi:X.N[i]?=some x) (hx:Loc X.env.scope x) (he:PE X e te) (ho:PIp X op ti) (hf:X.fn x=true∨X.env.scope.names.lookup x=some .local:=by first | exact .inl rfl | exact .inr rfl | assumption) :
  PS X (.AugAssign (.Name x pos') op e pos) (tAug i te ti):=by
 intro pins s σ H D I h
 obtain ⟨v,e1,h⟩:=h
 obtain ⟨m,hn,hl⟩:=I.loc
 have vis:Vis X.env.scope x:=by rcases hx with k | k;exact .inl k;exact .inr (.inl k)
 obtain ⟨u,r,l⟩:=hl i x v hi e1 vis
 refine wpAny_AugAssign_Name ?_
 have go:wpAny (model X.prog X.w) X.A (eval e X.env) (fun w s₂=>wpAny (model X.prog X.w) X.A (inplaceOp op u w) (fun r s₃=>wpAny (model X.prog X.w) X.A (storeName X.env x r) (fun _=>SP X pins D .next) X.xe s₃) X.xe s₂) X.xe s:=by
  refine thn (he pins s σ H _ I h) fun w s1 zz=>?_
  obtain ⟨y,H1,I1,r1,q1⟩:=zz
  refine thn (ho pins s1 σ H1 v y u w _ I1 r r1 q1) fun z s2 zz=>?_
  obtain ⟨zv,H2,I2,r2,q2⟩:=zz
  exact ZB6 I2 hN hi hx r2 (fun s3 I3=>⟨_,H2,I3,q2⟩) hf
 rcases l with ⟨hk,hm⟩ | ⟨hk,c,hc,hcell⟩
 .exact wpAny_loadName_local I.ok.kind hk hn hm go
 .rcases hk with hk | hk
  .exact wpAny_loadName_cell I.ok.kind hk hc hcell go
  .rcases hx with k | k
   .have:X.env.scope.names.lookup x=some .free:=hk
    rw [k] at this;cases this
   .have:X.env.scope.names.lookup x=some .free:=hk
    rw [k] at this;cases this
noncomputable def ipI (f:Int->Int->Int):TIp:=fun x y H Q=>∃ i j,x=.int i /\ y=.int j /\ Q (.int (f i j)) H
theorem ip_add:PIp X .Add (ipI fun i j=>i+j):=by
 intro pins s σ H x y v u Q I r1 r2 h
 obtain ⟨i,j,e1,e2,q⟩:=h
 subst e1;subst e2
 obtain ⟨t,rfl⟩:=r1
 obtain ⟨t',rfl⟩:=r2
 exact iadd_int ⟨.int _,H,I.tok _,⟨_,rfl⟩,q⟩
theorem ip_sub:PIp X .Sub (ipI fun i j=>i-j):=by
 intro pins s σ H x y v u Q I r1 r2 h
 obtain ⟨i,j,e1,e2,q⟩:=h
 subst e1;subst e2
 obtain ⟨t,rfl⟩:=r1
 obtain ⟨t',rfl⟩:=r2
 exact isub_int ⟨.int _,H,I.tok _,⟨_,rfl⟩,q⟩
end
section
variable {X:Cx} {pos:Pos}
noncomputable def tWhile (c:TT) (tb:TS):TS:=fun D σ H=>∃ W:Nat->St->Hp->Prop,(∃ m,W m σ H) /\ ∀ m σ H,W m σ H ->
 c σ H fun b H1=>if b=true then ∃ N:St->Hp->Prop,(∀ σ' H',N σ' H'->∃ m',m' < m /\ W m' σ' H') /\ tb { D with nx:=N,ct:=N,bk:=D.nx } σ H1 else D.nx σ H1
theorem ZCZ {c:Expr} {body:List Stmt} {tc:TT} {tb:TS} (hp:PassesOwn (model X.prog X.w) X.A X.env X.xe) (hc:PT X c tc) (hb:PSs X body tb):PS X (.While c body [] pos) (tWhile tc tb):=by
 intro pins s σ H D I h
 obtain ⟨W,⟨m0,w0⟩,turn⟩:=h
 refine wpAny_While (codeAny_whileLoop (fun n s'=>∃ σ' H',Inv X pins σ' H' s' /\ W n σ' H') ?_ m0 ⟨σ,H,I,w0⟩)
 rintro n s1 ⟨σ1,H1,I1,w1⟩
 refine wpAny_passesOwn hp (thn (hc pins s1 σ1 H1 _ I1 (turn n σ1 H1 w1)) fun b s2 ⟨H2,I2,q2⟩=>?_)
 cases b with
 | true=>
  obtain ⟨N,hN,q2⟩:=q2
  rw [if_pos rfl]
  refine wpAny_passesOwn hp (thn (hb pins s2 σ1 H2 _ I2 q2) fun f s3 q3=>?_)
  cases f with
  | next=>
   obtain ⟨σ3,H3,I3,n3⟩:=q3
   obtain ⟨m',hm,w3⟩:=hN σ3 H3 n3
   exact ⟨m',hm,σ3,H3,I3,w3⟩
  | cont=>
   obtain ⟨σ3,H3,I3,n3⟩:=q3
   obtain ⟨m',hm,w3⟩:=hN σ3 H3 n3
   exact ⟨m',hm,σ3,H3,I3,w3⟩
  | brk=>exact q3
  | ret v=>exact q3
 | false=>
  rw [if_neg yAS]
  exact wpAny_execs_nil ⟨σ1,H2,I2,q2⟩
end
structure It where
 go:Nat->Hp->Prop
 yld:Nat->Hp->V->Hp->Prop
 stop:Nat->Hp->Prop
noncomputable def FpOk (X:Cx) (pins:List (Addr×Obj)) (H:Hp) (b:Addr):Prop :=
 H b=none /\ b≠X.env.locals /\ b∉X.fs /\ (b∈X.ex∨X.s₀.heap.objs.size <= b) /\ (∀ x c,X.env.cells.lookup x=some c->c≠b) /\ ∀ p∈X.pn++pins,p.1≠b
theorem Inv.fpOk {X:Cx} {pins:List (Addr×Obj)} {σ:St} {H H':Hp} {s:Shared} {b:Addr} (I:Inv X pins σ H s) (hb:s.heap.objs.size <= b) (hn:H' b=none):FpOk X pins H' b:=by
 refine ⟨hn,Nat.ne_of_gt (yAI I.lt hb),I.nofs hb,.inr (yAD I.sz hb),fun x c e z=>?_,fun p hp z=>?_⟩
 .obtain ⟨v,q⟩:=I.cell x c e
  exact absurd (yAI q.lt (by rw [z];exact hb)) (yBB _)
 .exact absurd (yAI (Heap.lt_size (I.pin p hp).1) (by rw [z];exact hb)) (yBB _)
structure Turn (P:Program) (w:World) (K:W.Frag) (tg:Expr) (J:It) (fp:List Addr) (it:Addr) (tn:Nat->Heap->Prop):Prop where
 mem:it∈fp
 obj:∀ i h,tn i h->∀ b∈fp,∃ o,h.get? b=some o /\ ∀ v,o.data≠.cell v
 keep:∀ i h h',tn i h->(∀ b∈fp,∀ o,h.get? b=some o->h'.get? b=some o)->tn i h'
 item:∀ (X:Cx),X.prog=P->X.w=w->X.K=K->X.calm=true->∀ (i:Nat) (pins:List (Addr×Obj)) (s:Shared) (σ:St) (H:Hp) (E:Value->Shared->Prop),Inv X pins σ H s->(∀ b∈fp,FpOk X pins H b)->tn i s.heap->J.go i H ->
  wpAny (model P w) X.A (pyNext (.ref it)) (fun r s1=>∃ u,r=some u /\
   wpAny (model P w) X.A (letOwnedTupleGo tg (.ref it) u) (fun _ s2=>∃ x H',Inv X pins σ H' s2 /\ RelV x u /\ J.yld i H x H' /\ tn (i+1) s2.heap /\ ∀ b∈fp,H' b=none) E s1) E s
 done:∀ (X:Cx),X.prog=P->X.w=w->X.K=K->X.calm=true->∀ (i:Nat) (pins:List (Addr×Obj)) (s:Shared) (σ:St) (H:Hp) (E:Value->Shared->Prop),Inv X pins σ H s->(∀ b∈fp,FpOk X pins H b)->tn i s.heap->J.stop i H ->
  wpAny (model P w) X.A (pyNext (.ref it)) (fun r s1=>r=none /\ Inv X pins σ H s1) E s
 self:∀ (A:Around) (i:Nat) (s:Shared) (Q:Value->Shared->Prop) (E:Value->Shared->Prop),tn i s.heap->Q (.ref it) s->wpAny (model P w) A (pyIter (.ref it)) Q E s
noncomputable abbrev TI:=St->Hp->(It->Hp->Prop)->Prop
noncomputable def PIE (X:Cx) (pins:List (Addr×Obj)) (σ:St) (tg:Expr) (R:It->Hp->Prop) (itv:Value) (s2:Shared):Prop :=
 ∃ (it:Addr) (fp:List Addr) (tn:Nat->Heap->Prop) (J:It) (H':Hp),itv=.ref it /\ Inv X pins σ H' s2 /\ Turn X.prog X.w X.K tg J fp it tn /\ tn 0 s2.heap /\ (∀ b∈fp,FpOk X pins H' b) /\ R J H'
noncomputable def PI (X:Cx) (tg iter:Expr) (wi:TI):Prop :=
 ∀ (pins:List (Addr×Obj)) (s:Shared) (σ:St) (H:Hp) (R:It->Hp->Prop),Inv X pins σ H s->wi σ H R ->
  wpAny (model X.prog X.w) X.A (eval iter X.env) (fun v s1=>wpAny (model X.prog X.w) X.A (pyIter v) (PIE X pins σ tg R) X.xe s1) X.xe s
theorem go_of {M:Model} {A:Around} {E:Value->Shared->Prop} {s:Shared} {tg:Expr} {it:Addr} {u:Value} {o:Obj} {n:String} {vs:Array Value} {Q:Unit->Shared->Prop} (ho:s.heap.get? it=some o) (hc:o.cls=.type n) (hd:o.data=.fields vs)
  (hn:["enumerate","zip","dict_itemiterator","dict_reverseitemiterator","odict_iterator","itertools.zip_longest","itertools.pairwise"].contains n=false) (hQ:Q () s):wpAny M A (letOwnedTupleGo tg (.ref it) u) Q E s:=by
 unfold letOwnedTupleGo
 cases tg <;> first
  | exact wpAny_pure hQ
  | (cases u <;> first
    | exact wpAny_pure hQ
    | (refine wpAny_bind (wpAny_load ho ?_)
       rw [hc,hd]
       show wpAny M A (if (["enumerate","zip","dict_itemiterator","dict_reverseitemiterator","odict_iterator","itertools.zip_longest","itertools.pairwise"].contains n && vs[0]? == some (rawInt _))=true then _ else _) Q E s
       rw [if_neg (by intro h;rw [hn,Bool.false_and] at h;cases h)]
       exact wpAny_pure hQ))
noncomputable def Itl (K:W.Frag) (a:Addr):It :=
 ⟨fun i H=>∃ xs x,SqL K H a xs /\ xs[i]?=some x,fun i H x H'=>H'=H /\ ∀ xs,SqL K H a xs->xs[i]?=some x,fun i H=>∃ xs,SqL K H a xs /\ xs.length <= i⟩
noncomputable def Itr (lo:Int) (n:Nat):It:=⟨fun i _=>i < n,fun i H x H'=>H'=H /\ x=.int (lo+i),fun i _=>n <= i⟩
theorem turn_list {P:Program} {w:World} {K:W.Frag} {tg:Expr} (a it:Addr):Turn P w K tg (Itl K a) [it] it (fun i h=>h.IsListIter it a i) where
 mem:=by simp
 obj:=fun i h st b hb=>by
  have e:b=it:=by simpa using hb
  subst e
  obtain ⟨o,e,c,d⟩:=st
  exact ⟨o,e,fun v z=>by rw [d] at z;cases z⟩
 keep:=fun i h h' st k=>st.at fun o e=>k it (by simp) o e
 item:=by
  intro X hP hw hK hc i pins s σ H E I hf st hg
  subst hP hw hK
  obtain ⟨xs,x,hq,hx⟩:=hg
  obtain ⟨its,rv,p,hz⟩:=I.list hq
  obtain ⟨u,hu,ru⟩:=rv.get hx
  obtain ⟨f0,f1,f2,f3,f4,f5⟩:=hf it (by simp)
  refine wpAny_pyNext_list_item st p.isList (x:=u) (by simpa using hu) fun h' st' sb=>?_
  have I1:Inv X pins σ H { s with heap:=h' }:=I.turned (t':=s.toks) (fun b o hb e=>(sb.2 b hb).trans e) f0 f1 f3 f4 f5
  obtain ⟨o,e,c,d⟩:=id st'
  exact ⟨u,rfl,go_of (s:={ s with heap:=h' }) e c d (by decide) ⟨x,H,I1,ru,⟨rfl,fun ys hy=>by rw [I.list_inj hy hq];exact hx⟩,st',fun b hb=>(hf b hb).1⟩⟩
 done:=by
  intro X hP hw hK hc i pins s σ H E I hf st hg
  subst hP hw hK
  obtain ⟨xs,hq,hx⟩:=hg
  obtain ⟨its,rv,p,hz⟩:=I.list hq
  obtain ⟨f0,f1,f2,f3,f4,f5⟩:=hf it (by simp)
  have hl:=rv.length
  exact wpAny_pyNext_list_end (I.ok.hd hc) st p.isList (by simp;omega) fun h' eb=>⟨rfl,I.turned (t':=s.toks) (fun b o hb e=>eb b o hb e) f0 f1 f3 f4 f5⟩
 self:=fun _ _ _ _ _ st h=>wpAny_pyIter_listiter st h
theorem turn_range {P:Program} {w:World} {K:W.Frag} {tg:Expr} (it:Addr) (lo:Int) (n:Nat):Turn P w K tg (Itr lo n) [it] it (fun i h=>IsRangeIter h it (lo+(i:Nat) * 1) ((n:Int)-(i:Nat)) 1) where
 mem:=by simp
 obj:=fun i h st b hb=>by
  have e:b=it:=by simpa using hb
  subst e
  exact ⟨_,st,fun v z=>by
   have z':Data.fields _=Data.cell v:=z
   cases z'⟩
 keep:=fun i h h' st k=>k it (by simp) _ st
 item:=by
  intro X hP hw hK hc i pins s σ H E I hf st hg
  subst hP hw hK
  obtain ⟨f0,f1,f2,f3,f4,f5⟩:=hf it (by simp)
  have W:=Walks.range (prog:=X.prog) (w:=X.w) (I.ok.hd hc) it lo 1 n
  refine W.item i s _ _ hg st fun v h' tk hv st' kk=>?_
  obtain ⟨t,rfl⟩:=hv
  have I1:Inv X pins σ H { s with heap:=h',toks:=tk }:=I.turned (fun b o hb e=>kk b o (by simpa using hb) e) f0 f1 f3 f4 f5
  refine ⟨_,rfl,go_of (s:={ s with heap:=h',toks:=tk }) (n:="range_iterator") st' rfl rfl (by decide) ⟨.int (lo+i),H,I1,⟨t,?_⟩,⟨rfl,rfl⟩,st',fun b hb=>(hf b hb).1⟩⟩
  rw [Int.mul_one]
 done:=by
  intro X hP hw hK hc i pins s σ H E I hf st hg
  subst hP hw hK
  obtain ⟨f0,f1,f2,f3,f4,f5⟩:=hf it (by simp)
  exact wpAny_pyNext_range_end (I.ok.hd hc) st (by have:n <= i:=hg;omega) fun h' eb=>⟨rfl,I.turned (t':=s.toks) (fun b o hb e=>eb b o hb e) f0 f1 f3 f4 f5⟩
 self:=fun _ _ _ _ _ st h=>wpAny_pyIter_rangeiter st h
section
variable {X:Cx} {tg:Expr}
noncomputable def ZEy (K:W.Frag) (tl:TE):TI:=fun σ H R=>tl σ H fun x H1=>∃ a,x=.ref a /\ (∃ xs,SqL K H1 a xs) /\ R (Itl K a) H1
theorem ZBd {l:Expr} {tl:TE} (hl:PE X l tl):PI X tg l (ZEy X.K tl):=by
 intro pins s σ H R I h
 refine thn (hl pins s σ H _ I h) fun v s1 zz=>?_
 obtain ⟨x,H1,I1,r1,q1⟩:=zz
 obtain ⟨a,e,⟨xs,hq⟩,q⟩:=q1
 subst e
 cases r1
 obtain ⟨its,rv,p,hz⟩:=I1.list hq
 refine wpAny_pyIter_list p.isList ?_
 refine ⟨s1.heap.objs.size,[s1.heap.objs.size],_,_,H1,rfl,I1.kept (t':=s1.toks) fun b o e=>Heap.get?_push_of_some _ e,turn_list a _,⟨_,Heap.get?_push_size _ rfl,rfl,rfl⟩,fun b hb=>?_,q⟩
 have e:b=s1.heap.objs.size:=by simpa using hb
 subst e
 exact I1.fpOk (yAA _) (I1.hok.fresh (yAA _))
theorem range_it {pins:List (Addr×Obj)} {σ:St} {H:Hp} {s:Shared} {R:It->Hp->Prop} {E:Value->Shared->Prop} {lo hi:Int} {t u v:Tok} {tk:Nat} (I:Inv X pins σ H s) (h1:-(2 ^ 62) <= lo) (h2:lo < 2 ^ 62) (h3:-(2 ^ 62) <= hi) (h4:hi < 2 ^ 62)
  (q:R (Itr lo (hi-lo).toNat) H):wpAny (model X.prog X.w) X.A (pyIter (.ref s.heap.objs.size)) (PIE X pins σ tg R) E { s with heap:=s.heap.push { cls:=.type "range",data:=.fields #[.int lo t,.int hi u,.int 1 v] },toks:=tk }:=by
 refine wpAny_pyIter_range (IsRange.new ..) (small_one h1 h2 h3 h4) ?_
 have I1:Inv X pins σ H { s with heap:=s.heap.push { cls:=.type "range",data:=.fields #[.int lo t,.int hi u,.int 1 v] },toks:=tk }:=I.kept fun b o e=>Heap.get?_push_of_some _ e
 refine ⟨(s.heap.push { cls:=.type "range",data:=.fields #[.int lo t,.int hi u,.int 1 v] }).objs.size,[(s.heap.push { cls:=.type "range",data:=.fields #[.int lo t,.int hi u,.int 1 v] }).objs.size],_,_,H,rfl,
  I1.kept (t':=tk) fun b o e=>Heap.get?_push_of_some _ e,turn_range _ lo (hi-lo).toNat,?_,fun b hb=>?_,q⟩
 .have e1:lo+((0:Nat):Int) * 1=lo:=by simp
  have e2:(((hi-lo).toNat:Nat):Int)-((0:Nat):Int)=Builtin.Range.rangeSize lo hi 1:=by rw [rangeSize_one];split <;> omega
  show IsRangeIter _ _ (lo+((0:Nat):Int) * 1) ((((hi-lo).toNat:Nat):Int)-((0:Nat):Int)) 1
  rw [e1,e2]
  exact Heap.get?_push_size _ rfl
 .have e:b=(s.heap.push { cls:=.type "range",data:=.fields #[.int lo t,.int hi u,.int 1 v] }).objs.size:=by simpa using hb
  subst e
  exact I1.fpOk (yAA _) (I1.hok.fresh (yAA _))
noncomputable def ZEx (ta:TA):TI:=fun σ H R=>ta σ H fun vs H1=>∃ j:Int,vs=[.int j] /\ -(2 ^ 62) <= j /\ j < 2 ^ 62 /\ R (Itr 0 j.toNat) H1
noncomputable def ZEw (ta:TA):TI:=fun σ H R=>ta σ H fun vs H1=>∃ i j:Int,vs=[.int i,.int j] /\ (-(2 ^ 62) <= i /\ i < 2 ^ 62 /\ -(2 ^ 62) <= j /\ j < 2 ^ 62) /\ R (Itr i (j-i).toNat) H1
theorem ZBc {a:Expr} {ta:TA} {p pos:Pos} (hg:Gl X "range") (hm:X.mg "range"=none) (ha:PA X [a] ta) (hs:starEach [a] X.env=[(false,eval a X.env)]:=by rfl):PI X tg (.Call (.Name "range" p) [a] [] pos) (ZEx ta):=by
 intro pins s σ H R I h
 refine Call_ (ZCR I hg hm boot_range (PyProof.Rows.callWith_type1 (thn (ha pos pins s σ H _ I h) fun us s1 zz=>?_) hs rfl))
 obtain ⟨vs,H1,I1,r1,q1⟩:=zz
 obtain ⟨j,e,q1,q2,q⟩:=q1
 subst e
 cases r1 with
 | cons r rr=>
  cases rr
  obtain ⟨t,rfl⟩:=r
  exact call_range_1 (range_it I1 (by omega) (by omega) q1 q2 (by simpa using q))
theorem pi_range2 {a b:Expr} {ta:TA} {p pos:Pos} (hg:Gl X "range") (hm:X.mg "range"=none) (ha:PA X [a,b] ta) (hs:starEach [a,b] X.env=[(false,eval a X.env),(false,eval b X.env)]:=by rfl) (hs2:starEach [b] X.env=[(false,eval b X.env)]:=by rfl) :
  PI X tg (.Call (.Name "range" p) [a,b] [] pos) (ZEw ta):=by
 intro pins s σ H R I h
 refine Call_ (ZCR I hg hm boot_range (PyProof.Rows.callWith_type1 (thn (ha pos pins s σ H _ I h) fun us s1 zz=>?_) (by rw [hs,hs2]) (by rw [hs2];rfl)))
 obtain ⟨vs,H1,I1,r1,q1⟩:=zz
 obtain ⟨i,j,e,⟨q1,q2,q3,q4⟩,q⟩:=q1
 subst e
 cases r1 with
 | cons r rr=>
  cases rr with
  | cons r' rr=>
   cases rr
   obtain ⟨t,rfl⟩:=r
   obtain ⟨t',rfl⟩:=r'
   exact call_range_2 (range_it I1 q1 q2 q3 q4 q)
noncomputable def tFor (wi:TI) (g:TG) (tb:TS):TS:=fun D σ H=>wi σ H fun J H1=>∃ W:Nat->Nat->St->Hp->Prop,(∃ m,W 0 m σ H1) /\ ∀ i m σ H,W i m σ H ->
 (J.stop i H /\ D.nx σ H)∨(J.go i H /\ ∃ N:St->Hp->Prop,(∀ σ' H',N σ' H'->∃ m',m' < m /\ W (i+1) m' σ' H') /\ ∀ x H',J.yld i H x H'->g x σ H' fun σ2 H2=>tb { D with nx:=N,ct:=N,bk:=D.nx } σ2 H2)
noncomputable def ZDe (fp:List Addr) (h:Heap):List (Addr×Obj):=fp.filterMap fun b=>(h.get? b).map fun o=>(b,o)
theorem ZBp {fp:List Addr} {h:Heap} {b:Addr} {o:Obj} (hb:b∈fp) (e:h.get? b=some o):(b,o)∈ZDe fp h:=List.mem_filterMap.mpr ⟨b,hb,by rw [e];rfl⟩
theorem of_pinsAt {fp:List Addr} {h:Heap} {p:Addr×Obj} (hp:p∈ZDe fp h):p.1∈fp /\ h.get? p.1=some p.2:=by
 obtain ⟨b,hb,e⟩:=List.mem_filterMap.mp hp
 cases q:h.get? b with
 | none=>rw [q] at e;cases e
 | some o=>
  rw [q] at e
  have e':(b,o)=p:=Option.some.inj e
  subst e'
  exact ⟨hb,q⟩
theorem Inv.pinned {pins:List (Addr×Obj)} {σ:St} {H:Hp} {s:Shared} {fp:List Addr} (I:Inv X pins σ H s) (hf:∀ b∈fp,FpOk X pins H b) (ho:∀ b∈fp,∃ o,s.heap.get? b=some o /\ ∀ v,o.data≠.cell v):Inv X (pins++ZDe fp s.heap) σ H s :=
 I.pins_of fun p hp=>(yBC.mp hp).elim (fun z=>I.pin p (yAT _ z)) fun z=>by
  obtain ⟨hb,e⟩:=of_pinsAt z
  obtain ⟨f0,f1,f2,_⟩:=hf p.1 hb
  obtain ⟨o,e',d⟩:=ho p.1 hb
  rw [e] at e';cases e'
  exact ⟨e,f0,f1,f2,d⟩
theorem Inv.unpinned {pins pl:List (Addr×Obj)} {σ:St} {H:Hp} {s:Shared} (I:Inv X (pins++pl) σ H s):Inv X pins σ H s:=I.pins_of fun p hp=>I.pin p (yAT _ (List.mem_append_left _ hp))
theorem ZCB {iter:Expr} {body:List Stmt} {wi:TI} {g:TG} {tb:TS} {pos:Pos} (hp:PassesOwn (model X.prog X.w) X.A X.env X.xe) (hc:X.calm=true) (hi:PI X tg iter wi) (hg:PG X tg g) (hb:PSs X body tb)
  (hs:∀ x,foldedSetIterable iter X.env x=pure x:=by intro _;rfl):PS X (.For tg iter body [] pos) (tFor wi g tb):=by
 intro pins s σ H D I h
 refine wpAny_For (thn (hi pins s σ H _ I h) fun v s1 h1=>thn h1 fun itv s2 h2=>?_) hs
 obtain ⟨it,fp,tn,J,H2,e,I2,T,st2,f2,W,⟨m0,w0⟩,turn⟩:=h2
 subst e
 have stat:∀ {H':Hp},(∀ b∈fp,H' b=none)->∀ b∈fp,FpOk X pins H' b:=fun hn b hb=>⟨hn b hb,(f2 b hb).2⟩
 refine codeAny_forLoop_any (fun n s'=>∃ i σ' H',Inv X pins σ' H' s' /\ tn i s'.heap /\ (∀ b∈fp,H' b=none) /\ W i n σ' H') ?_ m0 ⟨0,σ,H2,I2,st2,fun b hb=>(f2 b hb).1,w0⟩
 rintro n s3 ⟨i,σ3,H3,I3,st3,fr3,w3⟩
 rcases turn i n σ3 H3 w3 with ⟨stop,qn⟩ | ⟨go,N,hN,step⟩
 .refine wpAny_passesOwn hp (thn (T.done X rfl rfl rfl hc i pins s3 σ3 H3 X.xe I3 (stat fr3) st3 stop) fun r s4 ⟨hr,I4⟩=>?_)
  subst hr
  exact wpAny_execs_nil ⟨σ3,H3,I4,qn⟩
 .refine wpAny_passesOwn hp (thn (T.item X rfl rfl rfl hc i pins s3 σ3 H3 X.xe I3 (stat fr3) st3 go) fun r s4 ⟨u,hr,h4⟩=>?_)
  subst hr
  refine wpAny_passesOwn hp (thn h4 fun _ s5 zz=>?_)
  obtain ⟨x,H5,I5,r5,y5,st5,fr5⟩:=zz
  have I5':=I5.pinned (stat fr5) (T.obj _ _ st5)
  refine wpAny_passesOwn hp (thn (hg _ s5 σ3 H5 x u _ I5' r5 (step x H5 y5)) fun _ s6 zz=>?_)
  obtain ⟨σ6,H6,I6,q6⟩:=zz
  refine wpAny_passesOwn hp (thn (hb _ s6 σ6 H6 _ I6 q6) fun f s7 q7=>?_)
  have again:∀ {σ7:St} {H7:Hp},Inv X (pins++ZDe fp s5.heap) σ7 H7 s7->N σ7 H7->∃ m,m < n /\ ∃ i σ' H',Inv X pins σ' H' s7 /\ tn i s7.heap /\ (∀ b∈fp,H' b=none) /\ W i m σ' H':=fun {σ7 H7} I7 n7=>by
   obtain ⟨m',hm,w7⟩:=hN σ7 H7 n7
   refine ⟨m',hm,i+1,σ7,H7,I7.unpinned,T.keep _ _ _ st5 fun b hb o e=>(I7.pin (b,o) (yAT _ (yAT _ (ZBp hb e)))).1,fun b hb=>?_,w7⟩
   obtain ⟨o,e,d⟩:=T.obj _ _ st5 b hb
   exact (I7.pin (b,o) (yAT _ (yAT _ (ZBp hb e)))).2.1
  cases f with
  | next=>obtain ⟨σ7,H7,I7,n7⟩:=q7;exact again I7 n7
  | cont=>obtain ⟨σ7,H7,I7,n7⟩:=q7;exact again I7 n7
  | brk=>obtain ⟨σ7,H7,I7,q7⟩:=q7;exact ⟨σ7,H7,I7.unpinned,q7⟩
  | ret v=>obtain ⟨x7,σ7,H7,I7,r7,q7⟩:=q7;exact ⟨x7,σ7,H7,I7.unpinned,r7,q7⟩
end
theorem for_list {K:W.Frag} {a:Addr} {xs:List V} {g:TG} {tb:TS} {D:Ends} {σ:St} {H:Hp} (Pv:Nat->St->Hp->Prop) (h0:Pv 0 σ H) (hl:∀ i σ H,i <= xs.length->Pv i σ H->SqL K H a xs)
  (hs:∀ i x σ H,xs[i]?=some x->Pv i σ H->g x σ H fun σ2 H2=>tb { D with nx:=Pv (i+1),ct:=Pv (i+1),bk:=D.nx } σ2 H2) (hd:∀ σ H,Pv xs.length σ H->D.nx σ H) :
  ∃ W:Nat->Nat->St->Hp->Prop,(∃ m,W 0 m σ H) /\ ∀ i m σ H,W i m σ H ->
   ((Itl K a).stop i H /\ D.nx σ H)∨((Itl K a).go i H /\ ∃ N:St->Hp->Prop,(∀ σ' H',N σ' H'->∃ m',m' < m /\ W (i+1) m' σ' H') /\ ∀ x H',(Itl K a).yld i H x H'->g x σ H' fun σ2 H2=>tb { D with nx:=N,ct:=N,bk:=D.nx } σ2 H2):=by
 refine ⟨fun i m σ H=>m=xs.length-i /\ i <= xs.length /\ Pv i σ H,⟨xs.length,by simp,yAC _,h0⟩,?_⟩
 rintro i m σ H ⟨rfl,hi,p⟩
 have q:=hl i σ H hi p
 by_cases hlt:i < xs.length
 .refine .inr ⟨⟨xs,xs[i],q,by simp [hlt]⟩,Pv (i+1),fun σ' H' p'=>⟨xs.length-(i+1),by omega,rfl,hlt,p'⟩,fun x H' y=>?_⟩
  obtain ⟨e,y⟩:=y
  subst e
  exact hs i x σ _ (y xs q) p
 .have e:i=xs.length:=by omega
  subst e
  exact .inl ⟨⟨xs,q,yAA _⟩,hd σ H p⟩
theorem for_range {lo:Int} {n:Nat} {g:TG} {tb:TS} {D:Ends} {σ:St} {H:Hp} (Pv:Nat->St->Hp->Prop) (h0:Pv 0 σ H)
  (hs:∀ i σ H,i < n->Pv i σ H->g (.int (lo+i)) σ H fun σ2 H2=>tb { D with nx:=Pv (i+1),ct:=Pv (i+1),bk:=D.nx } σ2 H2) (hd:∀ σ H,Pv n σ H->D.nx σ H) :
  ∃ W:Nat->Nat->St->Hp->Prop,(∃ m,W 0 m σ H) /\ ∀ i m σ H,W i m σ H ->
   ((Itr lo n).stop i H /\ D.nx σ H)∨((Itr lo n).go i H /\ ∃ N:St->Hp->Prop,(∀ σ' H',N σ' H'->∃ m',m' < m /\ W (i+1) m' σ' H') /\ ∀ x H',(Itr lo n).yld i H x H'->g x σ H' fun σ2 H2=>tb { D with nx:=N,ct:=N,bk:=D.nx } σ2 H2):=by
 refine ⟨fun i m σ H=>m=n-i /\ i <= n /\ Pv i σ H,⟨n,by simp,yAC _,h0⟩,?_⟩
 rintro i m σ H ⟨rfl,hi,p⟩
 by_cases hlt:i < n
 .refine .inr ⟨hlt,Pv (i+1),fun σ' H' p'=>⟨n-(i+1),by omega,rfl,hlt,p'⟩,fun x H' y=>?_⟩
  obtain ⟨e,y⟩:=y
  subst e y
  exact hs i σ _ hlt p
 .have e:i=n:=by omega
  subst e
  exact .inl ⟨yAA _,hd σ H p⟩
noncomputable abbrev R2:=V->V->Hp->VK->Prop
noncomputable def OpR (X:Cx) (f:Value->Value->Sem Value) (r:R2):Prop :=
 ∀ (pins:List (Addr×Obj)) (s:Shared) (σ:St) (H:Hp) (x y:V) (v u:Value) (Q:VK),Inv X pins σ H s->RelV x v->RelV y u->r x y H Q ->
  wpAny (model X.prog X.w) X.A (f v u) (EP X pins σ Q) X.xe s
noncomputable def ZBr (X:Cx) (f:Value) (r:List V->Hp->VK->Prop):Prop :=
 ∀ (pins:List (Addr×Obj)) (s:Shared) (σ:St) (H:Hp) (xs:List V) (us:List Value) (Q:VK),Inv X pins σ H s->Vals xs us->r xs H Q ->
  wpAny (model X.prog X.w) X.A (call f us) (EP X pins σ Q) X.xe s
noncomputable def tOp (r:R2) (ta tb:TE):TE:=fun σ H Q=>ta σ H fun x H1=>tb σ H1 fun y H2=>r x y H2 Q
noncomputable def tUn (r:V->Hp->VK->Prop) (ta:TE):TE:=fun σ H Q=>ta σ H fun x H1=>r x H1 Q
noncomputable def rI (C:Int->Int->Prop) (g:Int->Int->V):R2:=fun x y H Q=>∃ i j,x=.int i /\ y=.int j /\ C i j /\ Q (g i j) H
noncomputable def rI0 (g:Int->Int->V):R2:=fun x y H Q=>∃ i j,x=.int i /\ y=.int j /\ Q (g i j) H
noncomputable def rU (g:Int->V):V->Hp->VK->Prop:=fun x H Q=>∃ i,x=.int i /\ Q (g i) H
section
variable {X:Cx} {a b c:Expr} {ta tb tc:TE} {pos:Pos}
theorem binT (ha:PE X a ta) (hb:PE X b tb) {pins:List (Addr×Obj)} {s:Shared} {σ:St} {H:Hp} {R:V->V->Hp->Prop} (I:Inv X pins σ H s)
  (h:ta σ H fun x H1=>tb σ H1 fun y H2=>R x y H2) {Q:Value->Shared->Prop} {f:Value->Value->Sem Value}
  (hf:∀ v u s2 x y H2,Inv X pins σ H2 s2->RelV x v->RelV y u->R x y H2->wpAny (model X.prog X.w) X.A (f v u) Q X.xe s2) :
  wpAny (model X.prog X.w) X.A (eval a X.env) (fun v s₁=>wpAny (model X.prog X.w) X.A (eval b X.env) (fun u s₂=>wpAny (model X.prog X.w) X.A (f v u) Q X.xe s₂) X.xe s₁) X.xe s:=by
 refine thn (ha pins s σ H _ I h) fun v s1 zz=>?_
 obtain ⟨x,H1,I1,r1,q1⟩:=zz
 refine thn (hb pins s1 σ H1 _ I1 q1) fun u s2 zz=>?_
 obtain ⟨y,H2,I2,r2,q2⟩:=zz
 exact hf v u s2 x y H2 I2 r1 r2 q2
theorem ZAT {op:Operator} {r:R2} (ho:OpR X (binaryOp op) r) (ha:PE X a ta) (hb:PE X b tb):PE X (.BinOp a op b pos) (tOp r ta tb):=by
 intro pins s σ H Q I h
 exact wpAny_BinOp (binT ha hb I h fun v u s2 x y H2 I2 rx ry q=>ho pins s2 σ H2 x y v u Q I2 rx ry q)
theorem opI {f:Value->Value->Sem Value} {C:Int->Int->Prop} {g:Int->Int->Int}
  (rule:∀ (i j:Int) (t u:Tok) (s:Shared) (Q:Value->Shared->Prop) (E:Value->Shared->Prop),C i j->Q (.int (g i j) s.toks) { s with toks:=s.toks+1 }->wpAny (model X.prog X.w) X.A (f (.int i t) (.int j u)) Q E s) :
  OpR X f (rI C fun i j=>.int (g i j)):=by
 intro pins s σ H x y v u Q I rx ry h
 obtain ⟨i,j,rfl,rfl,hc,q⟩:=h
 obtain ⟨t,rfl⟩:=rx
 obtain ⟨t',rfl⟩:=ry
 exact rule i j t t' s _ _ hc ⟨.int (g i j),H,I.tok _,⟨_,rfl⟩,q⟩
theorem opI0 {f:Value->Value->Sem Value} {g:Int->Int->Int}
  (rule:∀ (i j:Int) (t u:Tok) (s:Shared) (Q:Value->Shared->Prop) (E:Value->Shared->Prop),Q (.int (g i j) s.toks) { s with toks:=s.toks+1 }->wpAny (model X.prog X.w) X.A (f (.int i t) (.int j u)) Q E s) :
  OpR X f (rI0 fun i j=>.int (g i j)):=by
 intro pins s σ H x y v u Q I rx ry h
 obtain ⟨i,j,rfl,rfl,q⟩:=h
 obtain ⟨t,rfl⟩:=rx
 obtain ⟨t',rfl⟩:=ry
 exact rule i j t t' s _ _ ⟨.int (g i j),H,I.tok _,⟨_,rfl⟩,q⟩
theorem opB0 {f:Value->Value->Sem Value} {g:Int->Int->Bool}
  (rule:∀ (i j:Int) (t u:Tok) (s:Shared) (Q:Value->Shared->Prop) (E:Value->Shared->Prop),Q (.bool (g i j)) s->wpAny (model X.prog X.w) X.A (f (.int i t) (.int j u)) Q E s) :
  OpR X f (rI0 fun i j=>.bl (g i j)):=by
 intro pins s σ H x y v u Q I rx ry h
 obtain ⟨i,j,rfl,rfl,q⟩:=h
 obtain ⟨t,rfl⟩:=rx
 obtain ⟨t',rfl⟩:=ry
 exact rule i j t t' s _ _ ⟨.bl (g i j),H,I,rfl,q⟩
noncomputable def CDiv (i j:Int):Prop:=0 < j /\ j < 1073741824
noncomputable def CPow (i j:Int):Prop:=0 <= j /\ j <= 1000000 /\ i.natAbs < 2 ^ 64
noncomputable def CMul (i j:Int):Prop:=(-(2 ^ 64) < i /\ i < 2 ^ 64)∨(-(2 ^ 64) < j /\ j < 2 ^ 64)
theorem CMul.ok {i j:Int} (h:CMul i j):IntMulOk i j:=by
 rcases h with ⟨h1,h2⟩ | ⟨h1,h2⟩
 .exact .of_left (intBits_le_64 h1 h2)
 .exact .of_right (intBits_le_64 h1 h2)
theorem ZBH:OpR X (binaryOp .Add) (rI0 fun i j=>.int (i+j)):=opI0 fun _ _ _ _ _ _ _ q=>add_int q
theorem ZBu:OpR X (binaryOp .Sub) (rI0 fun i j=>.int (i-j)):=opI0 fun _ _ _ _ _ _ _ q=>sub_int q
theorem ZDF:OpR X (binaryOp .Mult) (rI CMul fun i j=>.int (i * j)):=opI fun _ _ _ _ _ _ _ hc q=>mul_int q hc.ok
theorem ZA6:OpR X (binaryOp .FloorDiv) (rI CDiv fun i j=>.int (i / j)):=opI fun i j _ _ _ _ _ hc q=>by
 have h1:(0:Int) < j:=hc.1
 have h2:j < 1073741824:=hc.2
 exact floordiv_int (by omega) (by rw [Int.fdiv_eq_ediv_of_nonneg i (by omega)];exact q) (.inl (PyProof.noPylong_small (by omega)))
theorem ZAr:OpR X (binaryOp .Mod) (rI (fun _ j=>0 < j) fun i j=>.int (i % j)):=opI fun i j _ _ _ _ _ hc q=>by
 have h1:(0:Int) < j:=hc
 exact mod_int' (by omega) (by rw [Int.fmod_eq_emod_of_nonneg i (by omega)];exact q)
theorem op_pow:OpR X (binaryOp .Pow) (rI CPow fun i j=>.int (i ^ j.toNat)):=opI fun _ _ _ _ _ _ _ hc q=>pow_int_small hc.1 hc.2.1 hc.2.2 q
end
noncomputable def scal:V->V->Bool
 | .non,.non=>true | .non,.int _=>true | .int _,.non=>true | .non,.bl _=>true | .bl _,.non=>true | .non,.str _=>true | .str _,.non=>true
 | .int _,.int _=>true | .bl _,.bl _=>true | .str _,.str _=>true | .byt _,.byt _=>true
 | .int _,.str _=>true | .str _,.int _=>true | .bl _,.str _=>true | .str _,.bl _=>true
 | _,_=>false
noncomputable def rEq:R2:=fun x y H Q=>scal x y=true /\ Q (.bl (decide (x=y))) H
noncomputable def rNe:R2:=fun x y H Q=>scal x y=true /\ Q (.bl (!decide (x=y))) H
theorem dec_int {i j:Int}:decide (V.int i=V.int j)=(i == j):=by
 rw [Bool.eq_iff_iff]
 simp
theorem dec_bl {i j:Bool}:decide (V.bl i=V.bl j)=(i == j):=by
 rw [Bool.eq_iff_iff]
 simp
theorem dec_str {i j:Str}:decide (V.str i=V.str j)=(i == j):=by
 rw [Bool.eq_iff_iff]
 simp
theorem dec_byt {i j:Array UInt8}:decide (V.byt i=V.byt j)=(i.toList == j.toList):=by
 rw [Bool.eq_iff_iff]
 cases i
 cases j
 simp
section
variable {X:Cx} {a b c:Expr} {ta tb tc:TE} {pos:Pos}
theorem ZAY {pins:List (Addr×Obj)} {σ:St} {H:Hp} {s:Shared} {Q:VK} {k k':Bool} (I:Inv X pins σ H s) (q:Q (.bl k) H) (e:k=k'):EP X pins σ Q (.bool k') s:=by
 subst e
 exact ⟨.bl k,H,I,rfl,q⟩
theorem ZBU:OpR X (compareOp .Eq) rEq:=by
 intro pins s σ H x y v u Q I rx ry h
 obtain ⟨hs,q⟩:=h
 cases x with
 | non=>
  cases rx
  cases y with
  | non=>cases ry;exact PySem.EqNone.eq_none_none (ZAY I q (by simp))
  | bl j=>cases ry;exact PySem.EqNone.eq_none_bool (ZAY I q (by simp))
  | int j=>obtain ⟨t',rfl⟩:=ry;exact PySem.EqNone.eq_none_int (ZAY I q (by simp))
  | str j=>obtain ⟨t',rfl⟩:=ry;exact PySem.EqNone.eq_none_str (ZAY I q (by simp))
  | _=>exact absurd (show false=true from hs) yAS
 | bl i=>
  cases rx
  cases y with
  | non=>cases ry;exact PySem.EqNone.eq_bool_none (ZAY I q (by simp))
  | bl j=>cases ry;exact eq_bool (ZAY I q dec_bl)
  | str j=>obtain ⟨t',rfl⟩:=ry;exact PySem.EqMixed.eq_bool_str (ZAY I q (by simp))
  | _=>exact absurd (show false=true from hs) yAS
 | int i=>
  obtain ⟨t,rfl⟩:=rx
  cases y with
  | non=>cases ry;exact PySem.EqNone.eq_int_none (ZAY I q (by simp))
  | int j=>obtain ⟨t',rfl⟩:=ry;exact eq_int (ZAY I q dec_int)
  | str j=>obtain ⟨t',rfl⟩:=ry;exact PySem.EqMixed.eq_int_str (ZAY I q (by simp))
  | _=>exact absurd (show false=true from hs) yAS
 | str i=>
  obtain ⟨t,rfl⟩:=rx
  cases y with
  | non=>cases ry;exact PySem.EqNone.eq_str_none (ZAY I q (by simp))
  | bl j=>cases ry;exact PySem.EqMixed.eq_str_bool (ZAY I q (by simp))
  | int j=>obtain ⟨t',rfl⟩:=ry;exact PySem.EqMixed.eq_str_int (ZAY I q (by simp))
  | str j=>obtain ⟨t',rfl⟩:=ry;exact eq_str (ZAY I q dec_str)
  | _=>exact absurd (show false=true from hs) yAS
 | byt i=>
  obtain ⟨t,rfl⟩:=rx
  cases y with
  | byt j=>obtain ⟨t',rfl⟩:=ry;exact PySem.W.eq_bytes (ZAY I q dec_byt)
  | _=>exact absurd (show false=true from hs) yAS
 | _=>cases y <;> exact absurd (show false=true from hs) yAS
theorem ZDT:OpR X (compareOp .NotEq) rNe:=by
 intro pins s σ H x y v u Q I rx ry h
 obtain ⟨hs,q⟩:=h
 cases x with
 | non=>
  cases rx
  cases y with
  | non=>cases ry;exact PySem.EqNone.ne_none_none (ZAY I q (by simp))
  | bl j=>cases ry;exact PySem.EqNone.ne_none_bool (ZAY I q (by simp))
  | int j=>obtain ⟨t',rfl⟩:=ry;exact PySem.EqNone.ne_none_int (ZAY I q (by simp))
  | str j=>obtain ⟨t',rfl⟩:=ry;exact PySem.EqNone.ne_none_str (ZAY I q (by simp))
  | _=>exact absurd (show false=true from hs) yAS
 | bl i=>
  cases rx
  cases y with
  | non=>cases ry;exact PySem.EqNone.ne_bool_none (ZAY I q (by simp))
  | bl j=>cases ry;exact ne_bool (ZAY I q (congrArg not dec_bl))
  | str j=>obtain ⟨t',rfl⟩:=ry;exact PySem.EqMixed.ne_bool_str (ZAY I q (by simp))
  | _=>exact absurd (show false=true from hs) yAS
 | int i=>
  obtain ⟨t,rfl⟩:=rx
  cases y with
  | non=>cases ry;exact PySem.EqNone.ne_int_none (ZAY I q (by simp))
  | int j=>obtain ⟨t',rfl⟩:=ry;exact ne_int (ZAY I q (congrArg not dec_int))
  | str j=>obtain ⟨t',rfl⟩:=ry;exact PySem.EqMixed.ne_int_str (ZAY I q (by simp))
  | _=>exact absurd (show false=true from hs) yAS
 | str i=>
  obtain ⟨t,rfl⟩:=rx
  cases y with
  | non=>cases ry;exact PySem.EqNone.ne_str_none (ZAY I q (by simp))
  | bl j=>cases ry;exact PySem.EqMixed.ne_str_bool (ZAY I q (by simp))
  | int j=>obtain ⟨t',rfl⟩:=ry;exact PySem.EqMixed.ne_str_int (ZAY I q (by simp))
  | str j=>obtain ⟨t',rfl⟩:=ry;exact ne_str (ZAY I q (congrArg not dec_str))
  | _=>exact absurd (show false=true from hs) yAS
 | byt i=>
  obtain ⟨t,rfl⟩:=rx
  cases y with
  | byt j=>obtain ⟨t',rfl⟩:=ry;exact PySem.W.ne_bytes (ZAY I q (congrArg not dec_byt))
  | _=>exact absurd (show false=true from hs) yAS
 | _=>cases y <;> exact absurd (show false=true from hs) yAS
theorem ZEI:OpR X (compareOp .Lt) (rI0 fun i j=>.bl (decide (i < j))):=opB0 fun _ _ _ _ _ _ _ q=>lt_int q
theorem op_le:OpR X (compareOp .LtE) (rI0 fun i j=>.bl (decide (i <= j))):=opB0 fun _ _ _ _ _ _ _ q=>le_int q
theorem ZEv:OpR X (compareOp .Gt) (rI0 fun i j=>.bl (decide (j < i))):=opB0 fun _ _ _ _ _ _ _ q=>gt_int q
theorem op_ge:OpR X (compareOp .GtE) (rI0 fun i j=>.bl (decide (j <= i))):=opB0 fun _ _ _ _ _ _ _ q=>ge_int q
theorem op_isN:OpR X (compareOp .Is) (fun x y H Q=>y=.non /\ Q (.bl (decide (x=.non))) H):=by
 intro pins s σ H x y v u Q I rx ry h
 obtain ⟨rfl,q⟩:=h
 cases ry
 refine is_none_gen (ZAY I q ?_)
 cases x <;> first
  | (cases rx;rfl)
  | (obtain ⟨t,rfl⟩:=rx;rfl)
theorem op_notN:OpR X (compareOp .IsNot) (fun x y H Q=>y=.non /\ Q (.bl (!decide (x=.non))) H):=by
 intro pins s σ H x y v u Q I rx ry h
 obtain ⟨rfl,q⟩:=h
 cases ry
 refine isnot_none_gen (ZAY I q ?_)
 cases x <;> first
  | (cases rx;rfl)
  | (obtain ⟨t,rfl⟩:=rx;rfl)
theorem ZAR (b:Expr) {op:CmpOp} (h:op≠.In:=by decide) (h2:op≠.NotIn:=by decide):behindInMarks op b=false:=by
 have e1:(op == CmpOp.In)=false:=by cases op <;> first | rfl | exact absurd rfl h
 have e2:(op == CmpOp.NotIn)=false:=by cases op <;> first | rfl | exact absurd rfl h2
 cases b <;> simp [behindInMarks,e1,e2]
theorem ZBf {op:CmpOp} {r:R2} (ho:OpR X (compareOp op) r) (ha:PE X a ta) (hb:PE X b tb) (hm:behindInMarks op b=false):PE X (.Compare a [op] [b] pos) (tOp r ta tb):=by
 intro pins s σ H Q I h
 exact wpAny_Compare1 (binT ha hb I h fun v u s2 x y H2 I2 rx ry q=>ho pins s2 σ H2 x y v u Q I2 rx ry q) hm
noncomputable def ZEm (t:TE):TT:=fun σ H Q=>t σ H fun x H'=>∃ k,x=.bl k /\ Q k H'
theorem ZAO {op:CmpOp} {r:R2} (ho:OpR X (compareOp op) r) (ha:PE X a ta) (hb:PE X b tb) (hm:behindInMarks op b=false):PT X (.Compare a [op] [b] pos) (ZEm (tOp r ta tb)):=by
 intro pins s σ H Q I h
 refine wpAny_isTrue_Compare1 (thn (ha pins s σ H _ I h) fun v s1 ⟨x,H1,I1,r1,q1⟩=>thn (hb pins s1 σ H1 _ I1 q1) fun u s2 ⟨y,H2,I2,r2,q2⟩=>
  thn (ho pins s2 σ H2 x y v u _ I2 r1 r2 q2) fun c s3 ⟨z,H3,I3,r3,k,e,q3⟩=>?_) hm
 subst e
 cases r3
 exact wpAny_truthy_bool ⟨H3,I3,q3⟩
noncomputable def tChain (r r':R2) (ta tb tc:TE):TE:=fun σ H Q=>ta σ H fun x H1=>tb σ H1 fun y H2=>r x y H2 fun z H3=>∃ k,z=.bl k /\
 (if k=true then tc σ H3 fun w' H4=>r' y w' H4 Q else Q (.bl false) H3)
theorem ZEc:(sizeLine:Nat) < 2 ^ 63:=by rw [sizeLine_eq];decide
theorem ZCj {x:V} {us:List Value} (r:Vals [x] us):∃ u,us=[u] /\ RelV x u:=by
 cases r with
 | cons r1 r2=>cases r2;exact ⟨_,rfl,r1⟩
theorem ZEL {x y:V} {us:List Value} (r:Vals [x,y] us):∃ u w',us=[u,w'] /\ RelV x u /\ RelV y w':=by
 cases r with
 | cons r1 r2=>
  cases r2 with
  | cons r3 r4=>cases r4;exact ⟨_,_,rfl,r1,r3⟩
theorem ZBk (hc:X.calm=true):ZBr X (.builtin "max") (fun xs H Q=>∃ i j,xs=[.int i,.int j] /\ Q (.int (if j > i then j else i)) H):=by
 intro pins s σ H xs us Q I r h
 obtain ⟨i,j,rfl,q⟩:=h
 obtain ⟨u,w',rfl,⟨t,rfl⟩,⟨t',rfl⟩⟩:=ZEL r
 refine max_two_ints (I.ok.hd hc) fun h' tk k=>⟨_,H,I.kept k,?_,q⟩
 by_cases hj:j > i
 .rw [if_pos hj,if_pos hj];exact ⟨_,rfl⟩
 .rw [if_neg hj,if_neg hj];exact ⟨_,rfl⟩
theorem call_min2 (hc:X.calm=true):ZBr X (.builtin "min") (fun xs H Q=>∃ i j,xs=[.int i,.int j] /\ Q (.int (if j < i then j else i)) H):=by
 intro pins s σ H xs us Q I r h
 obtain ⟨i,j,rfl,q⟩:=h
 obtain ⟨u,w',rfl,⟨t,rfl⟩,⟨t',rfl⟩⟩:=ZEL r
 refine min_two_ints (I.ok.hd hc) fun h' tk k=>⟨_,H,I.kept k,?_,q⟩
 by_cases hj:j < i
 .rw [if_pos hj,if_pos hj];exact ⟨_,rfl⟩
 .rw [if_neg hj,if_neg hj];exact ⟨_,rfl⟩
end
structure ObjM (h:Heap) (x dx C:Addr) (mA:Str->Option Value):Prop where
 obj:h.get? x=some (PySem.W.instObj C dx)
 ns:h.Ns1 dx mA
 ne:dx≠x
theorem ZCu {h:Heap} {dx:Addr} {mA:Str->Option Value} (n:h.Ns1 dx mA):∃ od,h.get? dx=some od /\ ∀ name,PySem.W.lookIn name od=some (mA name):=by
 obtain ⟨o,es,ep,ho,hd,hk,_,hm⟩:=n
 refine ⟨o,ho,fun name=>?_⟩
 have e:=hm name
 unfold nsFind findBy at e
 rw [<- Array.find?_toList] at e
 unfold PySem.W.lookIn
 rw [hd]
 dsimp only
 split
 .rename_i y q
  rw [q] at e
  exact congrArg some e
 .rename_i q
  rw [q] at e
  have a:es.toList.any (·.refKey)=false:=by
   rw [List.any_eq_false]
   intro y hy
   obtain ⟨z,t,hkey⟩:=hk y (Array.mem_toList_iff.mp hy)
   simp [DictEntry.refKey,hkey]
  have a':¬ es.toList.any (·.refKey)=true:=by rw [a];exact yAS
  rw [if_neg a']
  exact congrArg some e
theorem ObjM.look {h:Heap} {x dx C:Addr} {mA:Str->Option Value} (I:ObjM h x dx C mA):∃ od,PySem.W.InstAt h x (PySem.W.instObj C dx) C (some od) /\ ∀ name,PySem.W.lookIn name od=some (mA name) :=
 let ⟨od,ho,hl⟩:=ZCu I.ns
 ⟨od,⟨I.obj,rfl,rfl,ho⟩,hl⟩
section
variable {prog:Program} {w:World} {A:Around} {E:Value->Shared->Prop} {s:Shared} {K:W.Frag} {x dx C f:Addr} {mA:Str->Option Value} {name:Str} {v:Value}
theorem get_map {expr:Bool} {Q:Value->Shared->Prop} (X:K.In s.heap) (I:ObjM s.heap x dx C mA) (hg:PySem.W.plainGet K C name=true) (hh:PySem.W.hasDictIn K C=true)
  (ha:W.findIn K (.ref C) name=some none) (hv:mA name=some v) (hv':PySem.W.handedIn v=true) (h:Q v { s with toks:=s.toks+1 }) :
  wpAny (model prog w) A (getAttr (.ref x) name expr) Q E s:=by
 obtain ⟨od,J,hl⟩:=I.look
 exact PySem.W.get_value X J (PySem.W.plainGet_of hg).1 (PySem.W.findObj_own hh ha rfl (by rw [hl,hv])) hv' h
theorem get_meth {pl:Sem Bool} {Q:Value×List Value->Shared->Prop} (X:K.In s.heap) (I:ObjM s.heap x dx C mA) (hg:PySem.W.plainGet K C name=true)
  (hf:W.findIn K (.ref C) name=some (some (.ref f))) (ht:PySem.W.isFn K (.ref f)=true) (hv:mA name=none) (h:Q (.ref f,[.ref x]) s) :
  wpAny (model prog w) A (getMethod (.ref x) name pl) Q E s:=by
 obtain ⟨od,J,hl⟩:=I.look
 exact PySem.W.method_fn X J (PySem.W.plainGet_of hg).1 (PySem.W.plainGet_of hg).2 hf (beq_iff_eq.mp ht) (by show (PySem.W.lookIn name od).map (·.isSome)=some false;rw [hl,hv];rfl) h
theorem set_map {ns:List Str} {Q:Unit->Shared->Prop} (X:K.In s.heap) (I:ObjM s.heap x dx C mA)
  (hs:W.findIn K (.ref C) "__setattr__"=some (some (.builtin "object.__setattr__"))) (hp:PySem.W.plainOver K C=true) (ht:PySem.W.takerIn K C name=some none) (hh:PySem.W.hasDictIn K C=true)
  (hw:PySem.Within mA ns) (hsz:ns.length <= sizeLine)
  (h:∀ h',ObjM h' x dx C (fun y=>if y=name then some v else mA y)->Heap.SameBut dx s.heap h'->Q () { s with heap:=h',toks:=s.toks+2 }) :
  wpAny (model prog w) A (setAttr (.ref x) name v) Q E s:=by
 obtain ⟨od,J,hl⟩:=I.look
 refine PySem.W.set_plain X J hs (PySem.W.osa_open (s:={ s with toks:=s.toks+1 }) (r:=none) X J hp ht fun b=>?_)
 obtain ⟨cd,hc,hd'⟩:=PySem.W.any_some hh
 have hx:s.heap.get? x=some ⟨.ref C,some dx,.plain,#[]⟩:=I.obj
 refine wpAny_bind (wpAny_pure (wpAny_bind (wpAny_bind (wpAny_loadPart hx (wpAny_bind (PySem.W.Looks.here (s:={ s with toks:=s.toks+1 }) (PySem.W.looks_clsIn X hc) ?_))))))
 rw [hd']
 refine wpAny_pure (a:=some dx) (wpAny_bind (wpAny_pure (wpAny_bind ?_)))
 refine wpAny_nsSet1 (s:={ s with toks:=s.toks+1 }) I.ns fun h' hn2 hs2=>?_
 obtain ⟨oD,esD,epD,hoD,hdD,hcD⟩:=hn2.count (PySem.Within.cons name v hw)
 refine wpAny_bind (wpAny_lookBehind hoD (by rw [hdD];exact pastItsLine_dict (yAD hcD (by rw [yAJ];omega))) ?_)
 exact wpAny_pure (h _ ⟨(hs2.2 _ (Ne.symm I.ne)).trans I.obj,hn2,I.ne⟩ hs2)
theorem make_map {R:Result->Shared->Prop} {vs:List Value} {kw:List (Str×Value)} (X:K.In s.heap) (hm:PySem.W.makesIn K C=true)
  (hi:W.findIn K (.ref C) "__init__"=some (some (.ref f))) (hf:PySem.W.typeIn K (.ref f)=some (.type "function"))
  (h:codeAny (model prog w) (A.under (.builtin "type.__call__" ⟨.ref C::vs,kw⟩)) (.call (.ref f) ⟨.ref (s.heap.objs.size+1)::vs,kw⟩) (PySem.W.InitBack (s.heap.objs.size+1) R)
   { s with heap:=(s.heap.push PySem.W.emptyDict).push (PySem.W.instObj C s.heap.objs.size) }) :
  codeAny (model prog w) A (.call (.ref C) ⟨vs,kw⟩) R s:=by
 obtain ⟨hh,g,d,t,os⟩:=s
 exact PySem.W.make_core (PySem.W.makes_of X hm) (PySem.W.looks_findIn X hi) (fun self=>PySem.W.bind_fn X self hf) (.inl rfl) h
end
noncomputable def putF (f:Str) (v:V):List (Str×V)->List (Str×V)
 | []=>[(f,v)]
 | (g,x)::r=>if g=f then (g,v)::r else (g,x)::putF f v r
theorem ZAZ (f g:Str) (v:V):∀ fs:List (Str×V),(putF f v fs).lookup g=if g=f then some v else fs.lookup g
 | []=>by
  show List.lookup g [(f,v)]=_
  by_cases h:g=f
  .have hb:(g == f)=true:=beq_iff_eq.mpr h
   simp only [List.lookup,hb,if_pos h]
  .have hb:(g == f)=false:=beq_eq_false_iff_ne.mpr h
   simp only [List.lookup,hb,if_neg h]
 | (k,x)::r=>by
  have ih:=ZAZ f g v r
  rw [show putF f v ((k,x)::r)=(if k=f then (k,v)::r else (k,x)::putF f v r) from rfl]
  by_cases hk:k=f
  .rw [if_pos hk]
   by_cases h:g=k
   .have hb:(g == k)=true:=beq_iff_eq.mpr h
    simp only [List.lookup,hb,if_pos (h.trans hk)]
   .have hb:(g == k)=false:=beq_eq_false_iff_ne.mpr h
    simp only [List.lookup,hb,if_neg (fun e:g=f=>h (e.trans hk.symm))]
  .rw [if_neg hk]
   by_cases h:g=k
   .have hb:(g == k)=true:=beq_iff_eq.mpr h
    simp only [List.lookup,hb,if_neg (fun e:g=f=>hk (h.symm.trans e))]
   .have hb:(g == k)=false:=beq_eq_false_iff_ne.mpr h
    simp only [List.lookup,hb]
    exact ih
theorem ZCx (f:Str) (v:V):∀ fs:List (Str×V),f∈(putF f v fs).map (·.1) /\ ∀ g,g∈fs.map (·.1)->g∈(putF f v fs).map (·.1)
 | []=>⟨by simp [putF],fun g h=>by simp at h⟩
 | (k,x)::r=>by
  obtain ⟨i1,i2⟩:=ZCx f v r
  rw [show putF f v ((k,x)::r)=(if k=f then (k,v)::r else (k,x)::putF f v r) from rfl]
  by_cases hk:k=f
  .rw [if_pos hk]
   subst hk
   exact ⟨by simp,fun g h=>by simpa using h⟩
  .rw [if_neg hk]
   refine ⟨?_,fun g h=>?_⟩
   .rw [yAQ]
    exact yAO _ i1
   .rw [yAQ] at h ⊢
    rcases yAG.mp h with e | e
    .exact yAG.mpr (.inl e)
    .exact yAO _ (i2 g e)
theorem ZB2 (f:Str) (v:V):∀ fs:List (Str×V),(putF f v fs).length <= fs.length+1
 | []=>by simp [putF]
 | (k,x)::r=>by
  have ih:=ZB2 f v r
  rw [show putF f v ((k,x)::r)=(if k=f then (k,v)::r else (k,x)::putF f v r) from rfl]
  by_cases hk:k=f
  .rw [if_pos hk,yAJ,yAJ];omega
  .rw [if_neg hk,yAJ,yAJ];omega
theorem RelO.some_of {v:V} {o:Option Value} (r:RelO (some v) o):∃ u,o=some u /\ RelV v u:=by
 cases o with
 | none=>exact (show False from r).elim
 | some u=>exact ⟨u,rfl,r⟩
theorem RelO.none_of {o:Option Value} (r:RelO none o):o=none:=by
 cases o with
 | none=>rfl
 | some u=>exact (show False from r).elim
theorem handed_of {v:V} {u:Value} (r:RelV v u):PySem.W.handedIn u=true:=by
 cases v with
 | non=>cases (show u=Value.none from r);rfl
 | bl b=>cases (show u=Value.bool b from r);rfl
 | int i=>obtain ⟨t,e⟩:=(show ∃ t,u=Value.int i t from r);cases e;rfl
 | str x=>obtain ⟨t,e⟩:=(show ∃ t,u=Value.str x t from r);cases e;rfl
 | byt b=>obtain ⟨t,e⟩:=(show ∃ t,u=Value.bytes b t from r);cases e;rfl
 | flt b=>obtain ⟨t,e⟩:=(show ∃ t,u=Value.float b t from r);cases e;rfl
 | ref a=>cases (show u=Value.ref a from r);rfl
 | ty n=>cases (show u=Value.type n from r);rfl
section
variable {P:Program} {w:World} {H H':Hp} {h h':Heap} {a C dx:Addr} {fs fs':List (Str×V)}
theorem ZDW (hok:HOk P w H h) (e:H a=some (.ins C dx fs)):∃ mA,ObjM h a dx C mA /\ (∀ f,RelO (fs.lookup f) (mA f)) /\ PySem.Within mA (fs.map (·.1)) /\ fs.length <= 1000 /\ H dx=some (.own a):=by
 obtain ⟨d,z,ne,ob,mA,n,r,q⟩:=(show ObjOk P w H h a (.ins C dx fs) from hok a _ e)
 exact ⟨mA,⟨ob,n,ne⟩,r,q,z,d⟩
end
structure Cls (K:W.Frag) (C:Addr):Prop where
 pg:PySem.W.plainGet K C Str.empty=true
 hd:PySem.W.hasDictIn K C=true
 po:PySem.W.plainOver K C=true
 sa:W.findIn K (.ref C) "__setattr__"=some (some (.builtin "object.__setattr__"))
theorem Cls.get {K:W.Frag} {C:Addr} (c:Cls K C) (f:Str):PySem.W.plainGet K C f=true:=c.pg
noncomputable def NoAttr (K:W.Frag) (C:Addr) (f:Str):Prop:=W.findIn K (.ref C) f=some none
theorem NoAttr.taker {K:W.Frag} {C:Addr} {f:Str} (n:NoAttr K C f):PySem.W.takerIn K C f=some none:=by
 unfold PySem.W.takerIn
 rw [show W.findIn K (.ref C) f=some none from n]
 rfl
structure Meth (K:W.Frag) (C:Addr) (m:Str) (f:Addr):Prop where
 at_:W.findIn K (.ref C) m=some (some (.ref f))
 fn:PySem.W.isFn K (.ref f)=true
 kp:W.keepIn K (.ref f)=true
section
variable {X:Cx} {pins:List (Addr×Obj)} {σ:St} {H:Hp} {s:Shared} {a C dx:Addr} {fs:List (Str×V)} {f:Str} {v:V} {A:Around} {E:Value->Shared->Prop}
theorem getattr_ok {b:Bool} {Q:Value->Shared->Prop} (I:Inv X pins σ H s) (e:H a=some (.ins C dx fs)) (c:Cls X.K C) (n:NoAttr X.K C f) (l:fs.lookup f=some v)
  (h:∀ u s',Inv X pins σ H s'->RelV v u->Q u s'):wpAny (model X.prog X.w) A (getAttr (.ref a) f b) Q E s:=by
 obtain ⟨mA,O,r,_,_,_⟩:=ZDW I.hok e
 obtain ⟨u,hu,ru⟩:=RelO.some_of (v:=v) (o:=mA f) (by rw [<- l];exact r f)
 exact get_map I.kIn O (c.get f) c.hd n hu (handed_of ru) (h u _ (I.tok _) ru)
theorem getmeth_ok {m:Str} {g:Addr} {pl:Sem Bool} {Q:Value×List Value->Shared->Prop} (I:Inv X pins σ H s) (e:H a=some (.ins C dx fs)) (c:Cls X.K C) (k:Meth X.K C m g) (l:fs.lookup m=none)
  (h:Q (.ref g,[.ref a]) s):wpAny (model X.prog X.w) A (getMethod (.ref a) m pl) Q E s:=by
 obtain ⟨mA,O,r,_,_,_⟩:=ZDW I.hok e
 have hn:mA m=none:=RelO.none_of (by rw [<- l];exact r m)
 exact get_meth I.kIn O (c.get m) k.at_ k.fn hn h
theorem setattr_ok {y:V} {u:Value} {Q:Unit->Shared->Prop} (I:Inv X pins σ H s) (e:H a=some (.ins C dx fs)) (c:Cls X.K C) (n:NoAttr X.K C f) (hl:fs.length < 1000) (ry:RelV y u)
  (h:∀ s',Inv X pins σ (upd H a (.ins C dx (putF f y fs))) s'->Q () s'):wpAny (model X.prog X.w) A (setAttr (.ref a) f u) Q E s:=by
 obtain ⟨mA,O,r,wi,_,ho⟩:=ZDW I.hok e
 have hz:(fs.map (·.1)).length <= sizeLine:=by rw [yAB,sizeLine_eq];omega
 refine set_map I.kIn O c.sa c.po n.taker c.hd wi hz fun h' O' sb=>h _ ?_
 have hd:∃ o,h'.get? dx=some o:=let ⟨o,_,_,e',_⟩:=O'.ns;⟨o,e'⟩
 refine I.write (x:=a) (e:=dx) (by rw [e];exact True.intro) (.inr ho) (fun b q hb z=>(sb.2 b hb).trans z) hd ?_
 refine ⟨by rw [ZAF O.ne];exact ho,?_,O.ne,O'.obj,_,O'.ns,fun g=>?_,fun g hg=>?_⟩
 .have:=ZB2 f y fs;omega
 .show RelO ((putF f y fs).lookup g) (if g=f then some u else mA g)
  rw [ZAZ]
  by_cases q:g=f
  .rw [if_pos q,if_pos q];exact ry
  .rw [if_neg q,if_neg q];exact r g
 .by_cases q:g=f
  .rw [q];exact (ZCx f y fs).1
  .refine (ZCx f y fs).2 g (wi g fun z=>hg ?_)
   show (if g=f then some u else mA g)=none
   rw [if_neg q];exact z
theorem Inv.made (I:Inv X pins σ H s):Inv X pins σ (upd (upd H s.heap.objs.size (.own (s.heap.objs.size+1))) (s.heap.objs.size+1) (.ins C s.heap.objs.size []))
  { s with heap:=(s.heap.push PySem.W.emptyDict).push (PySem.W.instObj C s.heap.objs.size) }:=by
 have e1:(s.heap.push PySem.W.emptyDict).get? s.heap.objs.size=some PySem.W.emptyDict:=Heap.get?_push_size s.heap rfl
 have e2:((s.heap.push PySem.W.emptyDict).push (PySem.W.instObj C s.heap.objs.size)).get? (s.heap.objs.size+1)=some (PySem.W.instObj C s.heap.objs.size):=by
  have:=Heap.get?_push_size (s.heap.push PySem.W.emptyDict) (o:=PySem.W.instObj C s.heap.objs.size) rfl
  rwa [Heap.size_push] at this
 have e3:(s.heap.push PySem.W.emptyDict).Ns s.heap.objs.size (fun _=>none):=⟨PySem.W.emptyDict,#[],_,e1,rfl,(fun e he=>absurd he (by simp)),fun _=>rfl⟩
 have I1:=I.laid (a:=s.heap.objs.size) (o:=.own (s.heap.objs.size+1)) (h':=s.heap.push PySem.W.emptyDict) (t':=s.toks) (fun b u q=>Heap.get?_push_of_some _ q) (yAA _) ⟨_,e1⟩
 refine I1.laid (a:=s.heap.objs.size+1) (o:=.ins C s.heap.objs.size []) (t':=s.toks) (fun b u q=>Heap.get?_push_of_some _ q) (Nat.le_of_eq (Heap.size_push _ _)) ?_
 have ne:s.heap.objs.size≠s.heap.objs.size+1:=yAE (yBN _)
 refine ⟨by rw [ZAF ne,ZAE],yAC _,ne,e2,fun _=>none,(Heap.Ns1.of_empty e3).at fun o q=>Heap.get?_push_of_some _ q,fun _=>True.intro,fun y hy=>absurd rfl hy⟩
theorem attr_of {prog:Program} {w:World} {env:Env} {e:Expr} {f:Str} {pos:Pos} {s:Shared} {Q:Value->Shared->Prop} (hb:attributeBase e f env (eval e env)=eval e env)
  (h:wpAny (model prog w) A (eval e env) (fun o s₁=>wpAny (model prog w) A (getAttr o f true) Q E s₁) E s):wpAny (model prog w) A (eval (.Attribute e f pos) env) Q E s :=
 Attribute_any_ h (by rw [arm_eval_Attribute,hb])
end
noncomputable def tFld (K:W.Frag) (ta:TE) (f:Str):TE:=fun σ H Q=>ta σ H fun x H1=>∃ a C dx fs v,x=.ref a /\ H1 a=some (.ins C dx fs) /\ Cls K C /\ NoAttr K C f /\ fs.lookup f=some v /\ Q v H1
noncomputable def sFld (K:W.Frag) (ta tv:TE) (f:Str):TS:=fun D σ H=>tv σ H fun y H1=>ta σ H1 fun x H2=>∃ a C dx fs,x=.ref a /\ H2 a=some (.ins C dx fs) /\ Cls K C /\ NoAttr K C f /\ fs.length < 1000 /\
 D.nx σ (upd H2 a (.ins C dx (putF f y fs)))
noncomputable def InOp (X:Cx) (op:Operator) (rd:V->V->Hp->VK->Prop):Prop :=
 ∀ (pins:List (Addr×Obj)) (s:Shared) (σ:St) (H:Hp) (x y:V) (u v:Value) (Q:VK),Inv X pins σ H s->RelV x u->RelV y v->rd x y H Q->wpAny (model X.prog X.w) X.A (inplaceOp op u v) (EP X pins σ Q) X.xe s
noncomputable def sFldAug (K:W.Frag) (ta tv:TE) (rd:V->V->Hp->VK->Prop) (f:Str):TS:=fun D σ H=>ta σ H fun x H1=>∃ a C dx fs v,x=.ref a /\ H1 a=some (.ins C dx fs) /\ Cls K C /\ NoAttr K C f /\ fs.lookup f=some v /\
 tv σ H1 fun y H2=>rd v y H2 fun z H3=>∃ dx' fs',H3 a=some (.ins C dx' fs') /\ fs'.length < 1000 /\ D.nx σ (upd H3 a (.ins C dx' (putF f z fs')))
section
variable {X:Cx} {o e value:Expr} {f:Str} {pos pos' tpos:Pos} {ta tv:TE}
theorem ZBG (he:PE X e ta) (hb:attributeBase e f X.env (eval e X.env)=eval e X.env):PE X (.Attribute e f pos) (tFld X.K ta f):=by
 intro pins s σ H Q I h
 refine attr_of hb (thn (he pins s σ H _ I h) fun u s1 zz=>?_)
 obtain ⟨x,H1,I1,rx,a,C,dx,fs,v,ex,ea,c,n,l,q⟩:=zz
 subst ex
 obtain rfl:u=Value.ref a:=rx
 exact getattr_ok I1 ea c n l fun u' s2 I2 ru=>⟨v,H1,I2,ru,q⟩
theorem ZDE (ha:PE X o ta) (hv:PE X value tv) (hs:swapsWith value (some (.Attribute o f pos')) pos.line X.env=pure false):PS X (.Assign [.Attribute o f pos'] value pos) (sFld X.K ta tv f):=by
 intro pins s σ H D I h
 refine plainObj_wpAny_Assign_Attribute (thn (hv pins s σ H _ I h) fun u s1 ⟨y,H1,I1,ry,q⟩=>thn (ha pins s1 σ H1 _ I1 q) fun ov s2 zz=>?_) hs
 obtain ⟨x,H2,I2,rx,a,C,dx,fs,ex,ea,c,n,l,q2⟩:=zz
 subst ex
 obtain rfl:ov=Value.ref a:=rx
 exact setattr_ok I2 ea c n l ry fun s3 I3=>⟨σ,_,I3,q2⟩
theorem ps_fldaug {op:Operator} {rd:V->V->Hp->VK->Prop} (ha:PE X o ta) (hv:PE X value tv) (hop:InOp X op rd):PS X (.AugAssign (.Attribute o f tpos) op value pos) (sFldAug X.K ta tv rd f):=by
 intro pins s σ H D I h
 refine wpAny_AugAssign_AttributeAny (thn (ha pins s σ H _ I h) fun ov s1 zz=>?_)
 obtain ⟨x,H1,I1,rx,a,C,dx,fs,v,ex,ea,c,n,l,q⟩:=zz
 subst ex
 obtain rfl:ov=Value.ref a:=rx
 refine getattr_ok I1 ea c n l fun u s2 I2 ru=>thn (hv pins s2 σ H1 _ I2 q) fun w3 s3 ⟨y,H2,I3,ry,q3⟩=>thn (hop pins s3 σ H2 v y u w3 _ I3 ru ry q3) fun w4 s4 zz=>?_
 obtain ⟨z,H3,I4,rz,dx',fs',ea',l',q4⟩:=zz
 exact setattr_ok I4 ea' c n l' rz fun s5 I5=>⟨σ,_,I5,q4⟩
noncomputable def rAdd:V->V->Hp->VK->Prop:=fun x y H Q=>∃ i j,x=.int i /\ y=.int j /\ Q (.int (i+j)) H
theorem in_add:InOp X .Add rAdd:=by
 rintro pins s σ H x y u v Q I rx ry ⟨i,j,rfl,rfl,q⟩
 obtain ⟨t,rfl⟩:=(show ∃ t,u=Value.int i t from rx)
 obtain ⟨t',rfl⟩:=(show ∃ t',v=Value.int j t' from ry)
 exact PyProof.Rows.iadd_int ⟨.int (i+j),H,I.tok _,⟨_,rfl⟩,q⟩
end
section
variable {X:Cx} {pins:List (Addr×Obj)} {σ:St} {H:Hp} {s:Shared} {A:Around} {E:Value->Shared->Prop} {Q:Value->Shared->Prop} {c:Value} {b:Bool}
inductive TyOf (K:W.Frag) (H:Hp):V->Value->Prop where
 | non:TyOf K H .non (.type "NoneType")
 | bl (x:Bool):TyOf K H (.bl x) (.type "bool")
 | int (i:Int):TyOf K H (.int i) (.type "int")
 | str (x:Str):TyOf K H (.str x) (.type "str")
 | flt (x:UInt64):TyOf K H (.flt x) (.type "float")
 | lst {a:Addr} {xs:List V} (e:H a=some (.lst xs)):TyOf K H (.ref a) (.type "list")
 | frz {a:Addr} {o:Obj} {xs:List V} (e:H a=some (.frz o (.lst xs))):TyOf K H (.ref a) (.type "list")
 | tup {a:Addr} {xs:List V} (e:H a=some (.tup xs)):TyOf K H (.ref a) (.type "tuple")
 | dK {a:Addr} {kvs:List (Key×V)} (e:H a=some (.dK kvs)):TyOf K H (.ref a) (.type "dict")
 | dT {a:Addr} {kvs:List (List Key×V)} (e:H a=some (.dT kvs)):TyOf K H (.ref a) (.type "dict")
 | ins {a C dx:Addr} {fs:List (Str×V)} (e:H a=some (.ins C dx fs)) (cl:Cls K C) (ha:W.findIn K (.ref C) "__class__"=some (some (.builtin "object.__class__")))
   (hn:PySem.W.specialIn K (.builtin "object.__class__") "__get__"=some (some (.builtin "getset_descriptor.__get__"))) (htk:PySem.W.takesIn K (.builtin "object.__class__")=some true)
   (hm:PySem.W.mroIn K C (.type "object")=some true):TyOf K H (.ref a) (.ref C)
theorem isinst_ok {x:V} {u t:Value} (I:Inv X pins σ H s) (rx:RelV x u) (ty:TyOf X.K H x t) (e:PySem.W.kitOne X.K t c=some b) (h:∀ tk,Q (.bool b) { s with toks:=tk }) :
  wpAny (model X.prog X.w) A (call (.builtin "isinstance") [u,c]) Q E s:=by
 cases ty with
 | non=>cases (show u=Value.none from rx);exact PySem.W.kia_one PySem.W.kitx_none I.kIn True.intro e (fun z=>nomatch z) h
 | bl y=>cases (show u=Value.bool y from rx);exact PySem.W.kia_one PySem.W.kitx_bool I.kIn True.intro e (fun z=>nomatch z) h
 | int i=>obtain ⟨t,q⟩:=(show ∃ t,u=Value.int i t from rx);cases q;exact PySem.W.kia_one PySem.W.kitx_int I.kIn True.intro e (fun z=>nomatch z) h
 | str y=>obtain ⟨t,q⟩:=(show ∃ t,u=Value.str y t from rx);cases q;exact PySem.W.kia_one PySem.W.kitx_str I.kIn True.intro e (fun z=>nomatch z) h
 | flt y=>obtain ⟨t,q⟩:=(show ∃ t,u=Value.float y t from rx);cases q;exact PySem.W.kia_one PySem.W.kitx_float I.kIn True.intro e (fun z=>nomatch z) h
 | @lst a xs ea=>
  cases (show u=Value.ref a from rx)
  obtain ⟨_,_,n,_,h1⟩:=(show ObjOk X.prog X.w H s.heap a (.lst xs) from I.hok a _ ea)
  exact PySem.W.kia_one PySem.W.kitx_list I.kIn ⟨_,h1,rfl⟩ e (fun z=>nomatch z) h
 | @frz a ob xs ea=>
  cases (show u=Value.ref a from rx)
  obtain ⟨_,_,_,n,_,h1⟩:=(show ObjOk X.prog X.w H s.heap a (.frz ob (.lst xs)) from I.hok a _ ea)
  exact PySem.W.kia_one PySem.W.kitx_list I.kIn ⟨_,h1,rfl⟩ e (fun z=>nomatch z) h
 | @tup a xs ea=>
  cases (show u=Value.ref a from rx)
  obtain ⟨_,_,_,p⟩:=(show ObjOk X.prog X.w H s.heap a (.tup xs) from I.hok a _ ea)
  obtain ⟨o,h1,h2,_⟩:=p
  exact PySem.W.kia_one PySem.W.kitx_tuple I.kIn ⟨o,h1,h2⟩ e (fun z=>nomatch z) h
 | @dK a kvs ea=>
  cases (show u=Value.ref a from rx)
  obtain ⟨_,_,vs,_,p⟩:=(show ObjOk X.prog X.w H s.heap a (.dK kvs) from I.hok a _ ea)
  obtain ⟨o,es,ep,h1,h2,_⟩:=p
  exact PySem.W.kia_one PySem.W.kitx_dict I.kIn ⟨o,h1,h2.1⟩ e (fun z=>nomatch z) h
 | @dT a kvs ea=>
  cases (show u=Value.ref a from rx)
  obtain ⟨_,_,xs,_,o,es,ep,h1,h2,_⟩:=(show ObjOk X.prog X.w H s.heap a (.dT kvs) from I.hok a _ ea)
  exact PySem.W.kia_one PySem.W.kitx_dict I.kIn ⟨o,h1,h2.1⟩ e (fun z=>nomatch z) h
 | @ins a C dx fs ea cl ha hn htk hm=>
  cases (show u=Value.ref a from rx)
  obtain ⟨mA,O,_⟩:=ZDW I.hok ea
  obtain ⟨od,J,_⟩:=O.look
  exact PySem.W.kia_one (PySem.W.kitx_own (cl.get _) cl.hd ha hn htk hm) I.kIn J e (fun z=>nomatch z) h
end
structure Room (k:Nat) (A:Around):Prop where
 hd:A.handled=none
 dp:A.depth+3 * k+5 < recursionLimit
 un:A.units+16 * k+200 < cLine
 gd:A.guards=some []
theorem Room.mono {j k:Nat} {A:Around} (r:Room k A) (h:j <= k):Room j A:=⟨r.hd,by have:=r.dp;omega,by have:=r.un;omega,r.gd⟩
theorem Room.deeper {k:Nat} {A:Around} (r:Room (k+1) A) (env:Env):Room k (A.deeper env) :=
 ⟨r.hd,by have:=r.dp;show A.depth+1+3 * k+5 < _;omega,by have:=r.un;show A.units+3+16 * k+200 < _;omega,r.gd⟩
theorem make_depth {A:Around} {C:Addr} {us:List Value} {kw:List (Str×Value)}:(A.under (.builtin "type.__call__" ⟨.ref C::us,kw⟩)).depth=A.depth+1:=by
 first | rfl | simp [Around.under,Code.weight,Code.isCreation,Code.isGuard,Code.isCaller,Code.frames,Code.isFrame,guardIds]
theorem make_units {A:Around} {C:Addr} {us:List Value} {kw:List (Str×Value)}:(A.under (.builtin "type.__call__" ⟨.ref C::us,kw⟩)).units=A.units+1:=by
 first | rfl | simp [Around.under,Code.cUnits,Code.frames,Code.isFrame]
theorem Room.make {k:Nat} {A:Around} (r:Room (k+1) A) (C:Addr) (us:List Value) (kw:List (Str×Value)):Room k (A.under (.builtin "type.__call__" ⟨.ref C::us,kw⟩)) :=
 ⟨r.hd,by have:=r.dp;rw [make_depth];omega,by have:=r.un;rw [make_units];omega,by have:=r.gd;first | exact this | simp [Around.under,Code.guards,Code.isGuard,guardIds,this]⟩
theorem Room.depth {k:Nat} {A:Around} (r:Room k A):A.depth < recursionLimit:=by have:=r.dp;omega
theorem Room.units {k:Nat} {A:Around} (r:Room k A):A.units+64 < cLine:=by have:=r.un;omega
noncomputable def tNil:TA:=fun _ H Q=>Q [] H
noncomputable def ZBw (ta:TE) (tr:TA):TA:=fun σ H Q=>ta σ H fun x H1=>tr σ H1 fun xs H2=>Q (x::xs) H2
section
variable {X:Cx} {e:Expr} {es:List Expr} {te:TE} {t:TA} {pos:Pos}
theorem ZAD:PA X [] tNil:=fun _ _ _ _ H Q I h=>Calls.spliced_nil ⟨[],H,I,.nil,h⟩
theorem ZAA (ha:PE X e te) (hr:PA X es t) (hs:starEach (e::es) X.env=(false,eval e X.env)::starEach es X.env:=by rfl):PA X (e::es) (ZBw te t):=by
 intro pos pins s σ H Q I h
 rw [hs]
 show wpAny _ _ (spliced ((false,eval e X.env)::backTo pos (starEach es X.env))) _ _ s
 refine Calls.spliced_cons (thn (ha pins s σ H _ I h) fun u s1 zz=>?_)
 obtain ⟨x,H1,I1,r1,q1⟩:=zz
 exact thn (hr pos pins s1 σ H1 _ I1 q1) fun us s2 ⟨xs,H2,I2,r2,q2⟩=>⟨x::xs,H2,I2,.cons r1 r2,q2⟩
noncomputable def tTup (t:TA):TE:=fun σ H Q=>t σ H fun xs H1=>xs.length <= sizeLine /\ ∀ p,H1 p=none->Q (.ref p) (upd H1 p (.tup xs))
noncomputable def tLst (t:TA):TE:=fun σ H Q=>t σ H fun xs H1=>xs.length <= sizeLine /\ ∀ p,H1 p=none->Q (.ref p) (upd H1 p (.lst xs))
theorem ZCQ {x1} (h:PA X es t):PE X (.Tuple es x1 pos) (tTup t):=by
 intro pins s σ H Q I hq
 refine wpAny_Tuple_spliced (thn (h pos pins s σ H _ I hq) fun us s1 ⟨xs,H1,I1,r,z,q⟩=>⟨by rw [<- r.length];exact z,?_⟩)
 have hf:H1 s1.heap.objs.size=none:=I1.hok.fresh (yAA _)
 refine ⟨.ref s1.heap.objs.size,upd H1 s1.heap.objs.size (.tup xs),I1.laid (t':=s1.toks) (fun b u e=>Heap.get?_push_of_some _ e) (yAA _) ?_,rfl,q _ hf⟩
 exact ⟨z,us,r,⟨_,Heap.get?_push_size _ rfl,rfl,_,rfl⟩⟩
theorem ZA9 (h:PA X es t):PE X (.List es pos) (tLst t):=by
 intro pins s σ H Q I hq
 refine wpAny_List_spliced (thn (h pos pins s σ H _ I hq) fun us s1 ⟨xs,H1,I1,r,z,q⟩=>⟨by rw [<- r.length];exact z,?_⟩)
 have hf:H1 s1.heap.objs.size=none:=I1.hok.fresh (yAA _)
 refine ⟨.ref s1.heap.objs.size,upd H1 s1.heap.objs.size (.lst xs),I1.laid (t':=s1.toks) (fun b u e=>Heap.get?_push_of_some _ e) (yAA _) ?_,rfl,q _ hf⟩
 exact ⟨z,us,0,r,Heap.get?_push_size _ rfl⟩
end
noncomputable abbrev Sp:=List V->Hp->VK->XK->Prop
noncomputable abbrev CXT:=List Env->Hp->Shared->XK->Value->Shared->Prop
structure Env0 (P:Program) (w:World) (K:W.Frag) (mg:Str->Option Value) (base:Heap) (A:Around) (outer:List Env) (s:Shared) (H:Hp):Prop where
 frames:A.frames=some outer
 mod:Mod K mg base
 bs:∀ b o,base.get? b=some o->s.heap.get? b=some o /\ H b=none
 bsz:base.objs.size <= s.heap.objs.size
 funs:s.heap.FunFrames base outer
 frf:∀ b∈frs outer,H b=none
 hok:HOk P w H s.heap
 bare:AllBare s.gens
noncomputable def CE (outer:List Env) (P:Program) (w:World) (H:Hp) (s:Shared) (Q:VK) (u:Value) (s':Shared):Prop :=
 ∃ v H',s'.os=s.os /\ AllBare s'.gens /\ Un (frs outer) [] H H' s.heap s'.heap /\ HOk P w H' s'.heap /\ RelV v u /\ Q v H'
noncomputable def CR (CX:CXT) (outer:List Env) (P:Program) (w:World) (H:Hp) (s:Shared) (Q:VK) (E:XK) (r:Result) (s':Shared):Prop :=
 match r with
 | .ok (.ret u)=>CE outer P w H s Q u s'
 | .ok _=>False
 | .error e=>CX outer H s E e s'
structure FnOk (P:Program) (w:World) (K:W.Frag) (mg:Str->Option Value) (base:Heap) (CX:CXT) (k:Nat) (f:Addr) (fd:FuncData) (ps:List Str) (sp:Sp):Prop where
 len:∀ vs H Q E,sp vs H Q E->vs.length=ps.length
 run:∀ (A:Around) (outer:List Env) (s:Shared) (H:Hp) (args:Args) (us:List Value) (vs:List V) (Q:VK) (E:XK),Room k A->Env0 P w K mg base A outer s H->BindsTo s fd args (ps.zip us)->Vals vs us->sp vs H Q E ->
  codeAny (model P w) A (.call (.ref f) args) (CR CX outer P w H s Q E) s
theorem Env0.make {P:Program} {w:World} {K:W.Frag} {mg:Str->Option Value} {base:Heap} {A:Around} {outer:List Env} {s:Shared} {H:Hp} (e:Env0 P w K mg base A outer s H) (C:Addr) (us:List Value) (kw:List (Str×Value)) :
  Env0 P w K mg base (A.under (.builtin "type.__call__" ⟨.ref C::us,kw⟩)) outer s H:=⟨by first | exact e.frames | (simpa [Around.under,Code.envs,Code.isFrame,pushEnvs] using e.frames),e.mod,e.bs,e.bsz,e.funs,e.frf,e.hok,e.bare⟩
section
variable {X:Cx} {pins:List (Addr×Obj)} {σ:St} {H:Hp} {s s':Shared}
theorem Inv.env0 (I:Inv X pins σ H s):Env0 X.prog X.w X.K X.mg X.base X.A X.stack s H :=
 ⟨I.ok.frames,I.ok.mod,I.bs,yAD I.ok.bsz I.sz,I.stack,I.stkFree,I.hok,I.bare⟩
theorem Inv.after {Q:VK} {u:Value} (I:Inv X pins σ H s) (h:CE X.stack X.prog X.w H s Q u s'):EP X pins σ Q u s':=by
 obtain ⟨v,H',os,bare,un,hok,r,q⟩:=h
 obtain ⟨hh,g,d,t,os'⟩:=s'
 obtain rfl:os'=s.os:=os
 exact ⟨v,H',I.call (h':=hh) (g':=g) (d':=d) (t':=t) (ch:=[]) un hok bare (fun b z=>absurd z (by simp)),r,q⟩
end
noncomputable def ZEQ (sp:Sp) (dvs:List V) (E:XK) (t:TA):TE:=fun σ H Q=>t σ H fun vs H1=>sp (vs++dvs) H1 Q E
noncomputable def ZEG (C:Addr) (m:Str) (sp:Sp) (dvs:List V) (E:XK) (ta:TE) (t:TA):TE:=fun σ H Q=>ta σ H fun x H1=>∃ a dx fs,x=.ref a /\ H1 a=some (.ins C dx fs) /\ fs.lookup m=none /\
 t σ H1 fun vs H2=>sp (x::(vs++dvs)) H2 Q E
noncomputable def ZEN (C:Addr) (sp:Sp) (dvs:List V) (E:XK) (t:TA):TE:=fun σ H Q=>t σ H fun vs H1=>∀ x dx,H1 x=none->H1 dx=none->dx≠x ->
 sp (.ref x::(vs++dvs)) (upd (upd H1 dx (.own x)) x (.ins C dx [])) (fun v H2=>v=.non /\ Q (.ref x) H2) E
noncomputable def Binds (K:W.Frag) (fd:FuncData) (ps:List Str) (ds:List Value):Prop :=
 ∀ (s:Shared) (us:List Value),K.In s.heap->(us++ds).length=ps.length->BindsTo s fd ⟨us,[]⟩ (ps.zip (us++ds))
theorem Binds.all {K:W.Frag} {fd:FuncData} {ps:List Str} (h:∀ us:List Value,us.length=ps.length->bindArgs fd ⟨us,[]⟩=pure (ps.zip us)):Binds K fd ps []:=fun s us _ hl=>by
 rw [yBI] at hl ⊢
 exact .of_eq (h us hl)
noncomputable def ZA3 (CX:CXT) (X:Cx) (E:XK):Prop:=∀ (pins:List (Addr×Obj)) (σ:St) (H:Hp) (s:Shared) (e:Value) (s':Shared),Inv X pins σ H s->CX X.stack H s E e s'->X.xe e s'
section
variable {X:Cx} {CX:CXT} {k:Nat} {f C:Addr} {fd:FuncData} {ps:List Str} {sp:Sp} {dvs:List V} {ds:List Value} {E:XK} {x m:Str} {p pos apos:Pos} {e o:Expr} {es:List Expr} {ta:TE} {t:TA}
theorem ZEW {pins:List (Addr×Obj)} {σ:St} {H:Hp} {s:Shared} {Q:VK} {us:List Value} {vs:List V} (F:FnOk X.prog X.w X.K X.mg X.base CX k f fd ps sp) (hr:Room k X.A) (hb:Binds X.K fd ps ds) (hd:Vals dvs ds) (hx:ZA3 CX X E)
  (I:Inv X pins σ H s) (r:Vals vs us) (h:sp (vs++dvs) H Q E):wpAny (model X.prog X.w) X.A (call (.ref f) us) (EP X pins σ Q) X.xe s:=by
 have r2:Vals (vs++dvs) (us++ds):=r.append hd
 have hl:(us++ds).length=ps.length:=by rw [<- r2.length];exact F.len _ _ _ _ h
 refine wpAny_call (codeAny_mono (F.run X.A X.stack s H ⟨us,[]⟩ (us++ds) (vs++dvs) Q E hr I.env0 (hb s us I.kIn hl) r2 h) fun r s' hq=>?_)
 cases r with
 | error e=>exact hx pins σ H s e s' I hq
 | ok fl=>
  cases fl with
  | ret u=>exact I.after hq
  | next=>exact False.elim hq
  | brk=>exact False.elim hq
  | cont=>exact False.elim hq
theorem pe_call (F:FnOk X.prog X.w X.K X.mg X.base CX k f fd ps sp) (hr:Room k X.A) (hg:Gl X x) (hm:X.mg x=some (.ref f)) (hk:W.keepIn X.K (.ref f)=true) (hb:Binds X.K fd ps ds) (hd:Vals dvs ds) (hx:ZA3 CX X E)
  (ha:PA X (e::es) t) (hdb:(x == ("__debug__":Str))=false:=by decide) (he:starEach (e::es) X.env=(false,eval e X.env)::starEach es X.env:=by rfl) (hpl:(backTo pos (starEach es X.env)).any (·.1)=false:=by rfl) :
  PE X (.Call (.Name x p) (e::es) [] pos) (ZEQ sp dvs E t):=by
 intro pins s σ H Q I h
 refine wpAny_Call_Name_kw (ZCO I hg hm ?_ hdb)
 refine PySem.W.callWith_K (h₀:=X.base) I.ok.mod.kin hk (thn (ha pos pins s σ H _ I h) fun us s1 ⟨vs,H1,I1,r,q⟩=>⟨I1.kIn,?_⟩) he hpl
 exact ZEW F hr hb hd hx I1 r q
theorem pe_meth {pl:Sem Bool} (he:PE X o ta) (c:Cls X.K C) (hm:Meth X.K C m f) (F:FnOk X.prog X.w X.K X.mg X.base CX k f fd ps sp) (hr:Room k X.A) (hb:Binds X.K fd ps ds) (hd:Vals dvs ds) (hx:ZA3 CX X E) (ha:PA X (e::es) t)
  (hst:starEach (e::es) X.env=(false,eval e X.env)::starEach es X.env:=by rfl) (hpl:(backTo pos (starEach es X.env)).any (·.1)=false:=by rfl)
  (ht:eval (.Call (.Attribute o m apos) (e::es) [] pos) X.env=(do
   let ov <- eval o X.env
   standAt apos.atName
   let (f,first) <- holding [ov] (getMethod ov m pl)
   callWith pos f first (backTo pos (starEach (e::es) X.env)) (backToKw pos (keywordEach [] X.env))):=by rfl) :
  PE X (.Call (.Attribute o m apos) (e::es) [] pos) (ZEG C m sp dvs E ta t):=by
 intro pins s σ H Q I h
 refine PySem.W.methodCall_KW (pl:=pl) (thn (he pins s σ H _ I h) fun u s1 zz=>?_) ht
 obtain ⟨x,H1,I1,rx,a,dx,fs,ex,ea,l,q⟩:=zz
 subst ex
 obtain rfl:u=Value.ref a:=rx
 refine getmeth_ok I1 ea c hm l ?_
 refine PySem.W.callWith_K (first:=[.ref a]) (h₀:=X.base) I.ok.mod.kin hm.kp (thn (ha pos pins s1 σ H1 _ I1 q) fun us s2 ⟨vs,H2,I2,r,q2⟩=>⟨I2.kIn,?_⟩) hst hpl
 exact ZEW (us:=.ref a::us) (vs:=.ref a::vs) F hr hb hd hx I2 (.cons rfl r) q2
theorem pe_meth0 {pl:Sem Bool} (he:PE X o ta) (c:Cls X.K C) (hm:Meth X.K C m f) (F:FnOk X.prog X.w X.K X.mg X.base CX k f fd ps sp) (hr:Room k X.A) (hb:Binds X.K fd ps ds) (hd:Vals dvs ds) (hx:ZA3 CX X E)
  (ht:eval (.Call (.Attribute o m apos) [] [] pos) X.env=(do
   let ov <- eval o X.env
   standAt apos.atName
   let (f,first) <- holding [ov] (getMethod ov m pl)
   callWith pos f first (backTo pos (starEach [] X.env)) (backToKw pos (keywordEach [] X.env))):=by rfl) :
  PE X (.Call (.Attribute o m apos) [] [] pos) (ZEG C m sp dvs E ta tNil):=by
 intro pins s σ H Q I h
 refine PySem.W.methodCall_KW (pl:=pl) (thn (he pins s σ H _ I h) fun u s1 zz=>?_) ht
 obtain ⟨x,H1,I1,rx,a,dx,fs,ex,ea,l,q⟩:=zz
 subst ex
 obtain rfl:u=Value.ref a:=rx
 refine getmeth_ok I1 ea c hm l ?_
 exact PySem.W.callWith_K0 (first:=[.ref a]) I1.kIn hm.kp (ZEW (us:=[.ref a]) (vs:=[.ref a]) F hr hb hd hx I1 (.cons rfl .nil) q)
structure Mk (K:W.Frag) (C f:Addr):Prop where
 makes:PySem.W.makesIn K C=true
 init:W.findIn K (.ref C) "__init__"=some (some (.ref f))
 fn:PySem.W.isFn K (.ref f)=true
 kp:W.keepIn K (.ref C)=true
theorem run_make {pins:List (Addr×Obj)} {σ:St} {H:Hp} {s:Shared} {Q:VK} {us:List Value} {vs:List V} (M:Mk X.K C f) (F:FnOk X.prog X.w X.K X.mg X.base CX k f fd ps sp) (hr:Room (k+1) X.A) (hb:Binds X.K fd ps ds) (hd:Vals dvs ds)
  (hx:ZA3 CX X E) (I:Inv X pins σ H s) (r:Vals vs us)
  (h:∀ x dx,H x=none->H dx=none->dx≠x->sp (.ref x::(vs++dvs)) (upd (upd H dx (.own x)) x (.ins C dx [])) (fun v H2=>v=.non /\ Q (.ref x) H2) E) :
  wpAny (model X.prog X.w) X.A (call (.ref C) us) (EP X pins σ Q) X.xe s:=by
 have hq:=h (s.heap.objs.size+1) s.heap.objs.size (I.hok.fresh (yAR _)) (I.hok.fresh (yAA _)) (yAE (yBN _))
 have I2:=Inv.made (C:=C) I
 have r2:Vals (V.ref (s.heap.objs.size+1)::(vs++dvs)) (Value.ref (s.heap.objs.size+1)::(us++ds)):=.cons rfl (r.append hd)
 have hl:(Value.ref (s.heap.objs.size+1)::us++ds).length=ps.length:=by
  have e:=r2.length
  rw [F.len _ _ _ _ hq] at e
  exact e.symm
 refine wpAny_call (make_map (f:=f) I.kIn M.makes M.init (beq_iff_eq.mp M.fn) (codeAny_mono (F.run _ X.stack _ _ ⟨Value.ref (s.heap.objs.size+1)::us,[]⟩ (Value.ref (s.heap.objs.size+1)::(us++ds)) _ _ E (hr.make C us [])
  (I2.env0.make C us []) (hb _ (Value.ref (s.heap.objs.size+1)::us) I2.kIn hl) r2 hq) fun r s' hq'=>?_))
 cases r with
 | error e=>exact hx pins σ _ _ e s' I2 hq'
 | ok fl=>
  cases fl with
  | ret u=>
   obtain ⟨v,H',I3,rv,ev,q3⟩:=I2.after hq'
   subst ev
   exact ⟨rv,⟨V.ref (s.heap.objs.size+1),H',I3,rfl,q3⟩⟩
  | next=>exact False.elim hq'
  | brk=>exact False.elim hq'
  | cont=>exact False.elim hq'
theorem pe_make (M:Mk X.K C f) (F:FnOk X.prog X.w X.K X.mg X.base CX k f fd ps sp) (hr:Room (k+1) X.A) (hg:Gl X x) (hm:X.mg x=some (.ref C)) (hb:Binds X.K fd ps ds) (hd:Vals dvs ds) (hx:ZA3 CX X E)
  (ha:PA X (e::es) t) (hdb:(x == ("__debug__":Str))=false:=by decide) (he:starEach (e::es) X.env=(false,eval e X.env)::starEach es X.env:=by rfl) (hpl:(backTo pos (starEach es X.env)).any (·.1)=false:=by rfl) :
  PE X (.Call (.Name x p) (e::es) [] pos) (ZEN C sp dvs E t):=by
 intro pins s σ H Q I h
 refine wpAny_Call_Name_kw (ZCO I hg hm ?_ hdb)
 refine PySem.W.callWith_K (h₀:=X.base) I.ok.mod.kin M.kp (thn (ha pos pins s σ H _ I h) fun us s1 ⟨vs,H1,I1,r,q⟩=>⟨I1.kIn,?_⟩) he hpl
 exact run_make M F hr hb hd hx I1 r q
end
section
variable {X:Cx} {CX:CXT} {k:Nat} {f C:Addr} {fd:FuncData} {ps ks:List Str} {sp:Sp} {E:XK} {x m:Str} {p pos apos kpos:Pos} {e o:Expr} {es:List Expr} {kws:List Keyword} {te ta:TE} {t tk:TA} {nm:Option Str}
variable {g:List Value->List Value->List Value} {gV:List V->List V->List V}
end
structure FnScope (N P:List Str) (sc:Scope):Prop where
 kind:sc.kind=.function
 co:sc.isCoroutine=false
 gen:sc.isGenerator=false
 nd:N.Nodup
 pre:N.take P.length=P
 par:∀ x∈P,sc.names.lookup x=some .local∨sc.names.lookup x=some .cell
 nofree:∀ y∈sc.names,y.2≠.free
theorem bindL_out {kindOf:Str->Option NameKind} {x:Str}:∀ {binds:List (Str×Value)} {m:Str->Option Value},(∀ v,(x,v)∉binds)->bindL kindOf binds m x=m x
 | [],_,_=>rfl
 | (n,v)::r,m,h=>by
  unfold bindL
  rw [bindL_out fun w hw=>h w (yAO _ hw)]
  split
  .have:x≠n:=by rintro rfl;exact h v yAN
   simp [this]
  .rfl
theorem bindC_out {kindOf:Str->Option NameKind} {x:Str}:∀ {binds:List (Str×Value)} {m:Str->Option Value},(∀ v,(x,v)∉binds)->bindC kindOf binds m x=m x
 | [],_,_=>rfl
 | (n,v)::r,m,h=>by
  unfold bindC
  rw [bindC_out fun w hw=>h w (yAO _ hw)]
  split
  .rfl
  .have:x≠n:=by rintro rfl;exact h v yAN
   simp [this]
theorem bindL_get {kindOf:Str->Option NameKind} {x:Str} {v:Value}:∀ {P:List Str} {vs:List Value} {i:Nat} {m:Str->Option Value},P.Nodup->P[i]?=some x->vs[i]?=some v->kindOf x=some .local ->
  bindL kindOf (P.zip vs) m x=some v
 | [],_,_,_,_,h,_,_=>by simp at h
 | _::_,[],_,_,_,_,h,_=>by simp at h
 | p::P,w::vs,0,m,nd,h1,h2,hk=>by
  simp at h1 h2;subst h1;subst h2
  show bindL kindOf ((p,w)::P.zip vs) m p=_
  unfold bindL
  rw [bindL_out fun v hv=>(List.nodup_cons.mp nd).1 (List.of_mem_zip hv).1,if_pos hk]
  simp
 | p::P,w::vs,i+1,m,nd,h1,h2,hk=>by
  show bindL kindOf ((p,w)::P.zip vs) m x=_
  unfold bindL
  exact bindL_get (i:=i) (List.nodup_cons.mp nd).2 (by simpa using h1) (by simpa using h2) hk
theorem bindC_get {kindOf:Str->Option NameKind} {x:Str} {v:Value}:∀ {P:List Str} {vs:List Value} {i:Nat} {m:Str->Option Value},P.Nodup->P[i]?=some x->vs[i]?=some v->kindOf x≠some .local ->
  bindC kindOf (P.zip vs) m x=some v
 | [],_,_,_,_,h,_,_=>by simp at h
 | _::_,[],_,_,_,_,h,_=>by simp at h
 | p::P,w::vs,0,m,nd,h1,h2,hk=>by
  simp at h1 h2;subst h1;subst h2
  show bindC kindOf ((p,w)::P.zip vs) m p=_
  unfold bindC
  rw [bindC_out fun v hv=>(List.nodup_cons.mp nd).1 (List.of_mem_zip hv).1,if_neg hk]
  simp
 | p::P,w::vs,i+1,m,nd,h1,h2,hk=>by
  show bindC kindOf ((p,w)::P.zip vs) m x=_
  unfold bindC
  exact bindC_get (i:=i) (List.nodup_cons.mp nd).2 (by simpa using h1) (by simpa using h2) hk
noncomputable def start (N:List Str) (vs:List V):St:=vs.map some++List.replicate (N.length-vs.length) none
noncomputable def cxOf (CX:CXT) (P:Program) (w:World) (K:W.Frag) (mg:Str->Option Value) (base:Heap) (N:List Str) (qual:Str) (scope:Scope) (f:Addr) (cd:Value) (A:Around) (outer:List Env) (s:Shared) (H:Hp) (E:XK):Cx where
 prog:=P
 w:=w
 K:=K
 mg:=mg
 base:=base
 A:=A.deeper (envOfC qual scope s.heap.objs.size f cd)
 N:=N
 s₀:=s
 H₀:=H
 env:=envOfC qual scope s.heap.objs.size f cd
 outer:=outer
 stack:=envOfC qual scope s.heap.objs.size f cd::outer
 ex:=[]
 calm:=true
 fn:=fun _=>true
 pn:=[]
 xe:=fun e s'=>wpAny (model P w) (A.deeper (envOfC qual scope s.heap.objs.size f cd)) (leaving (envOfC qual scope s.heap.objs.size f cd) e) (fun _ s''=>CX outer H s E e s'') (fun e' s''=>CX outer H s E e' s'') s'
theorem ZCg {sc:Scope} {n:Nat} {x:Str} (h:sc.names.lookup x=some .cell):∃ c,(cellsFrom n sc.names []).lookup x=some c:=by
 have q:=PySem.W.cellsFrom_some sc.names n [] (.inl h)
 exact Option.isSome_iff_exists.mp q
theorem inv_start {CX:CXT} {P:Program} {w:World} {K:W.Frag} {mg:Str->Option Value} {base:Heap} {N ps:List Str} {qual:Str} {scope:Scope} {f:Addr} {cd:Value} {A:Around} {outer:List Env} {s s1:Shared} {H:Hp} {E:XK} {us:List Value} {vs:List V}
  (S:FnScope N ps scope) (hd:A.handled=none) (e0:Env0 P w K mg base A outer s H) (hl:vs.length=ps.length) (r:Vals vs us)
  (x:InCallC s s.heap.objs.size (bindL (envOfC qual scope s.heap.objs.size f cd).kindOf (ps.zip us) fun _=>none) (cellsFrom (s.heap.objs.size+1) scope.names []) (bindC (envOfC qual scope s.heap.objs.size f cd).kindOf (ps.zip us) fun _=>none) s1) :
  Inv (cxOf CX P w K mg base N qual scope f cd A outer s H E) [] (start N vs) H s1:=by
 have hpl:ps.length <= N.length:=by have:=congrArg List.length S.pre;rw [yAK] at this;omega
 obtain ⟨h1,tk,rfl,hk⟩:=x.done
 have noA:∀ b:Addr,b∉(cxOf CX P w K mg base N qual scope f cd A outer s H E).ex:=fun b z=>absurd (show b∈([]:List Addr) from z) (by simp)
 refine ⟨⟨e0.mod,S.kind,rfl,rfl,yAA _,fun y z c h1 h2=>?_,fun y hy=>?_,fun y c _ h=>?_,fun _=>hd,Around.frames_deeper e0.frames,.inr ⟨rfl,rfl⟩,fun b z=>absurd z (noA b),e0.bs,e0.bsz,fun b _ _=>noA b,fun b z=>absurd z (noA b),e0.funs,e0.frf⟩,
  rfl,e0.bare,Un.kept hk,⟨_,x.toInCall.ns,fun i y v h1 h2 h3=>?_⟩,fun y c h=>⟨_,x.cell y c h⟩,e0.hok.fresh (yAA _),fun y c h=>?_,fun p hp=>absurd (show p∈([]:List (Addr×Obj)) from hp) (by simp),e0.hok.kept hk,?_⟩
 .exact name_of_addr x.apart (PySem.mem_of_lookup h1) (PySem.mem_of_lookup h2)
 .have hy:scope.names.lookup y=some .cell∨scope.names.lookup y=some .free:=hy
  rcases hy with hy | hy
  .exact ZCg hy
  .exact absurd rfl (S.nofree _ (PySem.mem_of_lookup hy))
 .exact yBH (x.above y c (PySem.mem_of_lookup h))
 .have hi:i < vs.length:=by
   unfold start at h2
   by_cases hi:i < vs.length
   .exact hi
   .rw [yAY (by simpa using hi)] at h2
    rw [List.getElem?_replicate] at h2
    split at h2 <;> cases h2
  have ha:vs[i]?=some v:=by
   unfold start at h2
   rw [yAZ (by simpa using hi),yAP] at h2
   cases e:vs[i]? with
   | none=>rw [e] at h2;cases h2
   | some a=>rw [e] at h2;cases h2;rfl
  obtain ⟨u,hu,rv⟩:=r.get ha
  have hp:ps[i]?=some y:=by
   rw [<- S.pre,yBQ (by omega)];exact h1
  have ndP:ps.Nodup:=by rw [<- S.pre];exact S.nd.sublist (List.take_sublist _ _)
  refine ⟨u,rv,?_⟩
  rcases S.par y (yBD hp) with k | k
  .exact .inl ⟨k,bindL_get ndP hp hu k⟩
  .obtain ⟨c,e⟩:=ZCg (n:=s.heap.objs.size+1) k
   refine .inr ⟨.inl k,c,e,?_⟩
   have q:=x.cell y c e
   rw [bindC_get ndP hp hu (by show scope.names.lookup y≠_;rw [k];decide)] at q
   exact q
 .exact e0.hok.fresh (yBH (x.above y c (PySem.mem_of_lookup h)))
 .unfold start
  show _=N.length
  rw [yAF,yAB,yBW]
  omega
theorem ZEl {CX:CXT} {P:Program} {w:World} {K:W.Frag} {mg:Str->Option Value} {base:Heap} {k:Nat} {f:Addr} {name qual:Str} {params:Arguments} {body:List Stmt} {scope:Scope} {dV kV doc pm cdv ct oc:Value} {an od:Option Addr}
  {osl:Array (Option Value)} {N ps:List Str} {sp:Sp} (lk:K.lookup f=some ⟨oc,od,.func (W.fnOf name qual params body scope dV kV doc pm an cdv ct),osl⟩) (hcd:W.codeIn K cdv qual=true) (S:FnScope N ps scope)
  (len:∀ vs H Q E,sp vs H Q E->vs.length=ps.length)
  (hbody:∀ (A:Around) (outer:List Env) (s:Shared) (H:Hp) (vs:List V) (Q:VK) (E:XK),Room k (A.deeper (envOfC qual scope s.heap.objs.size f cdv))->sp vs H Q E ->
   ∃ t,PSs (cxOf CX P w K mg base N qual scope f cdv A outer s H E) body t /\ t { nx:=fun _ H'=>Q .non H',rt:=Q } (start N vs) H) :
  FnOk P w K mg base CX (k+1) f (W.fnOf name qual params body scope dV kV doc pm an cdv ct) ps sp:=by
 refine ⟨len,fun A outer s H args us vs Q E hr e0 hb r hsp=>?_⟩
 have hl:=len _ _ _ _ hsp
 have KX:K.In s.heap:=e0.mod.kin.keeps fun b o e=>(e0.bs b o e).1
 have lim:s.heap.NoLimit:=e0.mod.nolimit.keeps fun b o e=>(e0.bs b o e).1
 have hkind:∀ y∈ps.zip us,scope.names.lookup y.1=some .local∨(scope.names.lookup y.1=some .cell /\ ((cellsFrom (s.heap.objs.size+1) scope.names []).lookup y.1).isSome=true):=fun ⟨n,v⟩ hy=>by
  rcases S.par n (List.of_mem_zip hy).1 with q | q
  .exact .inl q
  .exact .inr ⟨q,PySem.W.cellsFrom_some _ _ _ (.inl q)⟩
 refine codeAny_call_function hr.depth (KX _ _ lk) rfl S.co S.gen rfl (PySem.W.codeRec_of KX hcd) (hb _ _ _ _ ?_)
 refine wpAny_newFunctionEnv_cells S.kind hkind fun env he s1 x=>?_
 subst he
 refine ⟨lim.keeps x.toInCall.keep,codeAny_func ?_⟩
 obtain ⟨t,ht,hq⟩:=hbody A outer s H vs Q E (hr.deeper _) hsp
 have I:Inv (cxOf CX P w K mg base N qual scope f cdv A outer s H E) [] (start N vs) H s1:=inv_start S hr.hd e0 hl r x
 refine wpAny_mono (ht [] s1 (start N vs) H _ I hq) (fun fl s' hs=>?_) fun e s' hs=>hs
 have fin:∀ {σ':St} {H':Hp} {v:V} {u:Value},Inv (cxOf CX P w K mg base N qual scope f cdv A outer s H E) [] σ' H' s'->RelV v u->Q v H'->CE outer P w H s Q u s' :=
  fun {σ' H' v u} J rv q=>⟨v,H',J.os,J.bare,J.base,J.hok,rv,q⟩
 cases fl with
 | ret u=>
  obtain ⟨v,σ',H',J,rv,q⟩:=hs
  exact fin J rv q
 | next=>
  obtain ⟨σ',H',J,q⟩:=hs
  exact fin (v:=V.non) (u:=Value.none) J rfl q
 | brk=>
  obtain ⟨_,_,_,q⟩:=hs
  exact False.elim q
 | cont=>
  obtain ⟨_,_,_,q⟩:=hs
  exact False.elim q
section
variable {X:Cx} {x:Str} {p pos:Pos} {e:Expr} {es:List Expr} {t:TA} {id T:String} {r:List V->Hp->VK->Prop}
noncomputable def tCB (r:List V->Hp->VK->Prop) (t:TA):TE:=fun σ H Q=>t σ H fun vs H1=>r vs H1 Q
theorem ZAM (hc:ZBr X (.builtin id) r) (hg:Gl X x) (hm:X.mg x=none) (hv:bootBuiltins x=some (.builtin id)) (ha:PA X (e::es) t) (hn:x≠"__name__":=by decide) (hdb:(x == ("__debug__":Str))=false:=by decide)
  (he:starEach (e::es) X.env=(false,eval e X.env)::starEach es X.env:=by rfl) (hpl:(backTo pos (starEach es X.env)).any (·.1)=false:=by rfl):PE X (.Call (.Name x p) (e::es) [] pos) (tCB r t):=by
 intro pins s σ H Q I h
 refine wpAny_Call_Name_kw (ZCR I hg hm hv ?_ hn hdb)
 exact PyProof.Rows.callWith_builtin1 (thn (ha pos pins s σ H _ I h) fun us s1 ⟨vs,H1,I1,r1,q1⟩=>hc pins s1 σ H1 vs us Q I1 r1 q1) he hpl
theorem ZCE (hc:ZBr X (.type T) r) (hg:Gl X x) (hm:X.mg x=none) (hv:bootBuiltins x=some (.type T)) (ha:PA X (e::es) t) (hn:x≠"__name__":=by decide) (hdb:(x == ("__debug__":Str))=false:=by decide)
  (he:starEach (e::es) X.env=(false,eval e X.env)::starEach es X.env:=by rfl) (hpl:(backTo pos (starEach es X.env)).any (·.1)=false:=by rfl):PE X (.Call (.Name x p) (e::es) [] pos) (tCB r t):=by
 intro pins s σ H Q I h
 refine wpAny_Call_Name_kw (ZCR I hg hm hv ?_ hn hdb)
 exact PyProof.Rows.callWith_type1 (thn (ha pos pins s σ H _ I h) fun us s1 ⟨vs,H1,I1,r1,q1⟩=>hc pins s1 σ H1 vs us Q I1 r1 q1) he hpl
end
end L2
namespace HT
open PySem PyProof.Rows
section
open PySem.SeqAt
open PySem.AutoSeq1 (wpAny_loadPart')
open PySem.MeetsSeq PySem.MeetsSeq2 PySem.MeetsSeq3
end
section
variable {prog:Program} {w:World} {A:Around} {E:Value->Shared->Prop} {s:Shared}
noncomputable def sIx (n d:Nat):Option Int->Nat
 | none=>d
 | some v=>if v < 0 then (v+(n:Int)).toNat else min v.toNat n
theorem sIx_none (n d:Nat):sIx n d none=d:=rfl
theorem sIx_nat (n d k:Nat):sIx n d (some (k:Int))=min k n:=by
 show (if (k:Int) < 0 then ((k:Int)+(n:Int)).toNat else min (k:Int).toNat n)=min k n
 rw [if_neg (by omega),Int.toNat_natCast]
end
end HT
namespace L2
open PySem PySem.Spec PyProof.Rows
noncomputable abbrev TO:=St->Hp->(Option Int->Hp->Prop)->Prop
noncomputable def PO (X:Cx) (e:Option Expr) (t:TO):Prop :=
 ∀ (pins:List (Addr×Obj)) (s:Shared) (σ:St) (H:Hp) (Q:Option Int->Hp->Prop),Inv X pins σ H s->t σ H Q ->
  wpAny (model X.prog X.w) X.A (evalPart e X.env) (fun u s'=>∃ o H',Inv X pins σ H' s' /\ IsPart u o /\ Q o H') X.xe s
noncomputable def ZDm:TO:=fun _ H Q=>Q none H
noncomputable def ZEo (t:TE):TO:=fun σ H Q=>t σ H fun x H1=>∃ i,x=.int i /\ Q (some i) H1
theorem intsAre_of {ns:List Int}:∀ {us:List Value},Vals (ns.map V.int) us->IntsAre us ns:=by
 induction ns with
 | nil=>intro us r;rw [List.map_nil] at r;cases r;exact .nil
 | cons n ns ih=>
  intro us r
  rw [yAQ] at r
  cases r with
  | cons r1 r2=>
   obtain ⟨t,e⟩:=r1
   subst e
   exact .cons n t (ih r2)
section
variable {X:Cx} {e:Expr} {te:TE} {lo hi:Option Expr} {tl th:TO} {pos p2:Pos}
theorem ZCr:PO X none ZDm:=by
 intro pins s σ H Q I h
 rw [evalPart_none]
 exact wpAny_pure ⟨none,H,I,.none,h⟩
theorem ZBS (h:PE X e te):PO X (some e) (ZEo te):=by
 intro pins s σ H Q I hw
 rw [evalPart_some]
 refine thn (h pins s σ H _ I hw) fun u s1 zz=>?_
 obtain ⟨x,H1,I1,r1,q1⟩:=zz
 obtain ⟨i,rfl,q⟩:=q1
 obtain ⟨t,rfl⟩:=r1
 exact ⟨some i,H1,I1,.int i t,q⟩
noncomputable def SlR (X:Cx) (r:V->Option Int->Option Int->Hp->VK->Prop):Prop :=
 ∀ (pins:List (Addr×Obj)) (s:Shared) (σ:St) (H:Hp) (x:V) (v vl vu:Value) (lo hi:Option Int) (sl:Addr) (Q:VK),Inv X pins σ H s->RelV x v->s.heap.IsSliceOf sl vl vu .none->IsPart vl lo->IsPart vu hi->r x lo hi H Q ->
  ∃ T id,typeLookup (.type T) "__getitem__"=pure (some (.builtin id)) /\ s.TypeIs v T /\ wpAny (model X.prog X.w) X.A (getItem v (.ref sl)) (EP X pins σ Q) X.xe s
noncomputable def tSl (r:V->Option Int->Option Int->Hp->VK->Prop) (te:TE) (tl th:TO):TE:=fun σ H Q=>te σ H fun x H1=>tl σ H1 fun l H2=>th σ H2 fun u H3=>r x l u H3 Q
theorem ZBT {r:V->Option Int->Option Int->Hp->VK->Prop} (hr:SlR X r) (he:PE X e te) (hl:PO X lo tl) (hu:PO X hi th):PE X (.Subscript e (.Slice lo hi none p2) pos) (tSl r te tl th):=by
 intro pins s σ H Q I h
 refine Subscript_ (thn (he pins s σ H _ I h) fun v s1 zz=>?_)
 obtain ⟨x,H1,I1,r1,q1⟩:=zz
 refine wpAny_Slice (thn (hl pins s1 σ H1 _ I1 q1) fun vl s2 ⟨l,H2,I2,pl,q2⟩=>thn (hu pins s2 σ H2 _ I2 q2) fun vu s3 zz=>?_)
 obtain ⟨u,H3,I3,pu,q3⟩:=zz
 rw [evalPart_none]
 refine wpAny_pure ?_
 have I4:Inv X pins σ H3 { s3 with heap:=s3.heap.push { cls:=.type "slice",data:=.fields #[vl,vu,.none] } }:=I3.kept (t':=s3.toks) fun b ob q=>Heap.get?_push_of_some _ q
 obtain ⟨T,id,hT,ht,hg⟩:=hr pins { s3 with heap:=s3.heap.push { cls:=.type "slice",data:=.fields #[vl,vu,.none] } } σ H3 x v vl vu l u s3.heap.objs.size Q I4 r1 (Heap.IsSliceOf.new ..) pl pu q3
 show wpAny (model X.prog X.w) X.A (subscriptTail e (.Slice lo hi none p2) v (.ref s3.heap.objs.size)) (EP X pins σ Q) X.xe { s3 with heap:=s3.heap.push { cls:=.type "slice",data:=.fields #[vl,vu,.none] } }
 exact tail_any (ops:=[.ref s3.heap.objs.size,v]) ht hT hg (by with_unfolding_all rfl)
noncomputable def cutV (xs:List V) (lo hi:Option Int):List V:=(xs.drop (HT.sIx xs.length 0 lo)).take (HT.sIx xs.length xs.length hi-HT.sIx xs.length 0 lo)
theorem cutV_length (xs:List V) (lo hi:Option Int):(cutV xs lo hi).length <= xs.length:=by
 unfold cutV
 rw [yAK,yBE]
 omega
end
noncomputable def ixN (n:Nat) (i:Int):Option Nat:=if 0 <= i then (if i < n then some i.toNat else none) else if -(n:Int) <= i then some (i+n).toNat else none
noncomputable def atI {α:Type} (xs:List α) (i:Int):Option α:=(ixN xs.length i).bind fun j=>xs[j]?
theorem ixN_seq {n:Nat} {i:Int} {j:Nat} (h:ixN n i=some j):seqIndex? i n=some j /\ j < n /\ -(n:Int) <= i /\ i < n:=by
 unfold ixN at h
 by_cases h0:0 <= i
 .rw [if_pos h0] at h
  by_cases h1:i < n
  .rw [if_pos h1] at h
   have e:i.toNat=j:=Option.some.inj h
   exact ⟨by rw [seqIndex_of h0 h1,e],by omega,by omega,h1⟩
  .rw [if_neg h1] at h;cases h
 .rw [if_neg h0] at h
  by_cases h1:-(n:Int) <= i
  .rw [if_pos h1] at h
   have e:(i+n).toNat=j:=Option.some.inj h
   exact ⟨by rw [seqIndex_neg (by omega) h1,e],by omega,h1,by omega⟩
  .rw [if_neg h1] at h;cases h
theorem atI_get {α:Type} {xs:List α} {i:Int} {v:α} (h:atI xs i=some v):∃ j,seqIndex? i xs.length=some j /\ xs[j]?=some v /\ j < xs.length /\ -(xs.length:Int) <= i /\ i < xs.length:=by
 unfold atI at h
 cases e:ixN xs.length i with
 | none=>rw [e] at h;cases h
 | some j=>
  rw [e] at h
  obtain ⟨h1,h2,h3,h4⟩:=ixN_seq e
  exact ⟨j,h1,h,h2,h3,h4⟩
theorem atI_nat {α:Type} {xs:List α} {j:Nat} {v:α} (h:xs[j]?=some v):atI xs (j:Int)=some v:=by
 have hj:j < xs.length:=(yAX.mp h).1
 have e:ixN xs.length (j:Int)=some j:=by
  unfold ixN
  rw [if_pos (by omega),if_pos (by omega)];simp
 unfold atI;rw [e];exact h
noncomputable def PlainIx (b:Expr):Prop:=∀ o i,subscripted b false o i=operate [o,i] (getItem o i)
noncomputable def IxR (X:Cx) (r:R2):Prop :=
 ∀ (value slice:Expr) (pins:List (Addr×Obj)) (s:Shared) (σ:St) (H:Hp) (x y:V) (v u:Value) (Q:VK),Inv X pins σ H s->RelV x v->RelV y u->r x y H Q ->
  subscripted slice false v u=operate [v,u] (getItem v u)->wpAny (model X.prog X.w) X.A (subscriptTail value slice v u) (EP X pins σ Q) X.xe s
noncomputable def MtR (X:Cx) (id:String) (r:V->List V->Hp->VK->Prop):Prop :=
 ∀ (pins:List (Addr×Obj)) (s:Shared) (σ:St) (H:Hp) (x:V) (xs:List V) (v:Value) (us:List Value) (Q:VK),Inv X pins σ H s->RelV x v->Vals xs us->r x xs H Q ->
  wpAny (model X.prog X.w) X.A (call (.builtin id) (v::us)) (EP X pins σ Q) X.xe s
section
variable {X:Cx} {a b:Expr} {ta tb:TE} {pos:Pos}
theorem ZBe {r:R2} (hr:IxR X r) (ha:PE X a ta) (hb:PE X b tb) (hs:PlainIx b):PE X (.Subscript a b pos) (tOp r ta tb):=by
 intro pins s σ H Q I h
 exact Subscript_ (binT ha hb I h fun v u s2 x y H2 I2 rx ry q=>hr a b pins s2 σ H2 x y v u Q I2 rx ry q (hs _ _))
noncomputable def rIxL (K:W.Frag):R2:=fun x y H Q=>∃ p xs i v,x=.ref p /\ y=.int i /\ SqL K H p xs /\ atI xs i=some v /\ Q v H
noncomputable def rIxT (K:W.Frag):R2:=fun x y H Q=>∃ p xs i v,x=.ref p /\ y=.int i /\ SqT K H p xs /\ atI xs i=some v /\ Q v H
theorem ZBW:IxR X (rIxL X.K):=by
 intro value slice pins s σ H x y v u Q I rx ry h hs
 obtain ⟨p,xs,i,z,rfl,rfl,hq,he,q⟩:=h
 cases rx
 obtain ⟨t,rfl⟩:=ry
 obtain ⟨its,r,pl,hz⟩:=I.list hq
 obtain ⟨j,h1,h2,h3,h4,h5⟩:=atI_get he
 obtain ⟨w,ew,rw'⟩:=r.get h2
 have hl:=r.length
 have hn:=ZEc
 have fin:EP X pins σ Q w s:=⟨z,H,I,rw',q⟩
 by_cases h0:0 <= i
 .have hj:i.toNat=j:=by
   rw [seqIndex_of h0 h5] at h1
   exact Option.some.inj h1
  exact item_listR pl.isList h0 (by omega) (by rw [hj];simpa using ew) fin hs
 .have hj:(i+(its.toArray.size:Int)).toNat=j:=by
   rw [seqIndex_neg (by omega) h4] at h1
   rw [yAL,<- hl]
   exact Option.some.inj h1
  exact subscriptTail_builtinR (x:=w) pl.isList.typeIs slot_list_getitem.lookup
   (wpAny_getItem_list_neg (Q:=fun r s'=>r=w /\ EP X pins σ Q r s') pl.isList (by omega) (by rw [yAL] <;> omega) (by omega) (by rw [hj];simpa using ew) ⟨rfl,fin⟩) hs
theorem ZCS:IxR X (rIxT X.K):=by
 intro value slice pins s σ H x y v u Q I rx ry h hs
 obtain ⟨p,xs,i,z,rfl,rfl,hq,he,q⟩:=h
 cases rx
 obtain ⟨t,rfl⟩:=ry
 obtain ⟨its,r,pl,hz⟩:=I.tuple hq
 obtain ⟨j,h1,h2,h3,h4,h5⟩:=atI_get he
 obtain ⟨w,ew,rw'⟩:=r.get h2
 have hl:=r.length
 have hn:=ZEc
 have fin:EP X pins σ Q w s:=⟨z,H,I,rw',q⟩
 exact subscriptTail_builtinR (x:=w) pl.typeIs slot_tuple_getitem.lookup
  (getItem_tuple (j:=j) (Q:=fun r s'=>r=w /\ EP X pins σ Q r s') pl (by omega) (by omega) (by rw [yAL,<- hl];exact h1) (by simpa using ew) ⟨rfl,fin⟩) hs
theorem slice_bounds (lo hi:Option Int) (n:Nat):(sliceBounds lo hi none n).1=((HT.sIx n 0 lo:Nat):Int) /\ (sliceBounds lo hi none n).2.1=((HT.sIx n n hi:Nat):Int) /\ (sliceBounds lo hi none n).2.2=1:=by
 refine ⟨?_,?_,rfl⟩
 .cases lo with
  | none=>simp [sliceBounds,HT.sIx]
  | some i=>
   simp only [sliceBounds,HT.sIx,Option.getD_none,show (1:Int) > 0 by decide,if_true]
   by_cases h:i < 0
   .simp only [h,if_true] <;> omega
   .simp only [h,if_false] <;> omega
 .cases hi with
  | none=>simp [sliceBounds,HT.sIx]
  | some i=>
   simp only [sliceBounds,HT.sIx,Option.getD_none,show (1:Int) > 0 by decide,if_true]
   by_cases h:i < 0
   .simp only [h,if_true] <;> omega
   .simp only [h,if_false] <;> omega
theorem slicePick_cut (its:List Value) (lo hi:Option Int):slicePick its.toArray lo hi none=((its.drop (HT.sIx its.length 0 lo)).take (HT.sIx its.length its.length hi-HT.sIx its.length 0 lo)).toArray:=by
 obtain ⟨h1,h2,h3⟩:=slice_bounds lo hi its.toArray.size
 unfold slicePick
 rw [h1,h2,h3]
 simp only [sliceRange_one,pick_run,yAL] <;> rfl
noncomputable def rSlL (K:W.Frag):V->Option Int->Option Int->Hp->VK->Prop:=fun x lo hi H Q=>∃ a xs,x=.ref a /\ SqL K H a xs /\ ∀ p,H p=none->Q (.ref p) (upd H p (.lst (cutV xs lo hi)))
theorem ZB0:SlR X (rSlL X.K):=by
 intro pins s σ H x v vl vu lo hi sl Q I rx hs pl pu h
 obtain ⟨a,xs,rfl,hx,q⟩:=h
 cases rx
 obtain ⟨its,r,ht,hz⟩:=I.list hx
 have hlen:=r.length
 refine ⟨"list",_,slot_list_getitem.lookup,ht.isList.typeIs,?_⟩
 refine wpAny_getItem_list_slice ht.isList hs pl pu .none (by simp) ?_ (by rw [yAL] <;> omega)
 rw [slicePick_cut,<- hlen]
 refine ⟨.ref s.heap.objs.size,_,I.laid (t':=s.toks) (o:=.lst (cutV xs lo hi)) (fun b ob q=>Heap.get?_push_of_some _ q) (yAA _) ?_,rfl,q _ (I.hok.fresh (yAA _))⟩
 exact ⟨yAD (cutV_length xs lo hi) hz,_,0,(r.drop (HT.sIx xs.length 0 lo)).take (HT.sIx xs.length xs.length hi-HT.sIx xs.length 0 lo),Heap.get?_push_size _ rfl⟩
theorem ZAK:ZBr X (.builtin "len") (fun xs H Q=>∃ p ys,xs=[.ref p] /\ (SqL X.K H p ys∨SqT X.K H p ys) /\ Q (.int ys.length) H):=by
 intro pins s σ H xs us Q I r h
 obtain ⟨p,ys,rfl,hq,q⟩:=h
 obtain ⟨u,rfl,rx⟩:=ZCj r
 cases rx
 have hn:=ZEc
 rcases hq with hq | hq
 .obtain ⟨its,r',pl,hz⟩:=I.list hq
  have hlen:=r'.length
  exact Calls.call_len_list pl.isList (by simp only [yAL] <;> omega) ⟨.int ys.length,H,I.tok _,⟨s.toks+1,by rw [yAL,hlen]⟩,q⟩
 .obtain ⟨its,r',pl,hz⟩:=I.tuple hq
  have hlen:=r'.length
  exact len_tuple pl (by simp only [yAL] <;> omega) ⟨.int ys.length,H,I.tok _,⟨s.toks+1,by rw [yAL,hlen]⟩,q⟩
theorem call_list_of:ZBr X (.type "list") (fun xs H Q=>∃ p ys,xs=[.ref p] /\ (SqL X.K H p ys∨SqT X.K H p ys) /\ ∀ l,H l=none->Q (.ref l) (upd H l (.lst ys))):=by
 intro pins s σ H xs us Q I r h
 obtain ⟨p,ys,rfl,hq,q⟩:=h
 obtain ⟨u,rfl,rx⟩:=ZCj r
 cases rx
 have fin:∀ (its:List Value),Vals ys its->ys.length <= sizeLine->∀ (h':Heap) (c':Nat),(∀ b o',s.heap.get? b=some o'->h'.get? b=some o') ->
   h'.get? s.heap.objs.size=some { cls:=.type "list",dict:=none,data:=.seq its.toArray c',slots:=#[] }->EP X pins σ Q (.ref s.heap.objs.size) { s with heap:=h' }:=fun its r' hz h' c' kp e=>
  ⟨.ref s.heap.objs.size,_,I.laid (t':=s.toks) kp (yAA _) (show ObjOk X.prog X.w _ h' _ (.lst ys) from ⟨hz,its,c',r',e⟩),rfl,q _ (I.hok.fresh (yAA _))⟩
 rcases hq with hq | hq
 .obtain ⟨its,r',pl,hz⟩:=I.list hq
  have hlen:=r'.length
  obtain ⟨o,ho,hc,n,hd⟩:=pl.isList
  exact call_list_seq p (.inl rfl) ho hc hd (fun h' c' kp e=>fin its r' hz h' c' kp e) (by simp only [yAL] <;> omega)
 .obtain ⟨its,r',pl,hz⟩:=I.tuple hq
  have hlen:=r'.length
  obtain ⟨o,ho,hc,n,hd⟩:=pl
  exact call_list_seq p (.inr rfl) ho hc hd (fun h' c' kp e=>fin its r' hz h' c' kp e) (by simp only [yAL] <;> omega)
noncomputable def tyV (K:W.Frag) (T:String) (x:V) (H:Hp):Prop:=match x with
 | .str _=>T="str"
 | .int _=>T="int"
 | .ref p=>(T="list" /\ ∃ xs,SqL K H p xs)∨(T="tuple" /\ ∃ o,K.lookup p=some o /\ o.cls=.type "tuple" /\ o.dict=none) ∨
   (T="dict" /\ ((∃ kvs,H p=some (.dK kvs))∨∃ kvs,H p=some (.dT kvs)))∨(T="set" /\ ∃ S n,H p=some (.set S n))
 | _=>False
theorem tyV_is {pins:List (Addr×Obj)} {σ:St} {H:Hp} {s:Shared} {T:String} {x:V} {v:Value} (I:Inv X pins σ H s) (r:RelV x v) (ty:tyV X.K T x H) :
  s.TypeIs v T /\ ∀ a,v=.ref a->∃ ob,s.heap.get? a=some ob /\ ob.dict=none:=by
 cases x with
 | str z=>
  obtain ⟨t,rfl⟩:=r
  cases (show T="str" from ty)
  exact ⟨typeIs_str s z t,fun _ e=>nomatch e⟩
 | int i=>
  obtain ⟨t,rfl⟩:=r
  cases (show T="int" from ty)
  exact ⟨typeIs_int s i t,fun _ e=>nomatch e⟩
 | ref p=>
  cases r
  rcases ty with ⟨rfl,xs,hq⟩ | ⟨rfl,o,hk,hc,hd⟩ | ⟨rfl,hk⟩ | ⟨rfl,S,n,hk⟩
  .obtain ⟨its,_,pl,_⟩:=I.list hq
   refine ⟨pl.isList.typeIs,fun a e=>?_⟩
   cases e
   obtain ⟨o,n,e,c,hd,_⟩:=pl
   exact ⟨o,e,hd⟩
  .refine ⟨⟨o,I.kIn p o hk,hc⟩,fun a e=>?_⟩
   cases e
   exact ⟨o,I.kIn _ o hk,hd⟩
  .have z:∃ o,s.heap.get? p=some o /\ o.ExactDict:=by
    rcases hk with ⟨kvs,hk⟩ | ⟨kvs,hk⟩
    .obtain ⟨_,_,_,_,o,_,_,e,ex,_⟩:=I.hok p _ hk
     exact ⟨o,e,ex⟩
    .obtain ⟨_,_,_,_,o,_,_,e,ex,_⟩:=I.hok p _ hk
     exact ⟨o,e,ex⟩
   obtain ⟨o,e,ex⟩:=z
   refine ⟨⟨o,e,ex.1⟩,fun a e2=>?_⟩
   cases e2
   exact ⟨o,e,ex.2.1⟩
  .obtain ⟨o,_,_,_,e,ex,_⟩:=I.hok p _ hk
   refine ⟨⟨o,e,ex.1⟩,fun a e2=>?_⟩
   cases e2
   exact ⟨o,e,ex.2.1⟩
 | _=>exact False.elim ty
noncomputable def tBM0 (K:W.Frag) (T:String) (r:V->List V->Hp->VK->Prop) (to:TE):TE:=fun σ H Q=>to σ H fun x H1=>tyV K T x H1 /\ r x [] H1 Q
noncomputable def tBM (K:W.Frag) (T:String) (r:V->List V->Hp->VK->Prop) (to:TE) (t:TA):TE:=fun σ H Q=>to σ H fun x H1=>tyV K T x H1 /\ t σ H1 fun xs H2=>r x xs H2 Q
variable {o e:Expr} {es:List Expr} {to:TE} {t:TA} {name:Str} {apos cpos:Pos} {T id:String} {r:V->List V->Hp->VK->Prop}
theorem pe_bm0 (pa:PlainAttrs T) (slot:Slot T name id) (hty:typeOf (.builtin id)=pure (.type "method_descriptor")) (hm:MtR X id r) (ho:PE X o to)
  (hbase:attributeBase o name X.env (eval o X.env)=eval o X.env:=by rfl) (hline:(apos.endLine == cpos.line)=true:=by rfl):PE X (.Call (.Attribute o name apos) [] [] cpos) (tBM0 X.K T r to):=by
 intro pins s σ H Q I h
 refine wpAny_Call_method0_late hbase hline (thn (ho pins s σ H _ I h) fun v s1 zz=>?_)
 obtain ⟨x,H1,I1,r1,ty,q1⟩:=zz
 obtain ⟨h1,h2⟩:=tyV_is I1 r1 ty
 exact ⟨T,id,pa,slot,hty,h1,h2,Calls.callWith_builtin rfl (PySem.evalArgs_none (hm pins s1 σ H1 x [] v [] Q I1 r1 .nil q1))⟩
theorem ZC5 (pa:PlainAttrs T) (slot:Slot T name id) (hty:typeOf (.builtin id)=pure (.type "method_descriptor")) (hm:MtR X id r) (ho:PE X o to) (ha:PA X (e::es) t)
  (hbase:attributeBase o name X.env (eval o X.env)=eval o X.env:=by rfl)
  (hfew:((backTo cpos (starEach (e::es) X.env)).all (fun x=>!x.1) && (backToKw cpos (keywordEach [] X.env)).all (fun x=>x.1.isSome)
   && decide ((e::es).length+([]:List Keyword).length+(if ([]:List Keyword).isEmpty then 0 else 1) < 30))=true:=by rfl)
  (hline:(apos.endLine == cpos.line)=true:=by rfl) (hs:starEach (e::es) X.env=(false,eval e X.env)::starEach es X.env:=by rfl) (hplain:(backTo cpos (starEach es X.env)).any (·.1)=false:=by rfl) :
  PE X (.Call (.Attribute o name apos) (e::es) [] cpos) (tBM X.K T r to t):=by
 intro pins s σ H Q I h
 refine wpAny_Call_method_late hbase hfew hline rfl (thn (ho pins s σ H _ I h) fun v s1 zz=>?_)
 obtain ⟨x,H1,I1,r1,ty,q1⟩:=zz
 obtain ⟨h1,h2⟩:=tyV_is I1 r1 ty
 refine ⟨T,id,pa,slot,hty,h1,h2,?_⟩
 have hA:=ha cpos pins s1 σ H1 _ I1 q1
 rw [hs] at hA ⊢
 refine Calls.callWith_builtin (by show (false || (backTo cpos (starEach es X.env)).any (·.1))=false;rw [hplain] <;> rfl) (Calls.evalArgs_plain ?_)
 exact thn hA fun us s2 ⟨vs,H2,I2,r2,q2⟩=>hm pins s2 σ H2 x vs v us Q I2 r1 r2 q2
end
noncomputable def MtM (X:Cx) (id:String) (r:V->List V->Hp->VK->Prop):Prop :=
 ∀ (pins:List (Addr×Obj)) (s:Shared) (σ:St) (H:Hp) (x:V) (xs:List V) (v:Value) (us:List Value) (Q:VK),Inv X pins σ H s->RelV x v->Vals xs us->r x xs H Q ->
  wpAny (model X.prog X.w) X.A (call (.builtin id) (v::us)) (EP X pins σ Q) X.xe s
theorem Vals.one {x:V} {us:List Value} (r:Vals [x] us):∃ u,us=[u] /\ RelV x u:=ZCj r
theorem Vals.two {x y:V} {us:List Value} (r:Vals [x,y] us):∃ u v,us=[u,v] /\ RelV x u /\ RelV y v:=ZEL r
theorem Vals.zero:∀ {us:List Value},Vals [] us->us=[]
 | _,.nil=>rfl
theorem Vals.eraseIdx:∀ {xs:List V} {us:List Value} (i:Nat),Vals xs us->Vals (xs.eraseIdx i) (us.eraseIdx i)
 | _,_,_,.nil=>.nil
 | _,_,0,.cons _ t=>t
 | _,_,i+1,.cons r t=>.cons r (Vals.eraseIdx i t)
theorem Vals.reverse {xs:List V} {us:List Value} (h:Vals xs us):Vals xs.reverse us.reverse:=by
 induction h with
 | nil=>exact .nil
 | cons r t ih=>rw [List.reverse_cons,List.reverse_cons];exact Vals.append ih (.cons r .nil)
theorem len_erase {α:Type}:∀ (l:List α) (i:Nat),(l.eraseIdx i).length <= l.length
 | [],_=>yAA _
 | _::_,0=>yAR _
 | _::r,i+1=>Nat.succ_le_succ (len_erase r i)
section
variable {X:Cx} {pins:List (Addr×Obj)} {σ:St} {H:Hp} {s:Shared} {l b:Addr} {xs ys zs:List V}
theorem Inv.lset {its its':List Value} {n:Nat} {f:Array Value->Array Value} {t':Nat} (I:Inv X pins σ H s) (hH:H l=some (.lst xs))
  (e:s.heap.get? l=some { cls:=.type "list",data:=.seq its.toArray n }) (hf:f its.toArray=its'.toArray) (hv:Vals ys its') (hz:ys.length <= sizeLine) :
  Inv X pins σ (upd H l (.lst ys)) { s with heap:=s.heap.update l (Obj.mapSeq f),toks:=t' }:=by
 have q:=PySem.IsL.update e f
 rw [hf] at q
 refine I.write (x:=l) (e:=l) (by rw [hH];exact trivial) (.inl rfl) (fun b' u hb hu=>(Heap.get?_update_other s.heap (Obj.mapSeq f) (Ne.symm hb)).trans hu) ⟨_,q⟩ ?_
 exact ⟨hz,its',_,hv,q⟩
theorem Inv.lnew {its:List Value} {t':Nat} (I:Inv X pins σ H s) (hv:Vals ys its) (hz:ys.length <= sizeLine) :
  Inv X pins σ (upd H s.heap.objs.size (.lst ys)) { s with heap:=s.heap.push { cls:=.type "list",data:=.seq its.toArray },toks:=t' } :=
 I.laid (fun _ _ q=>Heap.get?_push_of_some _ q) (yAA _) ⟨hz,its,0,hv,Heap.get?_push_size _ rfl⟩
theorem Inv.fresh (I:Inv X pins σ H s):H s.heap.objs.size=none:=I.hok.fresh (yAA _)
theorem Inv.lstM (I:Inv X pins σ H s) (hH:H l=some (.lst xs)):xs.length <= sizeLine /\ ∃ (its:List Value) (n:Nat),Vals xs its /\ xs.length=its.length /\ s.heap.get? l=some { cls:=.type "list",data:=.seq its.toArray n }:=by
 obtain ⟨z,its,n,r,e⟩:=I.hok l _ hH
 exact ⟨z,its,n,r,r.length,e⟩
end
section
variable {X:Cx}
noncomputable def rAppend:V->List V->Hp->VK->Prop:=fun x vs H Q=>∃ l xs y,x=.ref l /\ vs=[y] /\ H l=some (.lst xs) /\ xs.length < sizeLine /\ Q .non (upd H l (.lst (xs++[y])))
theorem ZBg:MtM X "list.append" rAppend:=by
 intro pins s σ H x vs v us Q I rx rv h
 obtain ⟨l,xs,y,rfl,rfl,hH,hz,q⟩:=h
 cases rx
 obtain ⟨u,rfl,ru⟩:=rv.one
 obtain ⟨z,its,n,r,hl,e⟩:=I.lstM hH
 refine call_meets F.slot_list_append ⟨_,e,rfl⟩ F.entry_list_append (F.args_list_append_2 _ _) (PySem.list_append l its.toArray n u (by rw [yAL];omega)) ⟨e,?_⟩
 refine ⟨.non,_,I.lset (its':=its++[u]) hH e (by simp) (r.append (.cons ru .nil)) ?_,rfl,q⟩
 rw [yAF,List.length_singleton]
 omega
noncomputable def rPopAt:V->List V->Hp->VK->Prop:=fun x vs H Q=>∃ l xs i k y,x=.ref l /\ vs=[.int i] /\ H l=some (.lst xs) /\ -(2 ^ 63) <= i /\ i < 2 ^ 63 /\ seqIndex? i xs.length=some k /\ xs[k]?=some y /\ Q y (upd H l (.lst (xs.eraseIdx k)))
theorem mt_popAt:MtM X "list.pop" rPopAt:=by
 intro pins s σ H x vs v us Q I rx rv h
 obtain ⟨l,xs,i,k,y,rfl,rfl,hH,h1,h2,hk,hy,q⟩:=h
 cases rx
 obtain ⟨u,rfl,ru⟩:=rv.one
 obtain ⟨t,rfl⟩:=ru
 obtain ⟨z,its,n,r,hl,e⟩:=I.lstM hH
 obtain ⟨w,hw,rw'⟩:=r.get hy
 refine call_meets F.slot_list_pop ⟨_,e,rfl⟩ F.entry_list_pop (F.args_list_pop_2 _ _)
  (MeetsSeq.list_pop_at l its.toArray n i t k w (fitsIndex_both h1 h2) (by rw [yAL,<- hl];exact hk) (by rw [<- yAU];exact hw) (by rw [yAL];omega)) ⟨e,?_⟩
 refine ⟨y,_,I.lset (its':=its.eraseIdx k) hH e ?_ (r.eraseIdx k) ?_,rw',q⟩
 .show its.toArray.eraseIdxIfInBounds k=(its.eraseIdx k).toArray
  rw [List.eraseIdxIfInBounds_toArray]
 .have:=len_erase xs k
  omega
noncomputable def rReverse:V->List V->Hp->VK->Prop:=fun x vs H Q=>∃ l xs,x=.ref l /\ vs=[] /\ H l=some (.lst xs) /\ Q .non (upd H l (.lst xs.reverse))
theorem mt_reverse:MtM X "list.reverse" rReverse:=by
 intro pins s σ H x vs v us Q I rx rv h
 obtain ⟨l,xs,rfl,rfl,hH,q⟩:=h
 cases rx
 have hus:=rv.zero
 subst hus
 obtain ⟨z,its,n,r,hl,e⟩:=I.lstM hH
 refine call_meets F.slot_list_reverse ⟨_,e,rfl⟩ F.entry_list_reverse (F.args_list_reverse_1 _) (AutoSeq1.list_reverse_list_0 l its.toArray n (by rw [yAL];omega)) ⟨e,?_⟩
 refine ⟨.non,_,I.lset (its':=its.reverse) hH e (by simp) r.reverse ?_,rfl,q⟩
 rw [yBX]
 omega
noncomputable def rCat:R2:=fun x y H Q=>∃ l b xs zs,x=.ref l /\ y=.ref b /\ H l=some (.lst xs) /\ H b=some (.lst zs) /\ xs.length+zs.length <= sizeLine /\ ∀ p,H p=none->Q (.ref p) (upd H p (.lst (xs++zs)))
theorem op_cat:OpR X (binaryOp .Add) rCat:=by
 intro pins s σ H x y v u Q I rx ry h
 obtain ⟨l,b,xs,zs,rfl,rfl,hH,hB,hz,q⟩:=h
 cases rx
 cases ry
 obtain ⟨z,its,n,r,hl,e⟩:=I.lstM hH
 obtain ⟨z2,its2,n2,r2,hl2,e2⟩:=I.lstM hB
 refine PySem.P.add_list e e2 ?_ (by rw [yAL,yAL];omega)
 have ea:its.toArray++its2.toArray=(its++its2).toArray:=by simp
 rw [ea]
 exact ⟨.ref _,_,I.lnew (t':=s.toks) (r.append r2) (by rw [yAF];omega),rfl,q _ I.fresh⟩
end
section
variable {prog:Program} {w:World} {A:Around} {E:Value->Shared->Prop} {s:Shared}
set_option maxRecDepth 100000 in
end
section
variable {X:Cx}
end
end L2
namespace Att
open PySem PySem.W PySem.Calls PyProof.Rows
theorem ints_of_wellAll {P:Params} {h:Heap}:∀ (ns:List Int) (vs:List Value),WellAll P h vs (ns.map WData.int)->IntsAre vs ns:=by
 intro ns
 induction ns with
 | nil=>
  intro vs w
  rw [List.map_nil] at w
  cases w
  exact .nil
 | cons n ns ih=>
  intro vs w
  rw [yAQ] at w
  cases w with
  | cons a b=>
   cases a
   exact .cons _ _ (ih _ b)
theorem script_of {l:OpenLaw} {n:Nat} (hn:l.most=some n) {P:Params} {h:Heap} {args:List WData} {vals:List Value}
  (hpre:l.row.toRowW.claim.pre args=true) (hwl:WellAll P h vals args) :
  ∃ a vs ns,vals=[Value.ref a] /\ args=[WData.list (ns.map WData.int)] /\ h.get? a=some { cls:=.type "list",data:=.seq vs.toArray } /\ IntsAre vs ns /\ ns.length <= n:=by
 have hsh:WShape.hasAll [] args [.list .int]=true:=(pre_splitW hpre).1
 have hc:l.pre.holds [] { args:=args }=true:=(pre_splitW hpre).2
 obtain ⟨d,r,rfl,h1,h2⟩:=hasAllW_cons hsh
 obtain rfl:=hasAllW_nil h2
 obtain ⟨xs,rfl,h3⟩:=hasW_list h1
 obtain ⟨ns,rfl⟩:=items_int h3
 have hlen:ns.length <= n:=by
  unfold OpenLaw.pre at hc
  have h4:(WTm.not (.lt (.lit (.int (n:Int))) (.len (.arg 0)))).holds [] { args:=[.list (ns.map .int)] }=true:=by
   have h4:=(holds_andW hc).1
   rw [hn] at h4
   exact h4
  have h5:=condW_of h4 (w_not (w_lt w_lit (w_len_list (w_arg rfl))))
  rw [yAB] at h5
  refine Nat.le_of_not_lt fun q=>?_
  have q':(n:Int) < ((ns.length:Nat):Int):=by omega
  first
   | (rw [decide_eq_true q'] at h5;exact absurd h5 (by decide))
   | (simp at h5;omega)
 cases hwl with
 | cons w1 w2=>
  cases w2
  cases w1 with
  | list ho hall=>exact ⟨_,_,ns,rfl,rfl,ho,ints_of_wellAll ns _ hall,hlen⟩
theorem post_true (l:OpenLaw) (args:List WData):l.row.toRowW.claim.post args (.bool true) args=true :=
 postW_of (r:=l.row.toRowW) (X:=(true == true))
  (show WShape.has [] (.bool true) .bool=true by first | rfl | decide | simp [WShape.has,WShape.arms,WShape.armsAll])
  (show (WTm.eq .res (.lit (.bool true))).value [] { args:=args,res:=some (.bool true),after:=args }=some (.bool (true == true)) from w_eq_bool (w_res rfl) w_lit) rfl
theorem attach_call {l:OpenLaw} {n:Nat} {q:Program} {loose:List Str} {XP:(Str->Option Value)->Heap->Prop} {YP:World->Heap->Prop} {d:DefRec}
  (hn:l.most=some n) (hdf:d.params.defaults=[])
  (call:∀ (w:World) (s₀ s₁:Shared) (mg mb:Str->Option Value) (fa:Addr) (o:Obj) (pm cd doc:Value) (a:Addr) (vs:List Value) (ns:List Int),
   Ground q loose [] XP w s₀ mg mb s₁.heap->YP w s₁.heap ->
   s₁.heap.get? fa=some o->o.data=.func (docDef d.name d.params d.body d.scope pm cd doc)->s₁.heap.CodeRec cd d.name->mg d.name=some (.ref fa) ->
   s₁.heap.get? a=some { cls:=.type "list",data:=.seq vs.toArray }->IntsAre vs ns->ns.length <= n->s₁.gens=#[] ->
   codeAny (model l.prog w) callerA (.call (.ref fa) ⟨[.ref a],[]⟩) (fun r s'=>r=.ok (.ret (.bool true)) /\ OldK s₁.heap s'.heap /\ s'.os=s₁.os /\ AllBare s'.gens) s₁) :
  WalkO q loose XP YP l.row.toRowW d [] (fun f vs=>PySem.call f vs):=by
 intro w s₀ s₁ mg mb G Y fa o pm cd doc dV kV ho hd hcd hD hmg hg args vals as hpre hlay hrd hwl hlo
 obtain rfl:dV=.none:=Dflts.none hD hdf
 obtain rfl:kV=.none:=Dflts.noKw hD
 obtain ⟨a,vs,ns,rfl,rfl,hobj,hints,hlen⟩:=script_of hn hpre hwl
 refine enter_call (codeAny_mono (call w s₀ s₁ mg mb fa o pm cd doc a vs ns G Y ho (fd_plain hd) hcd hmg hobj hints hlen hg) fun r s' hq=>?_)
 obtain ⟨rfl,h2,h3,h4⟩:=hq
 exact ⟨.inl ⟨.bool true,.bool true,[],rfl,fun _=>rfl,.bool true,post_true l _,fun _=>⟨List.Pairwise.nil,fun _ hm=>(nomatch hm)⟩⟩,h2,h3,h4⟩
section
variable {prog:Program} {w:World} {A:Around} {E:Value->Shared->Prop} {s:Shared} {K:Frag}
end
end Att
namespace L2
open PySem PySem.Spec PyProof.Rows
theorem ZB5:∀ {vs:List Value} {ns:List Int},IntsAre vs ns->Vals (ns.map V.int) vs
 | _,_,.nil=>.nil
 | _,_,.cons n t h=>.cons ⟨t,rfl⟩ (ZB5 h)
end L2
namespace L2
open PySem PySem.Spec PyProof.Rows
noncomputable def ZBh (s:Stmt) (j:Nat):Stmt:=match s with
 | .ClassDef _ _ _ body _ _ _ _ _ _ _=>body.getD j (.Pass ⟨0,0,0,0⟩)
 | _=>.Pass ⟨0,0,0,0⟩
noncomputable def ZAN (s:Stmt):Arguments:=match s with
 | .FunctionDef _ a _ _ _ _ _ _ _ _=>a
 | _=>{ posonlyargs:=[],args:=[],vararg:=none,kwonlyargs:=[],kw_defaults:=[],kwarg:=none,defaults:=[] }
noncomputable def ZAL (s:Stmt):List Stmt:=match s with
 | .FunctionDef _ _ b _ _ _ _ _ _ _=>b
 | _=>[]
noncomputable def ZAB (s:Stmt):Scope:=match s with
 | .FunctionDef _ _ _ _ _ _ sc _ _ _=>sc
 | _=>{ kind:=.function,names:=[],isGenerator:=false,isCoroutine:=false }
noncomputable abbrev CX0:CXT:=fun _ _ _ _ _ _=>False
noncomputable abbrev E0:XK:=fun _ _ _=>False
theorem ZAc {X:Cx}:ZA3 CX0 X E0:=fun _ _ _ _ _ _ _ h=>h.elim
structure Fun (K:W.Frag) (x qual:Str) (st:Stmt) (f:Addr) (fd:FuncData):Prop where
 ex:∃ (oc:Value) (od:Option Addr) (kV doc pm:Value) (an:Option Addr) (cdv ct:Value) (osl:Array (Option Value)),
  fd=W.fnOf x qual (ZAN st) (ZAL st) (ZAB st) .none kV doc pm an cdv ct /\ K.lookup f=some ⟨oc,od,.func fd,osl⟩ /\ W.codeIn K cdv qual=true
 kp:W.keepIn K (.ref f)=true
section
variable {P:Program} {w:World} {K:W.Frag} {mg:Str->Option Value} {base:Heap}
theorem Fun.ok {x qual:Str} {st:Stmt} {f:Addr} {fd:FuncData} {N ps:List Str} {k:Nat} {sp:Sp} (F:Fun K x qual st f fd) (S:FnScope N ps (ZAB st)) (len:∀ vs H Q E,sp vs H Q E->vs.length=ps.length)
  (hbody:∀ (cdv:Value) (A:Around) (outer:List Env) (s:Shared) (H:Hp) (vs:List V) (Q:VK) (E:XK),Room k (A.deeper (envOfC qual (ZAB st) s.heap.objs.size f cdv))->sp vs H Q E ->
   ∃ t,PSs (cxOf CX0 P w K mg base N qual (ZAB st) f cdv A outer s H E).nox (ZAL st) t /\ t { nx:=fun _ H'=>Q .non H',rt:=Q } (start N vs) H):FnOk P w K mg base CX0 (k+1) f fd ps sp:=by
 obtain ⟨oc,od,kV,doc,pm,an,cdv,ct,osl,rfl,lk,hcd⟩:=F.ex
 refine ZEl lk hcd S len fun A outer s H vs Q E hr hsp=>?_
 obtain ⟨t,h,q⟩:=hbody cdv A outer s H vs Q E hr hsp
 exact ⟨t,h.nox,q⟩
theorem Fun.binds {x qual:Str} {st:Stmt} {f:Addr} {fd:FuncData} {ps:List Str} (F:Fun K x qual st f fd)
  (h:∀ (kV doc pm:Value) (an:Option Addr) (cdv ct:Value) (us:List Value),us.length=ps.length->bindArgs (W.fnOf x qual (ZAN st) (ZAL st) (ZAB st) .none kV doc pm an cdv ct) ⟨us,[]⟩=pure (ps.zip us)):Binds K fd ps []:=by
 obtain ⟨oc,od,kV,doc,pm,an,cdv,ct,osl,rfl,lk,hcd⟩:=F.ex
 exact .all (h kV doc pm an cdv ct)
theorem ZAh {x qual:Str} {st:Stmt} {f:Addr} {oc:Value} {od an:Option Addr} {osl:Array (Option Value)} {kV doc pm cdv ct:Value} (l:K.lookup f=some ⟨oc,od,.func (W.fnOf x qual (ZAN st) (ZAL st) (ZAB st) .none kV doc pm an cdv ct),osl⟩)
  (c:W.codeIn K cdv qual=true) (k:W.keepIn K (.ref f)=true):Fun K x qual st f (W.fnOf x qual (ZAN st) (ZAL st) (ZAB st) .none kV doc pm an cdv ct):=⟨⟨oc,od,kV,doc,pm,an,cdv,ct,osl,rfl,l,c⟩,k⟩
end
theorem ZAu {n:Nat} (h:n <= 1000):n < sizeLine:=Nat.lt_of_le_of_lt h (by decide)
section
variable {X:Cx}
theorem pv (i:Nat) {x:Str} {pos:Pos} (hN:X.N[i]?=some x:=by rfl) (hv:Vis X.env.scope x:=by first | exact Or.inl rfl | exact Or.inr (Or.inl rfl) | exact Or.inr (Or.inr rfl)) (hd:(x == ("__debug__":Str))=false:=by decide)
  (hcd:(x == ("__classdict__":Str))=false:=by decide):PE X (.Name x pos) (tVar i):=pe_var hN hv hd hcd
end
noncomputable def Same (H H':Hp):Prop:=∀ b o,H b=some o->H' b=some o
theorem Same.refl (H:Hp):Same H H:=fun _ _ h=>h
theorem Same.trans {H H1 H2:Hp} (a:Same H H1) (b:Same H1 H2):Same H H2:=fun c o h=>b c o (a c o h)
theorem Same.free {H H':Hp} (e:Same H H') {l:Addr} (h:H' l=Option.none):H l=Option.none:=by
 cases q:H l with
 | none=>rfl
 | some o=>
  rw [e l o q] at h
  cases h
theorem Same.seq {K:W.Frag} {H H':Hp} {a:Addr} {xs:List V} (e:Same H H') (h:SqL K H a xs):SqL K H' a xs:=by
 rcases h with (h | ⟨o,h⟩) | h
 .exact .inl (.inl (e _ _ h))
 .exact .inl (.inr ⟨o,e _ _ h⟩)
 .exact .inr h
end L2
set_option maxHeartbeats 4000000
namespace L2
open PySem PySem.Spec PyProof.Rows
theorem natlt {a b:Addr} (h:a < b):@LT.lt Nat _ a b:=h
theorem ZC6 {a b:Addr} {n:Nat} (h:a < n) (k:n <= b):a≠b:=yAE (yAI h k)
theorem ZAq:∀ (names:List (Str×NameKind)) (n:Nat) (acc:List (Str×Addr)),cellsFrom n names acc=cellsFrom n names []++acc
 | [],_,_=>rfl
 | (x,k)::r,n,acc=>by
  unfold cellsFrom
  split
  .rw [ZAq r (n+1) ((x,n)::acc),ZAq r (n+1) [(x,n)],yBA];rfl
  .exact ZAq r n acc
theorem ZBY:∀ (names:List (Str×NameKind)) (n:Nat) (acc:List (Str×Addr)) (y:Str) (c:Addr),(y,c)∈cellsFrom n names acc->(y,c)∈acc∨((y,NameKind.cell)∈names /\ n <= c)
 | [],_,_,_,_,h=>.inl h
 | (x,k)::r,n,acc,y,c,h=>by
  unfold cellsFrom at h
  split at h
  .rename_i hk
   have hk':k=.cell:=by simpa using hk
   rcases ZBY r (n+1) _ y c h with h | ⟨h,l⟩
   .rcases yAG.mp h with e | h
    .cases e;subst hk';exact .inr ⟨yAN,yAA _⟩
    .exact .inl h
   .exact .inr ⟨yAO _ h,Nat.le_of_succ_le l⟩
  .rcases ZBY r n _ y c h with h | ⟨h,l⟩
   .exact .inl h
   .exact .inr ⟨yAO _ h,l⟩
noncomputable def closFrom (cells:List (Str×Addr)):List (Str×NameKind)->List (Str×Addr)->List (Str×Addr)
 | [],acc=>acc
 | (x,k)::r,acc=>if k == .free then closFrom cells r ((x,(cells.lookup x).getD 0)::acc) else closFrom cells r acc
theorem ZBJ {cells:List (Str×Addr)}:∀ (names:List (Str×NameKind)) (acc:List (Str×Addr)) (y:Str) (c:Addr),(y,c)∈closFrom cells names acc->(y,c)∈acc∨((y,NameKind.free)∈names /\ c=(cells.lookup y).getD 0)
 | [],_,_,_,h=>.inl h
 | (x,k)::r,acc,y,c,h=>by
  unfold closFrom at h
  split at h
  .rename_i hk
   have hk':k=.free:=by simpa using hk
   rcases ZBJ r _ y c h with h | ⟨h,l⟩
   .rcases yAG.mp h with e | h
    .cases e;subst hk';exact .inr ⟨yAN,rfl⟩
    .exact .inl h
   .exact .inr ⟨yAO _ h,l⟩
  .rcases ZBJ r _ y c h with h | ⟨h,l⟩
   .exact .inl h
   .exact .inr ⟨yAO _ h,l⟩
theorem ZBj {cells:List (Str×Addr)}:∀ (names:List (Str×NameKind)) (acc:List (Str×Addr)) (p:Str×Addr),p∈acc->p∈closFrom cells names acc
 | [],_,_,h=>h
 | (x,k)::r,acc,p,h=>by
  unfold closFrom
  split
  .exact ZBj r _ p (yAO _ h)
  .exact ZBj r _ p h
theorem ZBK {cells:List (Str×Addr)}:∀ (names:List (Str×NameKind)) (acc:List (Str×Addr)) (y:Str),(y,NameKind.free)∈names->(y,(cells.lookup y).getD 0)∈closFrom cells names acc
 | [],_,_,h=>nomatch h
 | (x,k)::r,acc,y,h=>by
  unfold closFrom
  rcases yAG.mp h with e | h
  .cases e
   rw [if_pos (by rfl)]
   exact ZBj r _ _ yAN
  .split
   .exact ZBK r _ y h
   .exact ZBK r _ y h
theorem ZBA {α:Type}:∀ {l:List (Str×α)} {y:Str} {c:α},(y,c)∈l->∃ c',l.lookup y=some c'
 | (k,v)::r,y,c,h=>by
  rw [yBL]
  cases hb:y == k with
  | true=>exact ⟨v,rfl⟩
  | false=>
   rcases yAG.mp h with e | h
   .cases e;rw [beq_self_eq_true] at hb;cases hb
   .exact ZBA h
theorem ZBX {env:Env} (f:Str×NameKind->List (Str×Addr)->Sem (ForInStep (List (Str×Addr))))
  (hf:∀ name kind cs,f (name,kind) cs=if kind == .free then (do let a <- cellOf env name;pure (.yield ((name,a)::cs))) else pure (.yield cs)) :
  ∀ (names:List (Str×NameKind)) (acc:List (Str×Addr)),(∀ x,(x,NameKind.free)∈names->∃ c,env.cells.lookup x=some c)->forIn names acc f=(pure (closFrom env.cells names acc):Sem (List (Str×Addr)))
 | [],acc,_=>by rw [List.forIn_nil];rfl
 | (x,k)::r,acc,h=>by
  have hr:∀ x,(x,NameKind.free)∈r->∃ c,env.cells.lookup x=some c:=fun y hy=>h y (yAO _ hy)
  rw [List.forIn_cons,hf]
  unfold closFrom
  split
  .rename_i hk
   have hk':k=.free:=by simpa using hk
   subst hk'
   obtain ⟨c,hc⟩:=h x yAN
   have e:cellOf env x=(pure c:Sem Addr):=by unfold cellOf;rw [hc]
   rw [e,hc]
   exact ZBX f hf r ((x,c)::acc) hr
  .exact ZBX f hf r acc hr
theorem closureFor_eq {scope:Scope} {env:Env} (h:∀ x,(x,NameKind.free)∈scope.names->∃ c,env.cells.lookup x=some c):closureFor scope env=pure (closFrom env.cells scope.names []):=by
 simp only [closureFor]
 rw [ZBX _ (fun name kind cs=>by cases hk:kind == NameKind.free <;> simp [hk]) scope.names [] h]
 rfl
section
variable {M:Model} {A:Around} {E:Value->Shared->Prop} {s:Shared}
theorem newEnv_comp {scope:Scope} {globals:Addr} {cl:List (Str×Addr)} {qual:Str} {env:Env} {Q:Env->Shared->Prop}
  (hQ:Q { scope:=scope,locals:=s.heap.objs.size,globals:=globals,cells:=cellsFrom (s.heap.objs.size+1) scope.names cl,qual:=qual,func:=none,code:=env.code,frame:=env.frame,builtins:=env.builtins }
   { s with heap:=pushCells (s.heap.push { cls:=.type "dict",data:=.dict #[] }) scope.names }) :
  wpAny M A (newFunctionEnv scope globals cl [] qual none .none (some env)) Q E s:=by
 simp only [newFunctionEnv,Option.isSome_some,if_true]
 refine wpAny_bind (wpAny_alloc ?_)
 refine wpAny_bind (wpAny_layCells _ (fun name kind cells=>by cases hkc:kind == NameKind.cell <;> simp [hkc]) _ _ _ _ ?_)
 rw [show ({ s with heap:=s.heap.push { cls:=.type "dict",data:=.dict #[] } }:Shared).heap.objs.size=s.heap.objs.size+1 from Heap.size_push ..]
 rw [List.forIn_nil]
 exact wpAny_bind (wpAny_pure (wpAny_pure hQ))
end
theorem relabel_lookup {scope:Scope} {env:Env} (x:Str):(relabel scope env).names.lookup x=(scope.names.lookup x).map fun k=>if (k == .free && env.scope.kind == .function && env.kindOf x == some .cell)=true then NameKind.cell else k:=by
 unfold relabel
 dsimp only
 generalize scope.names=names
 induction names with
 | nil=>rfl
 | cons p r ih=>
  obtain ⟨n,k⟩:=p
  rw [yAQ,yBL (as:=r)]
  cases hx:x == n with
  | true=>
   have e:x=n:=beq_iff_eq.mp hx
   subst e
   by_cases hc:(k == NameKind.free && env.scope.kind == .function && env.kindOf x == some .cell)=true
   .simp only [hc,if_true,yBL,hx,Option.map_some]
   .simp only [hc,Bool.false_eq_true,if_false,yBL,hx,Option.map_some]
  | false=>
   by_cases hc:(k == NameKind.free && env.scope.kind == .function && env.kindOf n == some .cell)=true
   .simp only [hc,if_true,yBL,hx];exact ih
   .simp only [hc,Bool.false_eq_true,if_false,yBL,hx];exact ih
noncomputable def ZCf (N:List Str) (osc:Scope) (k:Nat) (js:List Nat) (N':List Str) (sc:Scope):Bool :=
 decide (sc.kind=.function) && decide (N'.length=k+js.length) && decide N'.Nodup &&
 sc.names.all (fun p=>decide (sc.names.lookup p.1=some p.2) && (decide (p.2≠.free) || decide (osc.names.lookup p.1=some .cell) || decide (osc.names.lookup p.1=some .free))) &&
 (List.range js.length).all (fun i=>decide (js[i]?.bind (fun j=>N[j]?)=N'[k+i]?) && decide ((N'[k+i]?).bind (fun y=>sc.names.lookup y)=some .free))
structure CmpOk (N:List Str) (osc:Scope) (k:Nat) (js:List Nat) (N':List Str) (sc:Scope):Prop where
 kind:sc.kind=.function
 len:N'.length=k+js.length
 nd:N'.Nodup
 look:∀ p∈sc.names,sc.names.lookup p.1=some p.2
 fr:∀ y,(y,NameKind.free)∈sc.names->osc.names.lookup y=some .cell∨osc.names.lookup y=some .free
 js:∀ i j,js[i]?=some j->∃ y,N'[k+i]?=some y /\ N[j]?=some y /\ sc.names.lookup y=some .free
theorem cmpOk {N:List Str} {osc:Scope} {k:Nat} {js:List Nat} {N':List Str} {sc:Scope} (h:ZCf N osc k js N' sc=true):CmpOk N osc k js N' sc:=by
 unfold ZCf at h
 simp only [Bool.and_eq_true,decide_eq_true_eq,List.all_eq_true,Bool.or_eq_true,List.mem_range] at h
 obtain ⟨⟨⟨⟨h1,h2⟩,h3⟩,h4⟩,h5⟩:=h
 refine ⟨h1,h2,h3,fun p hp=>(h4 p hp).1,fun y hy=>?_,fun i j hj=>?_⟩
 .rcases (h4 _ hy).2 with (z | z) | z
  .exact absurd rfl z
  .exact .inl z
  .exact .inr z
 .have hi:i < js.length:=(yAX.mp hj).1
  obtain ⟨a,b⟩:=h5 i hi
  rw [hj] at a
  cases e:N'[k+i]? with
  | none=>rw [e] at b;cases b
  | some y=>
   rw [e] at a b
   exact ⟨y,rfl,a,b⟩
noncomputable def ZDb (scope:Scope) (cl:List (Str×Addr)) (C:Addr) (env:Env):Env :=
 { scope:=relabel scope env,locals:=C,globals:=env.globals,cells:=cellsFrom (C+1) scope.names cl,qual:=env.qual,func:=none,code:=env.code,frame:=env.frame,builtins:=env.builtins }
noncomputable def ZBO (X:Cx) (N':List Str) (scope:Scope) (C:Addr) (fp:List Addr) (s2:Shared) (H2:Hp):Cx where
 prog:=X.prog
 w:=X.w
 K:=X.K
 mg:=X.mg
 base:=X.base
 A:=X.A
 N:=N'
 s₀:=s2
 H₀:=H2
 env:=ZDb scope (closFrom X.env.cells scope.names []) C X.env
 outer:=X.stack
 stack:=X.stack
 ex:=fp
 fn:=fun x=>decide (scope.names.lookup x=some .cell)
 calm:=X.calm
 pn:=[]
 xe:=fun _ _=>False
noncomputable def up (k:Nat) (js:List Nat) (σ:St):St:=List.replicate k none++js.map fun j=>(σ[j]?).getD none
section
variable {X:Cx} {pins:List (Addr×Obj)} {σ:St} {H:Hp} {s2:Shared} {k:Nat} {js:List Nat} {N':List Str} {scope:Scope} {fp:List Addr}
theorem comp_inv (hc:CmpOk X.N X.env.scope k js N' scope) (I:Inv X pins σ H s2) (hfp:∀ b∈fp,FpOk X pins H b) (hlt:∀ b∈fp,b < s2.heap.objs.size) {h3:Heap} (hz:h3.objs.size=s2.heap.objs.size+1) (hk3:∀ b o,s2.heap.get? b=some o->h3.get? b=some o) :
  Inv (ZBO X N' scope (s2.heap.objs.size+1) fp s2 H) [] (up k js σ) H { s2 with heap:=pushCells (h3.push { cls:=.type "dict",data:=.dict #[] }) scope.names }:=by
 have frLook:∀ y,(y,NameKind.free)∈scope.names->∃ c,X.env.cells.lookup y=some c:=fun y hy=>I.ok.has y (hc.fr y hy)
 have ok0:=cellsFrom_ok scope.names (h3.push { cls:=.type "dict",data:=.dict #[] }) (s2.heap.objs.size+2) [] ⟨fun _ _ hm=>(nomatch hm),List.Pairwise.nil⟩ (by rw [Heap.size_push,hz];exact yAA _)
 rw [Heap.size_push,hz] at ok0
 have parts:∀ y c,(ZDb scope (closFrom X.env.cells scope.names []) (s2.heap.objs.size+1) X.env).cells.lookup y=some c ->
   ((y,c)∈cellsFrom (s2.heap.objs.size+2) scope.names [] /\ (y,NameKind.cell)∈scope.names /\ s2.heap.objs.size+2 <= c)∨((y,NameKind.free)∈scope.names /\ X.env.cells.lookup y=some c):=fun y c e=>by
  have m:=PySem.mem_of_lookup e
  change (y,c)∈cellsFrom (s2.heap.objs.size+1+1) scope.names _ at m
  rw [ZAq] at m
  rcases yBC.mp m with m | m
  .rcases ZBY _ _ _ _ _ m with z | ⟨z,l⟩
   .cases z
   .exact .inl ⟨m,z,l⟩
  .rcases ZBJ _ _ _ _ m with z | ⟨z,l⟩
   .cases z
   .obtain ⟨c',e'⟩:=frLook y z
    rw [e'] at l
    exact .inr ⟨z,by rw [e'];exact congrArg some l.symm⟩
 have old:∀ y c,X.env.cells.lookup y=some c->c < s2.heap.objs.size:=fun y c e=>by
  obtain ⟨v,q⟩:=I.cell y c e
  exact q.lt
 have freeAt:∀ y,(y,NameKind.free)∈scope.names->∀ c,X.env.cells.lookup y=some c->(ZDb scope (closFrom X.env.cells scope.names []) (s2.heap.objs.size+1) X.env).cells.lookup y=some c:=fun y hy c e=>by
  have m:(y,c)∈cellsFrom (s2.heap.objs.size+1+1) scope.names (closFrom X.env.cells scope.names []):=by
   rw [ZAq]
   have q:=ZBK (cells:=X.env.cells) scope.names [] y hy
   rw [e] at q
   exact yAT _ q
  obtain ⟨c',q⟩:=ZBA m
  rcases parts y c' q with ⟨_,z,_⟩ | ⟨_,z⟩
  .have z1:=hc.look _ z
   have z2:=hc.look _ hy
   rw [z1] at z2
   cases z2
  .rw [e] at z
   cases z
   exact q
 have keepAll:∀ b o,s2.heap.get? b=some o->(pushCells (h3.push { cls:=.type "dict",data:=.dict #[] }) scope.names).get? b=some o:=fun b o e=>pushCells_keeps _ _ b o (Heap.get?_push_of_some _ (hk3 b o e))
 refine ⟨⟨I.ok.mod,hc.kind,I.ok.glob,I.ok.blt,yAR _,fun y z c h1 h2=>?_,fun y hy=>?_,fun y c h1 h2=>?_,I.ok.hd,I.ok.frames,.inl rfl,fun b hb=>⟨?_,fun y c e=>?_⟩,I.bs,yAD I.ok.bsz I.sz,fun b o e hb=>?_,fun b hb hs=>?_,I.stack,I.stkFree⟩,
  rfl,I.bare,Un.kept keepAll,⟨fun _=>none,?_,fun i y v e1 e2 e3=>?_⟩,fun y c e=>?_,I.hok.fresh (yAR _),fun y c e=>?_,fun p hp=>absurd (show p∈([]:List (Addr×Obj)) from hp) (by simp),I.hok.kept keepAll,?_⟩
 .
  rcases parts y c h1 with ⟨a,_,l⟩ | ⟨_,a⟩ <;> rcases parts z c h2 with ⟨b,_,l'⟩ | ⟨_,b⟩
  .exact name_of_addr ok0.apart a b
  .have:=natlt (old z c b);omega
  .have:=natlt (old y c a);omega
  .exact I.ok.inj y z c a b
 .
  have hy':(relabel scope X.env).names.lookup y=some .cell∨(relabel scope X.env).names.lookup y=some .free:=hy
  rw [relabel_lookup] at hy'
  have q:scope.names.lookup y=some .cell∨scope.names.lookup y=some .free:=by
   cases e:scope.names.lookup y with
   | none=>rw [e] at hy';rcases hy' with z | z <;> cases z
   | some kk=>
    rw [e] at hy'
    cases kk <;> first | exact .inl rfl | exact .inr rfl | (rcases hy' with z | z <;> simp at z)
  rcases q with q | q
  .obtain ⟨c,e⟩:=ZCg (n:=s2.heap.objs.size+1+1) q
   have m:(y,c)∈cellsFrom (s2.heap.objs.size+1+1) scope.names (closFrom X.env.cells scope.names []):=by
    rw [ZAq]
    exact List.mem_append_left _ (PySem.mem_of_lookup e)
   exact ZBA m
  .have m:=PySem.mem_of_lookup q
   obtain ⟨c,e⟩:=frLook y m
   exact ⟨c,freeAt y m c e⟩
 .
  have h1':scope.names.lookup y=some .cell:=of_decide_eq_true h1
  rcases parts y c h2 with ⟨_,_,l⟩ | ⟨z,_⟩
  .show s2.heap.objs.size <= c
   omega
  .have:=hc.look _ z
   rw [h1'] at this
   cases this
 .
  exact ZC6 (hlt b hb) (yAR _)
 .rcases parts y c e with ⟨_,_,l⟩ | ⟨_,z⟩
  .exact (ZC6 (hlt b hb) (yAD (Nat.le_add_right _ 2) l)).symm
  .exact (hfp b hb).2.2.2.2.1 y c z
 .
  rcases (hfp b hb).2.2.2.1 with z | z
  .exact I.ok.noex b o e z
  .exact absurd (yAI (Heap.lt_size e) (yAD I.ok.bsz z)) (yBB _)
 .
  rcases yAG.mp (I.stkSub b hs) with z | z
  .exact (hfp b hb).2.1 z
  .exact (hfp b hb).2.2.1 z
 .
  have q:=(Heap.Ns.new h3 (.type "dict")).keeps (pushCells_keeps scope.names _)
  rw [hz] at q
  exact q
 .
  unfold up at e2
  have hik:k <= i:=by
   by_cases hi:i < k
   .rw [yAZ (by simpa using hi),List.getElem?_replicate] at e2
    rw [if_pos hi] at e2
    cases e2
   .omega
  rw [yAY (by simpa using hik),yBW,yAP] at e2
  cases ej:js[i-k]? with
  | none=>rw [ej] at e2;cases e2
  | some j=>
   rw [ej] at e2
   have e2':(σ[j]?).getD none=some v:=Option.some.inj e2
   have e4:σ[j]?=some (some v):=by
    cases q:σ[j]? with
    | none=>rw [q] at e2';cases e2'
    | some z=>rw [q] at e2';exact congrArg some e2'
   obtain ⟨y',n1,n2,n3⟩:=hc.js _ _ ej
   rw [Nat.add_sub_cancel' hik] at n1
   have n0:N'[i]?=some y:=e1
   rw [n1] at n0
   cases n0
   have hm:=PySem.mem_of_lookup n3
   have hvis:Vis X.env.scope y:=.inr (hc.fr y hm)
   obtain ⟨m,hn,hl⟩:=I.loc
   obtain ⟨u,r,l⟩:=hl j y v n2 e4 hvis
   refine ⟨u,r,?_⟩
   rcases l with ⟨kk,_⟩ | ⟨kk,c,ec,ic⟩
   .have kk':X.env.scope.names.lookup y=some .local:=kk
    rcases hc.fr y hm with z | z <;> (rw [kk'] at z;cases z)
   .refine .inr ⟨?_,c,freeAt y hm c ec,ic.keeps keepAll⟩
    show (relabel scope X.env).names.lookup y=some .cell∨(relabel scope X.env).names.lookup y=some .free
    rw [relabel_lookup,n3]
    simp only [Option.map_some]
    split
    .exact .inl rfl
    .exact .inr rfl
 .
  rcases parts y c e with ⟨a,_,_⟩ | ⟨_,a⟩
  .exact ⟨none,(ok0.empty y c a).1⟩
  .obtain ⟨v,q⟩:=I.cell y c a
   exact ⟨v,q.keeps keepAll⟩
 .rcases parts y c e with ⟨_,_,l⟩ | ⟨_,a⟩
  .exact I.hok.fresh (by omega)
  .exact I.freeC y c a
 .unfold up
  show _=N'.length
  rw [yAF,yBW,yAB,hc.len]
theorem comp_end {σ':St} {H':Hp} {s':Shared} {C D:Addr} {its:List Value} {n:Nat} {ys:List V} (I:Inv X pins σ H s2) (hfp:∀ b∈fp,FpOk X pins H b) (hC:s2.heap.objs.size <= C) (hD:s2.heap.objs.size <= D) (hDC:D≠C)
  (I':Inv (ZBO X N' scope C fp s2 H) [(D,{ cls:=.type "list",data:=.seq its.toArray n })] σ' H' s') (hv:Vals ys its) (hz:ys.length <= sizeLine) :
  H' D=none /\ ∀ h',Heap.SameBut C s'.heap h'->Inv X pins σ (upd H' D (.lst ys)) { s' with heap:=h' }:=by
 obtain ⟨eD,nD,_,_,_⟩:=I'.pin (D,{ cls:=.type "list",data:=.seq its.toArray n }) (yAT _ yAN)
 dsimp only at eD nD
 have nC:H' C=none:=I'.free
 refine ⟨nD,fun h' hs=>?_⟩
 have neC:∀ b o,s2.heap.get? b=some o->b≠C:=fun b o e=>ZC6 (Heap.lt_size e) hC
 have neD:∀ b o,s2.heap.get? b=some o->b≠D:=fun b o e=>ZC6 (Heap.lt_size e) hD
 have tr:∀ b u,H' b=some u->b≠D:=fun b u e z=>by rw [z,nD] at e;cases e
 have trC:∀ b u,H' b=some u->b≠C:=fun b u e z=>by rw [z,nC] at e;cases e
 have B:=I'.base
 refine I.call' (s':={ s' with heap:=h' }) (ch:=fp) I'.os ⟨fun b o e nn hb hx=>?_,fun b o e nn hb hx=>?_,fun b o e nn hx=>?_,fun b o e hx=>?_,fun b xs e=>?_,fun b o u e=>?_,fun b ps e=>?_⟩ (fun b u e=>?_) I'.bare fun b hb=>?_
 .exact (hs.2 b (neC b o e)).trans (B.keep b o e nn hb hx)
 .obtain ⟨sl,q⟩:=B.slot b o e nn hb hx
  exact ⟨sl,(hs.2 b (neC b o e)).trans q⟩
 .rw [ZAF (neD b o e)]
  exact B.free b o e nn hx
 .obtain ⟨o',q⟩:=B.there b o e hx
  exact ⟨o',(hs.2 b (neC b o e)).trans q⟩
 .have q:=B.tups b xs e
  rw [ZAF (tr b _ q)]
  exact q
 .have q:=B.frzs b o u e
  rw [ZAF (tr b _ q)]
  exact q
 .obtain ⟨more,q⟩:=B.tbls b ps e
  exact ⟨more,by rw [ZAF (tr b _ q)];exact q⟩
 .by_cases hb:b=D
  .subst hb
   rw [ZAE] at e
   cases e
   exact ⟨hz,its,n,hv,(hs.2 b hDC).trans eD⟩
  .rw [ZAF hb] at e
   refine (I'.hok b u e).stay (fun c v hcc q=>(hs.2 c ?_).trans q) (fun c q=>by rw [ZAF (tr c _ q)];exact q) fun c xs q=>by rw [ZAF (tr c _ q)];exact q
   rcases hcc with rfl | hcc
   .exact trC c _ e
   .exact trC c _ hcc
 .obtain ⟨_,f1,_,f3,f4,f5⟩:=hfp b hb
  exact ⟨f3,f1,f4,f5⟩
end
section
variable {prog:Program} {w:World} {A:Around} {R:Result->Shared->Prop} {s:Shared}
theorem codeAny_compLoop_any {elt target iter:Expr} {ifs:List Expr} {scope:Scope} {pos:Pos} {it acc:Value} {env:Env} (I:Nat->Shared->Prop)
  (turn:∀ n s,I n s->wpAny (model prog w) A (pyNext it) (fun r s₁=>match r with
   | none=>R (.ok .next) s₁
   | some v=>wpAny (model prog w) A (letOwnedTupleGo target it v) (fun _ s₁'=>wpAny (model prog w) A (assign target env v) (fun _ s₂=>
     wpAny (model prog w) A (forIn ifs true fun c r=>if r=true then do let ok <- isTrue c env (eval c env);pure (ForInStep.yield ok) else pure (ForInStep.yield r)) (fun ok s₃=>
      if ok=true then wpAny (model prog w) A (eval elt env) (fun x s₄=>
       wpAny (model prog w) A (call (.builtin "list.append") [acc,x]) (fun _ s₅=>∃ m,m < n /\ I m s₅) (notedBy (model prog w) A env fun e s'=>R (.error e) s') s₄) (notedBy (model prog w) A env fun e s'=>R (.error e) s') s₃
      else ∃ m,m < n /\ I m s₃) (notedBy (model prog w) A env fun e s'=>R (.error e) s') s₂) (notedBy (model prog w) A env fun e s'=>R (.error e) s') s₁') (notedBy (model prog w) A env fun e s'=>R (.error e) s') s₁) (notedBy (model prog w) A env fun e s'=>R (.error e) s') s)
  (n:Nat) (h:I n s) :
  codeAny (model prog w) A (.compLoop (.ListComp elt [⟨target,iter,ifs,0⟩] scope pos) 0 it acc env) R s:=by
 refine codeAny_loop rfl I (fun n s hI=>?_) n h
 show wpAny _ A ((compTurn (.ListComp elt [⟨target,iter,ifs,0⟩] scope pos) 0 it acc env).onRaise (fun x=>do noteFrame x env;theTreesLotGoes x)) _ _ s
 refine wpAny_noted ?_
 rw [compTurn_list]
 refine wpAny_bind (wpAny_standAt (wpAny_bind (wpAny_mono (turn n s hI) (fun r s₁ h₁=>?_) fun _ _ h'=>h')))
 cases r with
 | none=>exact wpAny_pure h₁
 | some v=>
  refine wpAny_bind (wpAny_mono h₁ (fun _ s₁' h₁'=>?_) fun _ _ h'=>h')
  refine wpAny_bind (wpAny_mono h₁' (fun _ s₂ h₂=>wpAny_bind (wpAny_mono h₂ (fun ok s₃ h₃=>?_) fun _ _ h'=>h')) fun _ _ h'=>h')
  cases ok with
  | false=>exact wpAny_pure ⟨rfl,h₃⟩
  | true=>exact wpAny_bind (wpAny_bind (wpAny_mono h₃ (fun x s₄ h₄=>wpAny_bind (wpAny_mono h₄ (fun _ s₅ h₅=>wpAny_pure (wpAny_pure ⟨rfl,h₅⟩)) fun _ _ h'=>h')) fun _ _ h'=>h'))
end
noncomputable def PIfs (X:Cx) (ifs:List Expr) (t:TT):Prop :=
 ∀ (pins:List (Addr×Obj)) (s:Shared) (σ:St) (H:Hp) (Q:Bool->Hp->Prop),Inv X pins σ H s->t σ H Q ->
  wpAny (model X.prog X.w) X.A (forIn ifs true fun c r=>if r=true then do let ok <- isTrue c X.env (eval c X.env);pure (ForInStep.yield ok) else pure (ForInStep.yield r)) (TP X pins σ Q) X.xe s
noncomputable def tYes:TT:=fun _ H Q=>Q true H
theorem ZCD {X:Cx}:PIfs X [] tYes:=fun _ _ _ H _ I h=>wpAny_tests_nil ⟨H,I,h⟩
theorem pifs_one {X:Cx} {c:Expr} {t:TT} (hc:PT X c t):PIfs X [c] t:=fun pins s σ H Q I h=>wpAny_tests_one (hc pins s σ H Q I h)
noncomputable def ZDc (k:Nat) (js:List Nat) (wi:TI) (g:TG) (tt:TT) (te:TE):TE:=fun σ H Q=>wi σ H fun J H1=>∃ W:Nat->Nat->List V->St->Hp->Prop,(∃ m,W 0 m [] (up k js σ) H1) /\ ∀ i m ys σ H,W i m ys σ H ->
 (J.stop i H /\ ys.length <= sizeLine /\ ∀ p,H p=none->Q (.ref p) (upd H p (.lst ys))) ∨
 (J.go i H /\ ys.length < sizeLine /\ ∀ x H',J.yld i H x H'->g x σ H' fun σ2 H2=>tt σ2 H2 fun b H3=>if b=true then te σ2 H3 fun y H4=>∃ m',m' < m /\ W (i+1) m' (ys++[y]) σ2 H4 else ∃ m',m' < m /\ W (i+1) m' ys σ2 H3)
section
variable {X:Cx} {k:Nat} {js:List Nat} {N':List Str} {scope:Scope} {tg iter elt:Expr} {ifs:List Expr} {wi:TI} {g:TG} {tt:TT} {te:TE} {pos:Pos}
theorem comp_core {use:Option (Value->Sem Unit)} {Q':Value->Shared->Prop} (hcalm:X.calm=true) (hc:CmpOk X.N X.env.scope k js N' scope) (hi:PI X tg iter wi)
  (hg:∀ C fp s2 H2,PG (ZBO X N' scope C fp s2 H2) tg g) (ht:∀ C fp s2 H2,PIfs (ZBO X N' scope C fp s2 H2) ifs tt) (he:∀ C fp s2 H2,PE (ZBO X N' scope C fp s2 H2) elt te)
  {pins:List (Addr×Obj)} {s:Shared} {σ:St} {H:Hp} {Q:VK} (I:Inv X pins σ H s) (h:ZDc k js wi g tt te σ H Q)
  (fin:∀ (C D:Addr) (s':Shared) (m:Str->Option Value) (H':Hp) (ys:List V),s'.heap.Ns C m->C≠X.env.locals->C∉X.fs->D≠C->H' C=none->X.s₀.heap.objs.size <= C->(∀ x c,X.env.cells.lookup x=some c->c≠C)->(∀ p∈X.pn++pins,p.1≠C)->(∀ h',Heap.SameBut C s'.heap h'->Inv X pins σ (upd H' D (.lst ys)) { s' with heap:=h' })->Q (.ref D) (upd H' D (.lst ys)) ->
   compPost (model X.prog X.w) X.A X.xe use Q' (.ref D) C (.ok .next) s')
  (hs:∀ x,foldedSetIterable iter X.env x=pure x) (p':Pos) :
  wpAny (model X.prog X.w) X.A (comprehension (.ListComp elt [⟨tg,iter,ifs,0⟩] scope pos) scope X.env p' (newList []) false (eval iter X.env) use) Q' X.xe s:=by
 have hclos:closureFor scope X.env=pure (closFrom X.env.cells scope.names []):=closureFor_eq fun y hy=>I.ok.has y (hc.fr y hy)
 refine wpAny_comprehension_free (g:=⟨tg,iter,ifs,0⟩) (gs:=[]) rfl hs hclos hc.kind (fun x hx hl=>by rw [hc.look x hx,hl]) ?_
 refine thn (hi pins s σ H _ I h) fun v s1 h1=>thn h1 fun itv s2 h2=>?_
 obtain ⟨it,fp,tn,J,H2,e,I2,T,st2,f2,W,⟨m0,w0⟩,turn⟩:=h2
 subst e
 have hlt:∀ b∈fp,b < s2.heap.objs.size:=fun b hb=>by
  obtain ⟨o,e,_⟩:=T.obj _ _ st2 b hb
  exact Heap.lt_size e
 refine wpAny_newObj_type (newEnv_comp ?_)
 have hz3:(s2.heap.push { cls:=.type "list",dict:=none,data:=.seq ([]:List Value).toArray }).objs.size=s2.heap.objs.size+1:=Heap.size_push ..
 have I3:=comp_inv (h3:=s2.heap.push { cls:=.type "list",dict:=none,data:=.seq ([]:List Value).toArray }) hc I2 f2 hlt hz3 (fun b o e=>Heap.get?_push_of_some _ e)
 dsimp only
 rw [hz3]
 generalize hS4:({ s2 with heap:=pushCells ((s2.heap.push { cls:=.type "list",dict:=none,data:=.seq ([]:List Value).toArray }).push { cls:=.type "dict",data:=.dict #[] }) scope.names }:Shared)=s4 at I3 ⊢
 have keep4:∀ b o,s2.heap.get? b=some o->s4.heap.get? b=some o:=fun b o e=>by
  rw [<- hS4]
  exact pushCells_keeps _ _ b o (Heap.get?_push_of_some _ (Heap.get?_push_of_some _ e))
 have eD4:s4.heap.get? s2.heap.objs.size=some { cls:=.type "list",data:=.seq ([]:List Value).toArray 0 }:=by
  rw [<- hS4]
  exact pushCells_keeps _ _ _ _ (Heap.get?_push_of_some _ (Heap.get?_push_size _ rfl))
 generalize hX':ZBO X N' scope (s2.heap.objs.size+1) fp s2 H2=X' at I3
 have hC':X'.env.locals=s2.heap.objs.size+1:=by rw [<- hX'];rfl
 have hfs':X'.fs=frs X.stack:=by rw [<- hX'];rfl
 have nofsD:∀ a,s2.heap.objs.size <= a->a∉frs X.stack:=fun a ha hb=>by
  rcases yAG.mp (I2.stkSub a hb) with z | z
  .exact absurd z.symm (ZC6 I2.lt ha)
  .exact I2.nofs ha z
 have cellD:∀ x c,X'.env.cells.lookup x=some c->c≠s2.heap.objs.size:=fun x c e z=>by
  obtain ⟨v,o,ho,hd⟩:=I3.cell x c e
  rw [z,eD4] at ho
  cases ho
  cases hd
 have pinD:∀ {σ':St} {H':Hp} {s':Shared} {its:List Value} {n:Nat},Inv X' [] σ' H' s'->s'.heap.get? s2.heap.objs.size=some { cls:=.type "list",data:=.seq its.toArray n }->H' s2.heap.objs.size=none ->
   Inv X' [(s2.heap.objs.size,{ cls:=.type "list",data:=.seq its.toArray n })] σ' H' s':=fun {σ' H' s' its n} J e nn=>J.pins_of fun p hp=>by
  have e':p=(s2.heap.objs.size,{ cls:=.type "list",data:=.seq its.toArray n }):=by simpa using hp
  subst e'
  refine ⟨e,nn,?_,?_,fun v z=>nomatch z⟩
  .rw [hC'];exact yAE (yBN _)
  .rw [hfs'];exact nofsD _ (yAA _)
 have I4:=pinD I3 eD4 (I2.hok.fresh (yAA _))
 have stat:∀ {H':Hp} {o:Obj},(∀ b∈fp,H' b=none)->∀ b∈fp,FpOk X' [(s2.heap.objs.size,o)] H' b:=fun {H' o} hn b hb=>by
  have hb':=hlt b hb
  refine ⟨hn b hb,?_,?_,.inl (by rw [<- hX'];exact hb),fun x c e z=>?_,fun p hp z=>?_⟩
  .rw [hC'];exact ZC6 hb' (yAR _)
  .rw [hfs']
   intro z
   rcases yAG.mp (I2.stkSub b z) with q | q
   .exact (f2 b hb).2.1 q
   .exact (f2 b hb).2.2.1 q
  .have q:=I3.ok.exf b (by rw [<- hX'];exact hb)
   exact q.2 x c e z
  .rw [show X'.pn=[] by rw [<- hX'];rfl] at hp
   have e':p=(s2.heap.objs.size,o):=by simpa using hp
   subst e'
   exact absurd hb' (by rw [<- z];exact yBB _)
 have hfin:∀ {σ':St} {H':Hp} {s':Shared} {its:List Value} {n:Nat} {ys:List V},Inv X' [(s2.heap.objs.size,{ cls:=.type "list",data:=.seq its.toArray n })] σ' H' s'->Vals ys its->ys.length <= sizeLine->(∀ p,H' p=none->Q (.ref p) (upd H' p (.lst ys))) ->
   compPost (model X.prog X.w) X.A X.xe use Q' (.ref s2.heap.objs.size) (s2.heap.objs.size+1) (.ok .next) s':=fun {σ' H' s' its n ys} J hv hz hq=>by
  obtain ⟨m,hn,_⟩:=id J.loc
  rw [hC'] at hn
  have nC:H' (s2.heap.objs.size+1)=none:=by rw [<- hC'];exact J.free
  have J':Inv (ZBO X N' scope (s2.heap.objs.size+1) fp s2 H2) [(s2.heap.objs.size,{ cls:=.type "list",data:=.seq its.toArray n })] σ' H' s':=by rw [hX'];exact J
  obtain ⟨nD,E⟩:=comp_end I2 f2 (yAR _) (yAA _) (yAE (yBN _)) J' hv hz
  refine fin _ _ s' m H' ys hn ?_ (I2.nofs (yAR _)) (yAE (yBN _)) nC (yAD I2.sz (yAR _)) (fun x c e z=>?_) (fun p hp z=>?_) E (hq _ nD)
  .exact (ZC6 I2.lt (yAR _)).symm
  .obtain ⟨v,q⟩:=I2.cell x c e
   exact absurd z (ZC6 q.lt (yAR _))
  .exact absurd z (ZC6 (Heap.lt_size (I2.pin p hp).1) (yAR _))
 have hprog:X'.prog=X.prog:=by rw [<- hX'];rfl
 have hw:X'.w=X.w:=by rw [<- hX'];rfl
 have hK:X'.K=X.K:=by rw [<- hX'];rfl
 have hcalm':X'.calm=true:=by rw [<- hX'];exact hcalm
 have hA:X'.A=X.A:=by rw [<- hX'];rfl
 have henv:ZDb scope (closFrom X.env.cells scope.names []) (s2.heap.objs.size+1) X.env=X'.env:=by rw [<- hX'];rfl
 have hgX:=hg (s2.heap.objs.size+1) fp s2 H2
 have htX:=ht (s2.heap.objs.size+1) fp s2 H2
 have heX:=he (s2.heap.objs.size+1) fp s2 H2
 rw [hX'] at hgX htX heX
 have hxe:∀ e s',X'.xe e s'->False:=fun e s' z=>by rw [<- hX'] at z;exact z
 have hXA:X'.pn=[]:=by rw [<- hX'];rfl
 have hs0:X'.s₀.heap.objs.size=s2.heap.objs.size:=by rw [<- hX'];rfl
 have loop:codeAny (model X.prog X.w) X.A (.compLoop (.ListComp elt [⟨tg,iter,ifs,0⟩] scope pos) 0 (.ref it) (.ref s2.heap.objs.size) X'.env) (compPost (model X.prog X.w) X.A X.xe use Q' (.ref s2.heap.objs.size) (s2.heap.objs.size+1)) s4:=by
  refine codeAny_compLoop_any (fun n s'=>∃ i σ' H' its nn ys,Inv X' [(s2.heap.objs.size,{ cls:=.type "list",data:=.seq its.toArray nn })] σ' H' s' /\ tn i s'.heap /\ (∀ b∈fp,H' b=none) /\ Vals ys its /\ W i n ys σ' H') ?_ m0
   ⟨0,_,H2,[],0,[],I4,T.keep _ _ _ st2 (fun b _ o e=>keep4 b o e),fun b hb=>(f2 b hb).1,.nil,w0⟩
  rintro n s5 ⟨i,σ5,H5,its,nn,ys,I5,st5,fr5,hv,w5⟩
  rcases turn i n ys σ5 H5 w5 with ⟨stop,hz,hq⟩ | ⟨go,hz,step⟩
  .have d:=T.done X' hprog hw hK hcalm' i _ s5 σ5 H5 (fun _ _=>False) I5 (stat fr5) st5 stop
   rw [hA] at d
   refine wpAny_mono d (fun r s6 ⟨hr,I6⟩=>?_) fun _ _ z=>z.elim
   subst hr
   exact hfin I6 hv hz hq
  .have d:=T.item X' hprog hw hK hcalm' i _ s5 σ5 H5 (fun _ _=>False) I5 (stat fr5) st5 go
   rw [hA] at d
   refine wpAny_mono d (fun r s6 ⟨u,hr,h6⟩=>?_) fun _ _ z=>z.elim
   subst hr
   refine wpAny_mono h6 (fun _ s7 zz=>?_) fun _ _ z=>z.elim
   obtain ⟨x,H7,I7,r7,y7,st7,fr7⟩:=zz
   have I7':=I7.pinned (stat fr7) (T.obj _ _ st7)
   have a1:=hgX _ s7 σ5 H7 x u _ I7' r7 (step x H7 y7)
   rw [hprog,hw,hA] at a1
   refine wpAny_mono a1 (fun _ s8 zz=>?_) fun _ _ z=>(hxe _ _ z).elim
   obtain ⟨σ8,H8,I8,q8⟩:=zz
   have a2:=htX _ s8 σ8 H8 _ I8 q8
   rw [hprog,hw,hA] at a2
   refine wpAny_mono a2 (fun ok s9 ⟨H9,I9,q9⟩=>?_) fun _ _ z=>(hxe _ _ z).elim
   have back:∀ {σ':St} {H':Hp} {s':Shared},Inv X' ([(s2.heap.objs.size,({ cls:=.type "list",data:=.seq its.toArray nn }:Obj))]++ZDe fp s7.heap) σ' H' s'->tn (i+1) s'.heap /\ (∀ b∈fp,H' b=none):=fun {σ' H' s'} J=>by
    refine ⟨T.keep _ _ _ st7 fun b hb o e=>(J.pin (b,o) (yAT _ (yAT _ (ZBp hb e)))).1,fun b hb=>?_⟩
    obtain ⟨o,e,d⟩:=T.obj _ _ st7 b hb
    exact (J.pin (b,o) (yAT _ (yAT _ (ZBp hb e)))).2.1
   cases ok with
   | false=>
    rw [if_neg yAS] at q9 ⊢
    obtain ⟨m',hm,w9⟩:=q9
    obtain ⟨t9,f9⟩:=back I9
    exact ⟨m',hm,i+1,σ8,H9,its,nn,ys,I9.unpinned,t9,f9,hv,w9⟩
   | true=>
    rw [if_pos rfl] at q9 ⊢
    have a3:=heX _ s9 σ8 H9 _ I9 q9
    rw [hprog,hw,hA] at a3
    refine wpAny_mono a3 (fun uy s10 zz=>?_) fun _ _ z=>(hxe _ _ z).elim
    obtain ⟨y,H10,I10,r10,m',hm,w10⟩:=zz
    obtain ⟨t10,f10⟩:=back I10
    have I11:=I10.unpinned
    obtain ⟨eD,nD,_,_,_⟩:=I11.pin (s2.heap.objs.size,{ cls:=.type "list",data:=.seq its.toArray nn }) (yAT _ yAN)
    dsimp only at eD nD
    have hsz:its.length < sizeLine:=by rw [<- hv.length];exact hz
    refine wpAny_list_append_plain ⟨nn,eD⟩ (fun h' hpl hsb=>?_) (by rw [yAL];omega)
    obtain ⟨n',e'⟩:=hpl
    have e'':h'.get? s2.heap.objs.size=some { cls:=.type "list",data:=.seq (its++[uy]).toArray n' }:=by rw [e'];simp
    have I12:Inv X' [] σ8 H10 s10:=I11.pins_of fun p hp=>absurd hp (by simp)
    have I13:=I12.turned (h':=h') (t':=s10.toks) (it:=s2.heap.objs.size) (fun b o hb e=>(hsb.2 b hb).trans e) nD (by rw [hC'];exact yAE (yBN _)) (.inr (by rw [hs0];exact yAA _)) cellD (fun p hp=>absurd hp (by rw [hXA];simp))
    refine ⟨m',hm,i+1,σ8,H10,its++[uy],n',ys++[y],pinD I13 e'' nD,T.keep _ _ _ t10 fun b hb o e=>?_,f10,hv.append (.cons r10 .nil),w10⟩
    exact (hsb.2 b (ZC6 (hlt b hb) (yAA _))).trans e
 have hst:codeAny (model X.prog X.w) X.A (.compStart (.ListComp elt [⟨tg,iter,ifs,0⟩] scope pos) 0 (.ref it) (.ref s2.heap.objs.size) X'.env) (compPost (model X.prog X.w) X.A X.xe use Q' (.ref s2.heap.objs.size) (s2.heap.objs.size+1)) s4 :=
  codeAny_compStart_list loop (T.self X.A 0 s4 _ _ (T.keep _ _ _ st2 (fun b _ o e=>keep4 b o e)) loop)
 rw [<- henv] at hst
 exact hst
theorem ZDQ (hcalm:X.calm=true) (hc:ZCf X.N X.env.scope k js N' scope=true) (hi:PI X tg iter wi)
  (hg:∀ C fp s2 H2,PG (ZBO X N' scope C fp s2 H2) tg g) (ht:∀ C fp s2 H2,PIfs (ZBO X N' scope C fp s2 H2) ifs tt) (he:∀ C fp s2 H2,PE (ZBO X N' scope C fp s2 H2) elt te)
  (hs:∀ x,foldedSetIterable iter X.env x=pure x:=by intro _;rfl):PE X (.ListComp elt [⟨tg,iter,ifs,0⟩] scope pos) (ZDc k js wi g tt te):=by
 intro pins s σ H Q I h
 rw [eval_ListComp]
 refine comp_core (use:=none) hcalm (cmpOk hc) hi hg ht he I h (fun C D s' m H' ys hn _ _ _ _ _ _ _ E q=>?_) hs _
 exact ⟨m,hn,fun h' hsb=>⟨.ref D,_,E h' hsb,rfl,q⟩⟩
theorem ps_setComp {i:Nat} {x:Str} {px spos:Pos} (hN:X.N.Nodup) (hix:X.N[i]?=some x) (hx:Loc X.env.scope x) (hcalm:X.calm=true) (hc:ZCf X.N X.env.scope k js N' scope=true) (hi:PI X tg iter wi)
  (hg:∀ C fp s2 H2,PG (ZBO X N' scope C fp s2 H2) tg g) (ht:∀ C fp s2 H2,PIfs (ZBO X N' scope C fp s2 H2) ifs tt) (he:∀ C fp s2 H2,PE (ZBO X N' scope C fp s2 H2) elt te)
  (hs:∀ x,foldedSetIterable iter X.env x=pure x:=by intro _;rfl) (hsw:swapsWith (.ListComp elt [⟨tg,iter,ifs,0⟩] scope pos) (some (.Name x px)) spos.line X.env=pure true:=by rfl)
  (hf:X.fn x=true∨X.env.scope.names.lookup x=some .local:=by first | exact .inl rfl | exact .inr rfl | assumption) :
  PS X (.Assign [.Name x px] (.ListComp elt [⟨tg,iter,ifs,0⟩] scope pos) spos) (tAsg (ZDc k js wi g tt te) (ZD0 i)):=by
 intro pins s σ H D I h
 rw [exec_Assign_Name_used _ _ _ _ hsw]
 refine wpAny_bind (wpAny_standAt (wpAny_bind ?_))
 show wpAny _ X.A (do let _ <- comprehension (.ListComp elt [⟨tg,iter,ifs,0⟩] scope pos) scope X.env _ (newList []) false (eval iter X.env) (some (assign (.Name x px) X.env))) _ _ s
 refine wpAny_bind (wpAny_mono (comp_core (use:=some (assign (.Name x px) X.env)) (Q':=fun _ s'=>SP X pins D .next s') hcalm (cmpOk hc) hi hg ht he I h (fun C Dd s' m H' ys hn c1 c2 c3 c4 c5 c6 c7 E q=>?_) hs _) (fun _ s' hq=>wpAny_pure (wpAny_pure hq)) fun _ _ e=>e)
 have J:=E s'.heap (.refl ..)
 obtain ⟨oC,es,ep,eC,dC,rC⟩:=id hn
 have J':Inv X (pins++[(C,oC)]) σ (upd H' Dd (.lst ys)) s':=J.pins_of fun p hp=>by
  rcases yBC.mp hp with z | z
  .exact J.pin p (yAT _ z)
  .have e':p=(C,oC):=by simpa using z
   subst e'
   refine ⟨eC,?_,c1,c2,fun v z=>?_⟩
   .show upd H' Dd _ C=none
    rw [ZAF (Ne.symm c3)]
    exact c4
   .have z':oC.data=.cell v:=z
    rw [dC] at z'
    cases z'
 show wpAny _ X.A (assign (.Name x px) X.env (.ref Dd)) _ _ _
 refine wpAny_assign_Name (ZB6 (Q:=fun _ s''=>∃ m,s''.heap.Ns C m /\ ∀ h',Heap.SameBut C s''.heap h'->SP X pins D .next { s'' with heap:=h' }) J' hN hix hx (v:=.ref Dd) (u:=.ref Dd) rfl (fun s'' K'=>?_) hf)
 obtain ⟨e2,n2,_,_,_⟩:=K'.pin (C,oC) (yAT _ (yAT _ yAN))
 dsimp only at e2 n2
 refine ⟨m,⟨oC,es,ep,e2,dC,rC⟩,fun h' hsb=>⟨_,_,K'.unpinned.turned (it:=C) (t':=s''.toks) (fun b o hb e=>(hsb.2 b hb).trans e) n2 c1 (.inr c5) c6 c7,q⟩⟩
end
mutual
noncomputable def Dp (K:W.Frag) (H:Hp):PyData->V->Prop
 | .none,v=>v=.non
 | .bool b,v=>v=.bl b
 | .int i,v=>v=.int i
 | .str x,v=>v=.str x
 | .list ds,v=>∃ a xs,v=.ref a /\ SqL K H a xs /\ DpAll K H ds xs
 | .tuple ds,v=>∃ a xs,v=.ref a /\ SqT K H a xs /\ DpAll K H ds xs
 | .dict _,_=>False
noncomputable def DpAll (K:W.Frag) (H:Hp):List PyData->List V->Prop
 | [],vs=>vs=[]
 | d::ds,vs=>∃ v r,vs=v::r /\ Dp K H d v /\ DpAll K H ds r
end
theorem DpAll.nil {K:W.Frag} {H:Hp}:DpAll K H [] []:=by unfold DpAll;rfl
theorem DpAll.cons {K:W.Frag} {H:Hp} {d:PyData} {ds:List PyData} {v:V} {vs:List V} (a:Dp K H d v) (t:DpAll K H ds vs):DpAll K H (d::ds) (v::vs):=by unfold DpAll;exact ⟨v,vs,rfl,a,t⟩
theorem DpAll.ints {K:W.Frag} {H:Hp}:∀ (ns:List Int),DpAll K H (ns.map PyData.int) (ns.map V.int)
 | []=>.nil
 | n::r=>.cons (by unfold Dp;rfl) (DpAll.ints r)
theorem ZEg {K:W.Frag} {H:Hp} (i:Int):Dp K H (.int i) (.int i):=by unfold Dp;rfl
theorem dp_bl {K:W.Frag} {H:Hp} (i:Bool):Dp K H (.bool i) (.bl i):=by unfold Dp;rfl
theorem ZCJ {K:W.Frag} {H:Hp} {a:Addr} {xs:List V} {ds:List PyData} (h:SqL K H a xs) (t:DpAll K H ds xs):Dp K H (.list ds) (.ref a):=by unfold Dp;exact ⟨a,xs,rfl,h,t⟩
theorem dp_tup {K:W.Frag} {H:Hp} {a:Addr} {xs:List V} {ds:List PyData} (h:SqT K H a xs) (t:DpAll K H ds xs):Dp K H (.tuple ds) (.ref a):=by unfold Dp;exact ⟨a,xs,rfl,h,t⟩
section
variable {X:Cx} {pins:List (Addr×Obj)} {σ:St} {H:Hp} {s:Shared}
mutual
theorem Inv.reads (I:Inv X pins σ H s):∀ {d:PyData} {v:V} {u:Value},Dp X.K H d v->RelV v u->∃ as,Reads s.heap u d as
 | .none,_,_,h,r=>by unfold Dp at h;subst h;cases (show _=Value.none from r);exact ⟨_,.none⟩
 | .bool b,_,_,h,r=>by unfold Dp at h;subst h;cases (show _=Value.bool b from r);exact ⟨_,.bool b⟩
 | .int i,_,_,h,r=>by unfold Dp at h;subst h;obtain ⟨t,q⟩:=(show ∃ t,_=Value.int i t from r);subst q;exact ⟨_,.int i t⟩
 | .str x,_,_,h,r=>by unfold Dp at h;subst h;obtain ⟨t,q⟩:=(show ∃ t,_=Value.str x t from r);subst q;exact ⟨_,.str x t⟩
 | .list ds,_,_,h,r=>by
  unfold Dp at h
  obtain ⟨a,xs,q,sq,t⟩:=h
  subst q
  cases (show _=Value.ref a from r)
  obtain ⟨its,rv,pl,_⟩:=I.list sq
  obtain ⟨as,ra⟩:=Inv.readsAll I t rv
  obtain ⟨o,n,e1,e2,_,e3⟩:=pl
  exact ⟨_,.list e1 e2 e3 (by simpa using ra)⟩
 | .tuple ds,_,_,h,r=>by
  unfold Dp at h
  obtain ⟨a,xs,q,sq,t⟩:=h
  subst q
  cases (show _=Value.ref a from r)
  obtain ⟨its,rv,pl,_⟩:=I.tuple sq
  obtain ⟨as,ra⟩:=Inv.readsAll I t rv
  obtain ⟨o,e1,e2,n,e3⟩:=pl
  exact ⟨_,.tuple e1 e2 e3 (by simpa using ra)⟩
 | .dict _,_,_,h,_=>by unfold Dp at h;exact h.elim
theorem Inv.readsAll (I:Inv X pins σ H s):∀ {ds:List PyData} {vs:List V} {us:List Value},DpAll X.K H ds vs->Vals vs us->∃ as,ReadsAll s.heap us ds as
 | [],_,_,h,r=>by unfold DpAll at h;subst h;cases r;exact ⟨_,.nil⟩
 | _::_,_,_,h,r=>by
  unfold DpAll at h
  obtain ⟨v,q,e,a,t⟩:=h
  subst e
  cases r with
  | cons r1 r2=>
   obtain ⟨as,h1⟩:=Inv.reads I a r1
   obtain ⟨bs,h2⟩:=Inv.readsAll I t r2
   exact ⟨_,.cons h1 h2⟩
end
noncomputable def rEqD (K:W.Frag):R2:=fun x y H Q=>∃ d e,Dp K H d x /\ Dp K H e y /\ d.canLay0=true /\ e.canLay0=true /\ d.depth <= 64 /\ Q (.bl (PyData.eqv d e)) H
noncomputable def rNeD (K:W.Frag):R2:=fun x y H Q=>∃ d e,Dp K H d x /\ Dp K H e y /\ d.canLay0=true /\ e.canLay0=true /\ d.depth <= 64 /\ Q (.bl (!PyData.eqv d e)) H
theorem ZEC (hu:X.A.units+64 < cLine):OpR X (compareOp .Eq) (rEqD X.K):=by
 intro pins s σ H x y v u Q I rx ry h
 obtain ⟨d,e,h1,h2,c1,c2,dp,q⟩:=h
 obtain ⟨as,ra⟩:=I.reads h1 rx
 obtain ⟨bs,rb⟩:=I.reads h2 ry
 exact SeqAt.compareEq_reads ra rb c1 c2 (by omega) ⟨.bl _,H,I,rfl,q⟩
theorem ZDg (hu:X.A.units+64 < cLine):OpR X (compareOp .NotEq) (rNeD X.K):=by
 intro pins s σ H x y v u Q I rx ry h
 obtain ⟨d,e,h1,h2,c1,c2,dp,q⟩:=h
 obtain ⟨as,ra⟩:=I.reads h1 rx
 obtain ⟨bs,rb⟩:=I.reads h2 ry
 exact SeqAt.compareNe_reads ra rb c1 c2 (by omega) ⟨.bl _,H,I,rfl,q⟩
end
section
variable {X:Cx} {x:Str} {pos:Pos}
theorem ZEZ {n:String} (hg:Gl X x) (hm:X.mg x=none) (hv:bootBuiltins x=some (.type n)) (hn:x≠"__name__":=by decide) (hd:(x == ("__debug__":Str))=false:=by decide):PE X (.Name x pos) (tC (.ty n)):=pe_bltn hg hm hv rfl hn hd
end
structure Fn (P:Program) (w:World) (K:W.Frag) (mg:Str->Option Value) (base:Heap) (CX:CXT) (x:Str) (k:Nat) (ps:List Str) (sp:Sp):Prop where
 ex:∃ f fd,FnOk P w K mg base CX k f fd ps sp /\ Binds K fd ps [] /\ W.keepIn K (.ref f)=true /\ mg x=some (.ref f)
structure Mt (P:Program) (w:World) (K:W.Frag) (mg:Str->Option Value) (base:Heap) (CX:CXT) (C:Addr) (m:Str) (k:Nat) (ps:List Str) (sp:Sp):Prop where
 cl:Cls K C
 ex:∃ f fd,FnOk P w K mg base CX k f fd ps sp /\ Binds K fd ps [] /\ Meth K C m f
structure Kl (P:Program) (w:World) (K:W.Frag) (mg:Str->Option Value) (base:Heap) (CX:CXT) (x:Str) (C:Addr) (k:Nat) (ps:List Str) (sp:Sp):Prop where
 mgC:mg x=some (.ref C)
 ex:∃ f fd,FnOk P w K mg base CX k f fd ps sp /\ Binds K fd ps [] /\ Mk K C f
section
variable {X:Cx} {CX:CXT} {k:Nat} {ps:List Str} {sp:Sp} {E:XK} {x m:Str} {C:Addr} {p pos apos:Pos} {e o:Expr} {es:List Expr} {ta:TE} {t:TA}
theorem ZAl (F:Fn X.prog X.w X.K X.mg X.base CX x k ps sp) (hr:Room k X.A) (hg:Gl X x) (hx:ZA3 CX X E) (ha:PA X (e::es) t) (hdb:(x == ("__debug__":Str))=false:=by decide) (he:starEach (e::es) X.env=(false,eval e X.env)::starEach es X.env:=by rfl) (hpl:(backTo pos (starEach es X.env)).any (·.1)=false:=by rfl) :
  PE X (.Call (.Name x p) (e::es) [] pos) (ZEQ sp [] E t):=by
 obtain ⟨f,fd,h1,h2,h3,h4⟩:=F.ex
 exact pe_call h1 hr hg h4 h3 h2 .nil hx ha hdb he hpl
theorem ZDs {pl:Sem Bool} (F:Mt X.prog X.w X.K X.mg X.base CX C m k ps sp) (hr:Room k X.A) (hx:ZA3 CX X E) (he:PE X o ta) (ha:PA X (e::es) t)
  (hst:starEach (e::es) X.env=(false,eval e X.env)::starEach es X.env:=by rfl) (hpl:(backTo pos (starEach es X.env)).any (·.1)=false:=by rfl)
  (ht:eval (.Call (.Attribute o m apos) (e::es) [] pos) X.env=(do
   let ov <- eval o X.env
   standAt apos.atName
   let (f,first) <- holding [ov] (getMethod ov m pl)
   callWith pos f first (backTo pos (starEach (e::es) X.env)) (backToKw pos (keywordEach [] X.env))):=by rfl) :
  PE X (.Call (.Attribute o m apos) (e::es) [] pos) (ZEG C m sp [] E ta t):=by
 obtain ⟨f,fd,h1,h2,h3⟩:=F.ex
 exact pe_meth he F.cl h3 h1 hr h2 .nil hx ha hst hpl ht
theorem ZCt {pl:Sem Bool} (F:Mt X.prog X.w X.K X.mg X.base CX C m k ps sp) (hr:Room k X.A) (hx:ZA3 CX X E) (he:PE X o ta)
  (ht:eval (.Call (.Attribute o m apos) [] [] pos) X.env=(do
   let ov <- eval o X.env
   standAt apos.atName
   let (f,first) <- holding [ov] (getMethod ov m pl)
   callWith pos f first (backTo pos (starEach [] X.env)) (backToKw pos (keywordEach [] X.env))):=by rfl) :
  PE X (.Call (.Attribute o m apos) [] [] pos) (ZEG C m sp [] E ta tNil):=by
 obtain ⟨f,fd,h1,h2,h3⟩:=F.ex
 exact pe_meth0 he F.cl h3 h1 hr h2 .nil hx ht
theorem ZEu (F:Kl X.prog X.w X.K X.mg X.base CX x C k ps sp) (hr:Room (k+1) X.A) (hg:Gl X x) (hx:ZA3 CX X E) (ha:PA X (e::es) t) (hdb:(x == ("__debug__":Str))=false:=by decide) (he:starEach (e::es) X.env=(false,eval e X.env)::starEach es X.env:=by rfl) (hpl:(backTo pos (starEach es X.env)).any (·.1)=false:=by rfl) :
  PE X (.Call (.Name x p) (e::es) [] pos) (ZEN C sp [] E t):=by
 obtain ⟨f,fd,h1,h2,h3⟩:=F.ex
 exact pe_make h3 h1 hr hg F.mgC h2 .nil hx ha hdb he hpl
end
noncomputable def ZEJ:V->Bool
 | .ty _=>true
 | .ref _=>true
 | _=>false
noncomputable def cval:V->Value
 | .ty n=>.type n
 | .ref a=>.ref a
 | _=>.none
section
variable {X:Cx}
theorem ZB3:ZBr X (.builtin "isinstance") (fun xs H Q=>∃ x c ty b,xs=[x,c] /\ ZEJ c=true /\ TyOf X.K H x ty /\ PySem.W.kitOne X.K ty (cval c)=some b /\ Q (.bl b) H):=by
 intro pins s σ H xs us Q I r h
 obtain ⟨x,c,ty,b,rfl,hc,hty,e,q⟩:=h
 obtain ⟨u,w',rfl,r1,r2⟩:=ZEL r
 have e2:w'=cval c:=by
  cases c <;> first | (cases hc;done) | exact r2
 subst e2
 exact isinst_ok I r1 hty e fun tk=>⟨.bl b,H,I.tok tk,rfl,q⟩
end
theorem ZAX {v:V} {σ:St} {H:Hp} {Q:VK}:tVar 0 (some v::σ) H Q=Q v H:=by
 apply propext;unfold tVar;simp
theorem ZAa {i:Nat} {a:Option V} {σ:St} {H:Hp} {Q:VK}:tVar (i+1) (a::σ) H Q=tVar i σ H Q:=by
 apply propext;unfold tVar;simp
theorem rI0_int {g:Int->Int->V} {i j:Int} {H:Hp} {Q:VK}:rI0 g (.int i) (.int j) H Q=Q (g i j) H:=by
 apply propext;unfold rI0;simp
theorem rI_int {C:Int->Int->Prop} {g:Int->Int->V} {i j:Int} {H:Hp} {Q:VK}:rI C g (.int i) (.int j) H Q=(C i j /\ Q (g i j) H):=by
 apply propext;unfold rI;simp
theorem rU_int {g:Int->V} {i:Int} {H:Hp} {Q:VK}:rU g (.int i) H Q=Q (g i) H:=by
 apply propext;unfold rU;simp
theorem rEq_int {i j:Int} {H:Hp} {Q:VK}:rEq (.int i) (.int j) H Q=Q (.bl (decide (i=j))) H:=by
 exact propext ⟨fun h=>by simpa using h.2,fun h=>⟨rfl,by simpa using h⟩⟩
theorem rNe_int {i j:Int} {H:Hp} {Q:VK}:rNe (.int i) (.int j) H Q=Q (.bl (!decide (i=j))) H:=by
 exact propext ⟨fun h=>by simpa using h.2,fun h=>⟨rfl,by simpa using h⟩⟩
theorem rEq_bl {i j:Bool} {H:Hp} {Q:VK}:rEq (.bl i) (.bl j) H Q=Q (.bl (decide (i=j))) H:=by
 exact propext ⟨fun h=>by simpa using h.2,fun h=>⟨rfl,by simpa using h⟩⟩
theorem rNe_bl {i j:Bool} {H:Hp} {Q:VK}:rNe (.bl i) (.bl j) H Q=Q (.bl (!decide (i=j))) H:=by
 exact propext ⟨fun h=>by simpa using h.2,fun h=>⟨rfl,by simpa using h⟩⟩
theorem rEq_str {i j:Str} {H:Hp} {Q:VK}:rEq (.str i) (.str j) H Q=Q (.bl (decide (i=j))) H:=by
 exact propext ⟨fun h=>by simpa using h.2,fun h=>⟨rfl,by simpa using h⟩⟩
theorem rNe_str {i j:Str} {H:Hp} {Q:VK}:rNe (.str i) (.str j) H Q=Q (.bl (!decide (i=j))) H:=by
 exact propext ⟨fun h=>by simpa using h.2,fun h=>⟨rfl,by simpa using h⟩⟩
theorem ex_bl {c:Bool} {Q:Bool->Prop}:(∃ k,V.bl c=V.bl k /\ Q k)=Q c:=by
 apply propext;simp
theorem ex_int {c:Int} {Q:Int->Prop}:(∃ k,V.int c=V.int k /\ Q k)=Q c:=by
 apply propext;simp
theorem ZAj {n:Nat} (h:n <= 1000):n <= sizeLine:=yBH (ZAu h)
theorem ZAP {H:Hp} {p:Addr} (h:H p=none) (o:HO):Same H (upd H p o):=fun b u q=>by rw [ZAF (ZAG q h)];exact q
noncomputable def getF (K:W.Frag) (f:Str) (x:V) (H:Hp) (Q:VK):Prop:=∃ a C dx fs v,x=.ref a /\ H a=some (.ins C dx fs) /\ Cls K C /\ NoAttr K C f /\ fs.lookup f=some v /\ Q v H
theorem tFld_eq {K:W.Frag} {ta:TE} {f:Str} {σ:St} {H:Hp} {Q:VK}:tFld K ta f σ H Q=ta σ H (fun x H1=>getF K f x H1 Q):=rfl
theorem getF_of {K:W.Frag} {f:Str} {a C dx:Addr} {fs:List (Str×V)} {v:V} {H:Hp} {Q:VK} (h:H a=some (.ins C dx fs)) (cl:Cls K C) (n:NoAttr K C f) (l:fs.lookup f=some v) (q:Q v H):getF K f (.ref a) H Q:=⟨a,C,dx,fs,v,rfl,h,cl,n,l,q⟩
noncomputable def setF (K:W.Frag) (f:Str) (x y:V) (H:Hp) (Q:Hp->Prop):Prop:=∃ a C dx fs,x=.ref a /\ H a=some (.ins C dx fs) /\ Cls K C /\ NoAttr K C f /\ fs.length < 1000 /\ Q (upd H a (.ins C dx (putF f y fs)))
theorem sFld_eq {K:W.Frag} {ta tv:TE} {f:Str} {D:Ends} {σ:St} {H:Hp}:sFld K ta tv f D σ H=tv σ H (fun y H1=>ta σ H1 fun x H2=>setF K f x y H2 (D.nx σ)):=rfl
theorem setF_of {K:W.Frag} {f:Str} {a C dx:Addr} {fs:List (Str×V)} {y:V} {H:Hp} {Q:Hp->Prop} (h:H a=some (.ins C dx fs)) (cl:Cls K C) (n:NoAttr K C f) (l:fs.length < 1000) (q:Q (upd H a (.ins C dx (putF f y fs)))):setF K f (.ref a) y H Q:=⟨a,C,dx,fs,rfl,h,cl,n,l,q⟩
theorem ZCT {K:W.Frag} {p:Addr} {xs:List V} {i:Int} {v:V} {H:Hp} {Q:VK} (h:SqL K H p xs) (e:atI xs i=some v) (q:Q v H):rIxL K (.ref p) (.int i) H Q:=⟨p,xs,i,v,rfl,rfl,h,e,q⟩
theorem ZBv {K:W.Frag} {p:Addr} {xs:List V} {i:Int} {v:V} {H:Hp} {Q:VK} (h:SqT K H p xs) (e:atI xs i=some v) (q:Q v H):rIxT K (.ref p) (.int i) H Q:=⟨p,xs,i,v,rfl,rfl,h,e,q⟩
theorem ZA2 {α:Type} {xs:List α} {i:Int} {v:α} (h0:0 <= i) (h:xs[i.toNat]?=some v):atI xs i=some v:=by
 have q:=atI_nat h
 rwa [Int.toNat_of_nonneg h0] at q
theorem atI_ints {xs:List Int} {i:Int} {v:Int} (h0:0 <= i) (h:xs[i.toNat]?=some v):atI (xs.map V.int) i=some (.int v):=ZA2 h0 (by rw [yAP,h];rfl)
noncomputable def Nxt (P:Nat->List V->St->Hp->Prop) (n i:Nat) (ys:List V) (σ:St) (H:Hp):Prop:=∃ m',m' < n-i /\ m'=n-(i+1) /\ i+1 <= n /\ P (i+1) ys σ H
theorem Nxt.of {P:Nat->List V->St->Hp->Prop} {n i:Nat} {ys:List V} {σ:St} {H:Hp} (h:i < n) (p:P (i+1) ys σ H):Nxt P n i ys σ H:=⟨n-(i+1),by omega,rfl,h,p⟩
theorem comp_list {K:W.Frag} {a:Addr} {xs:List V} {g:TG} {tt:TT} {te:TE} {Q:VK} {σ0:St} {H:Hp} (P:Nat->List V->St->Hp->Prop) (h0:P 0 [] σ0 H) (hl:∀ i ys σ H,i <= xs.length->P i ys σ H->SqL K H a xs /\ ys.length <= i) (hz:xs.length <= sizeLine)
  (hs:∀ i ys x σ H,i < xs.length->xs[i]?=some x->P i ys σ H->g x σ H fun σ2 H2=>tt σ2 H2 fun b H3=>if b=true then te σ2 H3 fun y H4=>Nxt P xs.length i (ys++[y]) σ2 H4 else Nxt P xs.length i ys σ2 H3)
  (hd:∀ ys σ H,P xs.length ys σ H->∀ p,H p=none->Q (.ref p) (upd H p (.lst ys))) :
  ∃ W:Nat->Nat->List V->St->Hp->Prop,(∃ m,W 0 m [] σ0 H) /\ ∀ i m ys σ H,W i m ys σ H ->
   ((Itl K a).stop i H /\ ys.length <= sizeLine /\ ∀ p,H p=none->Q (.ref p) (upd H p (.lst ys))) ∨
   ((Itl K a).go i H /\ ys.length < sizeLine /\ ∀ x H',(Itl K a).yld i H x H'->g x σ H' fun σ2 H2=>tt σ2 H2 fun b H3=>if b=true then te σ2 H3 fun y H4=>∃ m',m' < m /\ W (i+1) m' (ys++[y]) σ2 H4 else ∃ m',m' < m /\ W (i+1) m' ys σ2 H3):=by
 refine ⟨fun i m ys σ H=>m=xs.length-i /\ i <= xs.length /\ P i ys σ H,⟨xs.length,by simp,yAC _,h0⟩,?_⟩
 rintro i m ys σ H ⟨rfl,hi,p⟩
 obtain ⟨q,ly⟩:=hl i ys σ H hi p
 by_cases hlt:i < xs.length
 .refine .inr ⟨⟨xs,xs[i],q,by simp [hlt]⟩,by omega,fun x H' y=>?_⟩
  obtain ⟨e,y⟩:=y
  subst e
  exact hs i ys x σ _ hlt (y xs q) p
 .have e:i=xs.length:=by omega
  subst e
  exact .inl ⟨⟨xs,q,yAA _⟩,by omega,hd ys σ H p⟩
theorem comp_range {lo:Int} {n:Nat} {g:TG} {tt:TT} {te:TE} {Q:VK} {σ0:St} {H:Hp} (P:Nat->List V->St->Hp->Prop) (h0:P 0 [] σ0 H) (hl:∀ i ys σ H,P i ys σ H->ys.length <= i) (hz:n <= sizeLine)
  (hs:∀ i ys σ H,i < n->P i ys σ H->g (.int (lo+i)) σ H fun σ2 H2=>tt σ2 H2 fun b H3=>if b=true then te σ2 H3 fun y H4=>Nxt P n i (ys++[y]) σ2 H4 else Nxt P n i ys σ2 H3)
  (hd:∀ ys σ H,P n ys σ H->∀ p,H p=none->Q (.ref p) (upd H p (.lst ys))) :
  ∃ W:Nat->Nat->List V->St->Hp->Prop,(∃ m,W 0 m [] σ0 H) /\ ∀ i m ys σ H,W i m ys σ H ->
   ((Itr lo n).stop i H /\ ys.length <= sizeLine /\ ∀ p,H p=none->Q (.ref p) (upd H p (.lst ys))) ∨
   ((Itr lo n).go i H /\ ys.length < sizeLine /\ ∀ x H',(Itr lo n).yld i H x H'->g x σ H' fun σ2 H2=>tt σ2 H2 fun b H3=>if b=true then te σ2 H3 fun y H4=>∃ m',m' < m /\ W (i+1) m' (ys++[y]) σ2 H4 else ∃ m',m' < m /\ W (i+1) m' ys σ2 H3):=by
 refine ⟨fun i m ys σ H=>m=n-i /\ i <= n /\ P i ys σ H,⟨n,by simp,yAC _,h0⟩,?_⟩
 rintro i m ys σ H ⟨rfl,hi,p⟩
 have ly:=hl i ys σ H p
 by_cases hlt:i < n
 .refine .inr ⟨hlt,by omega,fun x H' y=>?_⟩
  obtain ⟨e,y⟩:=y
  subst e y
  exact hs i ys σ _ hlt p
 .have e:i=n:=by omega
  subst e
  exact .inl ⟨yAA _,by omega,hd ys σ H p⟩
theorem Same.upd {H H':Hp} {p:Addr} {o:HO} (e:Same H H') (h:H p=none):Same H (upd H' p o):=fun b u q=>by rw [ZAF (ZAG q h)];exact e b u q
theorem Same.new {H H':Hp} {p:Addr} {o:HO} (e:Same H H') (h:H' p=none):Same H (L2.upd H' p o):=e.upd (e.free h)
theorem kit_same {K:W.Frag} {t:Value} (h:(t == t)=true):PySem.W.kitOne K t t=some true:=by unfold PySem.W.kitOne;rw [if_pos h]
theorem ZCz (ns:List Int) (lo hi:Option Int):cutV (ns.map V.int) lo hi=(((ns.drop (HT.sIx ns.length 0 lo)).take (HT.sIx ns.length ns.length hi-HT.sIx ns.length 0 lo)).map V.int):=by
 unfold cutV
 rw [yAB,List.map_take,List.map_drop]
theorem ZCd {ns:List Int} {i:Nat} {x:V} (h:(ns.map V.int)[i]?=some x):∃ n,ns[i]?=some n /\ x=.int n:=by
 rw [yAP] at h
 cases e:ns[i]? with
 | none=>rw [e] at h;cases h
 | some n=>rw [e] at h;exact ⟨n,rfl,(Option.some.inj h).symm⟩
theorem ZCm {K:W.Frag} {a:Addr} {xs:List V} {lo hi:Option Int} {H:Hp} {Q:VK} (h:SqL K H a xs) (q:∀ p,H p=none->Q (.ref p) (upd H p (.lst (cutV xs lo hi)))):rSlL K (.ref a) lo hi H Q:=⟨a,xs,rfl,h,q⟩
noncomputable def forL (K:W.Frag) (g:TG) (tb:TS) (D:Ends) (σ:St) (x:V) (H1:Hp):Prop:=∃ a,x=.ref a /\ (∃ xs,SqL K H1 a xs) /\ ∃ W:Nat->Nat->St->Hp->Prop,(∃ m,W 0 m σ H1) /\ ∀ i m σ H,W i m σ H ->
 ((Itl K a).stop i H /\ D.nx σ H)∨((Itl K a).go i H /\ ∃ N:St->Hp->Prop,(∀ σ' H',N σ' H'->∃ m',m' < m /\ W (i+1) m' σ' H') /\ ∀ x H',(Itl K a).yld i H x H'->g x σ H' fun σ2 H2=>tb { D with nx:=N,ct:=N,bk:=D.nx } σ2 H2)
theorem tForL_eq {K:W.Frag} {tl:TE} {g:TG} {tb:TS} {D:Ends} {σ:St} {H:Hp}:tFor (ZEy K tl) g tb D σ H=tl σ H (fun x H1=>forL K g tb D σ x H1):=rfl
theorem ZDY {K:W.Frag} {g:TG} {tb:TS} {D:Ends} {σ:St} {H:Hp} {a:Addr} {xs:List V} (h:SqL K H a xs) (Pv:Nat->St->Hp->Prop) (h0:Pv 0 σ H) (hl:∀ i σ H,i <= xs.length->Pv i σ H->SqL K H a xs)
  (hs:∀ i x σ H,xs[i]?=some x->Pv i σ H->g x σ H fun σ2 H2=>tb { D with nx:=Pv (i+1),ct:=Pv (i+1),bk:=D.nx } σ2 H2) (hd:∀ σ H,Pv xs.length σ H->D.nx σ H):forL K g tb D σ (.ref a) H :=
 ⟨a,rfl,⟨xs,h⟩,for_list Pv h0 hl hs hd⟩
noncomputable def forR (lo:Int) (g:TG) (tb:TS) (D:Ends) (σ:St) (n:Nat) (H1:Hp):Prop:=∃ W:Nat->Nat->St->Hp->Prop,(∃ m,W 0 m σ H1) /\ ∀ i m σ H,W i m σ H ->
 ((Itr lo n).stop i H /\ D.nx σ H)∨((Itr lo n).go i H /\ ∃ N:St->Hp->Prop,(∀ σ' H',N σ' H'->∃ m',m' < m /\ W (i+1) m' σ' H') /\ ∀ x H',(Itr lo n).yld i H x H'->g x σ H' fun σ2 H2=>tb { D with nx:=N,ct:=N,bk:=D.nx } σ2 H2)
noncomputable def forR1 (g:TG) (tb:TS) (D:Ends) (σ:St) (x:V) (H1:Hp):Prop:=∃ j:Int,[x]=[.int j] /\ -(2 ^ 62) <= j /\ j < 2 ^ 62 /\ forR 0 g tb D σ j.toNat H1
noncomputable def forR2 (g:TG) (tb:TS) (D:Ends) (σ:St) (x y:V) (H1:Hp):Prop:=∃ i j:Int,[x,y]=[.int i,.int j] /\ (-(2 ^ 62) <= i /\ i < 2 ^ 62 /\ -(2 ^ 62) <= j /\ j < 2 ^ 62) /\ forR i g tb D σ (j-i).toNat H1
theorem tForR1_eq {t:TE} {g:TG} {tb:TS} {D:Ends} {σ:St} {H:Hp}:tFor (ZEx (ZBw t tNil)) g tb D σ H=t σ H (fun x H1=>forR1 g tb D σ x H1):=rfl
theorem tForR2_eq {t u:TE} {g:TG} {tb:TS} {D:Ends} {σ:St} {H:Hp}:tFor (ZEw (ZBw t (ZBw u tNil))) g tb D σ H=t σ H (fun x H1=>u σ H1 fun y H2=>forR2 g tb D σ x y H2):=rfl
theorem ZCy {lo:Int} {n:Nat} {g:TG} {tb:TS} {D:Ends} {σ:St} {H:Hp} (Pv:Nat->St->Hp->Prop) (h0:Pv 0 σ H)
  (hs:∀ i σ H,i < n->Pv i σ H->g (.int (lo+i)) σ H fun σ2 H2=>tb { D with nx:=Pv (i+1),ct:=Pv (i+1),bk:=D.nx } σ2 H2) (hd:∀ σ H,Pv n σ H->D.nx σ H):forR lo g tb D σ n H:=for_range Pv h0 hs hd
theorem ZCH {j:Int} {g:TG} {tb:TS} {D:Ends} {σ:St} {H:Hp} (h:-1000 <= j /\ j <= 1000) (q:forR 0 g tb D σ j.toNat H):forR1 g tb D σ (.int j) H:=⟨j,rfl,by omega,by omega,q⟩
noncomputable def ZEh (K:W.Frag) (g:TG) (tt:TT) (te:TE) (σ0:St) (Q:VK) (x:V) (H1:Hp):Prop:=∃ a,x=.ref a /\ (∃ xs,SqL K H1 a xs) /\ ∃ W:Nat->Nat->List V->St->Hp->Prop,(∃ m,W 0 m [] σ0 H1) /\ ∀ i m ys σ H,W i m ys σ H ->
 ((Itl K a).stop i H /\ ys.length <= sizeLine /\ ∀ p,H p=none->Q (.ref p) (upd H p (.lst ys))) ∨
 ((Itl K a).go i H /\ ys.length < sizeLine /\ ∀ x H',(Itl K a).yld i H x H'->g x σ H' fun σ2 H2=>tt σ2 H2 fun b H3=>if b=true then te σ2 H3 fun y H4=>∃ m',m' < m /\ W (i+1) m' (ys++[y]) σ2 H4 else ∃ m',m' < m /\ W (i+1) m' ys σ2 H3)
theorem tCompL_eq {k:Nat} {js:List Nat} {K:W.Frag} {tl:TE} {g:TG} {tt:TT} {te:TE} {σ:St} {H:Hp} {Q:VK}:ZDc k js (ZEy K tl) g tt te σ H Q=tl σ H (fun x H1=>ZEh K g tt te (up k js σ) Q x H1):=rfl
theorem compL_of {K:W.Frag} {a:Addr} {xs:List V} {g:TG} {tt:TT} {te:TE} {Q:VK} {σ0:St} {H:Hp} (h:SqL K H a xs) (hz:xs.length <= 1000) (P:Nat->List V->St->Hp->Prop) (h0:P 0 [] σ0 H) (hl:∀ i ys σ H,i <= xs.length->P i ys σ H->SqL K H a xs /\ ys.length <= i)
  (hs:∀ i ys x σ H,i < xs.length->xs[i]?=some x->P i ys σ H->g x σ H fun σ2 H2=>tt σ2 H2 fun b H3=>if b=true then te σ2 H3 fun y H4=>Nxt P xs.length i (ys++[y]) σ2 H4 else Nxt P xs.length i ys σ2 H3)
  (hd:∀ ys σ H,P xs.length ys σ H->∀ p,H p=none->Q (.ref p) (upd H p (.lst ys))):ZEh K g tt te σ0 Q (.ref a) H:=⟨a,rfl,⟨xs,h⟩,comp_list P h0 hl (ZAj hz) hs hd⟩
noncomputable def compR (lo:Int) (g:TG) (tt:TT) (te:TE) (σ0:St) (Q:VK) (n:Nat) (H1:Hp):Prop:=∃ W:Nat->Nat->List V->St->Hp->Prop,(∃ m,W 0 m [] σ0 H1) /\ ∀ i m ys σ H,W i m ys σ H ->
 ((Itr lo n).stop i H /\ ys.length <= sizeLine /\ ∀ p,H p=none->Q (.ref p) (upd H p (.lst ys))) ∨
 ((Itr lo n).go i H /\ ys.length < sizeLine /\ ∀ x H',(Itr lo n).yld i H x H'->g x σ H' fun σ2 H2=>tt σ2 H2 fun b H3=>if b=true then te σ2 H3 fun y H4=>∃ m',m' < m /\ W (i+1) m' (ys++[y]) σ2 H4 else ∃ m',m' < m /\ W (i+1) m' ys σ2 H3)
noncomputable def compR1 (g:TG) (tt:TT) (te:TE) (σ0:St) (Q:VK) (x:V) (H1:Hp):Prop:=∃ j:Int,[x]=[.int j] /\ -(2 ^ 62) <= j /\ j < 2 ^ 62 /\ compR 0 g tt te σ0 Q j.toNat H1
theorem tCompR1_eq {k:Nat} {js:List Nat} {t:TE} {g:TG} {tt:TT} {te:TE} {σ:St} {H:Hp} {Q:VK}:ZDc k js (ZEx (ZBw t tNil)) g tt te σ H Q=t σ H (fun x H1=>compR1 g tt te (up k js σ) Q x H1):=rfl
section
variable {X:Cx}
end
theorem gCons_eq {t:TG} {u:TGs} {v:V} {r:List V} {σ:St} {H:Hp} {Q:St->Hp->Prop}:ZE0 t u (v::r) σ H Q=t v σ H (fun σ' H'=>u r σ' H' Q):=by
 apply propext;unfold ZE0;constructor
 .rintro ⟨v',r',e,q⟩;cases e;exact q
 .exact fun q=>⟨v,r,rfl,q⟩
theorem gNil_eq {σ:St} {H:Hp} {Q:St->Hp->Prop}:gNil [] σ H Q=Q σ H:=by
 apply propext;unfold gNil;simp
theorem ZDX {K:W.Frag} {n:Nat} {t:TGs} {a:Addr} {xs:List V} {σ:St} {H:Hp} {Q:St->Hp->Prop} (h:SqT K H a xs) (l:xs.length=n) (q:t xs σ H Q):gTup K n t (.ref a) σ H Q:=⟨a,xs,rfl,h,l,q⟩
section
variable {X:Cx} {tg l e o:Expr} {es:List Expr} {tl te to:TE} {t:TA} {pos apos cpos:Pos} {f:Str}
theorem ix_tupK (K:W.Frag) (h:X.K=K:=by rfl):IxR X (rIxT K):=h ▸ ZCS
theorem pg_tupK (K:W.Frag) {k:Nat} {tgs:TGs} {n:Nat} (hc:X.calm=true) (hg:PGs X es tgs)
  (hn:(assignEach es X.env).length=n:=by rfl) (hst:(assignEach es X.env).findIdx? (·.1)=none:=by rfl) (h:X.K=K:=by rfl):PG X (.Tuple es k pos) (gTup K n tgs):=h ▸ ZEA hc hg hn hst
end
section
variable {X:Cx}
noncomputable def rBits:V->List V->Hp->VK->Prop:=fun x vs H Q=>∃ i,x=.int i /\ vs=[] /\ Q (.int (Builtin.Int.intBits i:Nat)) H
theorem mt_bitlen:MtR X "int.bit_length" rBits:=by
 intro pins s σ H x vs v us Q I rx rv h
 obtain ⟨i,rfl,rfl,q⟩:=h
 obtain ⟨t,rfl⟩:=rx
 cases rv.zero
 refine call_gives F.slot_int_bit_length (typeIs_int s i t) F.entry_int_bit_length (F.args_int_bit_length_1 _) (PySem.AutoIntG2.int_bit_length_int_0 i t) ?_
 exact ⟨.int (Builtin.Int.intBits i:Nat),_,I.tok _,⟨_,rfl⟩,q⟩
theorem bits_nat (n:Nat) (h:n≠0):Builtin.Int.intBits (n:Int)=n.log2+1:=by
 unfold Builtin.Int.intBits
 rw [if_neg (by simpa using h)]
 rfl
theorem tAug_eq {i:Nat} {te:TE} {ti:TIp} {D:Ends} {σ:St} {H:Hp}:tAug i te ti D σ H=tVar i σ H (fun x H0=>te σ H0 fun y H1=>ti x y H1 fun z H2=>D.nx (σ.set i (some z)) H2):=rfl
theorem ipI_int {f:Int->Int->Int} {i j:Int} {H:Hp} {Q:VK}:ipI f (.int i) (.int j) H Q=Q (.int (f i j)) H:=by
 refine propext ⟨?_,fun q=>⟨i,j,rfl,rfl,q⟩⟩
 rintro ⟨a,b,e1,e2,q⟩
 cases e1;cases e2;exact q
theorem cx_K {CX:CXT} {P:Program} {w:World} {K:W.Frag} {mg:Str->Option Value} {base:Heap} {N:List Str} {qual:Str} {scope:Scope} {f:Addr} {cd:Value} {A:Around} {outer:List Env} {s:Shared} {H:Hp} {E:XK}:(cxOf CX P w K mg base N qual scope f cd A outer s H E).K=K:=rfl
noncomputable def wBody (W:Nat->St->Hp->Prop) (m:Nat) (tb:TS) (D:Ends) (σ:St) (H1:Hp):Prop:=∃ N:St->Hp->Prop,(∀ σ' H',N σ' H'->∃ m',m' < m /\ W m' σ' H') /\ tb { D with nx:=N,ct:=N,bk:=D.nx } σ H1
theorem ZCW {W:Nat->St->Hp->Prop} {m:Nat} {tb:TS} {D:Ends} {σ:St} {H1:Hp} (h:tb { D with nx:=fun σ' H'=>∃ m',m' < m /\ W m' σ' H',ct:=fun σ' H'=>∃ m',m' < m /\ W m' σ' H',bk:=D.nx } σ H1):wBody W m tb D σ H1:=⟨_,fun _ _ q=>q,h⟩
theorem ZCV {c:TT} {tb:TS} {D:Ends} {σ:St} {H:Hp} (W:Nat->St->Hp->Prop) (h0:∃ m,W m σ H) (hs:∀ m σ H,W m σ H->c σ H fun b H1=>if b=true then wBody W m tb D σ H1 else D.nx σ H1):tWhile c tb D σ H:=⟨W,h0,hs⟩
noncomputable def insV (xs:List V) (i:Int) (y:V):List V:=let k:=if i < 0 then (i+(xs.length:Int)).toNat else min i.toNat xs.length;xs.take k++y::xs.drop k
noncomputable def rInsert:V->List V->Hp->VK->Prop:=fun x vs H Q=>∃ l xs i y,x=.ref l /\ vs=[.int i,y] /\ H l=some (.lst xs) /\ xs.length < sizeLine /\ (-(2 ^ 62) <= i /\ i < 2 ^ 62) /\ Q .non (upd H l (.lst (insV xs i y)))
theorem ins_arr (its:List Value) (k:Nat) (u:Value) (hk:k <= its.length):(its.toArray.extract 0 k).push u++its.toArray.extract k=(its.take k++u::its.drop k).toArray:=by
 apply Array.ext'
 simp
 exact yBY (by rw [yBE];exact yAA _)
theorem insV_length (xs:List V) (i:Int) (y:V):(insV xs i y).length=xs.length+1:=by
 unfold insV
 dsimp only
 rw [yAF,yAJ,yAK,yBE]
 omega
theorem Vals.ins {xs:List V} {us:List Value} {y:V} {u:Value} (r:Vals xs us) (q:RelV y u) (k:Nat):Vals (xs.take k++y::xs.drop k) (us.take k++u::us.drop k):=(r.take k).append (.cons q (r.drop k))
theorem ZCF:MtM X "list.insert" rInsert:=by
 intro pins s σ H x vs v us Q I rx rv h
 obtain ⟨l,xs,i,y,rfl,rfl,hH,hz,hi,q⟩:=h
 cases rx
 obtain ⟨u,u2,rfl,ru,ru2⟩:=rv.two
 obtain ⟨t,rfl⟩:=ru
 obtain ⟨z,its,n,r,hl,e⟩:=I.lstM hH
 have hc0:¬(!Builtin.List.listFitsIndex i)=true:=by
  unfold Builtin.List.listFitsIndex
  have:(decide (-(2 ^ 63:Int) <= i) && decide (i < 2 ^ 63))=true:=by
   rw [Bool.and_eq_true];exact ⟨decide_eq_true (by omega),decide_eq_true (by omega)⟩
  simpa using this
 refine call_meets F.slot_list_insert ⟨_,e,rfl⟩ F.entry_list_insert (F.args_list_insert_3 _ _ _) (PySem.AutoListH.list_insert_list_int_val_1 l its.toArray n i t u2 hc0 (by rw [yAL];omega)) ⟨e,?_⟩
 have hk:(if i < 0 then (i+(its.length:Int)).toNat else min i.toNat its.length) <= its.length:=by split <;> omega
 refine ⟨.non,_,I.lset (its':=its.take (if i < 0 then (i+(its.length:Int)).toNat else min i.toNat its.length)++u2::its.drop (if i < 0 then (i+(its.length:Int)).toNat else min i.toNat its.length)) hH e ?_ (ys:=insV xs i y) ?_ ?_,rfl,q⟩
 .show (its.toArray.extract 0 _).push u2++its.toArray.extract _=_
  rw [yAL]
  exact ins_arr its _ u2 hk
 .unfold insV
  rw [hl]
  exact r.ins ru2 _
 .rw [insV_length];omega
end
structure Enc {α:Type} [DecidableEq α] (e:α->PyData) (n:Nat):Prop where
 eq:∀ a b,PyData.eqv (e a) (e b)=decide (a=b)
 lay:∀ a,(e a).canLay0=true
 dep:∀ a,(e a).depth <= n
theorem Enc.int:Enc PyData.int 0:=⟨fun a b=>by unfold PyData.eqv;rw [Bool.eq_iff_iff];simp,fun a=>by unfold PyData.canLay0;rfl,fun a=>by unfold PyData.depth;exact yAA _⟩
section
variable {α β γ:Type} [DecidableEq α] [DecidableEq β] [DecidableEq γ] {e:α->PyData} {f:β->PyData} {g:γ->PyData} {n m k:Nat}
theorem Enc.all (h:Enc e n):∀ xs ys:List α,PyData.eqvAll (xs.map e) (ys.map e)=decide (xs=ys)
 | [],[]=>by simp [PyData.eqvAll]
 | x::xs,[]=>by simp [PyData.eqvAll]
 | [],y::ys=>by simp [PyData.eqvAll]
 | x::xs,y::ys=>by
  rw [yAQ,yAQ]
  unfold PyData.eqvAll
  rw [h.eq,h.all xs ys,<- Bool.decide_and]
  exact decide_eq_decide.mpr (by rw [List.cons.injEq])
theorem Enc.layAll (h:Enc e n):∀ xs:List α,PyData.canLayAll0 (xs.map e)=true
 | []=>by simp [PyData.canLayAll0]
 | x::xs=>by rw [yAQ];unfold PyData.canLayAll0;rw [h.lay,h.layAll xs];rfl
theorem Enc.depAll (h:Enc e n):∀ xs:List α,PyData.depthAll (xs.map e) <= n
 | []=>by simp [PyData.depthAll]
 | x::xs=>by
  rw [yAQ];unfold PyData.depthAll
  have a:=h.dep x
  have b:=h.depAll xs
  omega
theorem Enc.list (h:Enc e n):Enc (fun xs:List α=>PyData.list (xs.map e)) (n+1) :=
 ⟨fun a b=>by unfold PyData.eqv;exact h.all a b,fun a=>by unfold PyData.canLay0;exact h.layAll a,fun a=>by unfold PyData.depth;have:=h.depAll a;omega⟩
theorem eqD_of {K:W.Frag} {H:Hp} {x y:V} {a b:α} {Q:VK} (h:Enc e n) (hn:n <= 64) (dx:Dp K H (e a) x) (dy:Dp K H (e b) y) (q:Q (.bl (decide (a=b))) H):rEqD K x y H Q :=
 ⟨_,_,dx,dy,h.lay a,h.lay b,yAD (h.dep a) hn,by rw [h.eq];exact q⟩
theorem neD_of {K:W.Frag} {H:Hp} {x y:V} {a b:α} {Q:VK} (h:Enc e n) (hn:n <= 64) (dx:Dp K H (e a) x) (dy:Dp K H (e b) y) (q:Q (.bl (!decide (a=b))) H):rNeD K x y H Q :=
 ⟨_,_,dx,dy,h.lay a,h.lay b,yAD (h.dep a) hn,by rw [h.eq];exact q⟩
end
theorem ZBi {K:W.Frag} {H:Hp} {a:Addr} {xs:List Int} (h:SqL K H a (xs.map V.int)):Dp K H (.list (xs.map PyData.int)) (.ref a):=ZCJ h (DpAll.ints xs)
section
variable {K:W.Frag} {H:Hp} {R:Bool->Prop}
theorem ZDw {x c:V} {ty:Value} {b:Bool} (hc:ZEJ c=true) (t:TyOf K H x ty) (k:PySem.W.kitOne K ty (cval c)=some b) (q:R b):∃ x' c' ty b,[x,c]=[x',c'] /\ ZEJ c'=true /\ TyOf K H x' ty /\ PySem.W.kitOne K ty (cval c')=some b /\ R b:=⟨x,c,ty,b,rfl,hc,t,k,q⟩
theorem inst_int {i:Int} (q:R true):∃ x' c' ty b,[V.int i,V.ty "int"]=[x',c'] /\ ZEJ c'=true /\ TyOf K H x' ty /\ PySem.W.kitOne K ty (cval c')=some b /\ R b:=ZDw rfl (.int i) (kit_same rfl) q
theorem inst_int_bl {i:Int} (k:PySem.W.kitOne K (.type "int") (.type "bool")=some false) (q:R false):∃ x' c' ty b,[V.int i,V.ty "bool"]=[x',c'] /\ ZEJ c'=true /\ TyOf K H x' ty /\ PySem.W.kitOne K ty (cval c')=some b /\ R b:=ZDw rfl (.int i) k q
theorem inst_lst {a:Addr} {xs:List V} (h:H a=some (.lst xs)) (q:R true):∃ x' c' ty b,[V.ref a,V.ty "list"]=[x',c'] /\ ZEJ c'=true /\ TyOf K H x' ty /\ PySem.W.kitOne K ty (cval c')=some b /\ R b:=ZDw rfl (.lst h) (kit_same rfl) q
end
structure FunD (K:W.Frag) (x qual:Str) (st:Stmt) (f:Addr) (fd:FuncData) (dv:List Value):Prop where
 ex:∃ (oc:Value) (od:Option Addr) (T:Addr) (kV doc pm:Value) (an:Option Addr) (cdv ct:Value) (osl:Array (Option Value)),
  fd=W.fnOf x qual (ZAN st) (ZAL st) (ZAB st) (.ref T) kV doc pm an cdv ct /\ K.lookup f=some ⟨oc,od,.func fd,osl⟩ /\ W.codeIn K cdv qual=true /\ ∃ o n,K.lookup T=some o /\ o.data=.seq dv.toArray n
 kp:W.keepIn K (.ref f)=true
section
variable {P:Program} {w:World} {K:W.Frag} {mg:Str->Option Value} {base:Heap}
theorem FunD.ok {x qual:Str} {st:Stmt} {f:Addr} {fd:FuncData} {dv:List Value} {N ps:List Str} {k:Nat} {sp:Sp} (F:FunD K x qual st f fd dv) (S:FnScope N ps (ZAB st)) (len:∀ vs H Q E,sp vs H Q E->vs.length=ps.length)
  (hbody:∀ (cdv:Value) (A:Around) (outer:List Env) (s:Shared) (H:Hp) (vs:List V) (Q:VK) (E:XK),Room k (A.deeper (envOfC qual (ZAB st) s.heap.objs.size f cdv))->sp vs H Q E ->
   ∃ t,PSs (cxOf CX0 P w K mg base N qual (ZAB st) f cdv A outer s H E).nox (ZAL st) t /\ t { nx:=fun _ H'=>Q .non H',rt:=Q } (start N vs) H):FnOk P w K mg base CX0 (k+1) f fd ps sp:=by
 obtain ⟨oc,od,T,kV,doc,pm,an,cdv,ct,osl,rfl,lk,hcd,_⟩:=F.ex
 refine ZEl lk hcd S len fun A outer s H vs Q E hr hsp=>?_
 obtain ⟨t,h,q⟩:=hbody cdv A outer s H vs Q E hr hsp
 exact ⟨t,h.nox,q⟩
theorem FunD.binds {x qual:Str} {st:Stmt} {f:Addr} {fd:FuncData} {dv ds:List Value} {ps:List Str} (F:FunD K x qual st f fd dv)
  (h:∀ (T:Addr) (kV doc pm:Value) (an:Option Addr) (cdv ct:Value) (us:List Value),(us++ds).length=ps.length->∃ k,bindArgs (W.fnOf x qual (ZAN st) (ZAL st) (ZAB st) (.ref T) kV doc pm an cdv ct) ⟨us,[]⟩=seqItems? (.ref T) >>= k /\ k (some dv.toArray)=pure (ps.zip (us++ds))):Binds K fd ps ds:=by
 obtain ⟨oc,od,T,kV,doc,pm,an,cdv,ct,osl,rfl,lk,hcd,o,n,hT,ho⟩:=F.ex
 intro s us KX hl
 obtain ⟨k,h1,h2⟩:=h T kV doc pm an cdv ct us hl
 exact PySem.W.binds_K KX rfl hT ho h1 h2
theorem funD_mk {x qual:Str} {st:Stmt} {f T:Addr} {oc:Value} {od an:Option Addr} {osl:Array (Option Value)} {kV doc pm cdv ct:Value} {dv:List Value} {ocT:Value} {odT:Option Addr} {nT:Nat} {slT:Array (Option Value)} (l:K.lookup f=some ⟨oc,od,.func (W.fnOf x qual (ZAN st) (ZAL st) (ZAB st) (.ref T) kV doc pm an cdv ct),osl⟩)
  (c:W.codeIn K cdv qual=true) (k:W.keepIn K (.ref f)=true) (t:K.lookup T=some ⟨ocT,odT,.seq dv.toArray nT,slT⟩):FunD K x qual st f (W.fnOf x qual (ZAN st) (ZAL st) (ZAB st) (.ref T) kV doc pm an cdv ct) dv:=⟨⟨oc,od,T,kV,doc,pm,an,cdv,ct,osl,rfl,l,c,_,nT,t,rfl⟩,k⟩
end
structure FnD (P:Program) (w:World) (K:W.Frag) (mg:Str->Option Value) (base:Heap) (CX:CXT) (x:Str) (k:Nat) (ps:List Str) (sp:Sp) (dvs:List V):Prop where
 ex:∃ f fd ds,FnOk P w K mg base CX k f fd ps sp /\ Binds K fd ps ds /\ Vals dvs ds /\ W.keepIn K (.ref f)=true /\ mg x=some (.ref f)
structure KlD (P:Program) (w:World) (K:W.Frag) (mg:Str->Option Value) (base:Heap) (CX:CXT) (x:Str) (C:Addr) (k:Nat) (ps:List Str) (sp:Sp) (dvs:List V):Prop where
 mgC:mg x=some (.ref C)
 ex:∃ f fd ds,FnOk P w K mg base CX k f fd ps sp /\ Binds K fd ps ds /\ Vals dvs ds /\ Mk K C f
section
variable {X:Cx} {CX:CXT} {k:Nat} {ps:List Str} {sp:Sp} {dvs:List V} {E:XK} {x m:Str} {C:Addr} {p pos apos:Pos} {e o:Expr} {es:List Expr} {ta:TE} {t:TA}
theorem pe_fnD (F:FnD X.prog X.w X.K X.mg X.base CX x k ps sp dvs) (hr:Room k X.A) (hg:Gl X x) (hx:ZA3 CX X E) (ha:PA X (e::es) t) (hdb:(x == ("__debug__":Str))=false:=by decide) (he:starEach (e::es) X.env=(false,eval e X.env)::starEach es X.env:=by rfl) (hpl:(backTo pos (starEach es X.env)).any (·.1)=false:=by rfl) :
  PE X (.Call (.Name x p) (e::es) [] pos) (ZEQ sp dvs E t):=by
 obtain ⟨f,fd,ds,h1,h2,hv,h3,h4⟩:=F.ex
 exact pe_call h1 hr hg h4 h3 h2 hv hx ha hdb he hpl
theorem pe_mkD (F:KlD X.prog X.w X.K X.mg X.base CX x C k ps sp dvs) (hr:Room (k+1) X.A) (hg:Gl X x) (hx:ZA3 CX X E) (ha:PA X (e::es) t) (hdb:(x == ("__debug__":Str))=false:=by decide) (he:starEach (e::es) X.env=(false,eval e X.env)::starEach es X.env:=by rfl) (hpl:(backTo pos (starEach es X.env)).any (·.1)=false:=by rfl) :
  PE X (.Call (.Name x p) (e::es) [] pos) (ZEN C sp dvs E t):=by
 obtain ⟨f,fd,ds,h1,h2,hv,h3⟩:=F.ex
 exact pe_make h3 h1 hr hg F.mgC h2 hv hx ha hdb he hpl
end
section
variable {X:Cx}
theorem ZCC (ns:List Int):∀ n,n <= ns.length->preSum (fun i=>ns.getD i 0) n=(ns.take n).sum
 | 0,_=>by simp [preSum]
 | n+1,h=>by
  show preSum (fun i=>ns.getD i 0) n+ns.getD n 0=_
  rw [ZCC ns n (by omega),List.take_succ]
  rw [yBM,yAM (show n < ns.length by omega),List.sum_append]
  simp
noncomputable def SumOk (ns:List Int):Prop:=ns.length <= 1000 /\ ∀ x∈ns,-1000000000 <= x /\ x <= 1000000000
theorem sum_bound:∀ (ns:List Int),(∀ x∈ns,-1000000000 <= x /\ x <= 1000000000)->-(ns.length * 1000000000:Int) <= ns.sum /\ ns.sum <= ns.length * 1000000000
 | [],_=>by simp
 | x::r,h=>by
  have a:=h x yAN
  have b:=sum_bound r fun y hy=>h y (yAO _ hy)
  rw [List.sum_cons,yAJ]
  omega
theorem call_sum (hc:X.calm=true):ZBr X (.builtin "sum") (fun xs H Q=>∃ (p:Addr) (ns:List Int),xs=[.ref p] /\ SqL X.K H p (ns.map V.int) /\ SumOk ns /\ Q (.int ns.sum) H):=by
 intro pins s σ H xs us Q I r h
 obtain ⟨p,ns,rfl,hq,hs,q⟩:=h
 obtain ⟨u,rfl,rx⟩:=ZCj r
 cases rx
 obtain ⟨its,r',pl,hz⟩:=I.list hq
 have hlen:=r'.length
 rw [yAB] at hlen
 have hh:X.A.handled=none:=I.ok.hd hc
 have hl:=pl.isList
 have hlt:p < s.heap.objs.size:=by obtain ⟨_,e,_⟩:=hl;exact Heap.lt_size e
 refine call_sum_walk (wpAny_pyIter_list hl ⟨s.heap.objs.size,_,_,_,_,_,fun i=>ns.getD i 0,rfl,Walks.list (A:=X.A.in1) hh s.heap.objs.size p (yAE hlt) its.toArray,⟨⟨_,Heap.get?_push_size _ rfl,rfl,rfl⟩,hl.push _⟩,fun b hb=>?_,fun i v hP=>?_,fun j hj=>?_,fun h' tk t' hk=>?_⟩)
 .have hb':b=s.heap.objs.size∨b=p:=by simpa using hb
  show b < (s.heap.push _).objs.size
  rw [Heap.size_push]
  rcases hb' with rfl | rfl
  .exact yBN _
  .exact Nat.lt_succ_of_lt hlt
 .have hP':its[i]?=some v:=by simpa using hP
  have hi:i < its.length:=(yAX.mp hP').1
  obtain ⟨b,hb⟩:∃ b,ns[i]?=some b:=⟨_,yAM (by omega)⟩
  obtain ⟨u,hu,ru⟩:=r'.get (i:=i) (x:=.int b) (by rw [yAP,hb];rfl)
  rw [hP'] at hu
  cases hu
  obtain ⟨t,rfl⟩:=ru
  refine ⟨t,?_⟩
  show _=Value.int (ns.getD i 0) t
  rw [yBM,hb]
  rfl
 .have hj':j < ns.length:=by simp at hj;omega
  have hjm:ns.getD j 0∈ns:=by
   rw [yBM,yAM hj']
   exact List.getElem_mem hj'
  have b1:=hs.2 _ hjm
  have b2:=sum_bound (ns.take (j+1)) fun y hy=>hs.2 y (List.mem_of_mem_take hy)
  have b3:(ns.take (j+1)).length <= 1000:=by rw [yAK];have:=hs.1;omega
  rw [ZCC ns (j+1) hj']
  show (-(2 ^ 63) <= ns.getD j 0 /\ ns.getD j 0 < 2 ^ 63) /\ (-(2 ^ 63) <= (ns.take (j+1)).sum /\ (ns.take (j+1)).sum < 2 ^ 63)
  refine ⟨⟨by omega,by omega⟩,?_⟩
  omega
 .refine ⟨.int ns.sum,H,I.kept (t':=tk) (fun b o e=>hk b o ?_ (Heap.get?_push_of_some _ e)),⟨t',?_⟩,q⟩
  .intro z
   have:b=s.heap.objs.size:=by simpa using z
   exact absurd (Heap.lt_size e) (by rw [this];exact yBB _)
  .have:its.toArray.size=ns.length:=by simp [hlen]
   rw [this,ZCC ns ns.length (yAA _),List.take_length]
theorem rng_ok {P:Program} {w:World} {H:Hp} {h:Heap} {a:Addr} {lo hi:Int} {t u v:Tok} (e:h.get? a=some { cls:=.type "range",data:=.fields #[.int lo t,.int hi u,.int 1 v] }):ObjOk P w H h a (.rng lo hi):=⟨t,u,v,e⟩
theorem call_rng1:ZBr X (.type "range") (fun xs H Q=>∃ n:Int,xs=[.int n] /\ ∀ p,H p=none->Q (.ref p) (upd H p (.rng 0 n))):=by
 intro pins s σ H xs us Q I r h
 obtain ⟨n,rfl,q⟩:=h
 obtain ⟨u,rfl,rx⟩:=ZCj r
 obtain ⟨t,rfl⟩:=rx
 exact call_range_1 ⟨.ref s.heap.objs.size,_,I.laid (fun b o e=>Heap.get?_push_of_some _ e) (yAA _) (rng_ok (Heap.get?_push_size _ rfl)),rfl,q _ (I.hok.fresh (yAA _))⟩
noncomputable def ZCn (lo hi:Int):List Int:=(List.range (hi-lo).toNat).map fun i:Nat=>lo+(i:Int)
theorem ZBb (lo hi:Int):(ZCn lo hi).length=(hi-lo).toNat:=by unfold ZCn;rw [yAB,List.length_range]
theorem rints_get {lo hi:Int} {i:Nat} (h:i < (hi-lo).toNat):(ZCn lo hi)[i]?=some (lo+i):=by unfold ZCn;rw [yAP,List.getElem?_range h];rfl
theorem call_list_rng (hc:X.calm=true):ZBr X (.type "list") (fun xs H Q=>∃ (p:Addr) (lo hi:Int),xs=[.ref p] /\ H p=some (.rng lo hi) /\ (-1000 <= lo /\ lo <= 1000 /\ -1000 <= hi /\ hi <= 1000) /\ ∀ l,H l=none->Q (.ref l) (upd H l (.lst ((ZCn lo hi).map V.int)))):=by
 intro pins s σ H xs us Q I r h
 obtain ⟨p,lo,hi,rfl,hp,hb,q⟩:=h
 obtain ⟨u,rfl,rx⟩:=ZCj r
 cases rx
 obtain ⟨t,u,v,e⟩:=I.hok p _ hp
 have hh:X.A.handled=none:=I.ok.hd hc
 refine call_list_range (n:=(hi-lo).toNat) hh e (small_one (by omega) (by omega) (by omega) (by omega)) (by rw [rangeSize_one];split <;> omega) (by omega) fun h' tk acc' c' hk hS hacc=>?_
 have hz:(ZCn lo hi).length <= 1000 * 2:=by rw [ZBb];omega
 refine ⟨.ref s.heap.objs.size,_,I.laid (t':=tk) hk (yAA _) (o:=.lst ((ZCn lo hi).map V.int)) ⟨?_,acc'.toList,c',?_,by simpa using hS⟩,rfl,q _ (I.hok.fresh (yAA _))⟩
 .rw [yAB]
  exact yAD hz (by decide)
 .have hsz:acc'.size=(hi-lo).toNat:=hacc.1
  have gen:∀ (vs:List Value) (k:Nat) (zs:List Int),vs.length=zs.length->(∀ (j:Nat) v z,vs[j]?=some v->zs[j]?=some z->∃ t,v=Value.int z t)->Vals (zs.map V.int) vs:=by
   intro vs
   induction vs with
   | nil=>intro k zs h1 _;cases zs with
    | nil=>exact .nil
    | cons _ _=>cases h1
   | cons v r ih=>intro k zs h1 h2;cases zs with
    | nil=>cases h1
    | cons z zr=>exact .cons (h2 0 v z rfl rfl) (ih 0 zr (by simpa using h1) fun j v' z' a b=>h2 (j+1) v' z' (by simpa using a) (by simpa using b))
  refine gen acc'.toList 0 (ZCn lo hi) (by rw [ZBb,yAH,hsz]) fun j v z a b=>?_
  have a':acc'[j]?=some v:=by simpa using a
  obtain ⟨t,rfl⟩:=hacc.2 j v a'
  have hj:j < (hi-lo).toNat:=by have:=(yAV.mp a').1;omega
  rw [rints_get hj] at b
  cases b
  exact ⟨t,by rw [Int.mul_one]⟩
theorem ZBZ:ZBr X (.builtin "sorted") (fun xs H Q=>∃ (p:Addr) (ns:List Int),xs=[.ref p] /\ SqL X.K H p (ns.map V.int) /\ ns.length < 64 /\ ∀ (l:Addr) (ms:List Int),H l=none->ms.Perm ns->ms.Pairwise (· <= ·)->Q (.ref l) (upd H l (.lst (ms.map V.int)))):=by
 intro pins s σ H xs us Q I r h
 obtain ⟨p,ns,rfl,hq,hn,q⟩:=h
 obtain ⟨u,rfl,rx⟩:=ZCj r
 cases rx
 obtain ⟨its,r',pl,hz⟩:=I.list hq
 have hlen:=r'.length
 rw [yAB] at hlen
 refine sorted_ints pl.isList (intsAre_of r') (by omega) fun out ns' a1 a2 a3=>?_
 obtain ⟨e,he⟩:=sortedAll_at s.heap its out
 have hl':ns'.length=ns.length:=a2.length_eq
 refine ⟨.ref (s.heap.objs.size+1),_,I.laid (t':=s.toks) (fun b o e=>sortedAll_old e) (yAR _) (o:=.lst (ns'.map V.int)) ⟨?_,out.toList,e,ZB5 a1,by simpa using he⟩,rfl,q _ ns' (I.hok.fresh (yAR _)) a2 a3⟩
 rw [yAB]
 exact yAD (show ns'.length <= 1000 by omega) (by decide)
end
theorem Same.get {H H':Hp} {b:Addr} {o:HO} (s:Same H H') (h:H b=some o):H' b=some o:=s b o h
theorem newH {H:Hp} {p:Addr} (h:H p=none) (o:HO):∃ H',upd H p o=H' /\ Same H H' /\ H' p=some o:=⟨_,rfl,ZAP h o,ZAE⟩
section
variable {K:W.Frag} {a:Addr} {xs:List V} {te:TE} {Q:VK} {σ0 rest:St} {H:Hp}
theorem compL_gen (h:SqL K H a xs) (hz:xs.length <= 1000) (e0:σ0=none::rest) (R:V->V->Hp->Prop) (mono:∀ x y H1 H2,Same H1 H2->R x y H1->R x y H2)
  (hs:∀ (i:Nat) x H',xs[i]?=some x->Same H H'->∀ Q':VK,(∀ y H4,Same H' H4->R x y H4->Q' y H4)->te (some x::rest) H' Q')
  (hd:∀ ys H' p,ys.length=xs.length->(∀ (j:Nat) x y,xs[j]?=some x->ys[j]?=some y->R x y H')->Same H H'->H' p=none->Q (.ref p) (upd H' p (.lst ys))):ZEh K (ZD0 0) tYes te σ0 Q (.ref a) H:=by
 subst e0
 refine compL_of h hz (fun i ys σ H'=>∃ v,σ=v::rest /\ Same H H' /\ ys.length=i /\ ∀ (j:Nat) x y,xs[j]?=some x->ys[j]?=some y->R x y H') ⟨_,rfl,.refl _,rfl,fun j x y _ q=>by cases q⟩ ?_ ?_ ?_
 .rintro i ys σ H' _ ⟨v,rfl,e,hl,_⟩
  exact ⟨e.seq h,Nat.le_of_eq hl⟩
 .rintro i ys x σ H' hi hx ⟨v,rfl,e,hl,hR⟩
  show te (some x::rest) H' _
  refine hs i x H' hx e _ fun y H4 q1 q2=>?_
  refine Nxt.of hi ⟨_,rfl,e.trans q1,by rw [yAF,hl];rfl,fun j x' y' hx' hy'=>?_⟩
  by_cases hj:j < ys.length
  .rw [yAZ hj] at hy'
   exact mono _ _ _ _ q1 (hR j x' y' hx' hy')
  .rw [yAY (by omega)] at hy'
   have:j-ys.length=0:=by
    rcases Nat.eq_zero_or_pos (j-ys.length) with z | z
    .exact z
    .rw [yBF (show [y].length <= j-ys.length from z)] at hy'
     cases hy'
   rw [this] at hy'
   cases hy'
   rw [show j=i by omega,hx] at hx'
   cases hx'
   exact q2
 .rintro ys σ H' ⟨v,rfl,e,hl,hR⟩ p hp
  exact hd ys H' p hl hR e hp
theorem ZC1 {ms:List Int} (h:SqL K H a (ms.map V.int)) (hz:ms.length <= 1000) (e0:σ0=none::rest) (R:Int->Int->Prop)
  (hs:∀ c H',c∈ms->Same H H'->∀ Q':VK,(∀ r H4,Same H' H4->R c r->Q' (.int r) H4)->te (some (.int c)::rest) H' Q')
  (hd:∀ (rs:List Int) (H':Hp) (p:Addr),rs.length=ms.length->(∀ (j:Nat) c r,ms[j]?=some c->rs[j]?=some r->R c r)->Same H H'->H' p=none->Q (.ref p) (upd H' p (.lst (rs.map V.int)))):ZEh K (ZD0 0) tYes te σ0 Q (.ref a) H:=by
 refine compL_gen h (by rw [yAB];exact hz) e0 (fun x y _=>∃ c r,x=.int c /\ y=.int r /\ R c r) (fun _ _ _ _ _ q=>q) (fun i x H' hx e Q' k=>?_) fun ys H' p hl hR e hp=>?_
 .obtain ⟨c,hc,rfl⟩:=ZCd hx
  exact hs c H' (yBD hc) e Q' fun r H4 q1 q2=>k _ _ q1 ⟨c,r,rfl,rfl,q2⟩
 .have hy:∀ y∈ys,∃ r,y=.int r:=fun y hy=>by
   obtain ⟨j,hj⟩:=yBO hy
   have hlt:j < ys.length:=(yAX.mp hj).1
   obtain ⟨c,r,_,e,_⟩:=hR j _ y (yAM (by omega)) hj
   exact ⟨r,e⟩
  have:∃ rs:List Int,ys=rs.map V.int:=by
   clear hl hR hp
   induction ys with
   | nil=>exact ⟨[],rfl⟩
   | cons y t ih=>
    obtain ⟨r,rfl⟩:=hy y yAN
    obtain ⟨rs,rfl⟩:=ih fun z hz=>hy z (yAO _ hz)
    exact ⟨r::rs,rfl⟩
  obtain ⟨rs,rfl⟩:=this
  rw [yAB,yAB] at hl
  refine hd rs H' p hl (fun j c r hc hr=>?_) e hp
  obtain ⟨c',r',e1,e2,q⟩:=hR j (.int c) (.int r) (by rw [yAP,hc];rfl) (by rw [yAP,hr];rfl)
  cases e1
  cases e2
  exact q
end
section
variable {X:Cx} {pins:List (Addr×Obj)} {σ:St} {H:Hp} {s:Shared}
theorem Inv.turn2 (I:Inv X pins σ H s) {ch:List Addr} {h':Heap} {p:Addr} {o:HO} {t':Nat} (hf:∀ b∈ch,FpOk X pins H b) (k:∀ b ob,b∉ch->s.heap.get? b=some ob->h'.get? b=some ob)
  (hp:s.heap.objs.size <= p) (new:ObjOk X.prog X.w (upd H p o) h' p o):Inv X pins σ (upd H p o) { s with heap:=h',toks:=t' }:=by
 have hn:H p=none:=I.hok.fresh hp
 have tr:∀ b u,H b=some u->b∉ch:=fun b u e z=>by rw [(hf b z).1] at e;cases e
 refine I.call (g':=s.gens) (t':=t') (d':=s.drawn) (ch:=ch) ⟨fun b ob e n _ hx=>k b ob hx e,fun b ob e n _ hx=>⟨ob.slots,k b ob hx e⟩,fun b ob e n _=>?_,fun b ob e hx=>⟨ob,k b ob hx e⟩,fun b xs e=>?_,fun b ob u e=>?_,fun b qs e=>⟨#[],?_⟩⟩ (fun b u e=>?_) I.bare fun b hb=>?_
 .rw [ZAF (yAE (yAI (Heap.lt_size e) hp))];exact n
 .rw [ZAF (ZAG e hn)];exact e
 .rw [ZAF (ZAG e hn)];exact e
 .rw [ZAF (ZAG e hn),e];simp
 .by_cases hb:b=p
  .subst hb;rw [ZAE] at e;cases e;exact new
  .rw [ZAF hb] at e
   refine (I.hok b u e).stay (fun c v hc q=>k c v ?_ q) (fun c q=>by rw [ZAF (ZAG q hn)];exact q) fun c xs q=>by rw [ZAF (ZAG q hn)];exact q
   rcases hc with z | z
   .rw [z];exact tr b u e
   .exact tr c _ z
 .obtain ⟨a1,a2,a3,a4,a5,a6⟩:=hf b hb
  exact ⟨a4,a2,a5,a6⟩
end
noncomputable def Ite (K:W.Frag) (a:Addr):It :=
 ⟨fun i H=>∃ xs x,SqL K H a xs /\ xs[i]?=some x,fun i H v H'=>∃ p x,H p=none /\ (∀ xs,SqL K H a xs->xs[i]?=some x) /\ H'=upd H p (.tup [.int i,x]) /\ v=.ref p,fun i H=>∃ xs,SqL K H a xs /\ xs.length <= i⟩
theorem turn_enum {P:Program} {w:World} {K:W.Frag} {elts:List Expr} {x1} {tpos:Pos} (a e it:Addr) (hne:e≠it):Turn P w K (.Tuple elts x1 tpos) (Ite K a) [e,it] e (fun i h=>(∃ old,IsEnum h e it ((i:Nat):Int) old) /\ h.IsListIter it a i) where
 mem:=by simp
 obj:=fun i h st b hb=>by
  obtain ⟨⟨old,he⟩,o,e2,c,d⟩:=st
  have hb':b=e∨b=it:=by simpa using hb
  rcases hb' with rfl | rfl
  .exact ⟨_,he,fun v z=>by cases z⟩
  .exact ⟨o,e2,fun v z=>by rw [d] at z;cases z⟩
 keep:=fun i h h' st k=>⟨let ⟨old,he⟩:=st.1;⟨old,k e (by simp) _ he⟩,st.2.at fun o q=>k it (by simp) o q⟩
 item:=by
  intro X hP hw hK hc i pins s σ H E I hf st hg
  subst hP hw hK
  obtain ⟨xs,x,hq,hx⟩:=hg
  obtain ⟨its,rv,p,hz⟩:=I.list hq
  obtain ⟨u,hu,ru⟩:=rv.get hx
  obtain ⟨⟨old,he⟩,hit⟩:=st
  refine wpAny_pyNext_enum_item he hit p.isList (x:=u) (by simpa using hu) hne fun h1 heo hit1 ht1 hz1 hk1=>⟨_,rfl,?_⟩
  refine wpAny_letOwnedTupleGo_enum heo fun h2 he2 hs2=>?_
  replace hs2:Heap.SameBut e h1 h2:=hs2
  have hel:e < s.heap.objs.size:=Heap.lt_size he
  have ht2:h2.get? s.heap.objs.size=some { cls:=.type "tuple",data:=.seq #[.int i s.toks,u] }:=(hs2.2 _ (Nat.ne_of_gt hel)).trans ht1
  have hnew:H s.heap.objs.size=none:=I.hok.fresh (yAA _)
  refine ⟨.ref s.heap.objs.size,upd H s.heap.objs.size (.tup [.int i,x]),I.turn2 (ch:=[e,it]) (t':=s.toks+1) hf (fun b ob hb q=>?_) (yAA _) ?_,rfl,⟨_,x,hnew,fun ys hy=>by rw [I.list_inj hy hq];exact hx,rfl,rfl⟩,⟨⟨u,?_⟩,?_⟩,fun b hb=>?_⟩
  .have hbe:b≠e:=fun z=>hb (by simp [z])
   have hbi:b≠it:=fun z=>hb (by simp [z])
   exact (hs2.2 b hbe).trans (hk1 b ob hbe hbi q)
  .exact ⟨ZAj (show 2 <= 1000 by decide),[.int i s.toks,u],.cons ⟨_,rfl⟩ (.cons ru .nil),_,ht2,rfl,0,rfl⟩
  .have:((i+1:Nat):Int)=(i:Int)+1:=by push_cast;rfl
   rw [this];exact he2
  .exact hit1.at fun o q=>(hs2.2 it (Ne.symm hne)).trans q
  .have hn:=(hf b hb).1
   have hb':b=e∨b=it:=by simpa using hb
   obtain ⟨oi,hoi,_⟩:=hit
   have hlt:b < s.heap.objs.size:=by
    rcases hb' with rfl | rfl
    .exact hel
    .exact Heap.lt_size hoi
   rw [ZAF (yAE hlt)];exact hn
 done:=by
  intro X hP hw hK hc i pins s σ H E I hf st hg
  subst hP hw hK
  obtain ⟨xs,hq,hx⟩:=hg
  obtain ⟨its,rv,p,hz⟩:=I.list hq
  obtain ⟨⟨old,he⟩,hit⟩:=st
  obtain ⟨f0,f1,f2,f3,f4,f5⟩:=hf it (by simp)
  have hl:=rv.length
  exact wpAny_pyNext_enum_end (I.ok.hd hc) he hit p.isList (by rw [List.getElem?_toArray];exact yBF (by omega)) fun h' eb=>⟨rfl,I.turned (t':=s.toks) (fun b o hb e=>eb b o hb e) f0 f1 f3 f4 f5⟩
 self:=fun _ _ _ _ _ st h=>let ⟨_,he⟩:=st.1;wpAny_pyIter_enum he h
section
variable {X:Cx}
noncomputable def ZEz (K:W.Frag) (ta:TA):TI:=fun σ H R=>ta σ H fun vs H1=>∃ a,vs=[.ref a] /\ (∃ xs,SqL K H1 a xs) /\ R (Ite K a) H1
theorem pi_enum {elts:List Expr} {x1} {tpos:Pos} {l:Expr} {ta:TA} {p pos:Pos} (hg:Gl X "enumerate") (hm:X.mg "enumerate"=none) (ha:PA X [l] ta) (hs:starEach [l] X.env=[(false,eval l X.env)]:=by rfl) :
  PI X (.Tuple elts x1 tpos) (.Call (.Name "enumerate" p) [l] [] pos) (ZEz X.K ta):=by
 intro pins s σ H R I h
 refine Call_ (ZCR I hg hm boot_enumerate (PyProof.Rows.callWith_type1 (thn (ha pos pins s σ H _ I h) fun us s1 zz=>?_) hs rfl))
 obtain ⟨vs,H1,I1,r1,q1⟩:=zz
 obtain ⟨a,e,⟨xs,hq⟩,q⟩:=q1
 subst e
 obtain ⟨u,rfl,ru⟩:=ZCj r1
 cases ru
 obtain ⟨its,rv,pl,hz⟩:=I1.list hq
 refine call_enumerate_list pl.isList fun h' he hit hsz hk=>wpAny_pyIter_enum he ?_
 have I2:Inv X pins σ H1 { s1 with heap:=h' }:=I1.kept (t':=s1.toks) hk
 refine ⟨s1.heap.objs.size+1,[s1.heap.objs.size+1,s1.heap.objs.size],_,Ite X.K a,H1,rfl,I2,turn_enum a _ _ (Nat.succ_ne_self _),⟨⟨_,he⟩,hit⟩,fun b hb=>?_,q⟩
 have hb':b=s1.heap.objs.size+1∨b=s1.heap.objs.size:=by simpa using hb
 have hle:s1.heap.objs.size <= b:=by
  rcases hb' with rfl | rfl
  .exact yAR _
  .exact yAA _
 exact I1.fpOk hle (I1.hok.fresh hle)
end
section
variable {K:W.Frag} {a:Addr} {xs:List V} {g:TG} {tb:TS} {D:Ends} {σ:St} {H:Hp}
noncomputable def forE (K:W.Frag) (g:TG) (tb:TS) (D:Ends) (σ:St) (x:V) (H1:Hp):Prop:=∃ a,[x]=[.ref a] /\ (∃ xs,SqL K H1 a xs) /\ ∃ W:Nat->Nat->St->Hp->Prop,(∃ m,W 0 m σ H1) /\ ∀ i m σ H,W i m σ H ->
 ((Ite K a).stop i H /\ D.nx σ H)∨((Ite K a).go i H /\ ∃ N:St->Hp->Prop,(∀ σ' H',N σ' H'->∃ m',m' < m /\ W (i+1) m' σ' H') /\ ∀ x H',(Ite K a).yld i H x H'->g x σ H' fun σ2 H2=>tb { D with nx:=N,ct:=N,bk:=D.nx } σ2 H2)
theorem tForE_eq {t:TE}:tFor (ZEz K (ZBw t tNil)) g tb D σ H=t σ H (fun x H1=>forE K g tb D σ x H1):=rfl
variable {tt:TT} {te:TE} {Q:VK} {σ0:St}
noncomputable def compE (K:W.Frag) (g:TG) (tt:TT) (te:TE) (σ0:St) (Q:VK) (x:V) (H1:Hp):Prop:=∃ a,[x]=[.ref a] /\ (∃ xs,SqL K H1 a xs) /\ ∃ W:Nat->Nat->List V->St->Hp->Prop,(∃ m,W 0 m [] σ0 H1) /\ ∀ i m ys σ H,W i m ys σ H ->
 ((Ite K a).stop i H /\ ys.length <= sizeLine /\ ∀ p,H p=none->Q (.ref p) (upd H p (.lst ys))) ∨
 ((Ite K a).go i H /\ ys.length < sizeLine /\ ∀ x H',(Ite K a).yld i H x H'->g x σ H' fun σ2 H2=>tt σ2 H2 fun b H3=>if b=true then te σ2 H3 fun y H4=>∃ m',m' < m /\ W (i+1) m' (ys++[y]) σ2 H4 else ∃ m',m' < m /\ W (i+1) m' ys σ2 H3)
theorem tCompE_eq {k:Nat} {js:List Nat} {t:TE}:ZDc k js (ZEz K (ZBw t tNil)) g tt te σ H Q=t σ H (fun x H1=>compE K g tt te (up k js σ) Q x H1):=rfl
theorem compE_of (h:SqL K H a xs) (hz:xs.length <= 1000) (P:Nat->List V->St->Hp->Prop) (h0:P 0 [] σ0 H) (hl:∀ i ys σ H,i <= xs.length->P i ys σ H->SqL K H a xs /\ ys.length <= i)
  (hs:∀ (i:Nat) ys x σ H p,i < xs.length->xs[i]?=some x->P i ys σ H->H p=none->g (.ref p) σ (upd H p (.tup [.int i,x])) fun σ2 H2=>tt σ2 H2 fun b H3=>if b=true then te σ2 H3 fun y H4=>Nxt P xs.length i (ys++[y]) σ2 H4 else Nxt P xs.length i ys σ2 H3)
  (hd:∀ ys σ H,P xs.length ys σ H->∀ p,H p=none->Q (.ref p) (upd H p (.lst ys))):compE K g tt te σ0 Q (.ref a) H:=by
 have hz':=ZAj hz
 refine ⟨a,rfl,⟨xs,h⟩,fun i m ys σ H=>m=xs.length-i /\ i <= xs.length /\ P i ys σ H,⟨xs.length,by simp,yAC _,h0⟩,?_⟩
 rintro i m ys σ H ⟨rfl,hi,p⟩
 obtain ⟨q,ly⟩:=hl i ys σ H hi p
 by_cases hlt:i < xs.length
 .refine .inr ⟨⟨xs,xs[i],q,by simp [hlt]⟩,by omega,fun x H' y=>?_⟩
  obtain ⟨pp,x',hn,y,rfl,rfl⟩:=y
  exact hs i ys x' σ _ pp hlt (y xs q) p hn
 .have e:i=xs.length:=by omega
  subst e
  exact .inl ⟨⟨xs,q,yAA _⟩,by omega,hd ys σ H p⟩
end
noncomputable abbrev FZ (o:Obj):HO:=.frz o (.ext fun _=>True)
theorem ZEf {P:Program} {w:World} {H:Hp} {h:Heap} {a:Addr} {o:Obj} (e:h.get? a=some o):ObjOk P w H h a (FZ o):=⟨e,trivial,⟨o,e⟩,fun _ _ _ _=>trivial⟩
theorem ZDG {P:Program} {w:World} {H:Hp} {h:Heap} {a:Addr} {o:Obj} (x:HOk P w H h) (e:H a=some (FZ o)):h.get? a=some o:=(x a _ e).1
noncomputable def CodeAt (H:Hp) (c:Addr) (qual:Str):Prop:=∃ oc vs t,H c=some (FZ oc) /\ oc.data=.fields vs /\ vs[1]?=some (.str qual t)
theorem CodeAt.rec {P:Program} {w:World} {H:Hp} {h:Heap} {c:Addr} {qual:Str} (x:HOk P w H h) (k:CodeAt H c qual):h.CodeRec (.ref c) qual :=
 let ⟨oc,vs,t,e,d,v⟩:=k;⟨c,oc,vs,t,rfl,ZDG x e,d,v⟩
structure CloL (H:Hp) (g:Addr) (iname iq:Str) (ip:Arguments) (ib:List Stmt) (isc:Scope) (fr:List Str) (cs:List V) (cl:List (Str×Addr)):Prop where
 obj:∃ (doc pm ctv:Value) (c':Addr),H g=some (FZ (PySem.W.fnMade iname iq ip ib isc cl doc pm c' ctv)) /\ CodeAt H c' iq
 keys:∀ x c,cl.lookup x=some c->x∈fr
 inj:∀ x y c,cl.lookup x=some c->cl.lookup y=some c->x=y
 cell:∀ (i:Nat) (x:Str),fr[i]?=some x->∃ v c u o,cs[i]?=some v /\ cl.lookup x=some c /\ RelV v u /\ H c=some (FZ o) /\ o.data=.cell (some u)
 len:cs.length=fr.length
noncomputable def Clo (H:Hp) (g:Addr) (iname iq:Str) (ip:Arguments) (ib:List Stmt) (isc:Scope) (fr:List Str) (cs:List V):Prop:=∃ cl,CloL H g iname iq ip ib isc fr cs cl
noncomputable def ZC2 (H H':Hp):Prop:=∀ b o,H b=some (FZ o)->H' b=some (FZ o)
theorem CodeAt.mono {H H':Hp} {c:Addr} {q:Str} (e:ZC2 H H') (k:CodeAt H c q):CodeAt H' c q:=let ⟨oc,vs,t,a,d,v⟩:=k;⟨oc,vs,t,e _ _ a,d,v⟩
theorem CloL.mono {H H':Hp} {g:Addr} {iname iq:Str} {ip:Arguments} {ib:List Stmt} {isc:Scope} {fr:List Str} {cs:List V} {cl:List (Str×Addr)} (e:ZC2 H H') (k:CloL H g iname iq ip ib isc fr cs cl):CloL H' g iname iq ip ib isc fr cs cl where
 obj:=let ⟨doc,pm,ctv,c',a,b⟩:=k.obj;⟨doc,pm,ctv,c',e _ _ a,b.mono e⟩
 keys:=k.keys
 inj:=k.inj
 cell:=fun i x h=>let ⟨v,c,u,o,a1,a2,a3,a4,a5⟩:=k.cell i x h;⟨v,c,u,o,a1,a2,a3,e _ _ a4,a5⟩
 len:=k.len
theorem Clo.mono {H H':Hp} {g:Addr} {iname iq:Str} {ip:Arguments} {ib:List Stmt} {isc:Scope} {fr:List Str} {cs:List V} (e:ZC2 H H') (k:Clo H g iname iq ip ib isc fr cs):Clo H' g iname iq ip ib isc fr cs:=let ⟨cl,x⟩:=k;⟨cl,x.mono e⟩
theorem Same.fz {H H':Hp} (e:Same H H'):ZC2 H H':=fun b o h=>e b _ h
theorem CloL.inj' {H:Hp} {g:Addr} {iname iq:Str} {ip:Arguments} {ib:List Stmt} {isc:Scope} {fr:List Str} {cs cs':List V} {cl cl':List (Str×Addr)} (k:CloL H g iname iq ip ib isc fr cs cl) (k':CloL H g iname iq ip ib isc fr cs' cl'):cs=cs':=by
 obtain ⟨d1,p1,t1,c1,e1,_⟩:=k.obj
 obtain ⟨d2,p2,t2,c2,e2,_⟩:=k'.obj
 rw [e1] at e2
 have ecl:cl=cl':=by
  have:=Option.some.inj e2
  injection this with h1 h2
  injection h1 with h3 h4 h5
  injection h5 with h6
  injection h6
 subst ecl
 refine List.ext_getElem? fun i=>?_
 by_cases hi:i < fr.length
 .obtain ⟨v,c,u,o,a1,a2,a3,a4,a5⟩:=k.cell i _ (yAM hi)
  obtain ⟨v',c',u',o',b1,b2,b3,b4,b5⟩:=k'.cell i _ (yAM hi)
  rw [a2] at b2
  cases b2
  rw [a4] at b4
  have eo:o=o':=by
   have:=Option.some.inj b4
   injection this
  subst eo
  rw [a5] at b5
  have eu:u=u':=by injection b5 with h;injection h
  subst eu
  rw [a1,b1,a3.inj b3]
 .rw [yBF (by rw [k.len];omega),yBF (by rw [k'.len];omega)]
open Classical in
noncomputable def hid (cl:List (Str×Addr)) (H:Hp):Hp:=fun b=>if ∃ x,cl.lookup x=some b then none else H b
open Classical in
noncomputable def back (cl:List (Str×Addr)) (H H1:Hp):Hp:=fun b=>if ∃ x,cl.lookup x=some b then H b else H1 b
theorem ZDy {cl:List (Str×Addr)} {H:Hp} {x:Str} {b:Addr} (h:cl.lookup x=some b):hid cl H b=none:=by unfold hid;rw [if_pos ⟨x,h⟩]
theorem ZC8 {cl:List (Str×Addr)} {H:Hp} {b:Addr} (h:¬ ∃ x,cl.lookup x=some b):hid cl H b=H b:=by unfold hid;rw [if_neg h]
theorem ZDI {cl:List (Str×Addr)} {H H1:Hp} {x:Str} {b:Addr} (h:cl.lookup x=some b):back cl H H1 b=H b:=by unfold back;rw [if_pos ⟨x,h⟩]
theorem ZBa {cl:List (Str×Addr)} {H H1:Hp} {b:Addr} (h:¬ ∃ x,cl.lookup x=some b):back cl H H1 b=H1 b:=by unfold back;rw [if_neg h]
theorem hid_le {cl:List (Str×Addr)} {H:Hp} {b:Addr} {o:HO} (h:hid cl H b=some o):H b=some o:=by
 by_cases q:∃ x,cl.lookup x=some b
 .obtain ⟨x,q⟩:=q;rw [ZDy q] at h;cases h
 .rw [ZC8 q] at h;exact h
noncomputable def Cells (cl:List (Str×Addr)) (H:Hp):Prop:=∀ x c,cl.lookup x=some c->∃ u o,H c=some (FZ o) /\ o.data=.cell u
theorem CloL.cells {H:Hp} {g:Addr} {iname iq:Str} {ip:Arguments} {ib:List Stmt} {isc:Scope} {fr:List Str} {cs:List V} {cl:List (Str×Addr)} (k:CloL H g iname iq ip ib isc fr cs cl):Cells cl H:=fun x c h=>by
 obtain ⟨i,hi⟩:=yBO (k.keys x c h)
 obtain ⟨v,c2,u,o,_,h2,_,h4,h5⟩:=k.cell i x hi
 rw [h] at h2
 cases h2
 exact ⟨_,o,h4,h5⟩
theorem ZBI {cl:List (Str×Addr)} {H:Hp} {b:Addr} {o:HO} (C:Cells cl H) (h:H b=some o) (n:∀ ob,o≠FZ ob):hid cl H b=some o:=by
 rw [ZC8,h]
 rintro ⟨x,q⟩
 obtain ⟨u,ob,e,_⟩:=C x b q
 rw [h] at e
 exact n ob (Option.some.inj e)
theorem ZCh {cl:List (Str×Addr)} {H H1:Hp} {l:Addr} {o:HO} (n:¬ ∃ x,cl.lookup x=some l):back cl H (upd H1 l o)=upd (back cl H H1) l o:=by
 funext b
 by_cases q:∃ x,cl.lookup x=some b
 .have:b≠l:=fun e=>n (e ▸ q)
  obtain ⟨x,q⟩:=q
  rw [ZDI q,ZAF this,ZDI q]
 .rw [ZBa q]
  by_cases e:b=l
  .subst e;rw [ZAE,ZAE]
  .rw [ZAF e,ZAF e,ZBa q]
noncomputable def NoC (cl:List (Str×Addr)) (H:Hp):Prop:=∀ x c,cl.lookup x=some c->H c=none
structure CloScope (N ps fr:List Str) (sc:Scope):Prop where
 kind:sc.kind=.function
 co:sc.isCoroutine=false
 gen:sc.isGenerator=false
 nd:N.Nodup
 pre:N.take ps.length=ps
 suf:N.drop (N.length-fr.length)=fr
 two:ps.length+fr.length <= N.length
 par:∀ x∈ps,sc.names.lookup x=some .local
 nocell:∀ y∈sc.names,y.2≠.cell
 free:∀ x∈fr,sc.names.lookup x=some .free
 only:∀ x,sc.names.lookup x=some .free->x∈fr
noncomputable def ZB7 (N:List Str) (vs cs:List V):St:=vs.map some++(List.replicate (N.length-vs.length-cs.length) none++cs.map some)
noncomputable def ZEK (P:Program) (w:World) (K:W.Frag) (mg:Str->Option Value) (base:Heap) (N:List Str) (qual:Str) (scope:Scope) (f:Addr) (cd:Value) (cl:List (Str×Addr)) (A:Around) (outer:List Env) (s:Shared) (H:Hp):Cx where
 prog:=P
 w:=w
 K:=K
 mg:=mg
 base:=base
 A:=A.deeper (PySem.W.envX qual scope s.heap.objs.size f cd cl)
 N:=N
 s₀:=s
 H₀:=H
 env:=PySem.W.envX qual scope s.heap.objs.size f cd cl
 outer:=outer
 stack:=PySem.W.envX qual scope s.heap.objs.size f cd cl::outer
 ex:=[]
 calm:=true
 fn:=fun _=>false
 pn:=[]
 xe:=fun _ _=>False
theorem startC_get {N:List Str} {vs cs:List V} {i:Nat} {v:V} (hl:vs.length+cs.length <= N.length) (h:(ZB7 N vs cs)[i]?=some (some v)) :
  vs[i]?=some v∨(N.length-cs.length <= i /\ cs[i-(N.length-cs.length)]?=some v):=by
 unfold ZB7 at h
 by_cases h1:i < vs.length
 .rw [yAZ (by simpa using h1),yAP] at h
  cases e:vs[i]? with
  | none=>rw [e] at h;cases h
  | some a=>rw [e] at h;cases h;exact .inl rfl
 .rw [yAY (by simpa using Nat.le_of_not_lt h1),yAB] at h
  by_cases h2:i-vs.length < N.length-vs.length-cs.length
  .rw [yAZ (by simpa using h2),List.getElem?_replicate,if_pos h2] at h
   cases h
  .rw [yAY (by simpa using Nat.le_of_not_lt h2),yBW,yAP] at h
   right
   refine ⟨by omega,?_⟩
   rw [show i-(N.length-cs.length)=i-vs.length-(N.length-vs.length-cs.length) by omega]
   cases e:cs[i-vs.length-(N.length-vs.length-cs.length)]? with
   | none=>rw [e] at h;cases h
   | some a=>rw [e] at h;cases h;rfl
theorem zip_fst_sub:∀ (ps:List Str) (us:List Value),((ps.zip us).map (·.1)).Sublist ps
 | [],_=>by simp
 | p::ps,[]=>by simp
 | p::ps,u::us=>by rw [List.zip_cons_cons,yAQ];exact (zip_fst_sub ps us).cons₂ p
theorem lookup_nodup {α:Type}:∀ {cs:List (Str×α)} {n:Str} {c:α},(cs.map (·.1)).Nodup->(n,c)∈cs->cs.lookup n=some c
 | (m,d)::r,n,c,hn,h=>by
  rw [yAQ] at hn
  have hn':=List.nodup_cons.mp hn
  rw [yBL]
  rcases yAG.mp h with e | h
  .cases e;simp
  .have:n≠m:=fun z=>hn'.1 (z ▸ List.mem_map_of_mem (f:=(·.1)) h)
   have:(n == m)=false:=by simpa using this
   rw [this]
   exact lookup_nodup hn'.2 h
theorem zip_lookup {ps:List Str} {us:List Value} (nd:ps.Nodup) {i:Nat} {x:Str} {u:Value} (h1:ps[i]?=some x) (h2:us[i]?=some u):((ps.zip us).reverse).lookup x=some u:=by
 have hm:(x,u)∈(ps.zip us).reverse:=by
  rw [List.mem_reverse]
  refine yBD (i:=i) ?_
  rw [List.getElem?_zip_eq_some]
  exact ⟨h1,h2⟩
 have hnd:((ps.zip us).reverse.map (·.1)).Nodup:=by
  rw [List.map_reverse]
  exact List.pairwise_reverse.mpr (List.Pairwise.imp (fun h=>Ne.symm h) (nd.sublist (zip_fst_sub ps us)))
 exact lookup_nodup hnd hm
section
variable {P:Program} {w:World} {K:W.Frag} {mg:Str->Option Value} {base:Heap} {A:Around} {outer:List Env} {s:Shared} {H:Hp} {g:Addr} {iname iq:Str} {ip:Arguments} {ib:List Stmt} {isc:Scope} {N ps fr:List Str} {cs vs:List V} {us:List Value} {cl:List (Str×Addr)} {k:Nat}
theorem clo_call {Q:VK} (C:CloL H g iname iq ip ib isc fr cs cl) (S:CloScope N ps fr isc) (hr:Room (k+1) A) (e0:Env0 P w K mg base A outer s H) (hl:vs.length=ps.length) (r:Vals vs us)
  (hbind:∀ (doc pm ctv:Value) (c':Addr),bindArgs (PySem.W.fnX iname iq ip ib isc cl .none .none doc pm none (.ref c') ctv) ⟨us,[]⟩=pure (ps.zip us))
  (hbody:∀ (cd:Value) (A':Around),Room k A'->∃ t,PSs (ZEK P w K mg base N iq isc g cd cl A outer s (hid cl H)) ib t /\ t { nx:=fun _ H'=>NoC cl H'->Q .non (back cl H H'),rt:=fun v H'=>NoC cl H'->Q v (back cl H H') } (ZB7 N vs cs) (hid cl H)) :
  codeAny (model P w) A (.call (.ref g) ⟨us,[]⟩) (fun r s'=>match r with | .ok (.ret u)=>CE outer P w H s Q u s' | _=>False) s:=by
 obtain ⟨doc,pm,ctv,c',hg,hc⟩:=C.obj
 have hget:=ZDG e0.hok hg
 have lim:s.heap.NoLimit:=e0.mod.nolimit.keeps fun b o e=>(e0.bs b o e).1
 have hnd:ps.Nodup:=by rw [<- S.pre];exact S.nd.sublist (List.take_sublist _ _)
 refine codeAny_call_def (o:=PySem.W.fnMade iname iq ip ib isc cl doc pm c' ctv) (fd:=PySem.W.fnX iname iq ip ib isc cl .none .none doc pm none (.ref c') ctv) (body:=ib) (binds:=ps.zip us) hr.depth hget rfl lim (hc.rec e0.hok) rfl (.of_eq (hbind doc pm ctv c')) S.nocell (fun y hy=>S.par _ (List.of_mem_zip hy).1) (fun h₁ hns hk₁=>?_) S.co S.gen S.kind
 obtain ⟨t,ht,hq⟩:=hbody (.ref c') _ (hr.deeper (PySem.W.envX iq isc s.heap.objs.size g (.ref c') cl))
 have cellAt:∀ x c,cl.lookup x=some c->∃ o u,H c=some (FZ o) /\ s.heap.get? c=some o /\ o.data=.cell u:=fun x c h=>by
  obtain ⟨u,o,e,d⟩:=C.cells x c h
  exact ⟨o,u,e,ZDG e0.hok e,d⟩
 have cfs:∀ x c,cl.lookup x=some c->c∉frs outer:=fun x c h hb=>by
  obtain ⟨o,u,e,_⟩:=cellAt x c h
  rw [e0.frf c hb] at e;cases e
 have hpl:ps.length <= N.length:=by have:=S.two;omega
 have I:Inv (ZEK P w K mg base N iq isc g (.ref c') cl A outer s (hid cl H)) [] (ZB7 N vs cs) (hid cl H) { s with heap:=h₁,toks:=s.toks+(ps.zip us).length }:=by
  refine ⟨⟨e0.mod,S.kind,rfl,rfl,yAA _,C.inj,fun x hx=>?_,fun y c h=>absurd h (by simp [ZEK]),fun _=>hr.hd,Around.frames_deeper e0.frames,.inr ⟨rfl,rfl⟩,fun b z=>absurd (show b∈([]:List Addr) from z) (by simp),fun b o e=>?_,e0.bsz,fun b _ _ z=>absurd (show b∈([]:List Addr) from z) (by simp),fun b z=>absurd (show b∈([]:List Addr) from z) (by simp),e0.funs,fun b hb=>?_⟩,
   rfl,e0.bare,Un.kept hk₁,⟨_,hns,fun i x v h1 h2 h3=>?_⟩,fun x c h=>?_,?_,fun x c h=>ZDy h,fun p hp=>absurd (show p∈([]:List (Addr×Obj)) from hp) (by simp),?_,?_⟩
  .have hx:isc.names.lookup x=some .cell∨isc.names.lookup x=some .free:=hx
   rcases hx with hx | hx
   .exact absurd rfl (S.nocell _ (PySem.mem_of_lookup hx))
   .obtain ⟨i,hi⟩:=yBO (S.only x hx)
    obtain ⟨v,c,u,o,_,h2,_⟩:=C.cell i x hi
    exact ⟨c,h2⟩
  .refine ⟨(e0.bs b o e).1,?_⟩
   show hid cl H b=none
   by_cases q:∃ x,cl.lookup x=some b
   .obtain ⟨x,q⟩:=q;exact ZDy q
   .rw [ZC8 q];exact (e0.bs b o e).2
  .show hid cl H b=none
   rw [ZC8]
   .exact e0.frf b hb
   .rintro ⟨x,q⟩;exact cfs x b q hb
  .have h1:N[i]?=some x:=h1
   have hcl:=C.len
   rcases startC_get (by rw [hl,hcl];exact S.two) h2 with h4 | ⟨h4,h5⟩
   .obtain ⟨u,hu,rv⟩:=r.get h4
    have hi:i < vs.length:=(yAX.mp h4).1
    have hp:ps[i]?=some x:=by rw [<- S.pre,yBQ (by omega)];exact h1
    exact ⟨u,rv,.inl ⟨S.par x (yBD hp),zip_lookup hnd hp hu⟩⟩
   .have hf:fr[i-(N.length-cs.length)]?=some x:=by
     rw [<- S.suf,yBZ,<- hcl,show N.length-cs.length+(i-(N.length-cs.length))=i by omega]
     exact h1
    obtain ⟨v',c,u,o,a1,a2,a3,a4,a5⟩:=C.cell _ x hf
    rw [h5] at a1
    cases a1
    refine ⟨u,a3,.inr ⟨.inr (S.free x (yBD hf)),c,a2,o,hk₁ _ _ (ZDG e0.hok a4),a5⟩⟩
  .obtain ⟨o,u,e,e2,d⟩:=cellAt x c h
   exact ⟨u,o,hk₁ _ _ e2,d⟩
  .show hid cl H s.heap.objs.size=none
   have hn:=e0.hok.fresh (yAA _)
   rw [ZC8]
   .exact hn
   .rintro ⟨x,q⟩
    obtain ⟨o,u,e,_⟩:=cellAt x _ q
    rw [hn] at e;cases e
  .intro b o e
   have e':=hid_le e
   refine (e0.hok b o e').stay (fun c v _ q=>hk₁ c v q) (fun c q=>?_) fun c xs q=>?_
   .exact ZBI C.cells q (fun ob z=>by cases z)
   .exact ZBI C.cells q (fun ob z=>by cases z)
  .unfold ZB7
   show _=N.length
   have:=S.two
   have:=C.len
   simp only [yAF,yAB,yBW]
   omega
 refine wpAny_mono (ht [] _ (ZB7 N vs cs) (hid cl H) _ I hq) (fun fl s' hs=>?_) fun e s' hs=>False.elim hs
 have fin:∀ {σ':St} {H':Hp} {v:V} {u:Value},Inv (ZEK P w K mg base N iq isc g (.ref c') cl A outer s (hid cl H)) [] σ' H' s'->RelV v u->(NoC cl H'->Q v (back cl H H'))->CE outer P w H s Q u s' :=
  fun {σ' H' v u} J rv q=>by
   have un:Un (frs outer) [] (hid cl H) H' s.heap s'.heap:=J.base
   have nex:∀ b:Addr,b∉([]:List Addr):=fun b=>by simp
   have keepC:∀ x c o,cl.lookup x=some c->s.heap.get? c=some o->s'.heap.get? c=some o:=fun x c o h e=>un.keep c o e (ZDy h) (cfs x c h) (nex c)
   have freeC:∀ x c,cl.lookup x=some c->H' c=none:=fun x c h=>by
    obtain ⟨o,u,e,e2,d⟩:=cellAt x c h
    exact un.free c o e2 (ZDy h) (nex c)
   refine ⟨v,back cl H H',J.os,J.bare,⟨fun b o e n hb hx=>?_,fun b o e n hb hx=>?_,fun b o e n hx=>?_,un.there,fun b xs e=>?_,fun b o u' e=>?_,fun b ps' e=>?_⟩,fun b o e=>?_,rv,q freeC⟩
   .refine un.keep b o e ?_ hb hx
    by_cases q:∃ x,cl.lookup x=some b
    .obtain ⟨x,q⟩:=q;exact ZDy q
    .rw [ZC8 q];exact n
   .refine un.slot b o e ?_ hb hx
    by_cases q:∃ x,cl.lookup x=some b
    .obtain ⟨x,q⟩:=q;exact ZDy q
    .rw [ZC8 q];exact n
   .have nc:¬ ∃ x,cl.lookup x=some b:=by
     rintro ⟨x,q⟩
     obtain ⟨o,u,e,_⟩:=cellAt x b q
     rw [n] at e;cases e
    rw [ZBa nc]
    exact un.free b o e (by rw [ZC8 nc];exact n) hx
   .have e2:=un.tups b xs (ZBI C.cells e (fun ob z=>by cases z))
    rw [ZBa]
    .exact e2
    .rintro ⟨x,q⟩;rw [freeC x b q] at e2;cases e2
   .by_cases q:∃ x,cl.lookup x=some b
    .obtain ⟨x,q⟩:=q;rw [ZDI q];exact e
    .rw [ZBa q];exact un.frzs b o u' (by rw [ZC8 q];exact e)
   .obtain ⟨more,e2⟩:=un.tbls b ps' (ZBI C.cells e (fun ob z=>by cases z))
    refine ⟨more,?_⟩
    rw [ZBa]
    .exact e2
    .rintro ⟨x,q⟩;rw [freeC x b q] at e2;cases e2
   .have up:∀ c oc,H' c=some oc->back cl H H' c=some oc:=fun c oc q=>by
     rw [ZBa]
     .exact q
     .rintro ⟨x,z⟩;rw [freeC x c z] at q;cases q
    by_cases q:∃ x,cl.lookup x=some b
    .obtain ⟨x,q⟩:=q
     rw [ZDI q] at e
     obtain ⟨o2,u2,e2,e3,d⟩:=cellAt x b q
     rw [e] at e2
     cases e2
     exact ZEf (keepC x b _ q e3)
    .rw [ZBa q] at e
     exact (J.hok b o e).stay (fun c v _ q=>q) (fun c q=>up c _ q) fun c xs q=>up c _ q
 cases fl with
 | ret u=>
  obtain ⟨v,σ',H',J,rv,q⟩:=hs
  exact fin J rv q
 | next=>
  obtain ⟨σ',H',J,q⟩:=hs
  exact fin (v:=V.non) (u:=Value.none) J rfl q
 | brk=>
  obtain ⟨_,_,_,q⟩:=hs
  exact False.elim q
 | cont=>
  obtain ⟨_,_,_,q⟩:=hs
  exact False.elim q
end
noncomputable def ZEO (r:V->List V->Hp->VK->Prop) (ta:TE) (t:TA):TE:=fun σ H Q=>ta σ H fun f H1=>(∃ g o,f=.ref g /\ H1 g=some (FZ o) /\ ∃ fd,o.data=.func fd) /\ t σ H1 fun vs H2=>r f vs H2 Q
noncomputable def CloR (X:Cx) (r:V->List V->Hp->VK->Prop):Prop :=
 ∀ (pins:List (Addr×Obj)) (s:Shared) (σ:St) (H:Hp) (f:Addr) (vs:List V) (us:List Value) (Q:VK),Inv X pins σ H s->Vals vs us->r (.ref f) vs H Q ->
  PySem.W.FnAt f s.heap /\ wpAny (model X.prog X.w) X.A (call (.ref f) us) (EP X pins σ Q) X.xe s
theorem fnAt_of {h:Heap} {g:Addr} {o:Obj} {fd:FuncData} (e:h.get? g=some o) (d:o.data=.func fd):PySem.W.FnAt g h:=by
 obtain ⟨oc,od,dt,sl⟩:=o
 have d':dt=.func fd:=d
 subst d'
 exact ⟨oc,od,fd,sl,e⟩
theorem pe_callV {X:Cx} {x:Str} {p pos:Pos} {e:Expr} {es:List Expr} {ta:TE} {t:TA} {r:V->List V->Hp->VK->Prop} (hc:CloR X r) (hx:PE X (.Name x p) ta) (ha:PA X (e::es) t)
  (he:starEach (e::es) X.env=(false,eval e X.env)::starEach es X.env:=by rfl) (hpl:(backTo pos (starEach es X.env)).any (·.1)=false:=by rfl):PE X (.Call (.Name x p) (e::es) [] pos) (ZEO r ta t):=by
 intro pins s σ H Q I h
 refine wpAny_Call_Name_kw (thn (hx pins s σ H _ I h) fun v s1 zz=>?_)
 obtain ⟨f,H1,I1,rf,⟨g,o,eg,hg,fd,hd⟩,q⟩:=zz
 subst eg
 cases rf
 refine PySem.W.callWith_F (fnAt_of (ZDG I1.hok hg) hd) (thn (ha pos pins s1 σ H1 _ I1 q) fun us s2 zz=>?_) he hpl
 obtain ⟨vs,H2,I2,r2,q2⟩:=zz
 exact hc pins s2 σ H2 g vs us Q I2 r2 q2
structure CloOk (P:Program) (w:World) (K:W.Frag) (mg:Str->Option Value) (base:Heap) (k:Nat) (r:V->List V->Hp->VK->Prop):Prop where
 run:∀ (A:Around) (outer:List Env) (s:Shared) (H:Hp) (f:Addr) (vs:List V) (us:List Value) (Q:VK),Room k A->Env0 P w K mg base A outer s H->Vals vs us->r (.ref f) vs H Q ->
  PySem.W.FnAt f s.heap /\ codeAny (model P w) A (.call (.ref f) ⟨us,[]⟩) (fun r s'=>match r with | .ok (.ret u)=>CE outer P w H s Q u s' | _=>False) s
theorem CloOk.at {X:Cx} {k:Nat} {r:V->List V->Hp->VK->Prop} (C:CloOk X.prog X.w X.K X.mg X.base k r) (hr:Room k X.A):CloR X r:=by
 intro pins s σ H f vs us Q I rv h
 obtain ⟨h1,h2⟩:=C.run X.A X.stack s H f vs us Q hr I.env0 rv h
 refine ⟨h1,wpAny_call (codeAny_mono h2 fun r s' hq=>?_)⟩
 cases r with
 | error e=>exact False.elim hq
 | ok fl=>
  cases fl with
  | ret u=>exact I.after hq
  | next=>exact False.elim hq
  | brk=>exact False.elim hq
  | cont=>exact False.elim hq
theorem Clo.fnAt {P:Program} {w:World} {H:Hp} {h:Heap} {g:Addr} {iname iq:Str} {ip:Arguments} {ib:List Stmt} {isc:Scope} {fr:List Str} {cs:List V} {cl:List (Str×Addr)} (x:HOk P w H h) (C:CloL H g iname iq ip ib isc fr cs cl):PySem.W.FnAt g h:=by
 obtain ⟨doc,pm,ctv,c',e,_⟩:=C.obj
 exact fnAt_of (ZDG x e) rfl
theorem clo_of {P:Program} {w:World} {K:W.Frag} {mg:Str->Option Value} {base:Heap} {iname iq:Str} {ip:Arguments} {ib:List Stmt} {isc:Scope} {N ps fr:List Str} {k:Nat} {r:V->List V->Hp->VK->Prop} (S:CloScope N ps fr isc)
  (hcl:∀ f vs H Q,r f vs H Q->∃ g cs,f=.ref g /\ Clo H g iname iq ip ib isc fr cs) (len:∀ f vs H Q,r f vs H Q->vs.length=ps.length)
  (hbind:∀ (cl:List (Str×Addr)) (doc pm ctv:Value) (c':Addr) (us:List Value),us.length=ps.length->bindArgs (PySem.W.fnX iname iq ip ib isc cl .none .none doc pm none (.ref c') ctv) ⟨us,[]⟩=pure (ps.zip us))
  (hbody:∀ (g:Addr) (cs:List V) (cl:List (Str×Addr)) (cd:Value) (A:Around) (outer:List Env) (s:Shared) (H:Hp) (vs:List V) (Q:VK),Room k (A.deeper (PySem.W.envX iq isc s.heap.objs.size g cd cl))->CloL H g iname iq ip ib isc fr cs cl->r (.ref g) vs H Q ->
   ∃ t,PSs (ZEK P w K mg base N iq isc g cd cl A outer s (hid cl H)) ib t /\ t { nx:=fun _ H'=>NoC cl H'->Q .non (back cl H H'),rt:=fun v H'=>NoC cl H'->Q v (back cl H H') } (ZB7 N vs cs) (hid cl H)):CloOk P w K mg base (k+1) r:=by
 refine ⟨fun A outer s H f vs us Q hr e0 rv h=>?_⟩
 obtain ⟨g,cs,eg,cl,C⟩:=hcl _ _ _ _ h
 cases eg
 have hl:=len _ _ _ _ h
 refine ⟨Clo.fnAt e0.hok C,clo_call (k:=k) C S hr e0 hl rv (fun doc pm ctv c'=>hbind cl doc pm ctv c' us (by rw [<- rv.length];exact hl)) fun cd A' hr'=>?_⟩
 exact hbody f cs cl cd A outer s H vs Q (hr.deeper _) C h
theorem NoC.ne {cl:List (Str×Addr)} {H:Hp} {b:Addr} {o:HO} (n:NoC cl H) (h:H b=some o):¬ ∃ x,cl.lookup x=some b:=fun ⟨x,e⟩=>by rw [n x b e] at h;cases h
noncomputable def TabSt (H:Hp) (Pt:Addr) (pos:Pos) (iq:Str):Prop:=H Pt=some (.tbl #[])∨∃ c',H Pt=some (.tbl #[rawInt pos.line,rawInt pos.col,.ref c']) /\ CodeAt H c' iq
theorem TabSt.mono {H H':Hp} {Pt:Addr} {pos:Pos} {iq:Str} (e:H' Pt=H Pt) (f:ZC2 H H') (k:TabSt H Pt pos iq):TabSt H' Pt pos iq:=by
 rcases k with k | ⟨c',k,q⟩
 .exact .inl (e.trans k)
 .exact .inr ⟨c',e.trans k,q.mono f⟩
noncomputable def ZDj (mg:Str->Option Value) (h:Heap):Prop:=∃ bm ob,mg "__builtins__"=some (.ref bm) /\ bm≠builtinsNs /\ h.get? bm=some ob /\ ob.cls=.type "module" /\ ob.dict=some builtinsNs /\ ob.data=.plain
structure MadeDef (H H':Hp) (Pt:Addr) (pos:Pos) (g:Addr) (iname iq:Str) (ip:Arguments) (ib:List Stmt) (isc:Scope) (fr:List Str) (cs:List V):Prop where
 same:∀ b o,b≠Pt->H b=some o->H' b=some o
 tab:TabSt H' Pt pos iq
 clo:Clo H' g iname iq ip ib isc fr cs
 fresh:H g=none
section
variable {X:Cx} {pins:List (Addr×Obj)} {σ:St} {H:Hp} {s:Shared}
structure MadeMid (H H':Hp) (Pt:Addr) (pos:Pos) (g:Addr) (iname iq:Str) (ip:Arguments) (ib:List Stmt) (isc:Scope) (cl:List (Str×Addr)):Prop where
 same:∀ b o,b≠Pt->H b=some o->H' b=some o
 tab:TabSt H' Pt pos iq
 obj:∃ (doc pm ctv:Value) (c':Addr),H' g=some (FZ (PySem.W.fnMade iname iq ip ib isc cl doc pm c' ctv)) /\ CodeAt H' c' iq
 fresh:H g=none
theorem Inv.made3 (I:Inv X pins σ H s) {Pt c':Addr} {ps more:Array Value} {h':Heap} {oc fo:Obj} {tk:Nat} (hP:H Pt=some (.tbl ps)) (hx:Heap.ExtBut Pt s.heap h') (hge:s.heap.objs.size <= c') (hlt:c' < h'.objs.size) (hoc:h'.get? c'=some oc)
  (hPt:h'.get? Pt=some (PySem.W.tabObj (ps++more))) (hfo:fo.isFreed=false):Inv X pins σ (upd (upd (upd H Pt (.tbl (ps++more))) c' (FZ oc)) h'.objs.size (FZ fo)) { s with heap:=h'.push fo,toks:=tk }:=by
 have gn:∀ b o,s.heap.get? b=some o->b≠h'.objs.size /\ b≠c':=fun b o e=>by
  have l:=Heap.lt_size e
  exact ⟨yAE (Nat.lt_trans (yAI l hge) hlt),yAE (yAI l hge)⟩
 have gt:∀ b o,H b=some o->b≠h'.objs.size /\ b≠c':=fun b o e=>by
  have l:=I.hok.lt e
  exact ⟨yAE (Nat.lt_trans (yAI l hge) hlt),yAE (yAI l hge)⟩
 have np:∀ b,H b=none->b≠Pt:=fun b n z=>by rw [z,hP] at n;cases n
 have cg:c'≠h'.objs.size:=yAE hlt
 have old:∀ b o,b≠Pt->H b=some o->upd (upd (upd H Pt (.tbl (ps++more))) c' (FZ oc)) h'.objs.size (FZ fo) b=some o:=fun b o n e=>by
  rw [ZAF (gt b o e).1,ZAF (gt b o e).2,ZAF n];exact e
 have atP:upd (upd (upd H Pt (.tbl (ps++more))) c' (FZ oc)) h'.objs.size (FZ fo) Pt=some (.tbl (ps++more)):=by
  rw [ZAF (gt Pt _ hP).1,ZAF (gt Pt _ hP).2,ZAE]
 refine I.un (h':=h'.push fo) (t':=tk) ⟨fun b o e n _ _=>?_,fun b o e n _ _=>?_,fun b o e n _=>?_,fun b o e _=>?_,fun b xs e=>?_,fun b o u e=>?_,fun b qs e=>?_⟩ fun b o e=>?_
 .exact Heap.get?_push_of_some _ (hx b o (np b n) e)
 .exact ⟨o.slots,Heap.get?_push_of_some _ (hx b o (np b n) e)⟩
 .rw [ZAF (gn b o e).1,ZAF (gn b o e).2,ZAF (np b n)];exact n
 .by_cases q:b=Pt
  .subst q;exact ⟨_,Heap.get?_push_of_some _ hPt⟩
  .exact ⟨o,Heap.get?_push_of_some _ (hx b o q e)⟩
 .exact old b _ (fun z=>by rw [z,hP] at e;cases e) e
 .exact old b _ (fun z=>by rw [z,hP] at e;cases e) e
 .by_cases q:b=Pt
  .subst q
   rw [hP] at e
   cases e
   exact ⟨more,atP⟩
  .exact ⟨#[],by rw [old b _ q e];simp⟩
 .by_cases q1:b=h'.objs.size
  .subst q1;rw [ZAE] at e;cases e;exact ZEf (Heap.get?_push_size _ hfo)
  .rw [ZAF q1] at e
   by_cases q2:b=c'
   .subst q2;rw [ZAE] at e;cases e;exact ZEf (Heap.get?_push_of_some _ hoc)
   .rw [ZAF q2] at e
    by_cases q3:b=Pt
    .subst q3;rw [ZAE] at e;cases e;exact Heap.get?_push_of_some _ hPt
    .rw [ZAF q3] at e
     refine (I.hok b o e).stay (fun c u hc q=>?_) (fun c q=>?_) fun c xs q=>?_
     .refine Heap.get?_push_of_some _ (hx c u ?_ q)
      rcases hc with z | z
      .rw [z];exact q3
      .intro z2;rw [z2,hP] at z;cases z
     .exact old c _ (fun z=>by rw [z,hP] at q;cases q) q
     .exact old c _ (fun z=>by rw [z,hP] at q;cases q) q
theorem Inv.made1 (I:Inv X pins σ H s) {h':Heap} {fo:Obj} {tk:Nat} (hk:∀ b o,s.heap.get? b=some o->h'.get? b=some o) (hsz:s.heap.objs.size <= h'.objs.size) (hfo:fo.isFreed=false):Inv X pins σ (upd H h'.objs.size (FZ fo)) { s with heap:=h'.push fo,toks:=tk } :=
 I.laid (fun b u q=>Heap.get?_push_of_some _ (hk b u q)) hsz (ZEf (Heap.get?_push_size _ hfo))
noncomputable def tDef (i:Nat) (Pt:Addr) (pos:Pos) (iname iq:Str) (ip:Arguments) (ib:List Stmt) (isc:Scope) (cl:List (Str×Addr)):TS:=fun D σ H=>TabSt H Pt pos iq /\ ∀ g H',MadeMid H H' Pt pos g iname iq ip ib isc cl->D.nx (σ.set i (some (.ref g))) H'
theorem ps_def {i:Nat} {Pt c:Addr} {pos:Pos} {iname iq:Str} {ip:Arguments} {ib:List Stmt} {isc:Scope} (hN:X.N.Nodup) (hi:X.N[i]?=some iname) (hx:Loc X.env.scope iname) (hf:X.fn iname=true∨X.env.scope.names.lookup iname=some .local)
  (hcode:X.env.code=.ref c) (C:PySem.W.CodeHd X.base c Pt) (B:ZDj X.mg X.base) (hq:qualnameIn X.env iname iname=iq) (hd0:ip.defaults=[]) (hk0:ip.kw_defaults=[]) (ha:annTrees ip none X.env=[])
  (hfr:∀ x,(x,NameKind.free)∈isc.names->∃ c,X.env.cells.lookup x=some c) :
  PS X (.FunctionDef iname ip ib [] none [] isc none iname pos) (tDef i Pt pos iname iq ip ib isc (closFrom X.env.cells isc.names [])):=by
 intro pins s σ H D I h
 obtain ⟨ht,h⟩:=h
 refine PySem.W.nestDef_K hd0 hk0 ha ?_
 rw [hq]
 have hgs:=I.ok.mod.glob.keeps I.bk
 have hC:=C.keeps I.bk
 have hcl:=closureFor_eq (scope:=isc) (env:=X.env) hfr
 obtain ⟨bm,ob,b1,b2,b3,b4,b5,b6⟩:=B
 have hbG:bm≠mainGlobals:=fun q=>by
  obtain ⟨o,es,ep,e,hd,_⟩:=I.ok.mod.glob
  rw [q,e] at b3;cases b3;rw [hd] at b6;cases b6
 have apart:∀ {qs:Array Value},s.heap.get? Pt=some (PySem.W.tabObj qs)->mainGlobals≠Pt /\ s.heap.BuiltinsAt X.mg Pt:=fun {qs} hm=>by
  refine ⟨fun q=>?_,bm,ob,b1,b2,hbG,fun q=>?_,I.bk _ _ b3,b4,b5,b6⟩
  .obtain ⟨o,es,ep,e,hd,_⟩:=hgs
   rw [q,hm] at e;cases e;cases hd
  .have e:=I.bk _ _ b3
   rw [q,hm] at e;cases e;cases b4
 have fin:∀ {g:Addr} {H':Hp} {s':Shared},Inv X pins σ H' s'->MadeMid H H' Pt pos g iname iq ip ib isc (closFrom X.env.cells isc.names []) ->
   wpAny (model X.prog X.w) X.A (storeName X.env iname (.ref g)) (fun _ s''=>SP X pins D .next s'') X.xe s':=fun {g H' s'} J M=>
  ZB6 J hN hi hx (v:=.ref g) rfl (fun s'' J'=>⟨_,H',J',h g H' M⟩) hf
 rcases ht with ht | ⟨c1,ht,hc1⟩
 .have hP:s.heap.get? Pt=some (PySem.W.tabObj #[]):=I.hok Pt _ ht
  obtain ⟨a1,a2⟩:=apart hP
  refine PySem.W.makeFunction_K hcl I.ok.glob hgs hcode hC hP trivial rfl a1 a2 fun c' ctv doc h' tk hx2 hge hlt hrec htb=>?_
  obtain ⟨c2,oc,vs,t,e2,hoc,hd,hv⟩:=hrec
  cases e2
  have J:=I.made3 (tk:=tk) (fo:=PySem.W.fnMade iname iq ip ib isc (closFrom X.env.cells isc.names []) doc ((X.mg "__name__").getD .none) c' ctv) ht hx2 hge hlt hoc htb rfl
  have gt:∀ b o,H b=some o->b≠h'.objs.size /\ b≠c':=fun b o e=>by
   have l:=I.hok.lt e
   exact ⟨yAE (Nat.lt_trans (yAI l hge) hlt),yAE (yAI l hge)⟩
  have hcc:CodeAt (upd (upd (upd H Pt (.tbl (#[]++#[rawInt pos.line,rawInt pos.col,.ref c']))) c' (FZ oc)) h'.objs.size (FZ (PySem.W.fnMade iname iq ip ib isc (closFrom X.env.cells isc.names []) doc ((X.mg "__name__").getD .none) c' ctv))) c' iq :=
   ⟨oc,vs,t,by rw [ZAF (yAE hlt),ZAE],hd,hv⟩
  refine fin J ⟨fun b o n e=>?_,.inr ⟨c',?_,hcc⟩,⟨doc,_,ctv,c',ZAE,hcc⟩,?_⟩
  .rw [ZAF (gt b o e).1,ZAF (gt b o e).2,ZAF n];exact e
  .rw [ZAF (gt Pt _ ht).1,ZAF (gt Pt _ ht).2,ZAE];rfl
  .exact I.hok.fresh (yAD hge (yBH hlt))
 .have hP:s.heap.get? Pt=some (PySem.W.tabObj #[rawInt pos.line,rawInt pos.col,.ref c1]):=I.hok Pt _ ht
  obtain ⟨a1,a2⟩:=apart hP
  refine PySem.W.makeFunction_hit (cv:=.ref c1) hcl I.ok.glob hgs hcode hC hP trivial ?_ a2 fun ctv doc h' tk hk hsz=>?_
  .simp [codeAmong,rawInt]
  have J:=I.made1 (tk:=tk) (fo:=PySem.W.fnMade iname iq ip ib isc (closFrom X.env.cells isc.names []) doc ((X.mg "__name__").getD .none) c1 ctv) hk hsz rfl
  have gt:∀ b o,H b=some o->b≠h'.objs.size:=fun b o e=>yAE (yAI (I.hok.lt e) hsz)
  have old:∀ b o,H b=some o->upd H h'.objs.size (FZ (PySem.W.fnMade iname iq ip ib isc (closFrom X.env.cells isc.names []) doc ((X.mg "__name__").getD .none) c1 ctv)) b=some o:=fun b o e=>by rw [ZAF (gt b o e)];exact e
  have hcc:=hc1.mono (H':=upd H h'.objs.size (FZ (PySem.W.fnMade iname iq ip ib isc (closFrom X.env.cells isc.names []) doc ((X.mg "__name__").getD .none) c1 ctv))) fun b o e=>old b _ e
  exact fin J ⟨fun b o _ e=>old b o e,.inr ⟨c1,old _ _ ht,hcc⟩,⟨doc,_,ctv,c1,ZAE,hcc⟩,I.hok.fresh hsz⟩
end
noncomputable def ZD7 (Pt:Addr) (pos:Pos) (iname iq:Str) (ip:Arguments) (ib:List Stmt) (isc:Scope) (fr:List Str) (ix:List Nat) (n:Nat):Sp:=fun vs H Q _=>
 vs.length=n /\ TabSt H Pt pos iq /\ ∀ g H',MadeDef H H' Pt pos g iname iq ip ib isc fr (ix.map fun i=>vs.getD i .non)->Q (.ref g) H'
theorem teller_ok {P:Program} {w:World} {K:W.Frag} {mg:Str->Option Value} {base:Heap} {x qual:Str} {st:Stmt} {f c Pt:Addr} {fd:FuncData} {ps:List Str} {iname iq:Str} {ip:Arguments} {ib:List Stmt} {isc:Scope} {pos rp rpos:Pos} {fr:List Str} {ix:List Nat}
  (F:Fun K x qual st f fd) (S:FnScope (ps++[iname]) ps (ZAB st)) (hcd:fd.code=.ref c) (C:PySem.W.CodeHd base c Pt) (B:ZDj mg base)
  (hb:ZAL st=[.FunctionDef iname ip ib [] none [] isc none iname pos,.Return (some (.Name iname rp)) rpos]) (hiq:∀ L cd,qualnameIn (envOfC qual (ZAB st) L f cd) iname iname=iq) (hd0:ip.defaults=[]) (hk0:ip.kw_defaults=[]) (ha:∀ L cd,annTrees ip none (envOfC qual (ZAB st) L f cd)=[])
  (hloc:(ZAB st).names.lookup iname=some .local) (hdb:(iname == ("__debug__":Str))=false) (hcdn:(iname == ("__classdict__":Str))=false)
  (hfree:∀ y∈isc.names,y.2=.free->y.1∈fr) (hhas:∀ y∈fr,(y,NameKind.free)∈isc.names) (hfc:∀ y∈fr,(ZAB st).names.lookup y=some .cell) (hix:∀ (j:Nat) (y:Str),fr[j]?=some y->∃ i,ix[j]?=some i /\ ps[i]?=some y) (hixl:ix.length=fr.length) :
  FnOk P w K mg base CX0 1 f fd ps (ZD7 Pt pos iname iq ip ib isc fr ix ps.length):=by
 obtain ⟨oc,od,kV,doc,pm,an,cdv,ct,osl,rfl,lk,hcd2⟩:=F.ex
 have hcd':cdv=.ref c:=hcd
 refine ⟨fun vs H Q E h=>h.1,fun A outer s H args us vs Q E hr e0 hbn r hsp=>?_⟩
 obtain ⟨hl,hT,hQ⟩:=hsp
 have KX:K.In s.heap:=e0.mod.kin.keeps fun b o e=>(e0.bs b o e).1
 have lim:s.heap.NoLimit:=e0.mod.nolimit.keeps fun b o e=>(e0.bs b o e).1
 have hkind:∀ y∈ps.zip us,(ZAB st).names.lookup y.1=some .local∨((ZAB st).names.lookup y.1=some .cell /\ ((cellsFrom (s.heap.objs.size+1) (ZAB st).names []).lookup y.1).isSome=true):=fun ⟨n,v⟩ hy=>by
  rcases S.par n (List.of_mem_zip hy).1 with q | q
  .exact .inl q
  .exact .inr ⟨q,PySem.W.cellsFrom_some _ _ _ (.inl q)⟩
 refine codeAny_call_function hr.depth (KX _ _ lk) rfl S.co S.gen rfl (PySem.W.codeRec_of KX hcd2) (hbn _ _ _ _ ?_)
 refine wpAny_newFunctionEnv_cells S.kind hkind fun env he s1 xx=>?_
 subst he
 refine ⟨lim.keeps xx.toInCall.keep,codeAny_func ?_⟩
 have I:Inv (cxOf CX0 P w K mg base (ps++[iname]) qual (ZAB st) f cdv A outer s H E).nox [] (start (ps++[iname]) vs) H s1:=(inv_start S hr.hd e0 hl r xx).wish _
 have cellHas:∀ y∈fr,∃ cc,(cellsFrom (s.heap.objs.size+1) (ZAB st).names []).lookup y=some cc:=fun y hy=>ZCg (hfc y hy)
 rw [hb]
 have hiN:(ps++[iname])[ps.length]?=some iname:=by simp
 have d1:=ps_def (X:=(cxOf CX0 P w K mg base (ps++[iname]) qual (ZAB st) f cdv A outer s H E).nox) (i:=ps.length) (pos:=pos) (Pt:=Pt) (c:=c) (iq:=iq) (ip:=ip) (ib:=ib) (isc:=isc) S.nd hiN (.inl hloc) (.inr hloc) hcd' C B (hiq _ _) hd0 hk0 (ha _ _) fun y hy=>cellHas y (hfree _ hy rfl)
 have hlen:(start (ps++[iname]) vs).length=ps.length+1:=by
  unfold start
  simp only [yAF,yAB,yBW,yAJ,yBR]
  omega
 have run:=d1 [] s1 (start (ps++[iname]) vs) H { nx:=fun σ' H'=>∃ g,σ'=(start (ps++[iname]) vs).set ps.length (some (.ref g)) /\ MadeMid H H' Pt pos g iname iq ip ib isc (closFrom (cellsFrom (s.heap.objs.size+1) (ZAB st).names []) isc.names []),rt:=fun _ _=>False } I ⟨hT,fun g H' M=>⟨g,rfl,M⟩⟩
 refine wpAny_execs_cons (wpAny_mono run (fun fl s2 q=>?_) fun e s' z=>z.elim)
 cases fl with
 | ret v=>obtain ⟨_,_,_,_,_,q⟩:=q;exact q.elim
 | brk=>obtain ⟨_,_,_,q⟩:=q;exact q.elim
 | cont=>obtain ⟨_,_,_,q⟩:=q;exact q.elim
 | next=>
  obtain ⟨σ',H',J,g,rfl,M⟩:=q
  have v1:=pe_var (pos:=rp) (X:=(cxOf CX0 P w K mg base (ps++[iname]) qual (ZAB st) f cdv A outer s H E).nox) hiN (.inl hloc) hdb hcdn [] s2 _ H' (fun v H2=>v=.ref g /\ H2=H') J ⟨.ref g,by rw [List.getElem?_set_self (by rw [hlen];omega)],rfl,rfl⟩
  refine wpAny_execs_cons (wpAny_Return_some (wpAny_mono v1 (fun u s3 q=>?_) fun e s' z=>z.elim))
  obtain ⟨v,H2,J2,rv,rfl,rfl⟩:=q
  cases rv
  have un:Un (frs outer) [] H H2 s.heap s3.heap:=J2.base
  have nex:∀ b:Addr,b∉([]:List Addr):=fun b=>by simp
  have inj:=J2.ok.inj
  have cAt:∀ (j:Nat) (y:Str),fr[j]?=some y->∃ v cc uu,(ix.map fun i=>vs.getD i .non)[j]?=some v /\ (cellsFrom (s.heap.objs.size+1) (ZAB st).names []).lookup y=some cc /\ RelV v uu /\ s3.heap.IsCell cc (some uu):=fun j y hj=>by
   obtain ⟨i,h1,h2⟩:=hix j y hj
   have hi:i < ps.length:=(yAX.mp h2).1
   obtain ⟨v,hv⟩:∃ v,vs[i]?=some v:=⟨_,yAM (by omega)⟩
   obtain ⟨m,_,hm⟩:=J2.loc
   have hs:((start (ps++[iname]) vs).set ps.length (some (.ref g)))[i]?=some (some v):=by
    rw [List.getElem?_set_ne (by omega)]
    unfold start
    rw [yAZ (by rw [yAB];omega),yAP,hv]
    rfl
   have hN:(ps++[iname])[i]?=some y:=by rw [yAZ hi];exact h2
   obtain ⟨uu,ru,lk2⟩:=hm i y v hN hs (.inr (.inl (hfc y (yBD hj))))
   refine ⟨v,?_⟩
   rcases lk2 with ⟨k1,_⟩ | ⟨_,cc,e1,e2⟩
   .have k2:(ZAB st).names.lookup y=some .local:=k1
    rw [hfc y (yBD hj)] at k2
    cases k2
   .refine ⟨cc,uu,?_,e1,ru,e2⟩
    rw [yAP,h1]
    show some (vs.getD i .non)=some v
    rw [yBM,hv]
    rfl
  have clk:∀ y cc,(closFrom (cellsFrom (s.heap.objs.size+1) (ZAB st).names []) isc.names []).lookup y=some cc->y∈fr /\ (cellsFrom (s.heap.objs.size+1) (ZAB st).names []).lookup y=some cc:=fun y cc h=>by
   rcases ZBJ _ _ y cc (PySem.mem_of_lookup h) with z | ⟨z1,z2⟩
   .cases z
   .have hy:=hfree _ z1 rfl
    obtain ⟨c3,h3⟩:=cellHas y hy
    rw [h3] at z2
    exact ⟨hy,by rw [h3];exact congrArg some z2.symm⟩
  have clh:∀ y cc,y∈fr->(cellsFrom (s.heap.objs.size+1) (ZAB st).names []).lookup y=some cc->(closFrom (cellsFrom (s.heap.objs.size+1) (ZAB st).names []) isc.names []).lookup y=some cc:=fun y cc hy h=>by
   obtain ⟨c3,h3⟩:=ZBA (ZBK (cells:=cellsFrom (s.heap.objs.size+1) (ZAB st).names []) isc.names [] y (hhas y hy))
   have:=(clk y c3 h3).2
   rw [h] at this
   rw [h3,Option.some.inj this]
  have cnew:∀ y cc,(closFrom (cellsFrom (s.heap.objs.size+1) (ZAB st).names []) isc.names []).lookup y=some cc->s.heap.objs.size <= cc /\ H2 cc=none /\ ∃ o u,s3.heap.get? cc=some o /\ o.data=.cell u:=fun y cc h=>by
   obtain ⟨hy,h2⟩:=clk y cc h
   obtain ⟨u,o,e1,e2⟩:=J2.cell y cc h2
   exact ⟨yBH (xx.above y cc (PySem.mem_of_lookup h2)),J2.freeC y cc h2,o,u,e1,e2⟩
  generalize closFrom (cellsFrom (s.heap.objs.size+1) (ZAB st).names []) isc.names []=cl at M clk clh cnew
  have tr:∀ b,¬ (∃ y,cl.lookup y=some b)->back cl (fun b=>(s3.heap.get? b).map FZ) H2 b=H2 b:=fun b n=>ZBa n
  have tc:∀ y b o,cl.lookup y=some b->s3.heap.get? b=some o->back cl (fun b=>(s3.heap.get? b).map FZ) H2 b=some (FZ o):=fun y b o h e=>by rw [ZDI h,e];rfl
  have oldn:∀ b,b < s.heap.objs.size->¬ ∃ y,cl.lookup y=some b:=fun b hb ⟨y,z⟩=>absurd (cnew y b z).1 (Nat.not_le.mpr hb)
  have up:∀ b o,H2 b=some o->back cl (fun b=>(s3.heap.get? b).map FZ) H2 b=some o:=fun b o e=>by
   rw [tr b fun ⟨y,z⟩=>by rw [(cnew y b z).2.1] at e;cases e];exact e
  refine ⟨.ref g,back cl (fun b=>(s3.heap.get? b).map FZ) H2,J2.os,J2.bare,⟨un.keep,un.slot,fun b o e n hx=>?_,un.there,fun b xs e=>up _ _ (un.tups b xs e),fun b o u e=>up _ _ (un.frzs b o u e),fun b qs e=>?_⟩,fun b o e=>?_,rfl,hQ g _ ⟨fun b o n e=>up _ _ (M.same b o n e),?_,⟨cl,?_,fun y cc h=>(clk y cc h).1,fun y z cc h1 h2=>inj y z cc (clk y cc h1).2 (clk z cc h2).2,fun j y hj=>?_,?_⟩,M.fresh⟩⟩
  .rw [tr b (oldn b (Heap.lt_size e))];exact un.free b o e n hx
  .obtain ⟨more,e2⟩:=un.tbls b qs e
   exact ⟨more,up _ _ e2⟩
  .by_cases q:∃ y,cl.lookup y=some b
   .obtain ⟨y,q⟩:=q
    obtain ⟨_,_,o2,u2,e2,_⟩:=cnew y b q
    rw [tc y b o2 q e2] at e
    cases e
    exact ZEf e2
   .rw [tr b q] at e
    exact (J2.hok b o e).stay (fun c v _ q=>q) (fun c q=>up c _ q) fun c xs q=>up c _ q
  .exact M.tab.mono (by
    rcases M.tab with z | ⟨_,z,_⟩
    .rw [z];exact up _ _ z
    .rw [z];exact up _ _ z) fun b o e=>up b _ e
  .obtain ⟨d1,d2,d3,c3,e1,e2⟩:=M.obj
   exact ⟨d1,d2,d3,c3,up _ _ e1,e2.mono fun b o e=>up b _ e⟩
  .obtain ⟨v,cc,uu,a1,a2,a3,o,a4,a5⟩:=cAt j y hj
   have hl2:=clh y cc (yBD hj) a2
   exact ⟨v,cc,uu,o,a1,hl2,a3,tc y cc o hl2 a4,a5⟩
  .rw [yAB];exact hixl
noncomputable def ZE1 (tabs:List (Addr×Addr)) (H:Hp):Prop:=∀ q∈tabs,H q.2=some (.tbl #[])
theorem law_callT {P:Program} {w:World} {K:W.Frag} {mg mb:Str->Option Value} {CX:CXT} {k:Nat} {fa a:Addr} {fd:FuncData} {x:Str} {sp:Sp} {s₁:Shared} {vs:List Value} {ns:List Int} {tabs:List (Addr×Addr)}
  (KX:K.In s₁.heap) (hns:s₁.heap.Ns mainGlobals mg) (hb:s₁.heap.Ns builtinsNs mb) (hbb:∀ x:Str,x≠"__name__"->mb x=bootBuiltins x) (hlim:s₁.heap.NoLimit) (hg:s₁.gens=#[])
  (ha:s₁.heap.get? a=some { cls:=.type "list",data:=.seq vs.toArray }) (hi:IntsAre vs ns) (hl:ns.length <= sizeLine) (hr:Room k callerA)
  (hT:∀ q∈tabs,PySem.W.CodeHd s₁.heap q.1 q.2 /\ s₁.heap.get? q.2=some (PySem.W.tabObj #[])) (nt:PySem.W.noTabs K=true) (hbm:ZDj mg s₁.heap)
  (F:∀ base:Heap,K.In base->base.Ns mainGlobals mg->(∀ q∈tabs,PySem.W.CodeHd base q.1 q.2)->ZDj mg base->FnOk P w K mg base CX k fa fd [x] sp) (hbind:∀ (s:Shared) (u:Value),BindsTo s fd ⟨[u],[]⟩ [(x,u)])
  (hsp:∀ H:Hp,ZE1 tabs H->SqL K H a (ns.map V.int)->sp [.ref a] H (fun v _=>v=.bl true) fun _ _ _=>False)
  (hCX:∀ H e s',CX [] H s₁ (fun _ _ _=>False) e s'->False) :
  codeAny (model P w) callerA (.call (.ref fa) ⟨[.ref a],[]⟩) (fun r s'=>r=.ok (.ret (.bool true)) /\ OldK s₁.heap s'.heap /\ s'.os=s₁.os /\ AllBare s'.gens) s₁:=by
 have rv:=ZB5 hi
 have lenV:=hi.length
 have core:∀ H:Hp,SqL K H a (ns.map V.int)->HOk P w H s₁.heap->(∀ b o,H b=some o->(b=a /\ K.lookup a=none /\ ∃ ob xs,o=.frz ob (.lst xs))∨(o=.tbl #[] /\ ∃ q∈tabs,q.2=b))->ZE1 tabs H ->
   codeAny (model P w) callerA (.call (.ref fa) ⟨[.ref a],[]⟩) (fun r s'=>r=.ok (.ret (.bool true)) /\ OldK s₁.heap s'.heap /\ s'.os=s₁.os /\ AllBare s'.gens) s₁:=by
  intro H hS hok hA hO
  have base_of:∀ {b:Addr} {o:Obj},s₁.heap.get? b=some o->H b=none->(hidT s₁.heap H).get? b=some o:=fun e n=>hidT_get e n
  have noObj:∀ {b:Addr} {o:Obj},s₁.heap.get? b=some o->(∀ vs' n',o.data≠.seq vs' n')->(o.cls=.none->∀ vs',o.data≠.fields vs')->H b=none:=fun {b o} e d1 d2=>by
   cases q:H b with
   | none=>rfl
   | some u=>
    rcases hA b u q with ⟨e',_⟩ | ⟨_,q',hq,e'⟩
    .subst e'
     rw [ha] at e;cases e
     exact absurd rfl (d1 _ _)
    .subst e'
     rw [(hT q' hq).2] at e;cases e
     exact absurd rfl (d2 rfl _)
  have nsK:∀ {b:Addr} {m:Str->Option Value},s₁.heap.Ns b m->(hidT s₁.heap H).Ns b m:=fun {b m} ⟨o,es,ep,e,d,r⟩=>⟨o,es,ep,base_of e (noObj e (by rw [d];intro _ _ z;cases z) (fun _=>by rw [d];intro _ z;cases z)),d,r⟩
  have hKb:K.In (hidT s₁.heap H):=fun b o e=>base_of (KX b o e) (by
   cases q:H b with
   | none=>rfl
   | some u=>
    rcases hA b u q with ⟨e',n,_⟩ | ⟨_,q',hq,e'⟩
    .subst e';rw [n] at e;cases e
    .subst e'
     have e2:=KX _ _ e
     rw [(hT q' hq).2] at e2
     cases e2
     have h2:=List.all_eq_true.mp nt _ (PySem.W.mem_of_lookupK e)
     exact absurd (show false=true from h2) yAS)
  have hM:Mod K mg (hidT s₁.heap H):=⟨hKb,nsK hns,⟨mb,nsK hb,hbb⟩,let ⟨mc,h1,h2⟩:=hlim;⟨mc,nsK h1,h2⟩⟩
  have e0:Env0 P w K mg (hidT s₁.heap H) callerA [] s₁ H:=⟨rfl,hM,fun b o e=>of_hidT e,Nat.le_of_eq (hidT_size _ _),trivial,fun b hb=>absurd (show b∈([]:List Addr) from hb) (by simp),hok,.of_eq hg⟩
  have hC:∀ q∈tabs,PySem.W.CodeHd (hidT s₁.heap H) q.1 q.2:=fun q hq=>by
   obtain ⟨o,vs,file,tf,flags,tg,inF,text,tt,e1,e2,e3,r⟩:=(hT q hq).1
   exact ⟨o,vs,file,tf,flags,tg,inF,text,tt,base_of e1 (noObj e1 (by rw [e3];intro _ _ z;cases z) (fun z=>by rw [e2] at z;cases z)),e2,e3,r⟩
  have hB:ZDj mg (hidT s₁.heap H):=by
   obtain ⟨bm,ob,b1,b2,b3,b4,b5,b6⟩:=hbm
   exact ⟨bm,ob,b1,b2,base_of b3 (noObj b3 (by rw [b6];intro _ _ z;cases z) (fun z=>by rw [b4] at z;cases z)),b4,b5,b6⟩
  refine codeAny_mono ((F _ hKb (nsK hns) hC hB).run callerA [] s₁ H ⟨[.ref a],[]⟩ [.ref a] [.ref a] _ _ hr e0 (hbind s₁ (.ref a)) (.cons rfl .nil) (hsp H hO hS)) fun r s' h=>?_
  cases r with
  | error e=>exact (hCX H e s' h).elim
  | ok fl=>
   cases fl with
   | next=>exact False.elim h
   | brk=>exact False.elim h
   | cont=>exact False.elim h
   | ret u=>
    obtain ⟨v,H',os,bare,un,hok',r',q⟩:=h
    have q':v=.bl true:=q
    subst q'
    obtain rfl:u=Value.bool true:=r'
    have nfs:∀ b:Addr,b∉frs ([]:List Env):=fun b z=>absurd (show b∈([]:List Addr) from z) (by simp)
    refine ⟨rfl,⟨fun b o e=>?_,fun b o e=>un.there b o e (by simp)⟩,os,bare⟩
    cases q:H b with
    | none=>exact .inl (un.keep b o e q (nfs b) (by simp))
    | some u=>
     rcases hA b u q with ⟨_,_,ob,xs,z⟩ | ⟨z,q',hq,e'⟩
     .subst z
      have z2:=un.frzs b ob _ q
      obtain ⟨e1,_⟩:=hok b _ q
      obtain ⟨e2,_⟩:=hok' b _ z2
      rw [e] at e1;cases e1
      exact .inl e2
     .subst z
      subst e'
      obtain ⟨more,z2⟩:=un.tbls _ _ q
      have e2:s'.heap.get? q'.2=some (PySem.W.tabObj (#[]++more)):=hok' _ _ z2
      have e3:=(hT q' hq).2
      rw [e] at e3
      have e4:o=PySem.W.tabObj #[]:=Option.some.inj e3
      subst e4
      exact .inr (.inl ⟨((hT q' hq).1.tab (hT q' hq).2).isCodeTable,rfl,#[],more,rfl,e2⟩)
 have tabA:∀ q∈tabs,q.2≠a:=fun q hq z=>by
  have e:=(hT q hq).2
  rw [z,ha] at e;cases e
 cases hk:K.lookup a with
 | some o=>
  have e:=KX a o hk
  rw [ha] at e
  cases e
  refine core (fun b=>if b∈tabs.map (·.2) then some (.tbl #[]) else none) (.inr ⟨_,vs.toArray,_,hk,rfl,rfl,rfl,by rw [yAL,lenV];exact hl,by simpa using rv⟩) (fun b u z=>?_) (fun b u z=>?_) fun q hq=>if_pos (List.mem_map_of_mem hq)
  .by_cases hb:b∈tabs.map (·.2)
   .have z':=(if_pos hb).symm.trans z
    cases z'
    obtain ⟨q,hq,rfl⟩:=List.mem_map.mp hb
    exact (hT q hq).2
   .have z':=(if_neg hb).symm.trans z
    cases z'
  .by_cases hb:b∈tabs.map (·.2)
   .have z':=(if_pos hb).symm.trans z
    cases z'
    obtain ⟨q,hq,e⟩:=List.mem_map.mp hb
    exact .inr ⟨rfl,q,hq,e⟩
   .have z':=(if_neg hb).symm.trans z
    cases z'
 | none=>
  refine core (fun b=>if b∈tabs.map (·.2) then some (.tbl #[]) else if b=a then some (.frz { cls:=.type "list",data:=.seq vs.toArray } (.lst (ns.map V.int))) else none) (.inl (.inr ⟨{ cls:=.type "list",data:=.seq vs.toArray },?_⟩)) (fun b u z=>?_) (fun b u z=>?_) fun q hq=>if_pos (List.mem_map_of_mem hq)
  .dsimp only
   rw [if_neg,if_pos rfl]
   intro z
   obtain ⟨q,hq,e⟩:=List.mem_map.mp z
   exact tabA q hq e
  .by_cases hb:b∈tabs.map (·.2)
   .have z':=(if_pos hb).symm.trans z
    cases z'
    obtain ⟨q,hq,rfl⟩:=List.mem_map.mp hb
    exact (hT q hq).2
   .have z':=(if_neg hb).symm.trans z
    by_cases hba:b=a
    .have z':=(if_pos hba).symm.trans z'
     cases z'
     subst hba
     exact ⟨ha,by rw [yAB];exact hl,vs,_,rv,ha⟩
    .have z':=(if_neg hba).symm.trans z'
     cases z'
  .by_cases hb:b∈tabs.map (·.2)
   .have z':=(if_pos hb).symm.trans z
    cases z'
    obtain ⟨q,hq,e⟩:=List.mem_map.mp hb
    exact .inr ⟨rfl,q,hq,e⟩
   .have z':=(if_neg hb).symm.trans z
    by_cases hba:b=a
    .have z':=(if_pos hba).symm.trans z'
     cases z'
     exact .inl ⟨hba,hk,_,_,rfl⟩
    .have z':=(if_neg hba).symm.trans z'
     cases z'
noncomputable def ZET (K:W.Frag) (tabs:List (Addr×Addr)):Sp:=fun vs H Q _=>∃ (a:Addr) (ns:List Int),vs=[.ref a] /\ SqL K H a (ns.map V.int) /\ ns.length <= 63 /\ ZE1 tabs H /\ ∀ H',Q (.bl true) H'
theorem tabIn_of {K:W.Frag} {x:Str} {f c Pt:Addr} {oc oc2:Value} {od od2:Option Addr} {fd:FuncData} {sl sl2:Array (Option Value)} {vs:Array Value} (a:W.nsIn K mainGlobals x=some (some (.ref f))) (l:K.lookup f=some ⟨oc,od,.func fd,sl⟩) (hc:fd.code=.ref c)
  (lc:K.lookup c=some ⟨oc2,od2,.fields vs,sl2⟩) (tp:vs[11]?=some (.ref Pt)):PySem.W.tabIn K x=some (c,Pt):=by
 unfold PySem.W.tabIn
 rw [a]
 dsimp only
 rw [l]
 dsimp only
 rw [hc]
 dsimp only
 rw [lc]
 dsimp only
 rw [tp]
theorem walk_ofT2 {l:PySem.W.OpenLaw} {k:Nat} {q:Program} {loose:List Str} {XP:(Str->Option Value)->Heap->Prop} {YP:World->Heap->Prop} {d:DefRec} {K:Params->W.Frag} {x:Str} {names:List Str}
  (hn:l.most=some 63) (hdf:d.params.defaults=[]) (hr:Room k callerA)
  (hY:∀ (w:World) (h:Heap),YP w h->(K w.params).In h) (hrec:∀ y∈names,∃ dr,(recsOf q).find? (fun e=>e.name == y)=some dr)
  (F:∀ (w:World) (mg:Str->Option Value) (fa:Addr) (h:Heap),(K w.params).In h->h.Ns mainGlobals mg->mg d.name=some (.ref fa) ->
   ∃ (tabs:List (Addr×Addr)) (fd:FuncData),PySem.W.noTabs (K w.params)=true /\ (∀ t∈tabs,∃ y∈names,PySem.W.tabIn (K w.params) y=some t) /\ (∀ (s:Shared) (u:Value),BindsTo s fd ⟨[u],[]⟩ [(x,u)]) /\
    ∀ base:Heap,(K w.params).In base->base.Ns mainGlobals mg->(∀ t∈tabs,PySem.W.CodeHd base t.1 t.2)->ZDj mg base->FnOk l.prog w (K w.params) mg base CX0 k fa fd [x] (ZET (K w.params) tabs)) :
  PySem.W.WalkO q loose XP YP l.row.toRowW d [] (fun f vs=>PySem.call f vs):=by
 refine Att.attach_call hn hdf fun w s₀ s₁ mg mb fa o pm cd doc a vs ns G Y ho hd hcd hmg hobj hints hlen hg=>?_
 have KX:=hY w _ Y
 obtain ⟨tabs,fd,nt,ht,hb,hF⟩:=F w mg fa _ KX G.T.g hmg
 refine law_callT (tabs:=tabs) KX G.T.g G.T.b G.T.builtins G.T.nolimit hg hobj hints (yAD hlen (by decide)) hr (fun t h2=>?_) nt G.T.bmain hF hb (fun H hO hS=>⟨a,ns,rfl,hS,hlen,hO,fun _=>rfl⟩) fun H e s' z=>z
 obtain ⟨y,hy,e2⟩:=ht t h2
 obtain ⟨dr,e1⟩:=hrec y hy
 exact PySem.W.tab_of G.T KX e1 e2
theorem hix_of {ix:List Nat} {ps fr:List Str} (h:ix.map (fun i=>ps[i]?)=fr.map some):∀ (j:Nat) (y:Str),fr[j]?=some y->∃ i,ix[j]?=some i /\ ps[i]?=some y:=fun j y e=>by
 have:=congrArg (fun l=>l[j]?) h
 simp only [yAP,e,Option.map_some] at this
 cases q:ix[j]? with
 | none=>rw [q] at this;cases this
 | some i=>rw [q] at this;exact ⟨i,rfl,by simpa using this⟩
noncomputable def inBody (s:Stmt) (j:Nat):Stmt:=(ZAL s).getD j (.Pass ⟨0,0,0,0⟩)
noncomputable def ZDH (s:Stmt):Pos:=match s with
 | .FunctionDef _ _ _ _ _ _ _ _ _ pos=>pos
 | _=>⟨0,0,0,0⟩
theorem cx_cloK {P:Program} {w:World} {K:W.Frag} {mg:Str->Option Value} {base:Heap} {N:List Str} {qual:Str} {scope:Scope} {f:Addr} {cd:Value} {cl:List (Str×Addr)} {A:Around} {outer:List Env} {s:Shared} {H:Hp}:(ZEK P w K mg base N qual scope f cd cl A outer s H).K=K:=rfl
section
variable {prog:Program} {w:World} {A:Around} {R:Result->Shared->Prop} {I:Addr} {fp wr:List Addr} {n:Nat} {P:Nat->Value->Prop} {St:Nat->Heap->Prop}
end
section
variable {prog:Program} {w:World} {A:Around} {E:Value->Shared->Prop} {s:Shared} {l:Addr}
end
noncomputable def maxD (d:Int):List Int->Int
 | []=>d
 | x::r=>r.foldl (fun m y=>if m < y then y else m) x
section
variable {X:Cx} {e d:Expr} {te td:TE} {p pos:Pos} {kpos:Pos}
noncomputable def tMaxD (K:W.Frag) (te td:TE):TE:=fun σ H Q=>te σ H fun x H1=>td σ H1 fun y H2=>∃ a ns dd,x=.ref a /\ y=.int dd /\ SqL K H2 a (ns.map V.int) /\ Q (.int (maxD dd ns)) H2
end
theorem lkc {k k':Str} {v:V} {r:List (Str×V)}:List.lookup k ((k',v)::r)=if k=k' then some v else List.lookup k r:=by
 rw [yBL]
 by_cases h:k=k'
 .subst h;simp
 .have:(k == k')=false:=by simpa using h
  rw [this,if_neg h]
theorem ZBL {f:Str} {v u:V}:∀ {fs:List (Str×V)},fs.lookup f=some u->(putF f v fs).length=fs.length
 | [],h=>by cases h
 | (g,w)::r,h=>by
  unfold putF
  by_cases e:g=f
  .rw [if_pos e];rfl
  .rw [if_neg e,yAJ,yAJ]
   rw [lkc,if_neg (fun z=>e z.symm)] at h
   rw [ZBL h]
structure Ins (H:Hp) (a C:Addr) (fl:List (Str×V)):Prop where
 ex:∃ dx fs,H a=some (.ins C dx fs) /\ fs.length <= 50 /\ ∀ f,fs.lookup f=fl.lookup f
theorem Ins.of {H:Hp} {a C dx:Addr} {fl:List (Str×V)} (h:H a=some (.ins C dx fl)) (hl:fl.length <= 50):Ins H a C fl:=⟨dx,fl,h,hl,fun _=>rfl⟩
theorem Ins.congr {H:Hp} {a C:Addr} {fl fl':List (Str×V)} (h:Ins H a C fl) (e:∀ f,fl.lookup f=fl'.lookup f):Ins H a C fl':=let ⟨dx,fs,h1,h2,h3⟩:=h.ex;⟨dx,fs,h1,h2,fun f=>(h3 f).trans (e f)⟩
theorem Ins.mono {H H':Hp} {a C:Addr} {fl:List (Str×V)} (h:Ins H a C fl) (s:Same H H'):Ins H' a C fl:=let ⟨dx,fs,h1,h2,h3⟩:=h.ex;⟨dx,fs,s _ _ h1,h2,h3⟩
theorem Ins.keep {H H':Hp} {a C:Addr} {fl:List (Str×V)} (h:Ins H a C fl) (s:H' a=H a):Ins H' a C fl:=let ⟨dx,fs,h1,h2,h3⟩:=h.ex;⟨dx,fs,s.trans h1,h2,h3⟩
theorem Ins.ne {H:Hp} {a b C:Addr} {fl:List (Str×V)} {o:HO} (h:Ins H a C fl) (hb:H b=some o) (n:∀ C dx fs,o≠.ins C dx fs):b≠a:=fun z=>by
 obtain ⟨dx,fs,h1,_⟩:=h.ex
 rw [z,h1] at hb
 exact n _ _ _ (Option.some.inj hb).symm
theorem Ins.neN {H:Hp} {a b C:Addr} {fl:List (Str×V)} (h:Ins H a C fl) (hb:H b=none):b≠a:=fun z=>by
 obtain ⟨dx,fs,h1,_⟩:=h.ex
 rw [z,h1] at hb;cases hb
section
variable {K:W.Frag} {f:Str} {a C:Addr} {fl:List (Str×V)} {v:V} {H:Hp}
theorem Ins.get {Q:VK} (h:Ins H a C fl) (cl:Cls K C) (n:NoAttr K C f) (l:fl.lookup f=some v) (q:Q v H):getF K f (.ref a) H Q:=by
 obtain ⟨dx,fs,h1,h2,h3⟩:=h.ex
 exact getF_of h1 cl n ((h3 f).trans l) q
theorem Ins.meth {m:Str} {R:Prop} (h:Ins H a C fl) (l:fl.lookup m=none) (q:R):∃ b dx fs,V.ref a=.ref b /\ H b=some (.ins C dx fs) /\ fs.lookup m=none /\ R:=by
 obtain ⟨dx,fs,h1,h2,h3⟩:=h.ex
 exact ⟨a,dx,fs,rfl,h1,(h3 m).trans l,q⟩
end
noncomputable def augA (K:W.Frag) (tv:TE) (rd:V->V->Hp->VK->Prop) (f:Str) (D:Ends) (σ:St) (x:V) (H1:Hp):Prop:=∃ a C dx fs v,x=.ref a /\ H1 a=some (.ins C dx fs) /\ Cls K C /\ NoAttr K C f /\ fs.lookup f=some v /\
 tv σ H1 fun y H2=>rd v y H2 fun z H3=>∃ dx' fs',H3 a=some (.ins C dx' fs') /\ fs'.length < 1000 /\ D.nx σ (upd H3 a (.ins C dx' (putF f z fs')))
theorem sFldAug_eq {K:W.Frag} {ta tv:TE} {rd:V->V->Hp->VK->Prop} {f:Str} {D:Ends} {σ:St} {H:Hp}:sFldAug K ta tv rd f D σ H=ta σ H (fun x H1=>augA K tv rd f D σ x H1):=rfl
theorem Ins.aug {K:W.Frag} {f:Str} {a C:Addr} {fl:List (Str×V)} {i j:Int} {H:Hp} {D:Ends} {σ:St} (h:Ins H a C fl) (cl:Cls K C) (n:NoAttr K C f) (l:fl.lookup f=some (.int i))
  (q:∀ H',Ins H' a C (putF f (.int (i+j)) fl)->(∀ b,b≠a->H' b=H b)->D.nx σ H'):augA K (tC (.int j)) rAdd f D σ (.ref a) H:=by
 obtain ⟨dx,fs,h1,h2,h3⟩:=h.ex
 refine ⟨a,C,dx,fs,_,rfl,h1,cl,n,(h3 f).trans l,i,j,rfl,rfl,dx,fs,h1,by omega,q _ ⟨dx,_,ZAE,?_,fun g=>?_⟩ fun b hb=>ZAF hb⟩
 .rw [ZBL ((h3 f).trans l)];exact h2
 .rw [ZAZ,ZAZ,h3]
theorem setX {K:W.Frag} {f:Str} {a C dx:Addr} {fs:List (Str×V)} {v:V} {H:Hp} {Q:Hp->Prop} (h:H a=some (.ins C dx fs)) (cl:Cls K C) (n:NoAttr K C f) (hl:fs.length <= 20) (q:∀ H',H' a=some (.ins C dx (putF f v fs))->(∀ b,b≠a->H' b=H b)->Q H'):setF K f (.ref a) v H Q :=
 setF_of h cl n (by omega) (q _ ZAE fun b hb=>ZAF hb)
theorem ZAi {f:Str} {v:V} {fs:List (Str×V)} {n:Nat} (h:fs.length <= n):(putF f v fs).length <= n+1:=yAD (ZB2 f v fs) (Nat.succ_le_succ h)
theorem putL1 {f0:Str} {v0:V}:(putF f0 v0 []).length <= 20:=yAD (ZAi (yAA 0)) (by decide)
theorem putL2 {f0 f1:Str} {v0 v1:V}:(putF f1 v1 (putF f0 v0 [])).length <= 20:=yAD (ZAi (ZAi (yAA 0))) (by decide)
theorem putL3 {f0 f1 f2:Str} {v0 v1 v2:V}:(putF f2 v2 (putF f1 v1 (putF f0 v0 []))).length <= 20:=yAD (ZAi (ZAi (ZAi (yAA 0)))) (by decide)
theorem putL4 {f0 f1 f2 f3:Str} {v0 v1 v2 v3:V}:(putF f3 v3 (putF f2 v2 (putF f1 v1 (putF f0 v0 [])))).length <= 20:=yAD (ZAi (ZAi (ZAi (ZAi (yAA 0))))) (by decide)
theorem putL5 {f0 f1 f2 f3 f4:Str} {v0 v1 v2 v3 v4:V}:(putF f4 v4 (putF f3 v3 (putF f2 v2 (putF f1 v1 (putF f0 v0 []))))).length <= 20:=yAD (ZAi (ZAi (ZAi (ZAi (ZAi (yAA 0)))))) (by decide)
theorem mx_eq (p q:Int):(if q > p then q else p)=max p q:=by split <;> omega
theorem mn_eq (p q:Int):(if q < p then q else p)=min p q:=by split <;> omega
end L2
namespace PySem
open Sem (wp)
theorem ZBD (o : Obj) (f) : (o.mapFields f).dict = o.dict := by
  unfold Obj.mapFields
  split <;> rfl
structure Kpo (o o' : Obj) : Prop where
  fr : o'.isFreed = o.isFreed
  di : o'.dict = o.dict
theorem Kpo.refl (o : Obj) : Kpo o o := ⟨rfl, rfl⟩
theorem Kpo.set (i : Nat) (v : Value) (o : Obj) : Kpo o (o.mapFields (·.setIfInBounds i v)) := by
  unfold Obj.mapFields
  split
  · exact ⟨rfl, rfl⟩
  · exact .refl _
def Kph (h h' : Heap) : Prop := ∀ b o, h.get? b = some o → ∃ u, h'.get? b = some u ∧ Kpo o u
theorem Kph.trans {h h' k : Heap} (x : Kph h h') (y : Kph h' k) : Kph h k := fun b o e => by
  obtain ⟨u, e1, q1⟩ := x b o e
  obtain ⟨w, e2, q2⟩ := y b u e1
  exact ⟨w, e2, q2.fr.trans q1.fr, q2.di.trans q1.di⟩
theorem Kph.upd (h : Heap) (a : Addr) {f : Obj → Obj} (hf : ∀ o, Kpo o (f o)) : Kph h (h.update a f) := fun b o e => by
  by_cases q : a = b
  · subst q
    exact ⟨_, Heap.get?_update_self f e ((hf o).fr.trans (Heap.get?_some_iff.mp e).2), hf o⟩
  · exact ⟨o, (Heap.get?_update_other h f q).trans e, .refl o⟩
inductive Tame {α : Type} : Sem α → Prop
  | pure (a) : Tame (.pure a)
  | no (w) : Tame (.unsupported w)
  | load {a p k} : (∀ o, Tame (k o)) → Tame (.load a p k)
  | upd {a p f k} : (∀ o, Kpo o (f o)) → Tame (k ()) → Tame (.update a p f k)
  | new {o k} : (∀ a, Tame (k a)) → Tame (.alloc o k)
  | stack {k} : (∀ l, Tame (k l)) → Tame (.stack k)
section
variable {α β : Type} {M : Model} {Γ : Ctx} {A : Around} {E : Value → Shared → Prop} {s : Shared}
theorem Tame.wp {t : Sem α} (T : Tame t) {Q : α → Pos → Shared → Prop} {E : Value → Pos → Shared → Prop} {p : Pos} : ∀ {s : Shared}, wp M Γ t Q E p s → wp M Γ t (fun a p z => Q a p z ∧ Kph s.heap z.heap) E p s := by
  have go : ∀ {t : Sem α} {s s1 : Shared}, Kph s.heap s1.heap → (∀ {s : Shared}, Sem.wp M Γ t Q E p s → Sem.wp M Γ t (fun a p z => Q a p z ∧ Kph s.heap z.heap) E p s) → Sem.wp M Γ t Q E p s1 → Sem.wp M Γ t (fun a p z => Q a p z ∧ Kph s.heap z.heap) E p s1 :=
    fun k ih h => Sem.wp_mono M Γ _ (fun _ _ _ z => ⟨z.1, k.trans z.2⟩) (fun _ _ _ z => z) _ _ (ih h)
  induction T with
  | pure => exact fun h => ⟨h, fun b o e => ⟨o, e, .refl o⟩⟩
  | no => exact id
  | load _ ih => exact fun ⟨o, e, h⟩ => ⟨o, e, ih o h⟩
  | upd f _ ih => exact fun ⟨e, h⟩ => ⟨e, go (Kph.upd _ _ f) ih h⟩
  | @new o k _ ih => exact fun {s} h => go (t := k s.heap.objs.size) (s1 := { s with heap := s.heap.push o }) (fun b u e => ⟨u, Heap.get?_push_of_some _ e, .refl u⟩) (ih _) h
  | stack _ ih => exact fun h => ih _ h
theorem Tame.any {t : Sem α} (T : Tame t) {Q : α → Shared → Prop} (h : wpAny M A t Q E s) : wpAny M A t (fun a z => Q a z ∧ Kph s.heap z.heap) E s := fun Γ p hΓ => T.wp (h Γ p hΓ)
theorem Tame.bind {m : Sem α} {f : α → Sem β} (x : Tame m) (y : ∀ a, Tame (f a)) : Tame (m >>= f) := by
  show Tame (m.bind f)
  induction x with
  | pure a => exact y a
  | no w => exact .no w
  | load _ ih => exact .load ih
  | upd h _ ih => exact .upd h ih
  | new _ ih => exact .new ih
  | stack _ ih => exact .stack ih
theorem Tame.ite {c : Prop} [Decidable c] {x y : Sem α} (hx : Tame x) (hy : Tame y) : Tame (if c then x else y) := by split <;> assumption
theorem tame_field (v : Value) (i : Nat) : Tame (field v i) := by
  refine .bind (m := fieldsOf v) ?_ fun a => ?_
  · unfold fieldsOf
    split
    · refine .bind (.load fun o => .pure o) fun o => ?_
      split
      · exact .pure _
      · exact .no _
    · exact .no _
  · split
    · exact .pure _
    · exact .no _
theorem tame_setField (i : Nat) (v x : Value) : Tame (setField v i x) := by
  unfold setField
  split
  · unfold updateField
    refine .bind (.load fun o => .pure o) fun o => ?_
    split
    · exact .ite (.upd (Kpo.set i x) (.pure _)) (.no _)
    · exact .no _
  · exact .no _
theorem tame_ready (l : List Env) : Tame (readyFrames l) := by
  induction l with
  | nil => exact .pure _
  | cons env r ih =>
    unfold readyFrames
    split
    next f hf =>
      refine .bind (.load fun o => .pure o) fun o => .ite (.pure _) (.bind ?_ fun b => .bind ?_ fun c => .bind (.upd (fun o => ⟨by cases o with | mk a b d c => cases d <;> rfl, rfl⟩) (.pure _)) fun _ => ih)
      · unfold behindIsImport
        exact .ite (.pure _) (.ite (.pure _) (.bind (tame_field _ _) fun _ => .pure _))
      · unfold keptBack
        split
        · exact .ite (.pure _) (.bind (.bind (.stack fun l => .pure l) fun _ => .pure _) fun _ => .pure _)
        · exact .pure _
    · exact .no _
theorem tame_note (e : Value) (env : Env) : Tame (noteFrame e env) := by
  unfold noteFrame
  split
  next f hf =>
    have rest : ∀ head b, Tame (do setField e 1 (← EntryCells.newEntry head (← frameOf env) .none (rawInt f) .none (← entryPlaceOf f b))) := fun head b => by
      refine .bind ?_ fun a => .bind ?_ fun pl => .bind ?_ fun n => tame_setField _ _ _
      · unfold frameOf
        refine .bind (.bind (.stack fun l => .pure l) fun _ => .pure _) fun l => .bind ?_ fun o => ?_
        · unfold frameObject
          split
          · exact .pure _
          · exact .bind (tame_ready _) fun _ => .pure _
        · split
          · exact .pure _
          · exact .no _
      · unfold entryPlaceOf
        refine .bind (.stack fun l => .pure l) fun l => ?_
        split <;> exact .pure _
      · unfold EntryCells.newEntry newFields newObj
        exact .ite (.bind (.no _) fun _ => .bind (.new fun a => .pure a) fun a => .pure _) (.bind (.new fun a => .pure a) fun a => .pure _)
    refine .bind (tame_field _ _) fun head => .ite (.bind (tame_field _ _) fun y => .ite (.pure _) (.bind (tame_setField _ _ _) fun _ => rest _ _)) (rest _ _)
  · exact .no _
theorem tame_flight (e : Value) (o : Option Addr) : Tame (setFlight e o) := .bind (tame_field _ _) fun _ => .ite (tame_setField _ _ _) (.pure _)
theorem tame_leaving (env : Env) (e : Value) : Tame (leaving env e) := .bind (tame_note _ _) fun _ => tame_flight _ _
def Heap.Dx (h : Heap) (e : Addr) (d : Option Addr) : Prop := ∃ o, h.get? e = some o ∧ o.dict = d
theorem Heap.Dx.kept {h h' : Heap} {e : Addr} {d : Option Addr} (x : h.Dx e d) (k : Kph h h') : h'.Dx e d := by
  obtain ⟨o, h1, h3⟩ := x
  obtain ⟨u, h5, q⟩ := k e o h1
  exact ⟨u, h5, q.di.trans h3⟩
def Heap.TracedAtD (h base : Heap) (e : Addr) (cls : Value) (a0 : Value × Option Addr) (fl : Value) : Prop := h.TracedAtW base e cls a0.1 fl ∧ h.Dx e a0.2
abbrev Heap.TracedD (h base : Heap) (e : Addr) (cls : Value) (a0 : Value × Option Addr) : Prop := h.TracedAtD base e cls a0 .none
abbrev Heap.FlyD (base : Heap) (l : List Env) (e : Addr) (cls : Value) (a0 : Value × Option Addr) (fl : Value) (h : Heap) : Prop := base.StaysIn h ∧ base.get? e = none ∧ h.FunFrames base l ∧ h.TracedAtD base e cls a0 fl
abbrev Heap.FlyingD (base : Heap) (l : List Env) (e : Addr) (cls : Value) (a0 : Value × Option Addr) (h : Heap) : Prop := Heap.FlyD base l e cls a0 .none h
abbrev Heap.HeldD (base : Heap) (l : List Env) (e : Addr) (cls : Value) (a0 : Value × Option Addr) (L : Addr) (h : Heap) : Prop := Heap.FlyD base l e cls a0 (rawInt L) h
theorem Heap.FlyingD.thereD {base h : Heap} {l : List Env} {e : Addr} {cls : Value} {a0 : Value × Option Addr} (x : Heap.FlyingD base l e cls a0 h) : ∃ ob, h.get? e = some ob ∧ ob.cls = cls ∧ ob.dict = a0.2 ∧ ∃ vs, ob.data = .fields vs := by
  obtain ⟨_, _, _, ⟨oe, vs, _, _, _, he, hc, hd, _⟩, o, h1, h2⟩ := x
  rw [he] at h1
  cases h1
  exact ⟨oe, he, hc.1, h2, vs, hd⟩
theorem Heap.FlyingD.there {base h : Heap} {l : List Env} {e : Addr} {cls : Value} {a0 : Value × Option Addr} (x : Heap.FlyingD base l e cls a0 h) : ∃ ob, h.get? e = some ob ∧ ob.cls = cls :=
  let ⟨ob, h1, h2, _⟩ := Heap.FlyingD.thereD x
  ⟨ob, h1, h2⟩
variable {base : Heap} {env : Env} {l outer : List Env} {L e : Addr} {cls : Value} {a0 : Value × Option Addr} {Q : Unit → Shared → Prop}
theorem Tame.go {t : Sem Unit} (T : Tame t) {P : Heap → Prop} (w : wpAny M A t (fun _ z => ∃ h', z = { s with heap := h' } ∧ P h') E s) (hQ : ∀ h', P h' → Kph s.heap h' → Q () { s with heap := h' }) : wpAny M A t Q E s :=
  wpAny_mono (T.any w) (fun _ _ z => by
    obtain ⟨⟨h', rfl, p⟩, k⟩ := z
    exact hQ h' p k) fun _ _ z => z
theorem wpAny_leaves_onD (hfr : A.frames = some (env :: outer)) (hf : env.frame = some L) (x : Heap.FlyingD base (env :: outer) e cls a0 s.heap) (hQ : ∀ h', Heap.FlyingD base outer e cls a0 h' → s.heap.UpToSlots h' → Q () { s with heap := h' }) : wpAny M A (leaving env (.ref e)) Q E s := by
  obtain ⟨f1, f2, f3, f4, d⟩ := x
  refine (tame_leaving _ _).go (P := fun h' => Heap.FlyingW base outer e cls a0.1 h' ∧ s.heap.UpToSlots h') (wpAny_leaves_onW hfr hf ⟨f1, f2, f3, f4⟩ fun h' y u => ⟨h', rfl, y, u⟩) fun h' ⟨⟨y1, y2, y3, y4⟩, u⟩ k => hQ h' ⟨y1, y2, y3, y4, d.kept k⟩ u
theorem wpAny_looks_onD (hfr : A.frames = some (env :: outer)) (hf : env.frame = some L) (x : Heap.FlyingD base (env :: outer) e cls a0 s.heap) (hQ : ∀ h', Heap.HeldD base (env :: outer) e cls a0 L h' → s.heap.UpToSlots h' → Q () { s with heap := h' }) : wpAny M A (noteFrame (.ref e) env) Q E s := by
  obtain ⟨f1, f2, f3, f4, d⟩ := x
  refine (tame_note _ _).go (P := fun h' => Heap.HeldW base (env :: outer) e cls a0.1 L h' ∧ s.heap.UpToSlots h') (wpAny_looks_onW hfr hf ⟨f1, f2, f3, f4⟩ fun h' y u => ⟨h', rfl, y, u⟩) fun h' ⟨⟨y1, y2, y3, y4⟩, u⟩ k => hQ h' ⟨y1, y2, y3, y4, d.kept k⟩ u
theorem wpAny_noteFrame_againD (hf : env.frame = some L) (x : s.heap.TracedAtD base e cls a0 (rawInt L)) (h : Q () s) : wpAny M A (noteFrame (.ref e) env) Q E s := wpAny_noteFrame_againW hf x.1 h
theorem flightD_ {fl : Value} (o : Option Addr) (f1 : base.StaysIn s.heap) (f3 : s.heap.FunFrames base l) (f4 : s.heap.TracedAtD base e cls a0 fl)
    (hQ : ∀ h', base.StaysIn h' → h'.FunFrames base l → h'.TracedAtD base e cls a0 (o.elim .none fun f => rawInt f) → (∀ b o, s.heap.get? b = some o → (∀ vs, o.data ≠ .fields vs) → h'.get? b = some o) → Q () { s with heap := h' }) : wpAny M A (setFlight (.ref e) o) Q E s := by
  obtain ⟨⟨oe, vs, T, oT, ts, he, hc, hd, h1, hnT, hTe, hT, hdT, h3⟩, d⟩ := f4
  refine (tame_flight _ _).go (P := fun h' => h' = s.heap.update T (Obj.mapFields (·.setIfInBounds 3 (o.elim .none fun f => rawInt f)))) ?_ fun h' z k => ?_
  · refine wpAny_bind (wpAny_field he hd h1 ?_)
    show wpAny M A (setField (.ref T) 3 _) _ E s
    exact wpAny_setField hT hdT (Array.getElem?_eq_some_iff.mp h3).1 ⟨_, rfl, rfl⟩
  · subst z
    have ot : ∀ b u, s.heap.get? b = some u → b ≠ T → (s.heap.update T (Obj.mapFields (·.setIfInBounds 3 (o.elim .none fun f => rawInt f)))).get? b = some u := fun b u h n => (Heap.get?_update_other _ _ (Ne.symm n)).trans h
    have nt : ∀ b u, s.heap.get? b = some u → (∀ vs, u.data ≠ .fields vs) → b ≠ T := fun b u h n z => by
      subst z
      rw [hT] at h
      cases h
      exact n ts hdT
    exact hQ _ (fun b u h => ot b u (f1 b u h) (fun z => by subst z; rw [hnT] at h; cases h)) (f3.of_keeps fun b u h n => ⟨u, ot b u h (nt b u h n), rfl⟩)
      ⟨⟨oe, vs, T, _, _, ot e oe he (Ne.symm hTe), hc, hd, h1, hnT, hTe, Heap.get?_update_self _ hT (Obj.isFreed_of_fields (Obj.data_mapFields hdT _)), Obj.data_mapFields hdT _, by
        have := (Array.getElem?_eq_some_iff.mp h3).1
        simp [this]⟩, d.kept k⟩ fun b u h n => ot b u h (nt b u h n)
theorem wpAny_landsD (hh : Heap.HeldD base l e cls a0 L s.heap) (hQ : ∀ h', Heap.FlyingD base l e cls a0 h' → s.heap.UpToSlots h' → Q () { s with heap := h' }) : wpAny M A (setFlight (.ref e) none) Q E s :=
  flightD_ none hh.1 hh.2.2.1 hh.2.2.2 fun h' k1 k2 k3 k4 => hQ h' ⟨k1, hh.2.1, k2, k3⟩ fun b o y n => ⟨o.slots, k4 b o y n⟩
theorem LANDS2_ (hh : Heap.FlyingD base l e cls a0 s.heap) (hQ : ∀ h', Heap.FlyingD base l e cls a0 h' → s.heap.UpToSlots h' → Q () { s with heap := h' }) : wpAny M A (setFlight (.ref e) none) Q E s :=
  flightD_ none hh.1 hh.2.2.1 hh.2.2.2 fun h' k1 k2 k3 k4 => hQ h' ⟨k1, hh.2.1, k2, k3⟩ fun b o y n => ⟨o.slots, k4 b o y n⟩
theorem wpAny_setFlight_someD {fl : Value} (hkb : base.StaysIn s.heap) (hl : s.heap.FunFrames base l) (ht : s.heap.TracedAtD base e cls a0 fl)
    (h : ∀ h', base.StaysIn h' → h'.FunFrames base l → h'.TracedAtD base e cls a0 (rawInt L) → (∀ b o, s.heap.get? b = some o → (∀ vs, o.data ≠ .fields vs) → h'.get? b = some o) → Q () { s with heap := h' }) : wpAny M A (setFlight (.ref e) (some L)) Q E s := flightD_ (some L) hkb hl ht h
theorem wpAny_leaving_firstD {oe : Obj} {vs : Array Value} (hfr : A.frames = some (env :: outer)) (hl : s.heap.FunFrames base (env :: outer)) (hf : env.frame = some L) (he : s.heap.get? e = some oe) (hkb : base.StaysIn s.heap) (hen : base.get? e = none) (hd : oe.data = .fields vs) (h1 : vs[1]? = some .none)
    (h0 : vs[0]? = some a0.1 ∧ oe.dict = a0.2) (hQ : ∀ h', (base.StaysIn h' ∧ h'.FunFrames base (env :: outer) ∧ h'.TracedD base e oe.cls a0 ∧ s.heap.UpToSlots h') → Q () { s with heap := h' }) : wpAny M A (leaving env (.ref e)) Q E s :=
  (tame_leaving _ _).go (P := fun h' => Heap.LeftW base (env :: outer) e oe.cls a0.1 s.heap h') (wpAny_leaving_firstW hfr hl hf he hkb hen hd h1 h0.1 fun h' y => ⟨h', rfl, y⟩) fun h' ⟨y1, y2, y3, y4⟩ k => hQ h' ⟨y1, y2, ⟨y3, Heap.Dx.kept ⟨oe, he, h0.2⟩ k⟩, y4⟩
end
end PySem
namespace L2
open PySem PySem.Spec PyProof.Rows
noncomputable def Fly (l:List Env) (H:Hp) (h0:Heap) (e:Addr) (cls:Value) (dd:Option Addr) (h:Heap):Prop :=
 ∃ B a0,Heap.FlyingD B l e cls (a0,dd) h /\ H e=none /\ h0.get? e=none /\ ∀ b o,h.get? b=some o->b∉frs l->(H b≠none∨∃ o0,h0.get? b=some o0)->B.get? b=some o
noncomputable def CXE (P:Program) (w:World):CXT:=fun outer H s E e s'=>
 ∃ ea cls dd H',e=.ref ea /\ s'.os=s.os /\ AllBare s'.gens /\ Un (frs outer) [] H H' s.heap s'.heap /\ HOk P w H' s'.heap /\ Fly outer H' s.heap ea cls dd s'.heap /\ E cls dd H'
section
variable {P:Program} {w:World} {l:List Env} {H H':Hp} {h h1 h2 B base:Heap}
theorem Un.fly (u:Un (frs l) [] H H' h h1) (hB:∀ b o,h1.get? b=some o->b∉frs l->(H' b≠none∨∃ o0,h.get? b=some o0)->B.get? b=some o) (st:B.StaysIn h2) (up:h1.UpToSlots h2) (hf:h1.FunFrames base l):Un (frs l) [] H H' h h2 where
 keep b o e n hb hx:=st b o (hB b o (u.keep b o e n hb hx) hb (.inr ⟨o,e⟩))
 slot b o e n hb hx:=by
  obtain ⟨sl,e1⟩:=u.slot b o e n hb hx
  obtain ⟨_,o',ho',hd⟩:=hf.mem hb
  rw [e1] at ho'
  cases ho'
  obtain ⟨sl2,e2⟩:=up b _ e1 hd
  exact ⟨sl2,e2⟩
 free:=u.free
 there b o e hx:=by
  obtain ⟨o',e1⟩:=u.there b o e hx
  by_cases hb:b∈frs l
  .obtain ⟨_,o2,ho2,hd⟩:=hf.mem hb
   rw [e1] at ho2
   cases ho2
   obtain ⟨sl,e2⟩:=up b _ e1 hd
   exact ⟨_,e2⟩
  .exact ⟨o',st b o' (hB b o' e1 hb (.inr ⟨o,e⟩))⟩
 tups:=u.tups
 frzs:=u.frzs
 tbls:=u.tbls
theorem HOk.fly (x:HOk P w H' h1) (hB:∀ b o,h1.get? b=some o->b∉frs l->(H' b≠none∨∃ o0,h.get? b=some o0)->B.get? b=some o) (st:B.StaysIn h2) (hn:∀ b∈frs l,H' b=none):HOk P w H' h2:=fun a o e=>by
 have k:∀ b o,H' b=some o->b∉frs l:=fun b o z m=>by rw [hn b m] at z;cases z
 refine (x a o e).stay (fun b v hc q=>?_) (fun _ q=>q) fun _ _ q=>q
 rcases hc with z | z
 .exact st b v (hB b v q (by rw [z];exact k _ _ e) (.inl (by rw [z,e];exact fun y=>nomatch y)))
 .exact st b v (hB b v q (k _ _ z) (.inl (by rw [z];exact fun y=>nomatch y)))
theorem Inv.stkFree2 {X:Cx} {pins:List (Addr×Obj)} {σ:St} {s:Shared} (I:Inv X pins σ H s) (u:Un (frs X.stack) [] H H' s.heap h1):∀ b∈frs X.stack,H' b=none:=fun b hb=>by
 obtain ⟨_,o,ho,_⟩:=I.stack.mem hb
 exact u.free b o ho (I.stkFree b hb) List.not_mem_nil
end
section
variable {P:Program} {w:World} {K:W.Frag} {mg:Str->Option Value} {base:Heap} {N:List Str} {qual:Str} {scope:Scope} {f:Addr} {cd:Value} {A:Around} {outer:List Env} {s:Shared} {H:Hp} {E:XK}
theorem ZEF {pins:List (Addr×Obj)} {σ:St} {H1 H':Hp} {s1 s2:Shared} {hm h' B B':Heap} {ea:Addr} {cls a0:Value} {dd:Option Addr} (I:Inv (cxOf (CXE P w) P w K mg base N qual scope f cd A outer s H E) pins σ H1 s1)
  (un:Un (frs (cxOf (CXE P w) P w K mg base N qual scope f cd A outer s H E).stack) [] H1 H' s1.heap hm) (hok:HOk P w H' hm)
  (hB:∀ b o,hm.get? b=some o->b∉frs (cxOf (CXE P w) P w K mg base N qual scope f cd A outer s H E).stack->(H' b≠none∨∃ o0,s1.heap.get? b=some o0)->B.get? b=some o)
  (ff:hm.FunFrames B' (cxOf (CXE P w) P w K mg base N qual scope f cd A outer s H E).stack) (up:hm.UpToSlots h') (fl:Heap.FlyingD B outer ea cls (a0,dd) h') (hout:H' ea=none) (hnew:s1.heap.get? ea=none) (os:s2.os=s1.os) (bare:AllBare s2.gens) (hE:E cls dd H') :
  CXE P w outer H s E (.ref ea) { s2 with heap:=h' }:=by
 have fr:=I.stkFree2 un
 have un2:=un.fly hB fl.1 up ff
 have hok2:=hok.fly hB fl.1 fr
 have I2:=I.call' (s':={ s2 with heap:=h' }) os un2 hok2 bare fun b z=>nomatch z
 have old:∀ b o,s.heap.get? b=some o->∃ o1,s1.heap.get? b=some o1:=fun b o q=>I.base.there b o q (fun z=>nomatch z)
 refine ⟨ea,cls,dd,H',rfl,I2.os,bare,I2.base,hok2,⟨B,a0,fl,hout,?_,fun b o ho hb hor=>?_⟩,hE⟩
 .cases q:s.heap.get? ea with
  | none=>rfl
  | some o=>
   obtain ⟨o1,h1⟩:=old ea o q
   rw [hnew] at h1;cases h1
 .have hb2:b∉frs (cxOf (CXE P w) P w K mg base N qual scope f cd A outer s H E).stack:=fun m=>by
   rcases yAG.mp (I2.stkSub b m) with z | z
   .rcases hor with y | ⟨o0,y⟩
    .exact y (by rw [z];exact I2.free)
    .exact absurd (yAI (Heap.lt_size y) I.ok.above) (by rw [z];exact yBB _)
   .exact hb z
  have:∃ o1,hm.get? b=some o1 /\ (H' b≠none∨∃ o0,s1.heap.get? b=some o0):=by
   rcases hor with y | ⟨o0,y⟩
   .obtain ⟨u,hu⟩:=Option.ne_none_iff_exists'.mp y
    have:=(hok b u hu).lt
    cases z:hm.get? b with
    | some o1=>exact ⟨o1,rfl,.inl y⟩
    | none=>
     exfalso
     have st2:=hok b u hu
     cases u with
     | lst xs=>obtain ⟨_,_,_,_,e⟩:=st2;rw [z] at e;cases e
     | tup xs=>obtain ⟨_,_,_,ob,e,_⟩:=st2;rw [z] at e;cases e
     | dK kvs=>obtain ⟨_,_,_,_,ob,es,ep,e,_⟩:=st2;rw [z] at e;cases e
     | dT kvs=>obtain ⟨_,_,_,_,ob,es,ep,e,_⟩:=st2;rw [z] at e;cases e
     | set S n=>obtain ⟨ob,es,ep,t,e,_⟩:=st2;rw [z] at e;cases e
     | ins C dx fs=>obtain ⟨_,_,_,e,_⟩:=st2;rw [z] at e;cases e
     | own y=>obtain ⟨_,e⟩:=st2;rw [z] at e;cases e
     | xd fs=>obtain ⟨_,⟨_,_,_,e,_⟩,_⟩:=st2;rw [z] at e;cases e
     | rng lo hi=>obtain ⟨_,_,_,e⟩:=st2;rw [z] at e;cases e
     | frz ob u=>obtain ⟨e,_⟩:=st2;rw [z] at e;cases e
     | tbl ps=>have e:hm.get? b=some _:=st2;rw [z] at e;cases e
     | met f y=>have e:hm.get? b=some _:=st2;rw [z] at e;cases e
     | ext φ=>obtain ⟨_,⟨_,e⟩,_⟩:=st2;rw [z] at e;cases e
   .obtain ⟨o1,h1⟩:=old b o0 y
    obtain ⟨o2,h2⟩:=un.there b o1 h1 (fun z=>nomatch z)
    exact ⟨o2,h2,.inr ⟨o1,h1⟩⟩
  obtain ⟨o1,q1,q2⟩:=this
  have q3:=hB b o1 q1 hb2 q2
  have q4:=fl.1 b o1 q3
  rw [ho] at q4
  cases q4
  exact q3
theorem ZEa:ZA3 (CXE P w) (cxOf (CXE P w) P w K mg base N qual scope f cd A outer s H E) E:=by
 intro pins σ H1 s1 e s2 I hc
 obtain ⟨ea,cls,dd,H',rfl,os,bare,un,hok,⟨B,a0,fl,hout,hnew,hB⟩,hE⟩:=hc
 refine wpAny_leaves_onD (base:=B) I.ok.frames rfl fl fun h' fl' up=>?_
 exact ZEF I un hok hB fl.2.2.1 up fl' hout hnew os bare hE
theorem raisedD {pins:List (Addr×Obj)} {σ:St} {H1 H2:Hp} {s1 s2:Shared} {ea:Addr} {oe:Obj} {vs:Array Value} {cls a0:Value} {dd:Option Addr} (I:Inv (cxOf (CXE P w) P w K mg base N qual scope f cd A outer s H E) pins σ H1 s1)
  (un:Un (frs (cxOf (CXE P w) P w K mg base N qual scope f cd A outer s H E).stack) [] H1 H2 s1.heap s2.heap) (hok:HOk P w H2 s2.heap) (os:s2.os=s1.os) (bare:AllBare s2.gens) (hnew:s1.heap.get? ea=none) (hout:H2 ea=none)
  (he:s2.heap.get? ea=some oe) (hc:oe.cls=cls) (hd:oe.dict=dd) (hv:oe.data=.fields vs) (h1:vs[1]?=some .none) (h0:vs[0]?=some a0) (hE:E cls dd H2) :
  (cxOf (CXE P w) P w K mg base N qual scope f cd A outer s H E).xe (.ref ea) s2:=by
 have I2:=I.call' (s':=s2) os un hok bare fun b z=>nomatch z
 have hin:∀ env∈(cxOf (CXE P w) P w K mg base N qual scope f cd A outer s H E).stack,∀ b,env.frame=some b->b∈ea::frs (cxOf (CXE P w) P w K mg base N qual scope f cd A outer s H E).stack:=fun env he b hb=>yAO _ (List.mem_filterMap.mpr ⟨env,he,hb⟩)
 subst hc
 have eh:∀ b∈ea::frs (cxOf (CXE P w) P w K mg base N qual scope f cd A outer s H E).stack,(PySem.W.hideAll s2.heap (ea::frs (cxOf (CXE P w) P w K mg base N qual scope f cd A outer s H E).stack)).get? b=none:=fun b hb=>by
  exact PySem.W.hideAll_none _ hb
 refine wpAny_leaving_firstD (a0:=(a0,dd)) (base:=PySem.W.hideAll s2.heap (ea::frs (cxOf (CXE P w) P w K mg base N qual scope f cd A outer s H E).stack)) I.ok.frames (PySem.W.funFrames_hide I2.stack hin) rfl he (fun b o q=>PySem.W.of_hideAll _ q) (eh ea yAN) hv h1 ⟨h0,hd⟩ fun h' hL=>?_
 obtain ⟨k1,⟨_,_,k2⟩,k3,k4⟩:=hL
 refine ZEF (s2:=s2) (B:=PySem.W.hideAll s2.heap (ea::frs (cxOf (CXE P w) P w K mg base N qual scope f cd A outer s H E).stack)) I un hok (fun b o q nb hor=>PySem.W.hideAll_get _ q fun z=>?_) I2.stack k4 ⟨k1,eh ea yAN,k2,k3⟩ hout hnew os bare hE
 rcases yAG.mp z with z | z
 .subst z
  rcases hor with y | ⟨o0,y⟩
  .exact y hout
  .rw [hnew] at y;cases y
 .exact nb z
end
open PySem PySem.Spec PySem.W PySem.Calls PyProof.Rows Builtin.Getset_descriptor Builtin.ObjectAttr
structure ExcC (K:W.Frag) (C:Addr):Prop where
 ga:W.findIn K (.ref C) "__getattribute__"=some (some (.builtin "BaseException.__getattribute__"))
 gt:W.findIn K (.ref C) "__getattr__"=some none
 ca:W.findIn K (.ref C) "__class__"=some (some (.builtin "object.__class__"))
 sg:PySem.W.specialIn K (.builtin "object.__class__") "__get__"=some (some (.builtin "getset_descriptor.__get__"))
 tk:PySem.W.takesIn K (.builtin "object.__class__")=some true
 mo:PySem.W.mroIn K C (.type "object")=some true
 mb:PySem.W.mroIn K C (.type "BaseException")=some true
section
variable {prog:Program} {w:World} {A:Around} {E:Value->Shared->Prop} {K:W.Frag} {a C:Addr} {o:Obj} {h:Heap} {g:Array GenState} {d:Drawn} {t:Nat} {os:OsState}
theorem exc_ty {M:Model} (hx:h.get? a=some o) (hc:o.cls=.ref C):Looks M h (typeOf (.ref a)) (.ref C):=hc ▸ (Looks.ld hx).andThen .now
theorem exc_ga_check {M:Model} {nameV:Value} {Q:Unit->Shared->Prop} (X:K.In h) (F:ExcC K C) (hx:h.get? a=some o) (hc:o.cls=.ref C) (hq:Q () ⟨h,g,d,t,os⟩) :
  wpAny M A (checkBuiltinCall "BaseException.__getattribute__" ⟨[.ref a,nameV],[]⟩) Q E ⟨h,g,d,t,os⟩:=by
 have y0:=exc_ty (M:=M) hx hc
 have y1:=looks_mroIn (M:=M) X F.mb
 have k1:builtinKind "BaseException.__getattribute__"=some .slot:=by decide +kernel
 have k2:splitId "BaseException.__getattribute__"=some ("BaseException","__getattribute__"):=by decide +kernel
 have k3:=PySem.F.args_bexc_ga (.ref a) nameV
 simp only [checkBuiltinCall,k1,k2]
 refine wpAny_bind ?_
 unfold isInstance
 repeat lk
 exact hq
end
noncomputable def excO (a:Addr) (cls:Value) (dd:Option Addr):HO:=.ext fun h=>∃ o,h.get? a=some o /\ o.cls=cls /\ o.dict=dd /\ ∃ vs,o.data=.fields vs
section
variable {X:Cx}
end
open PySem PySem.Spec PySem.W PySem.Calls PyProof.Rows
section
variable {X:Cx}
end
abbrev bmV:List Value:=[.type "ValueError",.type "Exception",.type "BaseException",.type "object"]
noncomputable def tRaise (E:XK) (C:Addr):TS:=fun _ _ H=>E (.ref C) none H
section
variable {P:Program} {w:World} {K:W.Frag} {mg:Str->Option Value} {base:Heap} {N:List Str} {qual:Str} {scope:Scope} {f:Addr} {cd:Value} {A:Around} {outer:List Env} {s:Shared} {H:Hp} {E:XK}
theorem Fun.okX {x:Str} {st:Stmt} {fd:FuncData} {ps:List Str} {k:Nat} {sp:Sp} (F:Fun K x qual st f fd) (S:FnScope N ps (ZAB st)) (len:∀ vs H Q E,sp vs H Q E->vs.length=ps.length)
  (hbody:∀ (cdv:Value) (A:Around) (outer:List Env) (s:Shared) (H:Hp) (vs:List V) (Q:VK) (E:XK),Room k (A.deeper (envOfC qual (ZAB st) s.heap.objs.size f cdv))->sp vs H Q E ->
   ∃ t,PSs (cxOf (CXE P w) P w K mg base N qual (ZAB st) f cdv A outer s H E) (ZAL st) t /\ t { nx:=fun _ H'=>Q .non H',rt:=Q } (start N vs) H):FnOk P w K mg base (CXE P w) (k+1) f fd ps sp:=by
 obtain ⟨oc,od,kV,doc,pm,an,cdv,ct,osl,rfl,lk,hcd⟩:=F.ex
 exact ZEl lk hcd S len fun A outer s H vs Q E hr hsp=>hbody cdv A outer s H vs Q E hr hsp
end
theorem PS.nox {X:Cx} {st:Stmt} {t:TS} (h:PS X.nox st t):PS X st t:=fun pins s σ H D I hw=>
 wpAny_mono (h pins s σ H D (I.wish _) hw) (fun _ _ q=>q.unwish) fun _ _ z=>False.elim z
noncomputable def PassesS (CX:CXT) (X:Cx) (E:St->XK):Prop:=∀ (pins:List (Addr×Obj)) (σ:St) (H:Hp) (s:Shared) (e:Value) (s':Shared),Inv X pins σ H s->CX X.stack H s (E σ) e s'->X.xe e s'
noncomputable def ZEP (sp:Sp) (dvs:List V) (E:St->XK) (t:TA):TE:=fun σ H Q=>t σ H fun vs H1=>sp (vs++dvs) H1 Q (E σ)
section
variable {X:Cx} {CX:CXT} {k:Nat} {f:Addr} {fd:FuncData} {ps:List Str} {sp:Sp} {dvs:List V} {ds:List Value} {E:St->XK} {x:Str} {p pos:Pos} {e:Expr} {es:List Expr} {t:TA}
theorem run_fnS {pins:List (Addr×Obj)} {σ:St} {H:Hp} {s:Shared} {Q:VK} {E:XK} {us:List Value} {vs:List V} (F:FnOk X.prog X.w X.K X.mg X.base CX k f fd ps sp) (hr:Room k X.A) (hb:Binds X.K fd ps ds) (hd:Vals dvs ds) (hx:∀ e s',CX X.stack H s E e s'->X.xe e s')
  (I:Inv X pins σ H s) (r:Vals vs us) (h:sp (vs++dvs) H Q E):wpAny (model X.prog X.w) X.A (call (.ref f) us) (EP X pins σ Q) X.xe s:=by
 have r2:Vals (vs++dvs) (us++ds):=r.append hd
 have hl:(us++ds).length=ps.length:=by rw [<- r2.length];exact F.len _ _ _ _ h
 refine wpAny_call (codeAny_mono (F.run X.A X.stack s H ⟨us,[]⟩ (us++ds) (vs++dvs) Q E hr I.env0 (hb s us I.kIn hl) r2 h) fun r s' hq=>?_)
 cases r with
 | error e=>exact hx e s' hq
 | ok fl=>
  cases fl with
  | ret u=>exact I.after hq
  | next=>exact False.elim hq
  | brk=>exact False.elim hq
  | cont=>exact False.elim hq
theorem pe_fnS (F:Fn X.prog X.w X.K X.mg X.base CX x k ps sp) (hr:Room k X.A) (hg:Gl X x) (hx:PassesS CX X E)
  (ha:PA X (e::es) t) (hdb:(x == ("__debug__":Str))=false:=by decide) (he:starEach (e::es) X.env=(false,eval e X.env)::starEach es X.env:=by rfl) (hpl:(backTo pos (starEach es X.env)).any (·.1)=false:=by rfl) :
  PE X (.Call (.Name x p) (e::es) [] pos) (ZEP sp [] E t):=by
 obtain ⟨f,fd,h1,h2,h3,h4⟩:=F.ex
 intro pins s σ H Q I h
 refine wpAny_Call_Name_kw (ZCO I hg h4 ?_ hdb)
 refine PySem.W.callWith_K (h₀:=X.base) I.ok.mod.kin h3 (thn (ha pos pins s σ H _ I h) fun us s1 ⟨vs,H1,I1,r,q⟩=>⟨I1.kIn,?_⟩) he hpl
 exact run_fnS h1 hr h2 .nil (fun e s' z=>hx pins σ H1 s1 e s' I1 z) I1 r q
end
noncomputable abbrev Cx.tries (X:Cx) (pn:List (Addr×Obj)) (xe:Value->Shared->Prop):Cx:={ X with pn:=pn,xe:=xe }
noncomputable abbrev Cx.handles (X:Cx) (e:Addr):Cx:={ X with A:=X.A.mark (some (.ref e)),calm:=false,xe:=fun _ _=>False }
section
variable {X:Cx} {pins pins':List (Addr×Obj)} {σ:St} {H:Hp} {s:Shared} {xe:Value->Shared->Prop} {e:Addr}
theorem Inv.toTry (I:Inv X pins σ H s):Inv (X.tries (X.pn++pins) xe) [] σ H s :=
 ⟨⟨I.ok.mod,I.ok.kind,I.ok.glob,I.ok.blt,I.ok.above,I.ok.inj,I.ok.has,I.ok.cab,I.ok.hd,I.ok.frames,I.ok.stk,I.ok.exf,I.ok.bs,I.ok.bsz,I.ok.noex,I.ok.exfs,I.ok.funs,I.ok.frf⟩,I.os,I.bare,I.base,I.loc,I.cell,I.free,I.freeC,fun p hp=>I.pin p (by simpa using hp),I.hok,I.len⟩
theorem Inv.ofTry (I:Inv (X.tries (X.pn++pins) xe) pins' σ H s):Inv X pins σ H s :=
 ⟨⟨I.ok.mod,I.ok.kind,I.ok.glob,I.ok.blt,I.ok.above,I.ok.inj,I.ok.has,I.ok.cab,I.ok.hd,I.ok.frames,I.ok.stk,I.ok.exf,I.ok.bs,I.ok.bsz,I.ok.noex,I.ok.exfs,I.ok.funs,I.ok.frf⟩,I.os,I.bare,I.base,I.loc,I.cell,I.free,I.freeC,fun p hp=>I.pin p (List.mem_append_left _ hp),I.hok,I.len⟩
theorem Inv.toH (I:Inv X pins σ H s) (e:Addr):Inv (X.handles e) pins σ H s :=
 ⟨⟨I.ok.mod,I.ok.kind,I.ok.glob,I.ok.blt,I.ok.above,I.ok.inj,I.ok.has,I.ok.cab,(fun z=>nomatch z),I.ok.frames,I.ok.stk,I.ok.exf,I.ok.bs,I.ok.bsz,I.ok.noex,I.ok.exfs,I.ok.funs,I.ok.frf⟩,I.os,I.bare,I.base,I.loc,I.cell,I.free,I.freeC,I.pin,I.hok,I.len⟩
theorem Inv.ofH (I:Inv (X.handles e) pins σ H s) (ok:X.Ok):Inv X pins σ H s:=⟨ok,I.os,I.bare,I.base,I.loc,I.cell,I.free,I.freeC,I.pin,I.hok,I.len⟩
theorem SP.ofTry {D:Ends} {f:Flow} (h:SP (X.tries (X.pn++pins) xe) pins' D f s):SP X pins D f s:=by
 cases f with
 | next=>obtain ⟨σ',H',I,q⟩:=h;exact ⟨σ',H',I.ofTry,q⟩
 | brk=>obtain ⟨σ',H',I,q⟩:=h;exact ⟨σ',H',I.ofTry,q⟩
 | cont=>obtain ⟨σ',H',I,q⟩:=h;exact ⟨σ',H',I.ofTry,q⟩
 | ret u=>obtain ⟨v,σ',H',I,r,q⟩:=h;exact ⟨v,σ',H',I.ofTry,r,q⟩
theorem Inv.track {o:HO} (I:Inv X pins σ H s) (h0:X.s₀.heap.get? e=none) (hL:e≠X.env.locals) (hC:∀ x c,X.env.cells.lookup x=some c->c≠e) (hp:∀ p∈X.pn++pins,p.1≠e) (hn:H e=none) (new:ObjOk X.prog X.w (upd H e o) s.heap e o):Inv X pins σ (upd H e o) s:=by
 have k:∀ b u,H b=some u->upd H e o b=some u:=fun b u q=>by rw [ZAF (ZAG q hn)];exact q
 refine ⟨I.ok,I.os,I.bare,⟨I.base.keep,I.base.slot,fun b ob q n hx=>?_,I.base.there,fun b xs q=>k _ _ (I.base.tups b xs q),fun b ob u q=>k _ _ (I.base.frzs b ob u q),fun b ps q=>?_⟩,I.loc,I.cell,?_,fun x c q=>?_,fun p hp'=>?_,fun b u q=>?_,I.len⟩
 .rw [ZAF (fun z=>by rw [z,h0] at q;cases q)]
  exact I.base.free b ob q n hx
 .obtain ⟨m,hm⟩:=I.base.tbls b ps q
  exact ⟨m,k _ _ hm⟩
 .rw [ZAF (Ne.symm hL)];exact I.free
 .rw [ZAF (hC x c q)];exact I.freeC x c q
 .obtain ⟨q1,q2,q3,q4,q5⟩:=I.pin p hp'
  exact ⟨q1,by rw [ZAF (hp p hp')];exact q2,q3,q4,q5⟩
 .by_cases z:b=e
  .subst z
   rw [ZAE] at q
   cases q
   exact new
  .rw [ZAF z] at q
   exact (I.hok b u q).stay (fun _ _ _ y=>y) (fun c y=>k _ _ y) fun c xs y=>k _ _ y
theorem Inv.gone {i t':Nat} {x:Str} {m:Str->Option Value} {v:Option Value} {h':Heap} (I:Inv X pins σ H s) (hN:X.N.Nodup) (hi:X.N[i]?=some x) (hn:s.heap.Ns X.env.locals m) (hn':h'.Ns X.env.locals (fun y=>if y=x then v else m y)) (hs:Heap.SameBut X.env.locals s.heap h') :
  Inv X pins (σ.set i none) H { s with heap:=h',toks:=t' }:=by
 obtain ⟨m0,hn0,hl⟩:=I.loc
 obtain ⟨oL,_,_,hoL,_⟩:=id hn
 have hm:m0=m:=by
  obtain ⟨o1,es1,ep1,ho1,hd1,_,hf1⟩:=hn0
  obtain ⟨o2,es2,ep2,ho2,hd2,_,hf2⟩:=hn
  rw [ho1] at ho2
  cases ho2
  rw [hd1] at hd2
  cases hd2
  funext y
  rw [<- hf1 y,<- hf2 y]
 subst hm
 have nL:∀ b ob,X.s₀.heap.get? b=some ob->b≠X.env.locals:=fun b ob q=>yAE (yAI (Heap.lt_size q) I.ok.above)
 refine ⟨I.ok,I.os,I.bare,⟨fun b o q n hb hx=>(hs.2 b (nL b o q)).trans (I.base.keep b o q n hb hx),fun b o q n hb hx=>?_,I.base.free,fun b o q hx=>?_,I.base.tups,I.base.frzs,I.base.tbls⟩,⟨_,hn',fun j y v' q1 q2 q3=>?_⟩,fun y c q=>?_,I.free,I.freeC,fun p hp=>?_,fun b u q=>?_,by simpa using I.len⟩
 .obtain ⟨sl,q1⟩:=I.base.slot b o q n hb hx
  exact ⟨sl,(hs.2 b (nL b o q)).trans q1⟩
 .obtain ⟨o',q1⟩:=I.base.there b o q hx
  exact ⟨o',(hs.2 b (nL b o q)).trans q1⟩
 .by_cases hj:j=i
  .subst hj
   by_cases hlen:j < σ.length
   .rw [List.getElem?_set_self hlen] at q2;cases q2
   .rw [yBF (by rw [List.length_set];omega)] at q2;cases q2
  .rw [List.getElem?_set_ne (Ne.symm hj)] at q2
   obtain ⟨u',r',q⟩:=hl j y v' q1 q2 q3
   refine ⟨u',r',?_⟩
   rcases q with ⟨k,q⟩ | ⟨k,c,q,z⟩
   .have:y≠x:=fun z=>hj (ZDU hN q1 (z ▸ hi))
    exact .inl ⟨k,by simp [this,q]⟩
   .exact .inr ⟨k,c,q,z.sameBut hs (I.cne y c q)⟩
 .obtain ⟨w',z⟩:=I.cell y c q
  exact ⟨w',z.sameBut hs (I.cne y c q)⟩
 .obtain ⟨q,n,ne,nf,d⟩:=I.pin p hp
  exact ⟨(hs.2 p.1 ne).trans q,n,ne,nf,d⟩
 .refine (I.hok b u q).stay (fun c w' hc z=>(hs.2 c ?_).trans z) (fun _ z=>z) fun _ _ z=>z
  rintro rfl
  rcases hc with y | y
  .rw [<- y,I.free] at q;cases q
  .rw [I.free] at y;cases y
end
noncomputable def Ehit (K:W.Frag) (HC:Addr) (i:Nat) (ts:TS) (D:Ends):St->XK:=fun σ cls dd H'=>exmOne K cls (.ref HC)=some true /\ ∀ ea,H' ea=none ->
 ts { nx:=fun σ' H''=>D.nx (σ'.set i none) H'',rt:=D.rt,bk:=fun σ' H''=>D.bk (σ'.set i none) H'',ct:=fun σ' H''=>D.ct (σ'.set i none) H'' } (σ.set i (some (.ref ea))) (upd H' ea (excO ea cls dd))
noncomputable def tTry (K:W.Frag) (HC:Addr) (i:Nat) (tb:(St->XK)->TS) (ts:TS):TS:=fun D σ H=>tb (Ehit K HC i ts D) D σ H
theorem ps_try {X:Cx} {body suite:List Stmt} {b₀:Stmt} {x n:Str} {i:Nat} {HC:Addr} {np hpos pos:Pos} {tb:(St->XK)->TS} {ts:TS} (hstk:X.stack=X.env::X.outer /\ X.env.frame=some X.env.locals) (hex:X.ex=[]) (hg:Gl X x) (hm:X.mg x=some (.ref HC))
  (hN:X.N.Nodup) (hi:X.N[i]?=some n) (hl:X.env.scope.names.lookup n=some .local)
  (hb:∀ (pn:List (Addr×Obj)) (xe:Value->Shared->Prop) (E:St->XK),PassesS (CXE X.prog X.w) (X.tries pn xe) E->PSs (X.tries pn xe) body (tb E)) (hs:∀ e,PSs (X.handles e) (b₀::suite) ts) (hdb:(x == ("__debug__":Str))=false:=by decide) :
  PS X (.Try body [.ExceptHandler (some (.Name x np)) (some n) (b₀::suite) hpos] [] [] pos) (tTry X.K HC i tb ts):=by
 intro pins s σ H D I hw
 refine wpAny_Try_except ?_
 refine wpAny_mono (hb (X.pn++pins) _ (Ehit X.K HC i ts D) ?_ [] s σ H D I.toTry hw) (fun f s1 q=>?_) fun e s1 q=>q
 .intro pins' σ1 H1 s1 e s2 I1 hc
  obtain ⟨ea,cls,dd,H',rfl,os,bare,un,hok,⟨B,a0,fl,hout,hnew,hB⟩,hmt,hE⟩:=hc
  have J:Inv X pins σ1 H1 s1:=I1.ofTry
  obtain ⟨e1,e2⟩:=hstk
  have un:Un (frs X.stack) [] H1 H' s1.heap s2.heap:=un
  have fr:=J.stkFree2 un
  have af:X.A.frames=some (X.env::X.outer):=by rw [<- e1];exact J.ok.frames
  have fl:Heap.FlyingD B (X.env::X.outer) ea cls (a0,dd) s2.heap:=by rw [<- e1];exact fl
  have ff:s2.heap.FunFrames B X.stack:=by rw [e1];exact fl.2.2.1
  have nx:∀ h5,Heap.FlyingD B (X.env::X.outer) ea cls (a0,dd) h5->s2.heap.UpToSlots h5->Inv X pins σ1 H' { s2 with heap:=h5 }:=fun h5 f5 u5=>J.call' os (un.fly hB f5.1 u5 ff) (hok.fly hB f5.1 fr) bare fun b z=>nomatch z
  refine wpAny_looks_onD af e2 fl fun h3 held up3=>?_
  refine wpAny_landsD held fun h4 fl4 up4=>?_
  have I4:=nx h4 fl4 (up3.trans up4)
  obtain ⟨ob,hob,hcl⟩:=fl4.there
  refine wpAny_handleBy_cons (codeAny_handlers_test ?_) (by intro q;cases q)
  refine ZCO (X:=X.handles ea) (I4.toH ea) hg hm ?_ hdb
  refine (exm_one I4.kIn (hcl ▸ (Looks.ld hob).andThen .now) hmt).here ?_
  refine codeAny_handlers_suite_as ?_
  refine PySem.LANDS2_ fl4 fun h6 fl6 up6=>?_
  have I6:=nx h6 fl6 ((up3.trans up4).trans up6)
  obtain ⟨ob6,hob6,hcl6,hdd6⟩:=fl6.thereD
  refine store_ok2 I6 hN hi (.inl hl) (show RelV (.ref ea) (.ref ea) from rfl) (fun s7 I7 hsb=>?_) (.inr hl)
  have nL:ea≠X.env.locals:=fun z=>by
   obtain ⟨m,⟨o,_,_,ho,_⟩,_⟩:=J.loc
   rw [<- z,hnew] at ho;cases ho
  have nC:∀ x c,X.env.cells.lookup x=some c->c≠ea:=fun x c q z=>by
   obtain ⟨v,o,ho,_⟩:=J.cell x c q
   rw [z,hnew] at ho;cases ho
  have hob7:s7.heap.get? ea=some ob6:=by
   obtain ⟨a,sb,z⟩:=hsb
   refine (sb.2 ea ?_).trans hob6
   rcases z with z | z
   .rw [z];exact nL
   .exact Ne.symm (nC _ _ z)
  have I8:=(I7.track (e:=ea) (o:=excO ea cls dd) (by
   cases q:X.s₀.heap.get? ea with
   | none=>rfl
   | some o=>
    obtain ⟨o1,z⟩:=J.base.there ea o q (by rw [hex];exact List.not_mem_nil)
    rw [hnew] at z;cases z) nL nC (fun p hp z=>by
   have:=(J.pin p hp).1
   rw [z,hnew] at this;cases this) hout ⟨⟨ob6,hob7,hcl6,hdd6⟩,⟨ob6,hob7⟩,fun g1 g2 ⟨o,z1,z2⟩ k=>⟨o,k o z1,z2⟩⟩).toH ea
  refine wpAny_mono (hs ea pins s7 _ _ _ I8 (hE ea hout)) (fun f s8 q8=>?_) fun _ _ z=>z.elim
  have kd:(X.env.scope.kind == .class || (X.env.scope.kind == .module && X.env.locals != X.env.globals))=false:=by rw [J.ok.kind];rfl
  cases f with
  | next=>
   obtain ⟨σ',H'',I',q⟩:=q8
   have I':=I'.ofH J.ok
   obtain ⟨m,hn,_⟩:=I'.loc
   exact wpAny_nameGoes_keeps hl hn kd fun h9 v hn9 sb9=>⟨_,_,I'.gone hN hi hn hn9 sb9,q⟩
  | brk=>
   obtain ⟨σ',H'',I',q⟩:=q8
   have I':=I'.ofH J.ok
   obtain ⟨m,hn,_⟩:=I'.loc
   exact wpAny_nameGoes_keeps hl hn kd fun h9 v hn9 sb9=>⟨_,_,I'.gone hN hi hn hn9 sb9,q⟩
  | cont=>
   obtain ⟨σ',H'',I',q⟩:=q8
   have I':=I'.ofH J.ok
   obtain ⟨m,hn,_⟩:=I'.loc
   exact wpAny_nameGoes_keeps hl hn kd fun h9 v hn9 sb9=>⟨_,_,I'.gone hN hi hn hn9 sb9,q⟩
  | ret u=>
   obtain ⟨v',σ',H'',I',r,q⟩:=q8
   have I':=I'.ofH J.ok
   obtain ⟨m,hn,_⟩:=I'.loc
   exact wpAny_nameGoes_keeps hl hn kd fun h9 v hn9 sb9=>⟨_,_,_,I'.gone hN hi hn hn9 sb9,r,q⟩
 .have q':SP X pins D f s1:=q.ofTry
  cases f with
  | next=>exact wpAny_execs_nil q'
  | brk=>exact q'
  | cont=>exact q'
  | ret u=>exact q'
open PySem PySem.Spec PySem.W PySem.Calls PyProof.Rows Builtin.Getset_descriptor Builtin.ObjectAttr
section
variable {prog:Program} {w:World} {A:Around} {E:Value->Shared->Prop} {K:W.Frag} {a C:Addr} {o:Obj} {h:Heap} {g:Array GenState} {d:Drawn} {t:Nat} {os:OsState}
theorem exc_value {name:Str} {v:Value} {od:Option Obj} {expr:Bool} {Q:Value->Shared->Prop} (X:K.In h) (F:ExcC K C) (I:PySem.W.InstAt h a o C od) (hf:findObj K C od name=some (.value v)) (hv:handedIn v=true) (hq:Q v ⟨h,g,d,t+1,os⟩) :
  wpAny (model prog w) A (getAttr (.ref a) name expr) Q E ⟨h,g,d,t,os⟩:=by
 have y0:=I.type (M:=model prog w)
 have y1:=looks_findIn (M:=model prog w) X F.ga
 have y2:=looks_findIn (M:=model prog w) X F.gt
 have y3:=looks_find (M:=model prog w) X I hf
 have bd:=PySem.F.attr_ValueError.ga.bind (.ref a)
 have hx0:(expr && onTheHeap (Value.builtin "BaseException.__getattribute__"))=false:=by cases expr <;> rfl
 simp only [getAttr,getAttrBy]
 refine wpAny_bind (wpAny_mkText (wpAny_holding (wpAny_bind (y0.at (wpAny_bind (y1.at ?_))))))
 show wpAny _ _ (getAttrByItsOwn _ _ _ _ _ _) _ _ _
 unfold getAttrByItsOwn
 refine wpAny_bind ?_
 show wpAny _ _ (typeLookup (.ref C) "__getattr__") _ _ _
 refine y2.at (wpAny_bind (wpAny_attempt (wpAny_holding ?_)))
 unfold callGetattribute
 rw [hx0]
 show wpAny _ _ (boundAndCalled _ _ _) _ _ _
 unfold boundAndCalled
 rw [bd]
 refine wpAny_bind (wpAny_pure (wpAny_call (codeAny_call_builtin PySem.F.attr_ValueError.ga.plain PySem.F.entry_bexc_ga (exc_ga_check X F I.at_ I.cls ?_))))
 unfold Builtin.«object.__getattribute__»
 refine wpAny_bind (wpAny_pure (wpAny_bind (wpAny_pure (wpAny_bind (y0.at (wpAny_bind (y3.at ?_)))))))
 refine wpAny_pure ?_
 show wpAny _ _ (handedOut v) _ _ _
 rw [handedOut_of hv]
 exact wpAny_pure hq
end
open PySem PySem.Spec PySem.W PySem.Calls PyProof.Rows
section
variable {prog:Program} {w:World} {A:Around} {E:Value->Shared->Prop} {h:Heap} {g:Array GenState} {d:Drawn} {t:Nat} {os:OsState}
variable {nm q:Str} {C N:Addr} {bs bm bmB:List Value} {hdct:Bool} {sn:List Str} {sub:List Value} {ab:Bool} {col:Option Bool} {dd:Option Addr} {k0 k1 k2 k3 k5:Option Value} {B Bn newId nid initId inN:String} {bmN:List Value}
theorem type_call_initU (Fn:ExcBaseFacts Bn newId inN bmN) (hBn:bmB.contains (.type Bn)=true) (F:ExcBaseFacts B nid initId bmB) (T:OwnTail h bmB bm) {mN:Str->Option Value} {rest:List Value} {fI:Addr} {oI:Obj} {Q:Fin->Shared->Prop}
  (hC:h.get? C=some (excClassObj nm q C N bs bm hdct sn sub ab col dd k0 k1 k2 k3 k5 newId)) (hn:h.Ns N mN) (hi:mN "__init__"=some (.ref fI)) (hfI:h.get? fI=some oI) (hfc:oI.cls=.type "function")
  (hq:∀ h' e,Heap.MadeExcOf h h' e (.ref C) rest->e=h.objs.size+1->wpAny (model prog w) A (call (.ref fI) (.ref e::rest)) (fun r s'=>r=.none /\ Q (.done (.ret (.ref e))) s') E ⟨h',g,d,t,os⟩) (hrest:rest.length <= sizeLine:=by size_fits) :
  wpAny (model prog w) A (Builtin.«type.__call__» ⟨.ref C::rest,[]⟩) Q E ⟨h,g,d,t,os⟩:=by
 repeat (first | with_reducible refine wpAny_loadPart_at hC ?_ | with_reducible refine wpAny_madeBy_exc hC ?_ | wp_step)
 refine codeAny_call_builtin_code (Code.quiet_builtin _ Fn.quiet) (wpAny_check_new_subU Fn hBn T hC ?_)
 refine codeAny_exc_new_subU Fn hBn F T hC ?_ hrest
 show wpAny _ _ _ _ _ _
 have kp:∀ b o,h.get? b=some o->((h.push { cls:=.type "tuple",data:=.seq rest.toArray }).push { cls:=.ref C,data:=.fields #[.ref h.objs.size,.none,.none,.none,.bool false,.none] }).get? b=some o:=fun b o e=>Heap.get?_push_of_some _ (Heap.get?_push_of_some _ e)
 have hC₁:=kp _ _ hC
 have hfI₁:=kp _ _ hfI
 have hn₁:=hn.keeps kp
 have hget:((h.push { cls:=.type "tuple",data:=.seq rest.toArray }).push
   { cls:=.ref C,data:=.fields #[.ref h.objs.size,.none,.none,.none,.bool false,.none] }).get? (h.objs.size+1)=some
   { cls:=.ref C,data:=.fields #[.ref h.objs.size,.none,.none,.none,.bool false,.none] }:=by heap_get
 have hcC:(Value.ref C::bm).contains (.ref C)=true:=by simp
 have T₁:=T.keeps kp
 unfold isInstance
 repeat (first | with_reducible refine wpAny_loadPart_at hget ?_ | (with_reducible refine wpAny_isSubtype_exc hC₁ ?_;rw [hcC]) | wp_step)
 show wpAny _ _ (typeLookup (.ref C) _) _ _ _
 refine wpAny_typeLookup_tail hC₁ hn₁ T₁ F.mroIs F.init.lookup ?_
 rw [hi]
 refine wpAny_holding (wpAny_bind ?_)
 unfold bindSpecial
 refine wpAny_bind (wpAny_typeOf (T:="function") ⟨_,hfI₁,hfc⟩ ?_)
 rw [if_pos (by decide)]
 refine wpAny_pure (wpAny_bind (wpAny_mono (hq _ (h.objs.size+1) ⟨kp,Heap.get?_none_of_le (yAR _),h.objs.size,hget,Heap.get?_none_of_le (yAA _),?_⟩ rfl) (fun r s' hr=>?_) fun _ _ x=>x))
 .exact Heap.get?_push_of_some _ (Heap.get?_push_at rfl rfl)
 .obtain ⟨rfl,hQ⟩:=hr
  wp_walk
  exact hQ
theorem call_exc_initU (Fn:ExcBaseFacts Bn newId inN bmN) (hBn:bmB.contains (.type Bn)=true) (F:ExcBaseFacts B nid initId bmB) (T:OwnTail h bmB bm) {mN:Str->Option Value} {rest:List Value} {fI:Addr} {oI:Obj} {Q:Value->Shared->Prop}
  (hC:h.get? C=some (excClassObj nm q C N bs bm hdct sn sub ab col dd k0 k1 k2 k3 k5 newId)) (hn:h.Ns N mN) (hi:mN "__init__"=some (.ref fI)) (hfI:h.get? fI=some oI) (hfc:oI.cls=.type "function")
  (hq:∀ h' e,Heap.MadeExcOf h h' e (.ref C) rest->e=h.objs.size+1->wpAny (model prog w) (A.under (.builtin "type.__call__" ⟨.ref C::rest,[]⟩)) (call (.ref fI) (.ref e::rest)) (fun r s'=>r=.none /\ Q (.ref e) s') E ⟨h',g,d,t,os⟩) (hrest:rest.length <= sizeLine:=by size_fits) :
  wpAny (model prog w) A (call (.ref C) rest) Q E ⟨h,g,d,t,os⟩:=by
 have f1:=tc_lookup
 have f2:=tc_bind (.ref C)
 have hT:(⟨h,g,d,t,os⟩:Shared).TypeIs (.ref C) "type":=⟨_,hC,rfl⟩
 refine wpAny_call (codeAny_of_tree ?_)
 show wpAny _ _ (callAny (.ref C) _) _ _ _
 repeat (any_goals (first | assumption | with_reducible refine wpAny_loadPart_at hC ?_ | wp_step))
 refine ⟨rfl,?_⟩
 refine codeAny_call_builtin_at (Code.quiet_builtin _ (by decide +kernel)) entry_typeCall (wpAny_check_type_call_sub hC (type_call_initU (hrest:=hrest) Fn hBn F T hC hn hi hfI hfc fun h' e hm he=>?_))
 exact hq h' e hm he
end
section
variable {M:Model} {A:Around} {E:Value->Shared->Prop} {env:Env}
variable {nm q:Str} {C N:Addr} {bs bm:List Value} {hdct:Bool} {sn:List Str} {sub:List Value} {ab:Bool} {col:Option Bool} {dd:Option Addr} {k0 k1 k2 k3 k5:Option Value} {newId:String}
theorem raiseStmt_madeD {s:Shared} {x:Sem Value} {Q:Flow->Shared->Prop} (hbase:bm.contains (.type "BaseException")=true) (hh:A.handled=none)
  (h:wpAny M A x (fun v s₁=>∃ e oe vs,v=.ref e /\ s₁.heap.get? C=some (excClassObj nm q C N bs bm hdct sn sub ab col dd k0 k1 k2 k3 k5 newId) /\
   s₁.heap.get? e=some oe /\ oe.cls=.ref C /\ oe.data=.fields vs /\ vs[1]?=some .none /\ E (.ref e) s₁) E s) :
  wpAny M A (raiseStmt env (some x) none) Q E s:=by
 have hcB:(Value.ref C::bm).contains (.type "BaseException")=true:=by rw [List.contains_cons,hbase,Bool.or_true]
 unfold raiseStmt
 refine wpAny_bind (wpAny_mono h (fun v s₁ h₁=>?_) fun _ _ x=>x)
 obtain ⟨e,oe,vs,rfl,hC,he,hc,hd,h1,hE⟩:=h₁
 obtain ⟨oc,od,odt,osl⟩:=oe
 dsimp only at hc hd
 subst hc hd
 obtain ⟨hp,g,d,tk,os⟩:=s₁
 repeat (first | with_reducible refine wpAny_loadPart_at he ?_ | with_reducible refine wpAny_loadPart_at hC ?_ | (with_reducible refine wpAny_isSubtype_exc hC ?_;rw [hcB]) | wp_step)
 rw [h1]
 exact wpAny_pure (by rw [if_neg (by decide)];exact wpAny_pure (wpAny_raiseNew_none hh hE))
end
noncomputable def ZCU (K:W.Frag) (C fI:Addr) (bmB:List Value) (newId:String):Bool:=match K.lookup C with
 | none=>false
 | some o=>match o.data with
  | .cls cd=>o.cls == .type "type" && cd.mro.head? == some (.ref C) && o.slots.size == 6 && o.slots[4]? == some (some (.builtin newId)) && !cd.hasDel && tailIn K bmB cd.mro.tail && nsOkIn K cd.ns && nsIn K cd.ns "__init__" == some (some (.ref fI))
  | _=>false
theorem ns_some_of {K:W.Frag} {h:Heap} {N:Addr} {mg:Str->Option Value} {n:Str} {v:Value} (X:K.In h) (G:h.Ns N mg) (e:W.nsIn K N n=some (some v)):mg n=some v:=by
 obtain ⟨o,es,ep,ho,hd,_,hf⟩:=G
 unfold nsIn at e
 split at e
 .rename_i hl
  rw [X _ _ hl] at ho
  cases ho
  cases hd
  split at e
  .rename_i y he
   rw [<- hf]
   unfold nsFind findBy
   rw [<- Array.find?_toList,he]
   exact (Option.some.inj e)
  .split at e <;> cases e
 .cases e
theorem six_of {α:Type} {l:List α} {x:α} (h:l.length=6) (e:l[4]?=some x):∃ k0 k1 k2 k3 k5,l=[k0,k1,k2,k3,x,k5]:=by
 rcases l with _ | ⟨k0,_ | ⟨k1,_ | ⟨k2,_ | ⟨k3,_ | ⟨k4,_ | ⟨k5,_ | ⟨k6,l⟩⟩⟩⟩⟩⟩⟩
 case cons.cons.cons.cons.cons.cons.nil=>cases e;exact ⟨_,_,_,_,_,rfl⟩
 all_goals simp at h
theorem ZDa {K:W.Frag} {h:Heap} {C fI:Addr} {bmB:List Value} {newId:String} (X:K.In h) (q:ZCU K C fI bmB newId=true):∃ bm N nm qn bs hdct sn sub ab col dd k0 k1 k2 k3 k5 mN,
  h.get? C=some (excClassObj nm qn C N bs bm hdct sn sub ab col dd k0 k1 k2 k3 k5 newId) /\ h.Ns N mN /\ mN "__init__"=some (.ref fI) /\ OwnTail h bmB bm /\ K.lookup C=some (excClassObj nm qn C N bs bm hdct sn sub ab col dd k0 k1 k2 k3 k5 newId):=by
 unfold ZCU at q
 cases ho:K.lookup C with
 | none=>rw [ho] at q;cases q
 | some o=>
  rw [ho] at q
  obtain ⟨oc,dd,dt,⟨sl⟩⟩:=o
  cases dt with
  | cls cd=>
   simp only [Bool.and_eq_true,beq_iff_eq,Bool.not_eq_true'] at q
   obtain ⟨⟨⟨⟨⟨⟨⟨y0,y1⟩,y2⟩,y7⟩,y3⟩,y4⟩,y5⟩,y6⟩:=q
   obtain ⟨nm,bs,mro,ns,qn,hd,sn,sub,ab,col,del⟩:=cd
   dsimp only at y0 y1 y3 y4 y5 y6
   subst y0 y3
   obtain ⟨bm,rfl⟩:∃ bm,mro=.ref C::bm:=by
    cases mro with
    | nil=>cases y1
    | cons m bm=>cases y1;exact ⟨bm,rfl⟩
   obtain ⟨k0,k1,k2,k3,k5,rfl⟩:∃ k0 k1 k2 k3 k5,sl=[k0,k1,k2,k3,some (.builtin newId),k5]:=six_of (by simpa using y2) (by simpa using y7)
   have G:h.Ns ns (h.nsMap ns):=.of_isNs (isNs_of_in X y5)
   exact ⟨bm,ns,nm,qn,bs,hd,sn,sub,ab,col,dd,k0,k1,k2,k3,k5,_,X _ _ ho,G,ns_some_of X G y6,tail_of_in X y4,rfl⟩
  | _=>cases q
open PySem PySem.Spec PySem.W PySem.Calls PyProof.Rows Builtin.Getset_descriptor Builtin.ObjectAttr
noncomputable def excM (a:Addr) (cls:Value) (dd:Option Addr):HO:=.ext fun h=>∃ o,h.get? a=some o /\ o.cls=cls /\ o.dict=dd /\ ∃ vs,o.data=.fields vs /\ vs[1]?=some .none /\ ∃ a0,vs[0]?=some a0
theorem ZD3 {P:Program} {w:World} {H:Hp} {h:Heap} {a:Addr} {cls:Value} {dd:Option Addr} {o:Obj} {vs:Array Value} {a0:Value} (e:h.get? a=some o) (e1:o.cls=cls) (e2:o.dict=dd) (e3:o.data=.fields vs) (e4:vs[1]?=some .none) (e5:vs[0]?=some a0):ObjOk P w H h a (excM a cls dd) :=
 ⟨⟨o,e,e1,e2,vs,e3,e4,a0,e5⟩,⟨o,e⟩,fun h1 h2 ⟨o,z1,z2⟩ k=>⟨o,k o z1,z2⟩⟩
theorem ZCI {P:Program} {w:World} {H:Hp} {h:Heap} {a:Addr} {cls:Value} {dd:Option Addr} (x:HOk P w H h) (e:H a=some (excM a cls dd)):∃ o vs a0,h.get? a=some o /\ o.cls=cls /\ o.dict=dd /\ o.data=.fields vs /\ vs[1]?=some .none /\ vs[0]?=some a0 :=
 let ⟨⟨o,e1,e2,e3,vs,e4,e5,a0,e6⟩,_⟩:=x a _ e;⟨o,vs,a0,e1,e2,e3,e4,e5,e6⟩
theorem upd_self {H:Hp} {a:Addr} {o:HO} (h:H a=some o):upd H a o=H:=funext fun b=>by
 by_cases z:b=a
 .rw [z,ZAE,h]
 .rw [ZAF z]
section
variable {X:Cx}
theorem call_verr (fI:Addr):ZBr X (.builtin "ValueError.__init__") (fun xs H Q=>∃ e C dd v,xs=[.ref e,v] /\ H e=some (excM e (.ref C) dd) /\ ZCU X.K C fI bmV "ValueError.__new__"=true /\ Q .non H):=by
 intro pins s σ H xs us Q I r h
 obtain ⟨e,C,dd,v,rfl,he,hm,q⟩:=h
 obtain ⟨u,w',rfl,r1,r2⟩:=ZEL r
 cases (show u=Value.ref e from r1)
 obtain ⟨o,vs,a0,z1,z2,z3,z4,z5,z6⟩:=ZCI I.hok he
 have F:=PySem.F.excBase_ValueError
 obtain ⟨bm,N',nm,qn,bs,hdct,sn,sub,ab,col,d0,k0,k1,k2,k3,k5,mN,hC,hN,hni,T,hKC⟩:=ZDa I.kIn hm
 obtain ⟨h0,g,d,t,os⟩:=s
 refine wpAny_call (codeAny_call_builtin F.init.plain F.initEntry (wpAny_check_init_subU F T hC z1 z2 ?_))
 show wpAny _ _ (do Builtin.BaseException.bexcPut (.ref e) 0 (<- newTuple [w']);ret .none) _ _ _
 refine wpAny_bind (wpAny_newTuple ?_ (by rw [sizeLine_eq];simp))
 have z1':(h0.push { cls:=.type "tuple",data:=.seq [w'].toArray }).get? e=some o:=Heap.get?_push_of_some _ z1
 have hsz:0 < vs.size:=by
  cases hv:vs.size with
  | zero=>rw [Array.getElem?_eq_none (by omega)] at z6;cases z6
  | succ n=>omega
 unfold Builtin.BaseException.bexcPut
 refine wpAny_bind (wpAny_bind (wpAny_field z1' z4 z6 (wpAny_bind (wpAny_setField z1' z4 hsz ?_))))
 have h2:((h0.push { cls:=.type "tuple",data:=.seq [w'].toArray }).update e (Obj.mapFields (·.setIfInBounds 0 (.ref h0.objs.size)))).get? e=some (o.mapFields (·.setIfInBounds 0 (.ref h0.objs.size))) :=
  Heap.get?_update_self _ z1' (by obtain ⟨oc,od,odt,osl⟩:=o;cases z4;rfl)
 have fin:∀ tk,EP X pins σ Q .none ⟨(h0.push { cls:=.type "tuple",data:=.seq [w'].toArray }).update e (Obj.mapFields (·.setIfInBounds 0 (.ref h0.objs.size))),g,d,tk,os⟩:=fun tk=>by
  refine ⟨.non,H,?_,rfl,q⟩
  have J:=I.write (x:=e) (e:=e) (o:=excM e (.ref C) dd) (t':=tk) (h':=(h0.push { cls:=.type "tuple",data:=.seq [w'].toArray }).update e (Obj.mapFields (·.setIfInBounds 0 (.ref h0.objs.size)))) (by rw [he];exact True.intro) (.inl rfl)
   (fun b u hb q=>(Heap.get?_update_ne _ _ _ _ hb).trans (Heap.get?_push_of_some _ q)) ⟨_,h2⟩ (ZD3 (vs:=vs.setIfInBounds 0 (.ref h0.objs.size)) (a0:=.ref h0.objs.size) h2 (by rw [Obj.cls_mapFields];exact z2) (by rw [ZBD];exact z3) (Obj.data_mapFields z4 _) (by rw [Array.getElem?_setIfInBounds_ne (by decide)];exact z5) (by rw [Array.getElem?_setIfInBounds_self_of_lt hsz]))
  rw [upd_self he] at J
  exact J
 cases a0 with
 | ref b=>exact wpAny_letGo (wpAny_pure (fin t))
 | _=>exact wpAny_pure (wpAny_pure (fin t))
end
section
variable {X:Cx} {x name:Str} {C:Addr} {np apos pos:Pos} {e:Expr} {es:List Expr} {t:TA} {r:List V->Hp->VK->Prop} {id:String}
theorem pe_clsB {pl:Sem Bool} (hc:ZBr X (.builtin id) r) (hg:Gl X x) (hm:X.mg x=some (.ref C)) (hgs:specialIn X.K (.ref C) "__getattribute__"=some (some (.builtin "type.__getattribute__"))) (hr:readsIn X.K C (.type "type")=true)
  (hf:findCls X.K (.ref C) (.type "type") name=some (.val (.builtin id))) (hid:handedIn (.builtin id)=true) (ha:PA X (e::es) t) (hdb:(x == ("__debug__":Str))=false:=by decide)
  (he:starEach (e::es) X.env=(false,eval e X.env)::starEach es X.env:=by rfl) (hpl:(backTo pos (starEach es X.env)).any (·.1)=false:=by rfl)
  (ht:eval (.Call (.Attribute (.Name x np) name apos) (e::es) [] pos) X.env=(do
   let ov <- eval (.Name x np) X.env
   standAt apos.atName
   let (f,first) <- holding [ov] (getMethod ov name pl)
   callWith pos f first (backTo pos (starEach (e::es) X.env)) (backToKw pos (keywordEach [] X.env))):=by rfl):PE X (.Call (.Attribute (.Name x np) name apos) (e::es) [] pos) (tCB r t):=by
 intro pins s σ H Q I h
 refine PySem.W.methodCall_KW (pl:=pl) (ZCO I hg hm ?_ hdb) ht
 refine method_cls I.kIn hgs (cls_value I.kIn hr hf hid ?_)
 exact PyProof.Rows.callWith_builtin1 (thn (ha pos pins _ σ H _ (I.tok _) h) fun us s1 ⟨vs,H1,I1,r1,q1⟩=>hc pins s1 σ H1 vs us Q I1 r1 q1) he hpl
end
noncomputable def tFS (te:TE):TE:=fun σ H Q=>te σ H fun x H1=>∃ i:Int,x=.int i /\ i.natAbs.log2 < 1920 /\ ∀ y,Q (.str y) H1
section
variable {X:Cx} {v c1 c2:Expr} {s1 s2:Str} {te:TE} {p pos:Pos}
theorem pe_fs1 (h1:PE X c1 (tC (.str s1))) (hv:PE X v te) (hl:s1.length <= 1000:=by decide):PE X (.JoinedStr [c1,.FormattedValue v (-1) none p] pos) (tFS te):=by
 intro pins s σ H Q I h
 refine JoinedStr_many (joinParts_cons (thn (h1 pins s σ H (fun x H1=>x=.str s1 /\ H1=H) I ⟨rfl,rfl⟩) fun u st1 zz=>?_))
 obtain ⟨y,H1,I1,ry,e1,e2⟩:=zz
 subst e1 e2
 obtain ⟨tk,rfl⟩:=(show ∃ t,u=Value.str s1 t from ry)
 refine ⟨by rw [strLen_append,sizeLine_eq];show 0+s1.length <= _;omega,joinParts_cons (FormattedValue_plain (thn (hv pins st1 σ H1 _ I1 h) fun u2 st2 zz=>?_))⟩
 obtain ⟨y,H2,I2,ry,i,e1,hi,q⟩:=zz
 subst e1
 obtain ⟨tk2,rfl⟩:=(show ∃ t,u2=Value.int i t from ry)
 refine formatField_int_small hi ?_
 have hz:=int_text_length_le (k:=1920) (by decide) hi
 have hz':(Str.empty++s1++Str.ofString (toString i)).length <= sizeLine:=by rw [strLen_append,strLen_append,PySem.ofString_length,sizeLine_eq];show 0+s1.length+_ <= _;omega
 exact ⟨hz',joinParts_nil ⟨.str _,H2,I2.tok _,⟨_,rfl⟩,q _⟩ hz'⟩
end
noncomputable def ZCa:List Value->Bool
 | .ref c::r=>ZCa r
 | l=>l == bmV
theorem over_pass (self:Value):∀ {l:List Value},ZCa l=true->refuseLoop self "__setattr__" l=pure ()
 | .ref c::r,e=>by rw [refuseLoop_ref];exact over_pass self e
 | [],e=>by cases (beq_iff_eq.mp (show ([] == bmV)=true from e))
 | .type n::r,e=>by rw [show (Value.type n::r)=bmV from beq_iff_eq.mp e];exact PySem.F.store_ValueError.passes self
 | .none::r,e=>by cases (beq_iff_eq.mp (show (Value.none::r == bmV)=true from e))
 | .bool b::r,e=>by cases (beq_iff_eq.mp (show (Value.bool b::r == bmV)=true from e))
 | .int i t::r,e=>by cases (beq_iff_eq.mp (show (Value.int i t::r == bmV)=true from e))
 | .float b t::r,e=>by cases (beq_iff_eq.mp (show (Value.float b t::r == bmV)=true from e))
 | .str x t::r,e=>by cases (beq_iff_eq.mp (show (Value.str x t::r == bmV)=true from e))
 | .bytes x t::r,e=>by cases (beq_iff_eq.mp (show (Value.bytes x t::r == bmV)=true from e))
 | .ellipsis::r,e=>by cases (beq_iff_eq.mp (show (Value.ellipsis::r == bmV)=true from e))
 | .notImplemented::r,e=>by cases (beq_iff_eq.mp (show (Value.notImplemented::r == bmV)=true from e))
 | .builtin n::r,e=>by cases (beq_iff_eq.mp (show (Value.builtin n::r == bmV)=true from e))
theorem ZDS:∀ {l:List Value},ZCa l=true->l.contains (.type "object")=true /\ l.isEmpty=false
 | .ref c::r,e=>⟨by rw [List.contains_cons,(ZDS (l:=r) e).1,Bool.or_true],rfl⟩
 | [],e=>by cases (beq_iff_eq.mp (show ([] == bmV)=true from e))
 | .type n::r,e=>by rw [show (Value.type n::r)=bmV from beq_iff_eq.mp e];exact ⟨by decide,rfl⟩
 | .none::r,e=>by cases (beq_iff_eq.mp (show (Value.none::r == bmV)=true from e))
 | .bool b::r,e=>by cases (beq_iff_eq.mp (show (Value.bool b::r == bmV)=true from e))
 | .int i t::r,e=>by cases (beq_iff_eq.mp (show (Value.int i t::r == bmV)=true from e))
 | .float b t::r,e=>by cases (beq_iff_eq.mp (show (Value.float b t::r == bmV)=true from e))
 | .str x t::r,e=>by cases (beq_iff_eq.mp (show (Value.str x t::r == bmV)=true from e))
 | .bytes x t::r,e=>by cases (beq_iff_eq.mp (show (Value.bytes x t::r == bmV)=true from e))
 | .ellipsis::r,e=>by cases (beq_iff_eq.mp (show (Value.ellipsis::r == bmV)=true from e))
 | .notImplemented::r,e=>by cases (beq_iff_eq.mp (show (Value.notImplemented::r == bmV)=true from e))
 | .builtin n::r,e=>by cases (beq_iff_eq.mp (show (Value.builtin n::r == bmV)=true from e))
noncomputable def ZD2 (K:Frag) (C:Addr):Bool:=(clsIn K C).any fun cd=>ZCa cd.mro
section
variable {prog:Program} {w:World} {A:Around} {R:Result->Shared->Prop} {s:Shared} {K:Frag} {x C:Addr}
theorem osa_openX {ox:Obj} {od:Option Obj} {name:Str} {tk:Tok} {v:Value} {r:Option Value} (X:K.In s.heap) (I:InstAt s.heap x ox C od) (hp:ZD2 K C=true) (ht:takerIn K C name=some r)
  (h:∀ b,wpAny (model prog w) A.in1 (match r with | some a=>setByDescriptor a (.ref x) v | none=>storeInOwnDict (.ref x) (.ref C) (.str name tk) name v b)
   (fun fin s'=>match fin with | Fin.done f=>R (.ok f) s' | Fin.again c'=>c'.quiet=true /\ codeAny (model prog w) A c' R s') (fun e s'=>R (.error e) s') s) :
  codeAny (model prog w) A (.call (.builtin "object.__setattr__") ⟨[.ref x,.str name tk,v],[]⟩) R s:=by
 have SF:=PySem.F.store_object
 obtain ⟨cd,hc,ho⟩:=any_some hp
 have ne:cd.mro.isEmpty=false:=(ZDS ho).2
 have sub:Looks (model prog w) s.heap (isInstance (.ref x) (.type "object")) true:=I.type.andThen (looks_mroIn X (by unfold mroIn;rw [hc,Option.bind_some,if_neg (by rw [ne];decide),(ZDS ho).1]))
 refine codeAny_call_builtin SF.slot.plain SF.entry (@check_slot (model prog w) _ _ s "object.__setattr__" "object" "__setattr__" (.ref x) [.str name tk,v] [] _ SF.kind SF.split sub (SF.args (.ref x) (.str name tk) v) ?_)
 obtain ⟨attr,ha,hr⟩:=Option.bind_eq_some_iff.mp ht
 have hm:Looks (model prog w) s.heap (mroOf (.ref C)) cd.mro:=(looks_clsIn X hc).andThen .now
 have L3:Looks (model prog w) s.heap (storeTaker? attr) r:=by
  cases attr with
  | none=>cases hr;exact .now
  | some a=>
   obtain ⟨b,hb,rfl⟩:=Option.map_eq_some_iff.mp hr
   refine (looks_takesIn X hb).andThen ?_
   cases b <;> exact .now
 rw [osa_eq,refuse_eq]
 refine wpAny_bind (wpAny_bind (I.type.here (wpAny_bind (hm.here ?_))))
 rw [over_pass _ ho]
 refine wpAny_pure (wpAny_bind (I.type.here (wpAny_bind ((looks_findIn X ha).here (wpAny_bind (L3.here ?_))))))
 exact h _
end
noncomputable def xdM (d:Addr) (fs:List (Str×V)):HO:=.ext fun h=>∃ mA,h.Ns1 d mA /\ ∀ f,RelO (fs.lookup f) (mA f)
theorem xdM_ok {P:Program} {w:World} {H:Hp} {h:Heap} {d:Addr} {fs:List (Str×V)} {mA:Str->Option Value} (n:h.Ns1 d mA) (r:∀ f,RelO (fs.lookup f) (mA f)):ObjOk P w H h d (xdM d fs) :=
 ⟨⟨mA,n,r⟩,let ⟨o,_,_,e,_⟩:=n;⟨o,e⟩,fun h1 h2 ⟨mA,⟨o,es,ep,e,c⟩,r⟩ k=>⟨mA,⟨o,es,ep,k _ e,c⟩,r⟩⟩
structure XCls (K:Frag) (C:Addr):Prop where
 hd:hasDictIn K C=true
 ov:ZD2 K C=true
 sa:findIn K (.ref C) "__setattr__"=some (some (.builtin "object.__setattr__"))
section
variable {X:Cx} {pins:List (Addr×Obj)} {σ:St} {H:Hp} {s:Shared} {A:Around} {E:Value->Shared->Prop} {a C:Addr} {f:Str}
theorem excset0 {y:V} {u:Value} {Q:Unit->Shared->Prop} (I:Inv X pins σ H s) (e:H a=some (excM a (.ref C) none)) (c:XCls X.K C) (n:NoAttr X.K C f) (ry:RelV y u)
  (h:∀ d s',H d=none->d≠a->Inv X pins σ (upd (upd H d (xdM d [(f,y)])) a (excM a (.ref C) (some d))) s'->Q () s'):wpAny (model X.prog X.w) A (setAttr (.ref a) f u) Q E s:=by
 obtain ⟨o,vs,a0,z1,z2,z3,z4,z5,z6⟩:=ZCI I.hok e
 have J:InstAt s.heap a o C none:=⟨z1,z2,by unfold notCls;rw [z4],by rw [z3];trivial⟩
 refine set_plain I.kIn J c.sa (osa_openX (s:={ s with toks:=s.toks+1 }) (r:=none) I.kIn J c.ov n.taker fun b=>?_)
 obtain ⟨cd,hc,hd'⟩:=any_some c.hd
 obtain ⟨oc,od,odt,osl⟩:=o
 dsimp only at z2 z3 z4
 subst z2 z3 z4
 refine wpAny_bind (wpAny_pure (wpAny_bind (wpAny_bind (wpAny_loadPart (s:={ s with toks:=s.toks+1 }) z1 (wpAny_bind (Looks.here (s:={ s with toks:=s.toks+1 }) (looks_clsIn I.kIn hc) ?_))))))
 rw [hd']
 have hax:a≠s.heap.objs.size:=yAE (Heap.lt_size z1)
 have hx1:(s.heap.push { cls:=.type "dict",data:=.dict #[] }).get? a=some ⟨.ref C,none,.fields vs,osl⟩:=Heap.get?_push_of_some _ z1
 rw [if_neg (by decide)]
 show wpAny _ _ (do
  let d <- alloc { cls:=Value.type "dict",data:=Data.dict #[] }
  update a fun o=>{ cls:=o.cls,dict:=some d,data:=o.data,slots:=o.slots }
  dictMade (.ref C) a d) _ _ _
 refine wpAny_bind (wpAny_alloc' ?_)
 refine wpAny_bind (wpAny_update' hx1 ?_)
 refine wpAny_pure ?_
 have hgd:((s.heap.push { cls:=.type "dict",data:=.dict #[] }).update a fun o=>{ cls:=o.cls,dict:=some s.heap.objs.size,data:=o.data,slots:=o.slots }).get? s.heap.objs.size=some { cls:=.type "dict",data:=.dict #[] } :=
  (Heap.get?_update_ne _ _ _ _ (Ne.symm hax)).trans (Heap.get?_push_at rfl rfl)
 have hnd:((s.heap.push { cls:=.type "dict",data:=.dict #[] }).update a fun o=>{ cls:=o.cls,dict:=some s.heap.objs.size,data:=o.data,slots:=o.slots }).Ns s.heap.objs.size (fun _=>none) :=
  ⟨_,#[],_,hgd,rfl,fun e he=>absurd he (by simp),fun _=>rfl⟩
 have hga:((s.heap.push { cls:=.type "dict",data:=.dict #[] }).update a fun o=>{ cls:=o.cls,dict:=some s.heap.objs.size,data:=o.data,slots:=o.slots }).get? a=some ⟨.ref C,some s.heap.objs.size,.fields vs,osl⟩:=Heap.get?_update_self _ hx1 rfl
 show wpAny _ _ (storeInDict s.heap.objs.size (.str f s.toks) f u) _ _ _
 unfold storeInDict newKeyGuard
 refine wpAny_bind (wpAny_pure (wpAny_bind (wpAny_nsSet1 (Heap.Ns1.of_empty hnd) fun h' hn' hs=>?_)))
 obtain ⟨oD,esD,epD,hoD,hdD,hcD⟩:=hn'.count (Within.cons f u Within.nil)
 refine wpAny_bind (wpAny_lookBehind hoD (by rw [hdD];exact pastItsLine_dict (yAD hcD (by rw [yAJ,yBR,sizeLine_eq];omega))) ?_)
 refine wpAny_pure ?_
 have hfr:H s.heap.objs.size=none:=I.hok.fresh (yAA _)
 have keepB:∀ b ob,b≠a->s.heap.get? b=some ob->h'.get? b=some ob:=fun b ob hb q=>(hs.2 b (yAE (Heap.lt_size q))).trans ((Heap.get?_update_ne _ _ _ _ hb).trans (Heap.get?_push_of_some _ q))
 have ha':h'.get? a=some ⟨.ref C,some s.heap.objs.size,.fields vs,osl⟩:=(hs.2 a hax).trans hga
 have rel:∀ g,RelO ([(f,y)].lookup g) (if g=f then some u else none):=fun g=>by
  by_cases q:g=f
  .rw [if_pos q,q,List.lookup_cons_self];exact ry
  .rw [if_neg q,yBL,show (g == f)=false from by simpa using q];trivial
 have J1:=I.write (x:=a) (e:=a) (o:=excM a (.ref C) (some s.heap.objs.size)) (t':=s.toks+1+1) (h':=(s.heap.update a fun o=>{ cls:=o.cls,dict:=some s.heap.objs.size,data:=o.data,slots:=o.slots })) (by rw [e];exact True.intro) (.inl rfl)
  (fun b ob hb q=>(Heap.get?_update_ne _ _ _ _ hb).trans q) ⟨_,Heap.get?_update_self _ z1 rfl⟩ (ZD3 (Heap.get?_update_self _ z1 rfl) rfl rfl rfl z5 z6)
 have hsz:(s.heap.update a fun o=>{ cls:=o.cls,dict:=some s.heap.objs.size,data:=o.data,slots:=o.slots }).objs.size=s.heap.objs.size:=Heap.size_update ..
 have J2:=J1.laid (a:=s.heap.objs.size) (o:=xdM s.heap.objs.size [(f,y)]) (t':=s.toks+1+1) (h':=h') (fun b ob q=>?_) (by rw [show ({ s with heap:=(s.heap.update a fun o=>{ cls:=o.cls,dict:=some s.heap.objs.size,data:=o.data,slots:=o.slots }),toks:=s.toks+1+1 }:Shared).heap.objs.size=_ from hsz];exact yAA _) (xdM_ok hn' rel)
 .have:=h s.heap.objs.size _ hfr (Ne.symm hax) (by
   have e2:upd (upd H s.heap.objs.size (xdM s.heap.objs.size [(f,y)])) a (excM a (.ref C) (some s.heap.objs.size))=upd (upd H a (excM a (.ref C) (some s.heap.objs.size))) s.heap.objs.size (xdM s.heap.objs.size [(f,y)]):=funext fun b=>by
    by_cases q1:b=a
    .rw [q1,ZAE,ZAF hax,ZAE]
    .rw [ZAF q1]
     by_cases q2:b=s.heap.objs.size
     .rw [q2,ZAE,ZAE]
     .rw [ZAF q2,ZAF q2,ZAF q1]
   rw [e2]
   exact J2)
  exact this
 .by_cases hb:b=a
  .rw [hb] at q ⊢
   rw [Heap.get?_update_self _ z1 rfl] at q
   rw [ha',<- q]
  .exact keepB b ob hb ((Heap.get?_update_ne _ _ _ _ hb).symm.trans q)
theorem excset1 {y:V} {u:Value} {Q:Unit->Shared->Prop} {d:Addr} {fs:List (Str×V)} (I:Inv X pins σ H s) (e:H a=some (excM a (.ref C) (some d))) (hda:d≠a) (ed:H d=some (xdM d fs)) (hl:fs.length < 1000) (c:XCls X.K C) (n:NoAttr X.K C f) (ry:RelV y u)
  (h:∀ s',Inv X pins σ (upd H d (xdM d (putF f y fs))) s'->Q () s'):wpAny (model X.prog X.w) A (setAttr (.ref a) f u) Q E s:=by
 obtain ⟨o,vs,a0,z1,z2,z3,z4,z5,z6⟩:=ZCI I.hok e
 obtain ⟨⟨mA,hns,r⟩,_,_⟩:=(show ObjOk X.prog X.w H s.heap d (xdM d fs) from I.hok d _ ed)
 obtain ⟨od,hod,hlk⟩:=ZCu hns
 have J:InstAt s.heap a o C (some od):=⟨z1,z2,by unfold notCls;rw [z4],by rw [z3];exact hod⟩
 refine set_plain I.kIn J c.sa (osa_openX (s:={ s with toks:=s.toks+1 }) (r:=none) I.kIn J c.ov n.taker fun b=>?_)
 obtain ⟨cd,hc,hd'⟩:=any_some c.hd
 obtain ⟨oc,odd,odt,osl⟩:=o
 dsimp only at z2 z3 z4
 subst z2 z3 z4
 refine wpAny_bind (wpAny_pure (wpAny_bind (wpAny_bind (wpAny_loadPart (s:={ s with toks:=s.toks+1 }) z1 (wpAny_bind (Looks.here (s:={ s with toks:=s.toks+1 }) (looks_clsIn I.kIn hc) ?_))))))
 rw [hd',if_neg (by decide)]
 refine wpAny_pure (a:=some d) (wpAny_bind (wpAny_pure (wpAny_bind ?_)))
 refine wpAny_nsSet1 (s:={ s with toks:=s.toks+1 }) hns fun h' hn2 hs2=>?_
 have hw:Within mA (fs.map (·.1)):=fun g hg=>by
  have:=r g
  cases hg2:fs.lookup g with
  | none=>rw [hg2] at this;cases hm:mA g with
   | none=>exact absurd hm hg
   | some u=>rw [hm] at this;exact this.elim
  | some v=>exact List.mem_map.mpr ⟨(g,v),PySem.mem_of_lookup hg2,rfl⟩
 obtain ⟨oD,esD,epD,hoD,hdD,hcD⟩:=hn2.count (PySem.Within.cons f u hw)
 refine wpAny_bind (wpAny_lookBehind hoD (by rw [hdD];exact pastItsLine_dict (yAD hcD (by rw [yAJ,yAB,sizeLine_eq];omega))) ?_)
 refine wpAny_pure (h _ ?_)
 exact I.write (x:=d) (e:=d) (o:=xdM d (putF f y fs)) (t':=s.toks+1+1) (h':=h') (by rw [ed];exact True.intro) (.inl rfl) (fun b ob hb q=>(hs2.2 b hb).trans q) ⟨oD,hoD⟩ (xdM_ok hn2 fun g=>by
  rw [ZAZ]
  by_cases q:g=f
  .rw [if_pos q,if_pos q];exact ry
  .rw [if_neg q,if_neg q];exact r g)
end
noncomputable def ZEt (K:Frag) (ta tv:TE) (f:Str):TS:=fun D σ H=>tv σ H fun y H1=>ta σ H1 fun x H2=>∃ a C dd,x=.ref a /\ H2 a=some (excM a (.ref C) dd) /\ XCls K C /\ NoAttr K C f /\
 ((dd=none /\ ∀ d,H2 d=none->d≠a->D.nx σ (upd (upd H2 d (xdM d [(f,y)])) a (excM a (.ref C) (some d))))∨∃ d fs,dd=some d /\ d≠a /\ H2 d=some (xdM d fs) /\ fs.length < 1000 /\ D.nx σ (upd H2 d (xdM d (putF f y fs))))
theorem ps_xfld {X:Cx} {o value:Expr} {f:Str} {pos pos':Pos} {ta tv:TE} (ha:PE X o ta) (hv:PE X value tv) (hs:swapsWith value (some (.Attribute o f pos')) pos.line X.env=pure false):PS X (.Assign [.Attribute o f pos'] value pos) (ZEt X.K ta tv f):=by
 intro pins s σ H D I h
 refine plainObj_wpAny_Assign_Attribute (thn (hv pins s σ H _ I h) fun u s1 ⟨y,H1,I1,ry,q⟩=>thn (ha pins s1 σ H1 _ I1 q) fun ov s2 zz=>?_) hs
 obtain ⟨x,H2,I2,rx,a,C,dd,ex,ea,c,n,q2⟩:=zz
 subst ex
 obtain rfl:ov=Value.ref a:=rx
 rcases q2 with ⟨rfl,q2⟩ | ⟨d,fs,rfl,hda,ed,hl,q2⟩
 .exact excset0 I2 ea c n ry fun d s3 hd hda I3=>⟨σ,_,I3,q2 d hd hda⟩
 .exact excset1 I2 ea hda ed hl c n ry fun s3 I3=>⟨σ,_,I3,q2⟩
structure XMk (K:Frag) (C f:Addr):Prop where
 ii:ZCU K C f bmV "ValueError.__new__"=true
 fn:isFn K (.ref f)=true
 kp:keepIn K (.ref C)=true
section
variable {X:Cx} {CX:CXT} {k:Nat} {f C:Addr} {fd:FuncData} {ps:List Str} {sp:Sp} {x:Str} {p pos:Pos} {e:Expr} {es:List Expr} {t:TA} {E:XK}
theorem run_xmake {pins:List (Addr×Obj)} {σ:St} {H:Hp} {s:Shared} {Q:VK} {R:Value->Shared->Prop} {us:List Value} {vs:List V} (M:XMk X.K C f) (F:FnOk X.prog X.w X.K X.mg X.base CX k f fd ps sp) (hr:Room (k+1) X.A) (hb:Binds X.K fd ps [])
  (hx:ZA3 CX X E) (I:Inv X pins σ H s) (r:Vals vs us) (hz:us.length <= sizeLine)
  (h:∀ x,H x=none->sp (.ref x::vs) (upd H x (excM x (.ref C) none)) (fun v H2=>v=.non /\ Q (.ref x) H2) E)
  (fin:∀ a H2 s2,s.heap.get? a=none->H a=none->Un (frs X.stack) [] H H2 s.heap s2.heap->HOk X.prog X.w H2 s2.heap->s2.os=s.os->AllBare s2.gens->Q (.ref a) H2->R (.ref a) s2) :
  wpAny (model X.prog X.w) X.A (call (.ref C) us) R X.xe s:=by
 obtain ⟨bm,N',nm,qn,bs,hdct,sn,sub,ab,col,d0,k0,k1,k2,k3,k5,mN,hC,hN,hni,T,hKC⟩:=ZDa I.kIn M.ii
 obtain ⟨oI,hoI,hcI⟩:∃ oI,s.heap.get? f=some oI /\ oI.cls=.type "function":=by
  have ht:=beq_iff_eq.mp M.fn
  unfold typeIn at ht
  obtain ⟨o,h1,h2⟩:=Option.map_eq_some_iff.mp ht
  exact ⟨o,I.kIn _ _ h1,h2⟩
 obtain ⟨h0,g,d,tk,os⟩:=s
 refine call_exc_initU (hrest:=hz) PySem.F.excBase_ValueError PySem.F.excBase_ValueError.hasB PySem.F.excBase_ValueError T hC hN hni hoI hcI fun h' a hm ha=>?_
 obtain ⟨t0,ht0,_⟩:=hm.there
 have hge:h0.objs.size <= a:=by rw [ha];exact yAR _
 have hfr:H a=none:=I.hok.fresh hge
 have I2:=I.laid (a:=a) (o:=excM a (.ref C) none) (h':=h') (t':=tk) hm.keeps hge (ZD3 ht0 rfl rfl rfl rfl rfl)
 have hq:=h a hfr
 have r2:Vals (V.ref a::vs) (Value.ref a::us):=.cons rfl r
 have hl:(Value.ref a::us).length=ps.length:=by rw [<- r2.length];exact F.len _ _ _ _ hq
 have hb2:=hb ⟨h',g,d,tk,os⟩ (Value.ref a::us) I2.kIn (by rw [yBI];exact hl)
 rw [yBI] at hb2
 refine wpAny_call (codeAny_mono (F.run _ X.stack ⟨h',g,d,tk,os⟩ _ ⟨Value.ref a::us,[]⟩ (Value.ref a::us) _ _ E (hr.make C us []) (I2.env0.make C us []) hb2 r2 hq) fun r s' hq'=>?_)
 cases r with
 | error e=>exact hx pins σ _ _ e s' I2 hq'
 | ok fl=>
  cases fl with
  | ret u=>
   obtain ⟨v,H2,ho,hba,un,hok,rv,ev,q3⟩:=hq'
   subst ev
   exact ⟨rv,fin a H2 s' hm.new hfr (Un.trans (Un.laid hm.keeps hge hfr) un) hok ho hba q3⟩
  | next=>exact False.elim hq'
  | brk=>exact False.elim hq'
  | cont=>exact False.elim hq'
noncomputable def tXMk (C:Addr) (sp:Sp) (E:XK) (t:TA):TE:=fun σ H Q=>t σ H fun vs H1=>vs.length <= 1000 /\ ∀ x,H1 x=none->sp (.ref x::vs) (upd H1 x (excM x (.ref C) none)) (fun v H2=>v=.non /\ Q (.ref x) H2) E
end
noncomputable def forget (H:Hp) (a:Addr):Hp:=fun b=>if b=a then none else H b
theorem ZA1 {H:Hp} {a b:Addr} (h:b≠a):forget H a b=H b:=if_neg h
theorem forget_same {H:Hp} {a:Addr}:forget H a a=none:=if_pos rfl
theorem Un.forget {fs:List Addr} {H H2:Hp} {h h2:Heap} {a:Addr} (u:Un fs [] H H2 h h2) (hn:h.get? a=none) (hH:H a=none):Un fs [] H (L2.forget H2 a) h h2 where
 keep:=u.keep
 slot:=u.slot
 free:=fun b o q n hx=>by
  rw [ZA1 (fun z=>by rw [z,hn] at q;cases q)]
  exact u.free b o q n hx
 there:=u.there
 tups:=fun b xs q=>by rw [ZA1 (ZAG q hH)];exact u.tups b xs q
 frzs:=fun b o xs q=>by rw [ZA1 (ZAG q hH)];exact u.frzs b o xs q
 tbls:=fun b ps q=>by
  obtain ⟨m,hm⟩:=u.tbls b ps q
  exact ⟨m,by rw [ZA1 (ZAG q hH)];exact hm⟩
theorem HOk.forget {P:Program} {w:World} {H:Hp} {h:Heap} {a:Addr} {φ:Heap->Prop} (x:HOk P w H h) (ha:H a=some (.ext φ)):HOk P w (L2.forget H a) h:=fun b o q=>by
 by_cases z:b=a
 .rw [z,forget_same] at q;cases q
 .rw [ZA1 z] at q
  refine (x b o q).stay (fun _ _ _ y=>y) (fun c y=>?_) fun c xs y=>?_
  .rw [ZA1 (fun z=>by rw [z,ha] at y;cases y)];exact y
  .rw [ZA1 (fun z=>by rw [z,ha] at y;cases y)];exact y
noncomputable def ZDK (E:XK) (C:Addr) (sp:Sp) (t:TA):TS:=fun _ σ H=>t σ H fun vs H1=>vs.length <= 1000 /\ ∀ x,H1 x=none->sp (.ref x::vs) (upd H1 x (excM x (.ref C) none)) (fun v H2=>v=.non /\ ∃ dd,H2 x=some (excM x (.ref C) dd) /\ E (.ref C) dd (forget H2 x)) E0
section
variable {P:Program} {w:World} {K:W.Frag} {mg:Str->Option Value} {base:Heap} {N:List Str} {qual:Str} {scope:Scope} {f:Addr} {cd:Value} {A:Around} {outer:List Env} {s:Shared} {H:Hp} {E:XK}
variable {CX:CXT} {k:Nat} {fI C:Addr} {fd:FuncData} {ps:List Str} {sp:Sp} {x:Str} {np cpos pos:Pos} {e:Expr} {es:List Expr} {t:TA}
theorem ps_raiseX (M:XMk K C fI) (F:FnOk P w K mg base CX k fI fd ps sp) (hr:Room (k+1) (cxOf (CXE P w) P w K mg base N qual scope f cd A outer s H E).A) (hg:Gl (cxOf (CXE P w) P w K mg base N qual scope f cd A outer s H E) x) (hm:mg x=some (.ref C)) (hb:Binds K fd ps []) (hx:ZA3 CX (cxOf (CXE P w) P w K mg base N qual scope f cd A outer s H E) E0)
  (ha:PA (cxOf (CXE P w) P w K mg base N qual scope f cd A outer s H E) (e::es) t) (hdb:(x == ("__debug__":Str))=false:=by decide) (he:starEach (e::es) (cxOf (CXE P w) P w K mg base N qual scope f cd A outer s H E).env=(false,eval e (cxOf (CXE P w) P w K mg base N qual scope f cd A outer s H E).env)::starEach es (cxOf (CXE P w) P w K mg base N qual scope f cd A outer s H E).env:=by rfl) (hpl:(backTo cpos (starEach es (cxOf (CXE P w) P w K mg base N qual scope f cd A outer s H E).env)).any (·.1)=false:=by rfl) :
  PS (cxOf (CXE P w) P w K mg base N qual scope f cd A outer s H E) (.Raise (some (.Call (.Name x np) (e::es) [] cpos)) none pos) (ZDK E C sp t):=by
 intro pins s1 σ H1 D I h
 obtain ⟨bm,N',nm,qn,bs,hdct,sn,sub,ab,col,d0,k0,k1,k2,k3,k5,mN,hC,hN,hni,T,hKC⟩:=ZDa I.kIn M.ii
 rw [arm_exec_Raise]
 simp only [evalOpt,Option.map]
 refine wpAny_bind (wpAny_standAt (raiseStmt_madeD (C:=C) (nm:=nm) (q:=qn) (N:=N') (bs:=bs) (bm:=bm) (hdct:=hdct) (sn:=sn) (sub:=sub) (ab:=ab) (col:=col) (dd:=d0) (k0:=k0) (k1:=k1) (k2:=k2) (k3:=k3) (k5:=k5) (newId:="ValueError.__new__") (T.hasType PySem.F.excBase_ValueError.hasBase) (I.ok.hd rfl) ?_))
 refine wpAny_bind (wpAny_Call_Name_kw (ZCO I hg hm ?_ hdb))
 refine PySem.W.callWith_K (h₀:=base) I.ok.mod.kin M.kp (thn (ha cpos pins s1 σ H1 _ I h) fun us s2 ⟨vs,H2,I2,r,hl,q⟩=>⟨I2.kIn,?_⟩) he hpl
 refine run_xmake (us:=us) (Q:=fun v H3=>match v with | .ref x=>∃ dd,H3 x=some (excM x (.ref C) dd) /\ E (.ref C) dd (forget H3 x) | _=>False) M F hr hb hx I2 r (by rw [<- r.length,sizeLine_eq];omega) q fun a H3 s3 hn hH un hok ho hba q2=>?_
 obtain ⟨dd,hxM,hE⟩:=q2
 obtain ⟨o,vs',a0,z1,z2,z3,z4,z5,z6⟩:=ZCI hok hxM
 have I3:=I2.call' (s':=s3) ho un hok hba fun b z=>nomatch z
 refine wpAny_bind (wpAny_standAt (wpAny_pure ?_))
 refine ⟨a,o,vs',rfl,I3.kIn _ _ hKC,z1,z2,z4,z5,?_⟩
 exact raisedD (s2:=s3) I2 (un.forget hn hH) (hok.forget hxM) ho hba hn forget_same z1 z2 z3 z4 z5 z6 hE
end
section
variable {X:Cx}
end
theorem ZD5 {us ds:List Value} {ps:List Str} {n:Nat} (h:(us++ds).length=ps.length) (e:n+ds.length=ps.length):us.length=n:=by
 rw [yAF] at h;omega
noncomputable def Fr (S:List Addr) (H H':Hp):Prop:=∀ b o,b∉S->H b=some o->H' b=some o
theorem Fr.refl {S:List Addr} {H:Hp}:Fr S H H:=fun _ _ _ h=>h
theorem Fr.trans {S:List Addr} {H H' H'':Hp} (e:Fr S H H') (f:Fr S H' H''):Fr S H H'':=fun b o n h=>f b o n (e b o n h)
theorem Same.fr {S:List Addr} {H H':Hp} (e:Same H H'):Fr S H H':=fun b o _ h=>e b o h
end L2
namespace PySem
namespace F
theorem nolen_lri:typeLookup (.type "list_reverseiterator") "__len__"=pure none:=by rw [typeLookup_type,builtinLookup_eq_fast];kernel_rfl
theorem hint_lri:typeLookup (.type "list_reverseiterator") "__length_hint__"=pure (some (.builtin "list_reverseiterator.__length_hint__")):=by rw [typeLookup_type,builtinLookup_eq_fast];kernel_rfl
end F
section
variable {prog:Program} {w:World} {A:Around} {s:Shared} {R:Result->Shared->Prop}
variable {I:Addr} {fp wr:List Addr} {G:Array GenState->Array GenState->Prop} {n:Nat} {P:Nat->Value->Prop} {St:Nat->Shared->Prop}
theorem wpAny_extend_rev (W:WalksS prog w A.in1 I fp wr G n P St) (hT:∀ i s,St i s->s.TypeIs (.ref I) "list_reverseiterator") (S:Addr) (res:Value) (c₀:Nat) (hst:St 0 s) (hSf:S∉fp) (hI:I∈fp)
  (hS:s.heap.get? S=some { cls:=.type "list",data:=.seq #[] c₀ })
  (hR:∀ s' acc' c',Moved (S::wr) G s s'->s'.heap.get? S=some { cls:=.type "list",dict:=none,data:=.seq acc' c',slots:=#[] }->ItemsOf P acc' n->R (.ok (.ret res)) s') (hn:n <= sizeLine) :
  wpAny (model prog w) A.in1 (Builtin.List.listExtendWith (.ref S) (.ref I) res)
   (fun fin s'=>match fin with | .done f=>R (.ok f) s' | .again c'=>c'.quiet=true /\ codeAny (model prog w) A c' R s') (fun e s'=>R (.error e) s') s:=by
 have hSI:S≠I:=fun e=>hSf (e ▸ hI)
 unfold Builtin.List.listExtendWith
 refine wpAny_bind (wpAny_typeOf (hT 0 _ hst) ?_)
 have h1:Builtin.List.listSameRef (.ref S) (.ref I)=false:=by simp [Builtin.List.listSameRef,hSI]
 rw [if_neg (by rw [h1];decide)]
 refine wpAny_bind (W.self 0 _ _ _ hst ?_)
 refine wpAny_bind (wpAny_holding ?_)
 unfold Builtin.List.listLengthHint
 refine wpAny_bind (wpAny_specialOf (hT 0 _ hst) F.nolen_lri ?_)
 show wpAny _ A.in1 (specialOf (Value.ref I) (Str.ofString "__length_hint__") >>= _) _ _ _
 refine wpAny_bind (wpAny_specialOf (hT 0 _ hst) F.hint_lri ?_)
 (generalize hid:("list_reverseiterator.__length_hint__":String)=id0;(fail_if_success (clear hid id0));wp_delta;rw [show splitId id0=some ("list_reverseiterator","__length_hint__") from by subst hid;decide +kernel];subst hid)
 refine wpAny_bind (wpAny_isInstance (b:=true) (hT 0 _ hst) (by rw [isSubtype_type];kernel_rfl) ?_)
 refine wpAny_pure ?_
 rw [if_neg (by decide)]
 refine wpAny_pure ⟨plainId_quiet F.plain_extend_loop _,codeAny_extend_loopS W hn _ hSf _ n 0 _ _ _ rfl (yAC _) hst hS (ItemsOf.nil P) fun s' acc' c' hm hS' hacc=>?_⟩
 exact hR s' acc' c' hm hS' hacc
theorem wpAny_list_init_rev (W:WalksS prog w A.in1 I fp wr G n P St) (hT:∀ i s,St i s->s.TypeIs (.ref I) "list_reverseiterator") (S:Addr) (hst:St 0 s) (hSf:S∉fp) (hI:I∈fp)
  (hS:s.heap.get? S=some { cls:=.type "list",data:=.seq #[] })
  (hR:∀ s' acc' c',Moved (S::wr) G s s'->s'.heap.get? S=some { cls:=.type "list",dict:=none,data:=.seq acc' c',slots:=#[] }->ItemsOf P acc' n->R (.ok (.ret .none)) s') (hn:n <= sizeLine) :
  wpAny (model prog w) A.in1 (Builtin.«list.__init__» ⟨[.ref S,.ref I],[]⟩)
   (fun fin s'=>match fin with | .done f=>R (.ok f) s' | .again c'=>c'.quiet=true /\ codeAny (model prog w) A c' R s') (fun e s'=>R (.error e) s') s:=by
 show wpAny _ A.in1 (do let old <- Builtin.List.listItems (.ref S);Builtin.List.listUpdate (.ref S) (fun _=>#[]);letGo old.toList.reverse;Builtin.List.listExtendWith (.ref S) (.ref I) .none) _ _ s
 refine wpAny_bind ?_
 unfold Builtin.List.listItems
 refine wpAny_bind (wpAny_seqItems hS rfl (wpAny_pure ?_))
 show wpAny _ A.in1 (updateSeq S (fun _=>#[]) >>= fun _=>letGo (#[]:Array Value).toList.reverse >>= fun _=>Builtin.List.listExtendWith (.ref S) (.ref I) .none) _ _ s
 refine wpAny_bind (wpAny_updateSeq hS rfl ?_)
 have hS₂:=Heap.get?_update_self (Obj.mapSeq (fun _=>(#[]:Array Value))) hS rfl
 have oth:∀ b o,b≠S->s.heap.get? b=some o->(s.heap.update S (Obj.mapSeq (fun _=>(#[]:Array Value)))).get? b=some o :=
  fun b o hb e=>(Heap.get?_update_other _ _ (Ne.symm hb)).trans e
 refine wpAny_bind (wpAny_letGo ?_)
 refine wpAny_extend_rev (hn:=hn) W hT S .none _ (W.frame 0 s _ s.toks hst (yAA _) fun b hb o e=>oth b o (fun h=>hSf (h ▸ hb)) e) hSf hI hS₂ fun s' acc' c' hm hS' hacc=>?_
 exact hR s' acc' c' (Moved.trans W.gtrans ((Moved.refl W.grefl).then_heap (yAA _) fun b o hb e=>oth b o (fun h=>hb (h ▸ yAN)) e) hm) hS' hacc
end
section
variable {prog:Program} {w:World} {A:Around} {E:Value->Shared->Prop} {s:Shared}
variable {I:Addr} {fp wr:List Addr} {G:Array GenState->Array GenState->Prop} {n:Nat} {P:Nat->Value->Prop} {St:Nat->Shared->Prop}
theorem call_list_revW {Q:Value->Shared->Prop} (W:WalksS prog w A.in1.in1 I fp wr G n P St) (hT:∀ i s,St i s->s.TypeIs (.ref I) "list_reverseiterator") (hst:St 0 s) (hfp:∀ b∈fp,b < s.heap.objs.size) (hI:I∈fp)
  (hQ:∀ s' acc' c',Moved (s.heap.objs.size::wr) G { s with heap:=s.heap.push { cls:=.type "list",data:=.seq #[] } } s' ->
   s'.heap.get? s.heap.objs.size=some { cls:=.type "list",dict:=none,data:=.seq acc' c',slots:=#[] }->ItemsOf P acc' n->Q (.ref s.heap.objs.size) s') (hn:n <= sizeLine) :
  wpAny (model prog w) A (call (.type "list") [.ref I]) Q E s:=by
 have hSf:s.heap.objs.size∉fp:=fun hm=>yBB _ (hfp _ hm)
 refine callType_codes (Q₁:=fun obj s₁=>obj=.ref s.heap.objs.size /\ s₁={ s with heap:=s.heap.push { cls:=.type "list",data:=.seq #[] } }) F.called_list (F.typeCall_list_1 _) F.entry_list_init
  (code_list_new _ ⟨rfl,rfl⟩) fun obj s₁ h₁=>?_
 obtain ⟨rfl,rfl⟩:=h₁
 have hS:(s.heap.push { cls:=.type "list",data:=.seq #[] }).get? s.heap.objs.size=some { cls:=.type "list",data:=.seq #[] }:=Heap.get?_push_size _ rfl
 refine ⟨⟨_,hS,rfl⟩,F.args_list_init_2 _ _,wpAny_list_init_rev (hn:=hn) W hT _ (W.frame 0 s _ s.toks hst (yAA _) fun b _ o e=>Heap.get?_push_of_some _ e) hSf hI hS fun s' acc' c' hm hS' hacc=>?_⟩
 exact ⟨rfl,hQ s' acc' c' hm hS' hacc⟩
end
end PySem
namespace L2
open PySem PySem.Spec PyProof.Rows
noncomputable def ZEn (K:W.Frag) (t:TA):TE:=fun σ H Q=>t σ H fun vs H1=>∃ (l:Addr) (ys:List V),vs=[.ref l] /\ SqL K H1 l ys /\ ∀ r,H1 r=none->Q (.ref r) (upd H1 r (.lst ys.reverse))
section
variable {X:Cx} {e:Expr} {ta:TA} {p p2 pos pos2:Pos}
theorem pe_list_rev (hc:X.calm=true) (hg:Gl X "list") (hm:X.mg "list"=none) (hg2:Gl X "reversed") (hm2:X.mg "reversed"=none) (ha:PA X [e] ta)
  (he:starEach [.Call (.Name "reversed" p2) [e] [] pos2] X.env=(false,eval (.Call (.Name "reversed" p2) [e] [] pos2) X.env)::starEach [] X.env:=by rfl) (hpl:(backTo pos (starEach [] X.env)).any (·.1)=false:=by rfl)
  (he2:starEach [e] X.env=(false,eval e X.env)::starEach [] X.env:=by rfl) (hpl2:(backTo pos2 (starEach [] X.env)).any (·.1)=false:=by rfl) :
  PE X (.Call (.Name "list" p) [.Call (.Name "reversed" p2) [e] [] pos2] [] pos) (ZEn X.K ta):=by
 intro pins s σ H Q I h
 refine wpAny_Call_Name_kw (ZCR I hg hm PyProof.Rows.boot_list ?_ (by decide) (by decide))
 refine PyProof.Rows.callWith_type1 ?_ he hpl
 rw [he]
 show wpAny _ _ (spliced ((false,eval (.Call (.Name "reversed" p2) [e] [] pos2) X.env)::backTo pos (starEach [] X.env))) _ _ s
 refine Calls.spliced_cons ?_
 refine wpAny_Call_Name_kw (ZCR I hg2 hm2 PyProof.Rows.boot_reversed ?_ (by decide) (by decide))
 refine PyProof.Rows.callWith_type1 (thn (ha pos2 pins s σ H _ I h) fun us s1 zz=>?_) he2 hpl2
 obtain ⟨vs,H1,I1,r1,q1⟩:=zz
 obtain ⟨l,ys,rfl,hl,q⟩:=q1
 obtain ⟨u,rfl,rx⟩:=ZCj r1
 cases rx
 obtain ⟨its,r',pl,hz⟩:=I1.list hl
 have hlt:l < s1.heap.objs.size:=by obtain ⟨o,ho,_⟩:=pl.isList;exact Heap.lt_size ho
 refine call_reversed_list pl.isList ?_
 refine Calls.spliced_nil ?_
 have hh:X.A.handled=none:=I1.ok.hd hc
 have hne:l≠s1.heap.objs.size:=yAE hlt
 have W:=(Walks.listRev (prog:=X.prog) (w:=X.w) (A:=X.A.in1.in1) hh s1.heap.objs.size l hne its.toArray).toS
 have hsz:its.toArray.size=its.length:=yAL ..
 have hlen:=r'.length
 refine call_list_revW W (fun i s st=>st.2.1.typeIs) ⟨yAC _,⟨_,Heap.get?_push_size _ rfl,rfl,by simp [revObj]⟩,pl.isList.at fun o e=>Heap.get?_push_of_some _ e⟩ (fun b hb=>?_) yAN (fun s' acc' c' hm hS' hacc=>?_) (by rw [hsz];omega)
 .rcases yAG.mp hb with z | z
  .rw [z];exact Heap.lt_size (Heap.get?_push_size _ rfl)
  .rw [yAW.mp z]
   obtain ⟨o,ho,_⟩:=pl.isList
   exact Heap.lt_size (Heap.get?_push_of_some _ ho)
 .rw [Moved.eq_with hm]
  have hge:s1.heap.objs.size <= (s1.heap.push (revObj l ((its.toArray.size:Int)-1))).objs.size:=yBH (Heap.lt_size (Heap.get?_push_size _ rfl))
  have e:acc'.toList=its.reverse:=by
   refine List.ext_getElem? fun j=>?_
   have sz:acc'.toList.length=its.length:=by rw [yAH,hacc.1,hsz]
   by_cases hj:j < its.length
   .have h1:acc'.toList[j]?=some (acc'.toList[j]'(by omega)):=yAM (by omega)
    have h2:=hacc.2 j _ (by rw [<- yAU];exact h1)
    rw [h1,<- h2,List.getElem?_reverse hj,hsz]
    simp
   .rw [yBF (by omega),yBF (by rw [yBX];omega)]
  refine ⟨.ref _,_,I1.laid (h':=s'.heap) (t':=s'.toks) (o:=.lst ys.reverse) (a:=(s1.heap.push (revObj l ((its.toArray.size:Int)-1))).objs.size) (fun b u hb=>hm.heap b u (fun z=>?_) (Heap.get?_push_of_some _ (Heap.get?_push_of_some _ hb))) hge ⟨by rw [yBX];exact hz,acc'.toList,c',by rw [e];exact r'.reverse,by simpa using hS'⟩,rfl,q _ (I1.hok.fresh hge)⟩
  have hbl:=Heap.lt_size hb
  rcases yAG.mp z with z | z
  .rw [z] at hbl;exact absurd hbl (Nat.not_lt.mpr hge)
  .rw [yAW.mp z] at hbl;exact yBB _ hbl
end
theorem eqD_refl {K:W.Frag} {H:Hp} {x y:V} {d:PyData} {Q:VK} (hx:Dp K H d x) (hy:Dp K H d y) (hc:d.canLay0=true) (hd:d.depth <= 64) (q:Q (.bl true) H):rEqD K x y H Q :=
 ⟨d,d,hx,hy,hc,hc,hd,by rw [PySem.SeqAt.eqv_refl d hc];exact q⟩
theorem ZDV {K:W.Frag} {H:Hp} {x y:V} {d:PyData} {Q:VK} (hx:Dp K H d x) (hy:Dp K H d y) (hc:d.canLay0=true) (hd:d.depth <= 64) (q:Q (.bl false) H):rNeD K x y H Q :=
 ⟨d,d,hx,hy,hc,hc,hd,by rw [PySem.SeqAt.eqv_refl d hc];exact q⟩
noncomputable def compR2 (g:TG) (tt:TT) (te:TE) (σ0:St) (Q:VK) (x y:V) (H1:Hp):Prop:=∃ i j:Int,[x,y]=[.int i,.int j] /\ (-(2 ^ 62) <= i /\ i < 2 ^ 62 /\ -(2 ^ 62) <= j /\ j < 2 ^ 62) /\ compR i g tt te σ0 Q (j-i).toNat H1
theorem tCompR2_eq {k:Nat} {js:List Nat} {t u:TE} {g:TG} {tt:TT} {te:TE} {σ:St} {H:Hp} {Q:VK}:ZDc k js (ZEw (ZBw t (ZBw u tNil))) g tt te σ H Q=t σ H (fun x H1=>u σ H1 fun y H2=>compR2 g tt te (up k js σ) Q x y H2):=rfl
theorem compR2_of {i j:Int} {g:TG} {tt:TT} {te:TE} {Q:VK} {σ0:St} {H:Hp} (h:-1000 <= i /\ i <= 1000 /\ -1000 <= j /\ j <= 1000) (P:Nat->List V->St->Hp->Prop) (h0:P 0 [] σ0 H) (hl:∀ i ys σ H,P i ys σ H->ys.length <= i)
  (hs:∀ n ys σ H,n < (j-i).toNat->P n ys σ H->g (.int (i+n)) σ H fun σ2 H2=>tt σ2 H2 fun b H3=>if b=true then te σ2 H3 fun y H4=>Nxt P (j-i).toNat n (ys++[y]) σ2 H4 else Nxt P (j-i).toNat n ys σ2 H3)
  (hd:∀ ys σ H,P (j-i).toNat ys σ H->∀ p,H p=none->Q (.ref p) (upd H p (.lst ys))):compR2 g tt te σ0 Q (.int i) (.int j) H :=
 ⟨i,j,rfl,by omega,comp_range P h0 hl (yAD (show (j-i).toNat <= 2000 by omega) (by decide)) hs hd⟩
section
variable {X:Cx}
theorem call_sumB (hc:X.calm=true):ZBr X (.builtin "sum") (fun xs H Q=>∃ (p:Addr) (ns:List Int),xs=[.ref p] /\ SqL X.K H p (ns.map V.int) /\ Q (.int ns.sum) H):=by
 intro pins s σ H xs us Q I r h
 obtain ⟨p,ns,rfl,hq,q⟩:=h
 obtain ⟨u,rfl,rx⟩:=ZCj r
 cases rx
 obtain ⟨its,r',pl,hz⟩:=I.list hq
 have hlen:=r'.length
 rw [yAB] at hlen
 have hh:X.A.handled=none:=I.ok.hd hc
 have hl:=pl.isList
 have hlt:p < s.heap.objs.size:=by obtain ⟨_,e,_⟩:=hl;exact Heap.lt_size e
 refine call_sum_walkG (wpAny_pyIter_list hl ⟨s.heap.objs.size,_,_,_,_,_,fun i=>ns.getD i 0,rfl,Walks.list (A:=X.A.in1) hh s.heap.objs.size p (yAE hlt) its.toArray,⟨⟨_,Heap.get?_push_size _ rfl,rfl,rfl⟩,hl.push _⟩,fun b hb=>?_,fun i v hP=>?_,fun h' tk t' hk=>?_⟩)
 .have hb':b=s.heap.objs.size∨b=p:=by simpa using hb
  show b < (s.heap.push _).objs.size
  rw [Heap.size_push]
  rcases hb' with rfl | rfl
  .exact yBN _
  .exact Nat.lt_succ_of_lt hlt
 .have hP':its[i]?=some v:=by simpa using hP
  have hi:i < its.length:=(yAX.mp hP').1
  obtain ⟨b,hb⟩:∃ b,ns[i]?=some b:=⟨_,yAM (by omega)⟩
  obtain ⟨u,hu,ru⟩:=r'.get (i:=i) (x:=.int b) (by rw [yAP,hb];rfl)
  rw [hP'] at hu
  cases hu
  obtain ⟨t,rfl⟩:=ru
  refine ⟨t,?_⟩
  show _=Value.int (ns.getD i 0) t
  rw [yBM,hb]
  rfl
 .refine ⟨.int ns.sum,H,I.kept (t':=tk) (fun b o e=>hk b o ?_ (Heap.get?_push_of_some _ e)),⟨t',?_⟩,q⟩
  .intro z
   have:b=s.heap.objs.size:=by simpa using z
   exact absurd (Heap.lt_size e) (by rw [this];exact yBB _)
  .have:its.toArray.size=ns.length:=by simp [hlen]
   rw [this,ZCC ns ns.length (yAA _),List.take_length]
end
noncomputable def Itz (K:W.Frag) (a b:Addr):It :=
 ⟨fun i H=>∃ xs x ys y,SqL K H a xs /\ xs[i]?=some x /\ SqL K H b ys /\ ys[i]?=some y,fun i H v H'=>∃ p x y,H p=none /\ (∀ xs,SqL K H a xs->xs[i]?=some x) /\ (∀ ys,SqL K H b ys->ys[i]?=some y) /\ H'=upd H p (.tup [x,y]) /\ v=.ref p,fun i H=>∃ xs ys,SqL K H a xs /\ SqL K H b ys /\ (xs.length <= i∨ys.length <= i)⟩
section
variable {X:Cx}
noncomputable def iZip (K:W.Frag) (ta:TA):TI:=fun σ H R=>ta σ H fun vs H1=>∃ a b,vs=[.ref a,.ref b] /\ (∃ xs,SqL K H1 a xs) /\ (∃ xs,SqL K H1 b xs) /\ R (Itz K a b) H1
end
section
variable {K:W.Frag} {a b:Addr} {xs ys:List V} {g:TG} {tb:TS} {D:Ends} {σ:St} {H:Hp}
noncomputable def forZ (K:W.Frag) (g:TG) (tb:TS) (D:Ends) (σ:St) (x y:V) (H1:Hp):Prop:=∃ a b,[x,y]=[.ref a,.ref b] /\ (∃ xs,SqL K H1 a xs) /\ (∃ xs,SqL K H1 b xs) /\ ∃ W:Nat->Nat->St->Hp->Prop,(∃ m,W 0 m σ H1) /\ ∀ i m σ H,W i m σ H ->
 ((Itz K a b).stop i H /\ D.nx σ H)∨((Itz K a b).go i H /\ ∃ N:St->Hp->Prop,(∀ σ' H',N σ' H'->∃ m',m' < m /\ W (i+1) m' σ' H') /\ ∀ x H',(Itz K a b).yld i H x H'->g x σ H' fun σ2 H2=>tb { D with nx:=N,ct:=N,bk:=D.nx } σ2 H2)
theorem tForZ_eq {t u:TE}:tFor (iZip K (ZBw t (ZBw u tNil))) g tb D σ H=t σ H (fun x H1=>u σ H1 fun y H2=>forZ K g tb D σ x y H2):=rfl
end
section
open PySem.SeqAt
open PySem.AutoSeq1 (wpAny_loadPart')
open PySem.MeetsSeq PySem.MeetsSeq2 PySem.MeetsSeq3 HT
end
section
variable {prog:Program} {w:World} {A:Around} {E:Value->Shared->Prop} {s:Shared}
end
section
variable {X:Cx}
end
section
variable {κ:Type} [DecidableEq κ]
noncomputable def valV (kvs:List (κ×V)) (k:κ):Option V:=(kvs.find? fun kv=>decide (kv.1=k)).map (·.2)
noncomputable def putK (kvs:List (κ×V)) (k:κ) (v:V):List (κ×V) :=
 if (kvs.any fun kv=>decide (kv.1=k))=true then kvs.map (fun kv=>if kv.1=k then (kv.1,v) else kv) else kvs++[(k,v)]
end
section
variable {P:Program} {w:World} {H:Hp} {h:Heap} {a:Addr}
end
noncomputable def DGet (H:Hp) (a:Addr) (y:V) (r:Option V):Prop :=
 (∃ kvs k,Rd H a (.dK kvs) /\ y=kV k /\ r=valV kvs k)∨∃ kvs k b,Rd H a (.dT kvs) /\ y=.ref b /\ H b=some (.tup (k.map kV)) /\ r=valV kvs k
noncomputable def DPut (H:Hp) (a:Addr) (y v:V) (H':Hp):Prop :=
 (∃ kvs k,H a=some (.dK kvs) /\ y=kV k /\ kvs.length < sizeLine /\ H'=upd H a (.dK (putK kvs k v))) ∨
 ∃ kvs k b,H a=some (.dT kvs) /\ y=.ref b /\ H b=some (.tup (k.map kV)) /\ kvs.length < sizeLine /\ H'=upd H a (.dT (putK kvs k v))
section
variable {X:Cx} {pins:List (Addr×Obj)} {σ:St} {H:Hp} {s:Shared} {a:Addr} {y v:V} {u r:Value} {o:Option V} {A:Around} {E:Value->Shared->Prop}
end
section
variable {X:Cx} {pins:List (Addr×Obj)} {σ:St} {H:Hp} {s:Shared} {a:Addr} {kvs:List (Key×V)} {k:Key} {u:Value} {A:Around} {E:Value->Shared->Prop}
end
noncomputable def tDGet (td ty:TE):TE:=fun σ H Q=>td σ H fun x H1=>ty σ H1 fun y H2=>∃ a v,x=.ref a /\ DGet H2 a y (some v) /\ Q v H2
noncomputable def tDIn (ty td:TE):TE:=fun σ H Q=>ty σ H fun y H1=>td σ H1 fun x H2=>∃ a o,x=.ref a /\ DGet H2 a y o /\ Q (.bl o.isSome) H2
noncomputable def tDNotIn (ty td:TE):TE:=fun σ H Q=>ty σ H fun y H1=>td σ H1 fun x H2=>∃ a o,x=.ref a /\ DGet H2 a y o /\ Q (.bl (!o.isSome)) H2
noncomputable def sDPut (td ty tv:TE):TS:=fun D σ H=>tv σ H fun v H1=>td σ H1 fun x H2=>ty σ H2 fun y H3=>∃ a H4,x=.ref a /\ DPut H3 a y v H4 /\ D.nx σ H4
section
variable {X:Cx} {o i e value:Expr} {pos pos' tpos:Pos} {td ty tv:TE}
end
noncomputable def tDNewK:TE:=fun _ H Q=>∀ p,H p=none->Q (.ref p) (upd H p (.dK []))
noncomputable def tDNewT:TE:=fun _ H Q=>∀ p,H p=none->Q (.ref p) (upd H p (.dT []))
section
variable {X:Cx} {pos:Pos}
end
end L2
namespace PySem
open Sem (wp)
namespace F
end F
section
variable {α:Type} {prog:Program} {w:World} {A:Around} {E:Value->Shared->Prop} {s:Shared}
end
section
variable {prog:Program} {w:World} {A:Around} {E:Value->Shared->Prop} {h:Heap} {g:Array GenState} {d:Drawn} {t:Nat} {os:OsState} {a:Addr} {its:Array Value} {n:Nat}
end
end PySem
namespace PySem
namespace F
end F
end PySem
namespace L2
open PySem PySem.Spec PyProof.Rows
section
variable {X:Cx} {pins:List (Addr×Obj)} {σ:St} {H:Hp} {s1:Shared} {A:Around}
end
end L2
namespace PySem
section
variable {prog:Program} {w:World} {A:Around} {E:Value->Shared->Prop} {s:Shared} {zo ti to:Addr} {f0 f1:Value}
end
end PySem
namespace L2
open PySem PySem.Spec PyProof.Rows
section
variable {X:Cx}
end
section
variable {K:W.Frag} {a b:Addr} {xs ys:List V} {g:TG} {σ:St} {H:Hp} {tt:TT} {te:TE} {Q:VK} {σ0:St}
noncomputable def compZ (K:W.Frag) (g:TG) (tt:TT) (te:TE) (σ0:St) (Q:VK) (x y:V) (H1:Hp):Prop:=∃ a b,[x,y]=[.ref a,.ref b] /\ (∃ xs,SqL K H1 a xs) /\ (∃ xs,SqL K H1 b xs) /\ ∃ W:Nat->Nat->List V->St->Hp->Prop,(∃ m,W 0 m [] σ0 H1) /\ ∀ i m zs σ H,W i m zs σ H ->
 ((Itz K a b).stop i H /\ zs.length <= sizeLine /\ ∀ p,H p=none->Q (.ref p) (upd H p (.lst zs))) ∨
 ((Itz K a b).go i H /\ zs.length < sizeLine /\ ∀ x H',(Itz K a b).yld i H x H'->g x σ H' fun σ2 H2=>tt σ2 H2 fun b H3=>if b=true then te σ2 H3 fun y H4=>∃ m',m' < m /\ W (i+1) m' (zs++[y]) σ2 H4 else ∃ m',m' < m /\ W (i+1) m' zs σ2 H3)
theorem tCompZ_eq {k:Nat} {js:List Nat} {t u:TE}:ZDc k js (iZip K (ZBw t (ZBw u tNil))) g tt te σ H Q=t σ H (fun x H1=>u σ H1 fun y H2=>compZ K g tt te (up k js σ) Q x y H2):=rfl
end
theorem pe_bm0K (K:W.Frag) {X:Cx} {T id:String} {name:Str} {o:Expr} {to:TE} {r:V->List V->Hp->VK->Prop} {apos cpos:Pos} (pa:PlainAttrs T) (slot:Slot T name id) (hty:typeOf (.builtin id)=pure (.type "method_descriptor")) (hm:MtR X id r) (ho:PE X o to)
  (hb:attributeBase o name X.env (eval o X.env)=eval o X.env:=by rfl) (hli:(apos.endLine == cpos.line)=true:=by rfl) (h:X.K=K:=by rfl):PE X (.Call (.Attribute o name apos) [] [] cpos) (tBM0 K T r to):=h ▸ pe_bm0 pa slot hty hm ho hb hli
section
variable {X:Cx}
end
section
variable {X:Cx}
end
section
variable {X:Cx}
end
open PySem PySem.Spec PySem.W PySem.Calls PyProof.Rows Builtin.Getset_descriptor Builtin.ObjectAttr
structure XKl (P:Program) (w:World) (K:W.Frag) (mg:Str->Option Value) (base:Heap) (CX:CXT) (x:Str) (C:Addr) (k:Nat) (ps:List Str) (sp:Sp):Prop where
 mgC:mg x=some (.ref C)
 ex:∃ f fd,FnOk P w K mg base CX k f fd ps sp /\ Binds K fd ps [] /\ XMk K C f
structure XBase (K:W.Frag) (C:Addr):Prop where
 gs:specialIn K (.ref C) "__getattribute__"=some (some (.builtin "type.__getattribute__"))
 rd:readsIn K C (.type "type")=true
 fc:findCls K (.ref C) (.type "type") "__init__"=some (.val (.builtin "ValueError.__init__"))
section
variable {X:Cx} {CX:CXT} {k:Nat} {ps:List Str} {sp:Sp} {E:XK} {x m:Str} {C:Addr} {p np pos apos:Pos} {e o:Expr} {es:List Expr} {ta:TE} {t:TA}
theorem call_verrK:ZBr X (.builtin "ValueError.__init__") (fun xs H Q=>∃ e C dd v,xs=[.ref e,v] /\ H e=some (excM e (.ref C) dd) /\ (∃ fI,ZCU X.K C fI bmV "ValueError.__new__"=true) /\ Q .non H):=by
 intro pins s σ H xs us Q I r h
 obtain ⟨e,C,dd,v,h1,h2,⟨fI,h3⟩,q⟩:=h
 exact call_verr fI pins s σ H xs us Q I r ⟨e,C,dd,v,h1,h2,h3,q⟩
theorem pe_clsV {pl:Sem Bool} (B:XBase X.K C) (hm:X.mg x=some (.ref C)) (hg:Gl X x) (ha:PA X (e::es) t) (hdb:(x == ("__debug__":Str))=false:=by decide)
  (he:starEach (e::es) X.env=(false,eval e X.env)::starEach es X.env:=by rfl) (hpl:(backTo pos (starEach es X.env)).any (·.1)=false:=by rfl)
  (ht:eval (.Call (.Attribute (.Name x np) "__init__" apos) (e::es) [] pos) X.env=(do
   let ov <- eval (.Name x np) X.env
   standAt apos.atName
   let (f,first) <- holding [ov] (getMethod ov "__init__" pl)
   callWith pos f first (backTo pos (starEach (e::es) X.env)) (backToKw pos (keywordEach [] X.env))):=by rfl) :
  PE X (.Call (.Attribute (.Name x np) "__init__" apos) (e::es) [] pos) (tCB (fun xs H Q=>∃ e C dd v,xs=[.ref e,v] /\ H e=some (excM e (.ref C) dd) /\ (∃ fI,ZCU X.K C fI bmV "ValueError.__new__"=true) /\ Q .non H) t) :=
 pe_clsB (pl:=pl) call_verrK hg hm B.gs B.rd B.fc (by decide +kernel) ha hdb he hpl ht
end
section
variable {P:Program} {w:World} {K:W.Frag} {mg:Str->Option Value} {base:Heap} {N:List Str} {qual:Str} {scope:Scope} {f:Addr} {cd:Value} {A:Around} {outer:List Env} {s:Shared} {H:Hp} {E:XK}
variable {CX:CXT} {k:Nat} {C:Addr} {ps:List Str} {sp:Sp} {x:Str} {np cpos pos:Pos} {e:Expr} {es:List Expr} {t:TA}
theorem ps_raiseK (F:XKl P w K mg base CX x C k ps sp) (hr:Room (k+1) (cxOf (CXE P w) P w K mg base N qual scope f cd A outer s H E).A) (hg:Gl (cxOf (CXE P w) P w K mg base N qual scope f cd A outer s H E) x) (hx:ZA3 CX (cxOf (CXE P w) P w K mg base N qual scope f cd A outer s H E) E0)
  (ha:PA (cxOf (CXE P w) P w K mg base N qual scope f cd A outer s H E) (e::es) t) (hdb:(x == ("__debug__":Str))=false:=by decide) (he:starEach (e::es) (cxOf (CXE P w) P w K mg base N qual scope f cd A outer s H E).env=(false,eval e (cxOf (CXE P w) P w K mg base N qual scope f cd A outer s H E).env)::starEach es (cxOf (CXE P w) P w K mg base N qual scope f cd A outer s H E).env:=by rfl) (hpl:(backTo cpos (starEach es (cxOf (CXE P w) P w K mg base N qual scope f cd A outer s H E).env)).any (·.1)=false:=by rfl) :
  PS (cxOf (CXE P w) P w K mg base N qual scope f cd A outer s H E) (.Raise (some (.Call (.Name x np) (e::es) [] cpos)) none pos) (ZDK E C sp t):=by
 obtain ⟨fI,fd,h1,h2,h3⟩:=F.ex
 exact ps_raiseX h3 h1 hr hg F.mgC h2 hx ha hdb he hpl
end
noncomputable def tMethS (C:Addr) (m:Str) (sp:Sp) (E:St->XK) (ta:TE) (t:TA):TE:=fun σ H Q=>ta σ H fun x H1=>∃ a dx fs,x=.ref a /\ H1 a=some (.ins C dx fs) /\ fs.lookup m=none /\ t σ H1 fun vs H2=>sp (x::vs) H2 Q (E σ)
section
variable {X:Cx} {CX:CXT} {k:Nat} {ps:List Str} {sp:Sp} {E:St->XK} {x m:Str} {C:Addr} {p pos apos:Pos} {e o:Expr} {es:List Expr} {ta:TE} {t:TA}
end
section
variable {P:Program} {w:World} {K:W.Frag} {mg:Str->Option Value} {base:Heap} {N ps:List Str} {qual:Str} {scope:Scope} {f:Addr} {cd:Value} {A:Around} {outer:List Env} {s s1:Shared} {H:Hp} {E:XK} {us:List Value} {vs:List V}
end
section
variable {X:Cx} {k:Nat} {ps:List Str} {sp:Sp} {x:Str} {p pos:Pos} {e:Expr} {es:List Expr} {t:TA}
end
noncomputable def ZD6 (K:W.Frag) (ta:TE) (f:Str):TE:=fun σ H Q=>ta σ H fun x H1=>∃ a C d fs v,x=.ref a /\ (H1 a=some (excO a (.ref C) (some d))∨H1 a=some (excM a (.ref C) (some d))) /\ H1 d=some (xdM d fs) /\ ExcC K C /\ PySem.W.hasDictIn K C=true /\ W.findIn K (.ref C) f=some none /\ fs.lookup f=some v /\ Q v H1
theorem pe_xfldM {X:Cx} {e:Expr} {f:Str} {pos:Pos} {ta:TE} (he:PE X e ta) (hb:attributeBase e f X.env (eval e X.env)=eval e X.env):PE X (.Attribute e f pos) (ZD6 X.K ta f):=by
 intro pins s σ H Q I h
 refine attr_of hb (thn (he pins s σ H _ I h) fun u s1 zz=>?_)
 obtain ⟨x,H1,I1,rx,a,C,d,fs,v,ex,ea,ed,F,hd,hn,l,q⟩:=zz
 subst ex
 obtain rfl:u=Value.ref a:=rx
 obtain ⟨o,z1,z2,z3,vs,z4⟩:∃ o,s1.heap.get? a=some o /\ o.cls=.ref C /\ o.dict=some d /\ ∃ vs,o.data=.fields vs:=by
  rcases ea with ea | ea
  .obtain ⟨⟨o,z1,z2,z3,vs,z4⟩,_,_⟩:=(show ObjOk X.prog X.w H1 s1.heap a (excO a (.ref C) (some d)) from I1.hok a _ ea)
   exact ⟨o,z1,z2,z3,vs,z4⟩
  .obtain ⟨o,vs,a0,z1,z2,z3,z4,_⟩:=ZCI I1.hok ea
   exact ⟨o,z1,z2,z3,vs,z4⟩
 obtain ⟨⟨mA,hns,r⟩,_,_⟩:=(show ObjOk X.prog X.w H1 s1.heap d (xdM d fs) from I1.hok d _ ed)
 obtain ⟨od,hod,hl⟩:=ZCu hns
 obtain ⟨u',hu,ru⟩:=RelO.some_of (v:=v) (o:=mA f) (by rw [<- l];exact r f)
 have J:PySem.W.InstAt s1.heap a o C (some od):=⟨z1,z2,by unfold notCls;rw [z4],by rw [z3];exact hod⟩
 obtain ⟨hh,g,dd,t,os⟩:=s1
 exact exc_value I1.kIn F J (PySem.W.findObj_own hd hn rfl (by rw [hl,hu])) (handed_of ru) ⟨v,H1,I1.tok _,ru,q⟩
theorem pe_xfldMK {X:Cx} {e:Expr} {f:Str} {pos:Pos} {ta:TE} (K:W.Frag) (he:PE X e ta) (hb:attributeBase e f X.env (eval e X.env)=eval e X.env) (h:X.K=K:=by rfl):PE X (.Attribute e f pos) (ZD6 K ta f):=h ▸ pe_xfldM he hb
end L2
namespace PySem
section
variable {M:Model} {A:Around} {E:Value->Shared->Prop} {s:Shared}
end
end PySem
namespace L2
open PySem PySem.Spec PySem.W PySem.Calls PyProof.Rows
theorem ObjOk.ex {P:Program} {w:World} {H:Hp} {h:Heap} {a:Addr} {o:HO} (x:ObjOk P w H h a o):∃ ob,h.get? a=some ob:=by
 cases o with
 | lst xs=>obtain ⟨_,_,_,_,e⟩:=x;exact ⟨_,e⟩
 | tup xs=>obtain ⟨_,_,_,ob,e,_⟩:=x;exact ⟨_,e⟩
 | dK kvs=>obtain ⟨_,_,_,_,ob,es,ep,e,_⟩:=x;exact ⟨_,e⟩
 | dT kvs=>obtain ⟨_,_,_,_,ob,es,ep,e,_⟩:=x;exact ⟨_,e⟩
 | set S n=>obtain ⟨ob,es,ep,t,e,_⟩:=x;exact ⟨_,e⟩
 | ins C dx fs=>obtain ⟨_,_,_,e,_⟩:=x;exact ⟨_,e⟩
 | own y=>obtain ⟨_,e⟩:=x;exact ⟨_,e⟩
 | xd fs=>obtain ⟨_,⟨_,_,_,e,_⟩,_⟩:=x;exact ⟨_,e⟩
 | rng lo hi=>obtain ⟨_,_,_,e⟩:=x;exact ⟨_,e⟩
 | frz ob u=>obtain ⟨e,_⟩:=x;exact ⟨_,e⟩
 | tbl ps=>exact ⟨_,(show h.get? a=some _ from x)⟩
 | met f y=>exact ⟨_,(show h.get? a=some _ from x)⟩
 | ext φ=>obtain ⟨_,⟨_,e⟩,_⟩:=x;exact ⟨_,e⟩
noncomputable def XF (X:Cx) (E:XK):Value->Shared->Prop:=fun e s'=>∃ (pins:List (Addr×Obj)) (σ:St) (H1:Hp) (s1:Shared) (ea:Addr) (cls:Value) (dd:Option Addr) (H':Hp) (B:Heap) (a0:Value) (fl:Value),
 e=.ref ea /\ Inv X pins σ H1 s1 /\ s'.os=s1.os /\ AllBare s'.gens /\ Un (frs X.stack) [] H1 H' s1.heap s'.heap /\ HOk X.prog X.w H' s'.heap /\ H' ea=none /\ s1.heap.get? ea=none /\
 (fl=.none∨fl=rawInt X.env.locals) /\ B.StaysIn s'.heap /\ B.get? ea=none /\ s'.heap.FunFrames B X.stack /\ s'.heap.TracedAtD B ea cls (a0,dd) fl /\
 (∀ b o,s'.heap.get? b=some o->b∉frs X.stack->(H' b≠none∨∃ o0,s1.heap.get? b=some o0)->B.get? b=some o) /\ E cls dd H'
section
variable {X:Cx} {E:XK}
theorem ZDf {P:Program} {w:World} (h1:X.prog=P:=by rfl) (h2:X.w=w:=by rfl):ZA3 (CXE P w) (X.wish (XF X E)) E:=by
 subst h1 h2
 intro pins σ H s e s' I hc
 obtain ⟨ea,cls,dd,H',rfl,os,bare,un,hok,⟨B,a0,⟨f1,f2,f3,f4⟩,hout,hnew,hB⟩,hE⟩:=hc
 exact ⟨pins,σ,H,s,ea,cls,dd,H',B,a0,.none,rfl,I.unwish,os,bare,un,hok,hout,hnew,.inl rfl,f1,f2,f3,f4,hB,hE⟩
theorem XF.next {pins:List (Addr×Obj)} {σ:St} {H1 H':Hp} {s1 s':Shared} {h2:Heap} {ea:Addr} {cls:Value} {dd:Option Addr} {B:Heap} {a0 fl:Value} (I:Inv X pins σ H1 s1) (os:s'.os=s1.os) (bare:AllBare s'.gens) (un:Un (frs X.stack) [] H1 H' s1.heap s'.heap) (hok:HOk X.prog X.w H' s'.heap) (hout:H' ea=none) (hnew:s1.heap.get? ea=none)
  (ff:s'.heap.FunFrames B X.stack) (hB:∀ b o,s'.heap.get? b=some o->b∉frs X.stack->(H' b≠none∨∃ o0,s1.heap.get? b=some o0)->B.get? b=some o) (hE:E cls dd H') (hfl:fl=.none∨fl=rawInt X.env.locals)
  (up:s'.heap.UpToSlots h2) (k1:B.StaysIn h2) (k2:B.get? ea=none) (k3:h2.FunFrames B X.stack) (k4:h2.TracedAtD B ea cls (a0,dd) fl):XF X E (.ref ea) { s' with heap:=h2 }:=by
 refine ⟨pins,σ,H1,s1,ea,cls,dd,H',B,a0,fl,rfl,I,os,bare,un.fly hB k1 up ff,hok.fly hB k1 (I.stkFree2 un),hout,hnew,hfl,k1,k2,k3,k4,fun b o ho nb hor=>?_,hE⟩
 have:∃ o1,s'.heap.get? b=some o1:=by
  rcases hor with y | ⟨o0,y⟩
  .obtain ⟨u,hu⟩:=Option.ne_none_iff_exists'.mp y
   exact (hok b u hu).ex
  .exact un.there b o0 y (fun z=>nomatch z)
 obtain ⟨o1,h1⟩:=this
 have h3:=hB b o1 h1 nb hor
 have h4:=k1 b o1 h3
 rw [ho] at h4
 cases h4
 exact h3
theorem ZDt (hstk:X.stack=X.env::X.outer /\ X.env.frame=some X.env.locals):PassesOwn (model X.prog X.w) X.A X.env (XF X E):=by
 intro e s' hx
 obtain ⟨pins,σ,H1,s1,ea,cls,dd,H',B,a0,fl,rfl,I,os,bare,un,hok,hout,hnew,hfl,f1,f2,f3,f4,hB,hE⟩:=hx
 have af:X.A.frames=some (X.env::X.outer):=by rw [<- hstk.1];exact I.ok.frames
 have back:∀ h2,s'.heap.UpToSlots h2->B.StaysIn h2->h2.FunFrames B X.stack->h2.TracedAtD B ea cls (a0,dd) (rawInt X.env.locals)->cameBackBy (model X.prog X.w) X.A X.env (XF X E) (.ref ea) { s' with heap:=h2 }:=fun h2 up k1 k3 k4=>by
  obtain ⟨⟨oe,vs,T,oT,ts,he,hcls,hd,h1,hnT,hTe,hT,hdT,h3⟩,_⟩:=id k4
  show wpAny _ _ (do
   if (<- field (.ref ea) 1) == .none then unsupported "frame.own-activation:exception-without-traceback"
   setFlight (.ref ea) X.env.frame) _ _ _
  refine wpAny_bind (wpAny_field he hd h1 ?_)
  rw [if_neg (show ¬ ((Value.ref T == Value.none)=true) from by simp),hstk.2]
  refine wpAny_setFlight_someD k1 k3 k4 fun hh m1 m2 m3 m4=>?_
  have up2:s'.heap.UpToSlots hh:=up.trans fun b o hb hn=>⟨o.slots,m4 b o hb hn⟩
  have:=XF.next (s':=s') (h2:=hh) I os bare un hok hout hnew f3 hB hE (.inr rfl) up2 m1 f2 m2 m3
  exact this
 rcases hfl with rfl | rfl
 .have ff:Heap.FlyingD B (X.env::X.outer) ea cls (a0,dd) s'.heap:=⟨f1,f2,by rw [<- hstk.1];exact f3,f4⟩
  refine wpAny_looks_onD af hstk.2 ff fun h2 hH up=>?_
  obtain ⟨k1,_,k3,k4⟩:=hH
  exact back h2 up k1 (by rw [hstk.1];exact k3) k4
 .refine wpAny_noteFrame_againD hstk.2 f4 ?_
  exact back s'.heap (fun b o hb hn=>⟨o.slots,hb⟩) f1 f3 f4
end
section
variable {P:Program} {w:World} {K:W.Frag} {mg:Str->Option Value} {base:Heap} {N:List Str} {qual:Str} {scope:Scope} {f:Addr} {cd:Value} {A:Around} {outer:List Env} {s:Shared} {H:Hp} {E:XK}
theorem XF.xe {e:Value} {s':Shared} (hx:XF (cxOf (CXE P w) P w K mg base N qual scope f cd A outer s H E) E e s'):(cxOf (CXE P w) P w K mg base N qual scope f cd A outer s H E).xe e s':=by
 obtain ⟨pins,σ,H1,s1,ea,cls,dd,H',B,a0,fl,rfl,I,os,bare,un,hok,hout,hnew,hfl,f1,f2,f3,f4,hB,hE⟩:=hx
 rcases hfl with rfl | rfl
 .exact wpAny_leaves_onD (base:=B) I.ok.frames rfl ⟨f1,f2,f3,f4⟩ fun h' fl' up=>ZEF I un hok hB f3 up fl' hout hnew os bare hE
 .show wpAny _ _ (leaving _ _) _ _ _
  unfold leaving
  refine wpAny_bind (wpAny_noteFrame_againD rfl f4 ?_)
  refine wpAny_landsD (L:=(cxOf (CXE P w) P w K mg base N qual scope f cd A outer s H E).env.locals) ⟨f1,f2,f3,f4⟩ fun h' hfl up=>?_
  obtain ⟨k1,k2,⟨_,_,k3⟩,k4⟩:=hfl
  exact ZEF I un hok hB f3 up ⟨k1,k2,k3,k4⟩ hout hnew os bare hE
theorem PS.inX {st:Stmt} {t:TS} (h:PS ((cxOf (CXE P w) P w K mg base N qual scope f cd A outer s H E).wish (XF (cxOf (CXE P w) P w K mg base N qual scope f cd A outer s H E) E)) st t):PS (cxOf (CXE P w) P w K mg base N qual scope f cd A outer s H E) st t:=fun pins s1 σ H1 D I hw=>
 wpAny_mono (h pins s1 σ H1 D (I.wish _) hw) (fun _ _ q=>q.unwish) fun _ _ z=>z.xe
end
noncomputable def Ehit0 (K:W.Frag) (HC:Addr) (ts:TS) (D:Ends):St->XK:=fun σ cls dd H'=>exmOne K cls (.ref HC)=some true /\ ts D σ H'
noncomputable def tTry0 (K:W.Frag) (HC:Addr) (tb:(St->XK)->TS) (ts:TS):TS:=fun D σ H=>tb (Ehit0 K HC ts D) D σ H
theorem FunD.okX {P:Program} {w:World} {K:W.Frag} {mg:Str->Option Value} {base:Heap} {x qual:Str} {st:Stmt} {f:Addr} {fd:FuncData} {dv:List Value} {N ps:List Str} {k:Nat} {sp:Sp} (F:FunD K x qual st f fd dv) (S:FnScope N ps (ZAB st)) (len:∀ vs H Q E,sp vs H Q E->vs.length=ps.length)
  (hbody:∀ (cdv:Value) (A:Around) (outer:List Env) (s:Shared) (H:Hp) (vs:List V) (Q:VK) (E:XK),Room k (A.deeper (envOfC qual (ZAB st) s.heap.objs.size f cdv))->sp vs H Q E ->
   ∃ t,PSs (cxOf (CXE P w) P w K mg base N qual (ZAB st) f cdv A outer s H E) (ZAL st) t /\ t { nx:=fun _ H'=>Q .non H',rt:=Q } (start N vs) H):FnOk P w K mg base (CXE P w) (k+1) f fd ps sp:=by
 obtain ⟨oc,od,T,kV,doc,pm,an,cdv,ct,osl,rfl,lk,hcd,_⟩:=F.ex
 exact ZEl lk hcd S len fun A outer s H vs Q E hr hsp=>hbody cdv A outer s H vs Q E hr hsp
section
variable {X:Cx} {CX:CXT} {k:Nat} {ps:List Str} {sp:Sp} {E:St->XK} {m:Str} {C:Addr} {pos apos:Pos} {o:Expr} {ta:TE}
end
end L2
namespace L2S
open PySem PyProof.Rows
noncomputable def kn (f:Keyed->Int) (xs:Array Keyed) (i:Nat):Int:=((xs[i]?).map f).getD 0
theorem ZAp {f:Keyed->Int} {xs ys:Array Keyed} {i j:Nat} (h:xs[i]?=ys[j]?):kn f xs i=kn f ys j:=by unfold kn;rw [h]
structure Asks (M:Model) (A:Around) (E:Value->Shared->Prop) (s:Shared) (κ:SortKind) (a₀:Array Keyed) (f:Keyed->Int):Prop where
 lt:∀ x y,x∈a₀.toList->y∈a₀.toList->∀ (st:SortSt) (Q:Option Bool->SortSt->Prop),kindOf st=κ->Q (some (decide (f x < f y))) st->wpS M A E s (lt' x y) Q st
structure SB (κ:SortKind) (a₀:Array Keyed) (st:SortSt):Prop where
 perm:(arrOf st).Perm a₀
 kind:kindOf st=κ
 fail:failedOf st=none
theorem SB.size {κ:SortKind} {a₀:Array Keyed} {st:SortSt} (h:SB κ a₀ st):(arrOf st).size=a₀.size:=h.perm.size_eq
theorem SB.arr {κ:SortKind} {a₀:Array Keyed} {st:SortSt} (h:SB κ a₀ st) {xs:Array Keyed} (hp:xs.Perm (arrOf st)):SB κ a₀ (setArr st xs):=⟨hp.trans h.perm,h.kind,h.fail⟩
theorem SB.get {κ:SortKind} {a₀:Array Keyed} {st:SortSt} {f:Keyed->Int} (h:SB κ a₀ st) {i:Nat} (hi:i < a₀.size):∃ x,(arrOf st)[i]?=some x /\ x∈a₀.toList /\ kn f (arrOf st) i=f x:=by
 have hi':i < (arrOf st).size:=by rw [h.size];exact hi
 refine ⟨(arrOf st)[i],getElem?_pos _ i hi',(Array.perm_iff_toList_perm.mp h.perm).mem_iff.mp (by simp),?_⟩
 unfold kn
 rw [getElem?_pos _ i hi']
 rfl
noncomputable def Up (f:Keyed->Int) (xs:Array Keyed) (lo n:Nat):Prop:=∀ i j,lo <= i->i <= j->j < lo+n->kn f xs i <= kn f xs j
noncomputable def Down (f:Keyed->Int) (xs:Array Keyed) (lo n:Nat):Prop:=∀ i j,lo <= i->i <= j->j < lo+n->kn f xs j <= kn f xs i
noncomputable def Kept (lo:Nat) (xs ys:Array Keyed):Prop:=∀ i,i < lo->ys[i]?=xs[i]?
theorem Kept.refl {lo:Nat} {xs:Array Keyed}:Kept lo xs xs:=fun _ _=>rfl
theorem Kept.trans {lo:Nat} {xs ys zs:Array Keyed} (a:Kept lo xs ys) (b:Kept lo ys zs):Kept lo xs zs:=fun i h=>(b i h).trans (a i h)
theorem ZCw {f:Keyed->Int} {xs:Array Keyed} {i j:Nat} (hj:j <= xs.size) (k:Nat):kn f (mirror xs i j ((j-i) / 2)) k=if i <= k /\ k < j then kn f xs (i+j-1-k) else kn f xs k:=by
 have e:=getElem?_mirror_all (i:=i) hj k
 split
 .rename_i h;rw [if_pos h] at e;exact ZAp e
 .rename_i h;rw [if_neg h] at e;exact ZAp e
theorem ZBV {lo:Nat} {xs:Array Keyed} {i j:Nat} (hj:j <= xs.size) (hi:lo <= i):Kept lo xs (mirror xs i j ((j-i) / 2)):=fun k hk=>by
 rw [getElem?_mirror_all hj k,if_neg (by omega)]
theorem ZCv {f:Keyed->Int} {xs:Array Keyed} {i j:Nat} (hj:j <= xs.size) (he:∀ k,i <= k->k < j->kn f xs k=kn f xs (j-1)) (k:Nat):kn f (mirror xs i j ((j-i) / 2)) k=kn f xs k:=by
 rw [ZCw hj]
 split
 .rename_i h;rw [he _ (by omega) (by omega),he k h.1 h.2]
 .rfl
section
variable {M:Model} {A:Around} {E:Value->Shared->Prop} {s:Shared} {κ:SortKind} {a₀:Array Keyed} {f:Keyed->Int}
theorem ZDh {st:SortSt} {i j:Nat} {Q:Option Bool->SortSt->Prop} (L:Asks M A E s κ a₀ f) (hB:SB κ a₀ st) (hi:i < a₀.size) (hj:j < a₀.size)
  (h:Q (some (decide (kn f (arrOf st) i < kn f (arrOf st) j))) st):wpS M A E s (ltAt' i j) Q st:=by
 obtain ⟨x,e1,m1,k1⟩:=hB.get (f:=f) hi
 obtain ⟨y,e2,m2,k2⟩:=hB.get (f:=f) hj
 rw [ltAt'_eq]
 refine wpS_bind (wpS_get ?_)
 show wpS _ _ _ _ (elem' (arrOf st) i >>= fun x=>elem' (arrOf st) j >>= fun y=>lt' x y) Q st
 rw [elem'_eq,elem'_eq,e1,e2]
 refine wpS_bind (wpS_pure (wpS_bind (wpS_pure (L.lt x y m1 m2 st Q hB.kind ?_))))
 rw [<- k1,<- k2]
 exact h
theorem ZD9 {st:SortSt} {i j:Nat} {Q:Unit->SortSt->Prop} (h:Q () (setArr st (mirror (arrOf st) i j ((j-i) / 2)))):wpS M A E s (reverseSlice' i j) Q st:=by
 rw [reverseSlice'_eq]
 exact wpS_modify h
noncomputable def ZBs (lo a nrem:Nat):StateT SortSt Sem AscSt :=
 forIn [a:nrem] ((none,a):AscSt) fun _ c=>do
  let r <- ltAt' (lo+c.snd) (lo+c.snd-1)
  match r with
  | some b=>if b=true then pure (ForInStep.done (none,c.snd)) else pure (ForInStep.yield (none,c.snd+1))
  | _=>pure (ForInStep.done (some none,c.snd))
noncomputable def ZDl (lo n nrem:Nat):StateT SortSt Sem (Option Nat):=do
 reverseSlice' lo (lo+n)
 let c <- ZBs lo n nrem
 match c.fst with
 | some r=>pure r
 | none=>pure (some c.snd)
noncomputable def ZBq (lo n nrem:Nat):StateT SortSt Sem DescSt :=
 forIn [n:nrem] ((none,n,0):DescSt) fun _ c=>do
  let r <- ltAt' (lo+c.snd.fst) (lo+c.snd.fst-1)
  match r with
  | some b=>
   if b=true then
    if c.snd.snd > 0 then do
     reverseSlice' (lo+c.snd.fst-(c.snd.snd+1)) (lo+c.snd.fst)
     pure (ForInStep.yield (none,c.snd.fst+1,0))
    else pure (ForInStep.yield (none,c.snd.fst+1,0))
   else do
    let r2 <- ltAt' (lo+c.snd.fst-1) (lo+c.snd.fst)
    match r2 with
    | some b2=>
     if b2=true then pure (ForInStep.done (none,c.snd.fst,c.snd.snd))
     else pure (ForInStep.yield (none,c.snd.fst+1,c.snd.snd+1))
    | _=>pure (ForInStep.done (some none,c.snd.fst,c.snd.snd))
  | _=>pure (ForInStep.done (some none,c.snd.fst,c.snd.snd))
noncomputable def ZCK (lo n nrem:Nat):StateT SortSt Sem (Option Nat):=do
 liftM (rule "list.sort.descending-run")
 let c <- ZBq lo (n+1) nrem
 match c.fst with
 | some r=>pure r
 | none=>
  if c.snd.snd > 0 then do
   reverseSlice' (lo+c.snd.fst-(c.snd.snd+1)) (lo+c.snd.fst)
   ZDl lo c.snd.fst nrem
  else ZDl lo c.snd.fst nrem
theorem bnd {α β:Type} (m:StateT SortSt Sem α) {g h:α->StateT SortSt Sem β} (e:∀ a,g a=h a):(m >>= g)=(m >>= h):=by rw [show g=h from funext e]
theorem count_eq (lo nrem:Nat):countRun' lo nrem=(do
  let c <- ZBs lo 1 nrem
  match c.fst with
  | some r=>pure r
  | none=>
   if (c.snd == nrem)=true then pure (some c.snd)
   else if c.snd > 1 then do
    let r <- ltAt' lo (lo+c.snd-1)
    match r with
    | some b=>if b=true then pure (some c.snd) else do
      reverseSlice' lo (lo+c.snd)
      ZCK lo c.snd nrem
    | _=>pure none
   else ZCK lo c.snd nrem):=by
 have tl:∀ n2:Nat,ZDl lo n2 nrem=(reverseSlice' lo (lo+n2) >>= fun _=>ZBs lo n2 nrem >>= fun c=>match c.fst with | some r=>pure r | none=>pure (some c.snd)):=fun _=>rfl
 rw [countRun'_eq]
 refine bnd (ZBs lo 1 nrem) fun c=>?_
 obtain ⟨r,n⟩:=c
 cases r with
 | some r=>rfl
 | none=>
  have dn:∀ n1:Nat,(liftM (rule "list.sort.descending-run") >>= fun _=>ZBq lo (n1+1) nrem >>= fun c=>match c.fst with
    | some r=>pure r
    | none=>if c.snd.snd > 0 then (reverseSlice' (lo+c.snd.fst-(c.snd.snd+1)) (lo+c.snd.fst) >>= fun _=>ZDl lo c.snd.fst nrem) else ZDl lo c.snd.fst nrem)=ZCK lo n1 nrem:=fun _=>rfl
  dsimp only
  split
  .rfl
  .split
   .refine bnd (ltAt' lo (lo+n-1)) fun x=>?_
    cases x with
    | none=>rfl
    | some rose=>
     dsimp only
     split
     .rfl
     .refine bnd _ fun _=>?_
      rw [<- dn]
      refine bnd _ fun _=>bnd (ZBq lo (n+1) nrem) fun s2=>?_
      obtain ⟨r2,n2,q2⟩:=s2
      cases r2 with
      | some r2=>rfl
      | none=>
       dsimp only
       split
       .refine bnd _ fun _=>?_
        rw [tl]
        refine bnd _ fun _=>bnd (ZBs lo n2 nrem) fun s3=>?_
        obtain ⟨r3,n3⟩:=s3
        cases r3 <;> rfl
       .rw [tl]
        refine bnd _ fun _=>bnd (ZBs lo n2 nrem) fun s3=>?_
        obtain ⟨r3,n3⟩:=s3
        cases r3 <;> rfl
   .rw [<- dn]
    refine bnd _ fun _=>bnd (ZBq lo (n+1) nrem) fun s2=>?_
    obtain ⟨r2,n2,q2⟩:=s2
    cases r2 with
    | some r2=>rfl
    | none=>
     dsimp only
     split
     .refine bnd _ fun _=>?_
      rw [tl]
      refine bnd _ fun _=>bnd (ZBs lo n2 nrem) fun s3=>?_
      obtain ⟨r3,n3⟩:=s3
      cases r3 <;> rfl
     .rw [tl]
      refine bnd _ fun _=>bnd (ZBs lo n2 nrem) fun s3=>?_
      obtain ⟨r3,n3⟩:=s3
      cases r3 <;> rfl
theorem up_one {xs:Array Keyed} {lo:Nat}:Up f xs lo 1:=fun i j h1 h2 h3=>by rw [show i=j by omega];exact Int.le_refl _
theorem up_loop {st:SortSt} {lo a nrem:Nat} {Q:AscSt->SortSt->Prop} (L:Asks M A E s κ a₀ f) (hn:lo+nrem <= a₀.size) (ha:1 <= a) (han:a <= nrem) (hB:SB κ a₀ st) (hs:Up f (arrOf st) lo a)
  (h:∀ n,a <= n->n <= nrem->Up f (arrOf st) lo n->(n=nrem∨kn f (arrOf st) (lo+n) < kn f (arrOf st) (lo+n-1))->Q (none,n) st):wpS M A E s (ZBs lo a nrem) Q st:=by
 unfold ZBs
 refine wpS_forRange (I:=fun x c st'=>st'=st /\ c=(none,x) /\ Up f (arrOf st) lo x) ?_ ?_ ⟨rfl,rfl,hs⟩
 .rintro x c st' hax hxn ⟨rfl,rfl,hs'⟩
  dsimp only
  refine wpS_bind (ZDh L hB (by omega) (by omega) ?_)
  by_cases hl:kn f (arrOf st') (lo+x) < kn f (arrOf st') (lo+x-1)
  .rw [decide_eq_true hl]
   exact wpS_pure (h x hax (by omega) hs' (.inr hl))
  .rw [decide_eq_false hl]
   refine wpS_pure ⟨rfl,rfl,fun i j h1 h2 h3=>?_⟩
   by_cases hj:j < lo+x
   .exact hs' i j h1 h2 hj
   .by_cases hi:i=j
    .rw [hi];exact Int.le_refl _
    .have e1:=hs' i (lo+x-1) h1 (by omega) (by omega)
     rw [show j=lo+x by omega]
     omega
 .rintro c st' ⟨rfl,rfl,hs'⟩
  rw [Nat.max_eq_right han] at hs' ⊢
  exact h nrem han (yAA _) hs' (.inl rfl)
noncomputable abbrev ZEj (κ:SortKind) (a₀:Array Keyed) (f:Keyed->Int) (lo nrem:Nat) (xs:Array Keyed) (pd:Array (Nat×Nat×Nat)) (Q:Option Nat->SortSt->Prop):Prop :=
 ∀ m st',SB κ a₀ st'->1 <= m->m <= nrem->Up f (arrOf st') lo m->Kept lo xs (arrOf st')->pendingOf st'=pd->Q (some m) st'
theorem tail_l {st:SortSt} {lo n nrem:Nat} {xs:Array Keyed} {pd:Array (Nat×Nat×Nat)} {Q:Option Nat->SortSt->Prop} (L:Asks M A E s κ a₀ f) (hn:lo+nrem <= a₀.size) (h1:1 <= n) (hnn:n <= nrem) (hB:SB κ a₀ st)
  (hs:Down f (arrOf st) lo n) (hk:Kept lo xs (arrOf st)) (hp:pendingOf st=pd) (h:ZEj κ a₀ f lo nrem xs pd Q):wpS M A E s (ZDl lo n nrem) Q st:=by
 unfold ZDl
 have hsz:lo+n <= (arrOf st).size:=by rw [hB.size];omega
 refine wpS_bind (ZD9 ?_)
 have hB':SB κ a₀ (setArr st (mirror (arrOf st) lo (lo+n) ((lo+n-lo) / 2))):=hB.arr (mirror_perm _ _ _ _)
 have hk':Kept lo xs (mirror (arrOf st) lo (lo+n) ((lo+n-lo) / 2)):=hk.trans (ZBV hsz (yAA _))
 refine wpS_bind (up_loop L hn h1 hnn hB' (fun i j z1 z2 z3=>?_) fun m hm1 hm2 hsm _=>wpS_pure (h m _ hB' (by omega) hm2 hsm hk' hp))
 show kn f (mirror (arrOf st) lo (lo+n) _) i <= kn f (mirror (arrOf st) lo (lo+n) _) j
 rw [ZCw hsz,ZCw hsz,if_pos (by omega),if_pos (by omega)]
 exact hs _ _ (by omega) (by omega) (by omega)
theorem down_loop {st:SortSt} {lo n nrem:Nat} {xs:Array Keyed} {pd:Array (Nat×Nat×Nat)} {Q:DescSt->SortSt->Prop} (L:Asks M A E s κ a₀ f) (hn:lo+nrem <= a₀.size) (h1:1 <= n) (hnn:n <= nrem) (hB:SB κ a₀ st)
  (hs:Down f (arrOf st) lo n) (hk:Kept lo xs (arrOf st)) (hp:pendingOf st=pd)
  (h:∀ m q st',SB κ a₀ st'->n <= m->m <= nrem->Down f (arrOf st') lo m->q+1 <= m->(∀ i,lo+m-(q+1) <= i->i < lo+m->kn f (arrOf st') i=kn f (arrOf st') (lo+m-1))->Kept lo xs (arrOf st')->pendingOf st'=pd->Q (none,m,q) st') :
  wpS M A E s (ZBq lo n nrem) Q st:=by
 unfold ZBq
 refine wpS_forRange (I:=fun x c st'=>∃ q,c=(none,x,q) /\ SB κ a₀ st' /\ Down f (arrOf st') lo x /\ q+1 <= x /\ (∀ i,lo+x-(q+1) <= i->i < lo+x->kn f (arrOf st') i=kn f (arrOf st') (lo+x-1)) /\ Kept lo xs (arrOf st') /\ pendingOf st'=pd) ?_ ?_
  ⟨0,rfl,hB,hs,by omega,fun i z1 z2=>by rw [show i=lo+n-1 by omega],hk,hp⟩
 .rintro x c st' hax hxn ⟨q,rfl,hB',hs',hq,he,hk',hp'⟩
  dsimp only
  have hsz:lo+x <= (arrOf st').size:=by rw [hB'.size];omega
  refine wpS_bind (ZDh L hB' (by omega) (by omega) ?_)
  by_cases hl:kn f (arrOf st') (lo+x) < kn f (arrOf st') (lo+x-1)
  .rw [decide_eq_true hl]
   have more:∀ ys:Array Keyed,(∀ k,kn f ys k=kn f (arrOf st') k)->Down f ys lo (x+1):=fun ys hy i j z1 z2 z3=>by
    rw [hy,hy]
    by_cases hj:j < lo+x
    .exact hs' i j z1 z2 hj
    .by_cases hi:i=j
     .rw [hi];exact Int.le_refl _
     .have e1:=hs' i (lo+x-1) z1 (by omega) (by omega)
      rw [show j=lo+x by omega]
      omega
   dsimp only
   rw [if_pos rfl]
   by_cases hq0:q > 0
   .rw [if_pos hq0]
    refine wpS_bind (ZD9 (wpS_pure ⟨0,rfl,hB'.arr (mirror_perm _ _ _ _),more _ (ZCv hsz he),by omega,fun i z1 z2=>by rw [show i=lo+(x+1)-1 by omega],hk'.trans (ZBV hsz (by omega)),hp'⟩))
   .rw [if_neg hq0]
    exact wpS_pure ⟨0,rfl,hB',more _ (fun _=>rfl),by omega,fun i z1 z2=>by rw [show i=lo+(x+1)-1 by omega],hk',hp'⟩
  .rw [decide_eq_false hl]
   dsimp only
   rw [if_neg (by decide)]
   refine wpS_bind (ZDh L hB' (by omega) (by omega) ?_)
   by_cases hg:kn f (arrOf st') (lo+x-1) < kn f (arrOf st') (lo+x)
   .rw [decide_eq_true hg]
    exact wpS_pure (h x q st' hB' hax (by omega) hs' hq he hk' hp')
   .rw [decide_eq_false hg]
    have ex:kn f (arrOf st') (lo+x)=kn f (arrOf st') (lo+x-1):=by omega
    refine wpS_pure ⟨q+1,rfl,hB',fun i j z1 z2 z3=>?_,by omega,fun i z1 z2=>?_,hk',hp'⟩
    .by_cases hj:j < lo+x
     .exact hs' i j z1 z2 hj
     .by_cases hi:i=j
      .rw [hi];exact Int.le_refl _
      .have e1:=hs' i (lo+x-1) z1 (by omega) (by omega)
       rw [show j=lo+x by omega]
       omega
    .rw [show lo+(x+1)-1=lo+x by omega]
     by_cases hi:i=lo+x
     .rw [hi]
     .rw [ex];exact he i (by omega) (by omega)
 .rintro c st' ⟨q,rfl,hB',hs',hq,he,hk',hp'⟩
  rw [Nat.max_eq_right hnn] at hs' hq he ⊢
  exact h nrem q st' hB' hnn (yAA _) hs' hq he hk' hp'
theorem down_part {st:SortSt} {lo n nrem:Nat} {xs:Array Keyed} {pd:Array (Nat×Nat×Nat)} {Q:Option Nat->SortSt->Prop} (L:Asks M A E s κ a₀ f) (hn:lo+nrem <= a₀.size) (hnn:n+1 <= nrem) (hB:SB κ a₀ st)
  (hs:Down f (arrOf st) lo (n+1)) (hk:Kept lo xs (arrOf st)) (hp:pendingOf st=pd) (h:ZEj κ a₀ f lo nrem xs pd Q):wpS M A E s (ZCK lo n nrem) Q st:=by
 unfold ZCK
 refine wpS_bind (wpS_lift (wpAny_rule ⟨rfl,?_⟩))
 refine wpS_bind (down_loop L hn (by omega) hnn hB hs hk hp fun m q st' hB' hm1 hm2 hs' hq he hk' hp'=>?_)
 dsimp only
 have hsz:lo+m <= (arrOf st').size:=by rw [hB'.size];omega
 by_cases hq0:q > 0
 .rw [if_pos hq0]
  refine wpS_bind (ZD9 (tail_l L hn (by omega) hm2 (hB'.arr (mirror_perm _ _ _ _)) (fun i j z1 z2 z3=>?_) (hk'.trans (ZBV hsz (by omega))) hp' h))
  show kn f (mirror (arrOf st') _ _ _) j <= kn f (mirror (arrOf st') _ _ _) i
  rw [ZCv hsz he,ZCv hsz he]
  exact hs' i j z1 z2 z3
 .rw [if_neg hq0]
  exact tail_l L hn (by omega) hm2 hB' hs' hk' hp' h
theorem count_run {st:SortSt} {lo nrem:Nat} {Q:Option Nat->SortSt->Prop} (L:Asks M A E s κ a₀ f) (hn:lo+nrem <= a₀.size) (h1:1 <= nrem) (hB:SB κ a₀ st)
  (h:ZEj κ a₀ f lo nrem (arrOf st) (pendingOf st) Q):wpS M A E s (countRun' lo nrem) Q st:=by
 rw [count_eq]
 refine wpS_bind (up_loop L hn (yAA 1) h1 hB up_one fun n hn1 hn2 hsn hor=>?_)
 dsimp only
 by_cases hnn:n=nrem
 .rw [if_pos (by simpa using hnn)]
  exact wpS_pure (h n st hB hn1 hn2 hsn .refl rfl)
 rw [if_neg (by simpa using hnn)]
 have hlt:=hor.resolve_left hnn
 by_cases hgt:n > 1
 .rw [if_pos hgt]
  refine wpS_bind (ZDh L hB (by omega) (by omega) ?_)
  by_cases hr:kn f (arrOf st) lo < kn f (arrOf st) (lo+n-1)
  .rw [decide_eq_true hr]
   exact wpS_pure (h n st hB hn1 hn2 hsn .refl rfl)
  rw [decide_eq_false hr]
  dsimp only
  rw [if_neg (by decide)]
  have hsz:lo+n <= (arrOf st).size:=by rw [hB.size];omega
  have hall:∀ k,lo <= k->k < lo+n->kn f (arrOf st) k=kn f (arrOf st) (lo+n-1):=fun k k1 k2=>by
   have a1:=hsn lo k (yAA _) k1 k2
   have a2:=hsn k (lo+n-1) k1 (by omega) (by omega)
   omega
  refine wpS_bind (ZD9 (down_part L hn (by omega) (hB.arr (mirror_perm _ _ _ _)) (fun i j z1 z2 z3=>?_) (ZBV hsz (yAA _)) rfl h))
  show kn f (mirror (arrOf st) _ _ _) j <= kn f (mirror (arrOf st) _ _ _) i
  rw [ZCv hsz hall,ZCv hsz hall]
  by_cases hj:j < lo+n
  .rw [hall i z1 (by omega),hall j (by omega) hj];exact Int.le_refl _
  .by_cases hi:i=j
   .rw [hi];exact Int.le_refl _
   .rw [hall i z1 (by omega),show j=lo+n by omega];exact Int.le_of_lt hlt
 .rw [if_neg hgt]
  have hn1':n=1:=by omega
  subst hn1'
  refine down_part L hn (by omega) hB (fun i j z1 z2 z3=>?_) .refl rfl h
  by_cases hi:i=j
  .rw [hi];exact Int.le_refl _
  .have e1:i=lo:=by omega
   have e2:j=lo+1:=by omega
   subst e1 e2
   exact Int.le_of_lt hlt
theorem kn_bubble {xs:Array Keyed} {src d:Nat} (hs:src < xs.size) (hd:d <= src) (k:Nat):kn f (bubble xs src d) k=if k=src-d then kn f xs src else if src-d < k /\ k <= src then kn f xs (k-1) else kn f xs k:=by
 have e:=getElem?_bubble hs d hd k
 split
 .rename_i h;rw [if_pos h] at e;exact ZAp e
 .rename_i h
  rw [if_neg h] at e
  split
  .rename_i h2;rw [if_pos h2] at e;exact ZAp e
  .rename_i h2;rw [if_neg h2] at e;exact ZAp e
theorem kept_bubble {lo:Nat} {xs:Array Keyed} {src d:Nat} (hs:src < xs.size) (hd:lo+d <= src):Kept lo xs (bubble xs src d):=fun k hk=>by
 rw [getElem?_bubble hs d (by omega) k,if_neg (by omega),if_neg (by omega)]
theorem bin_sort {st:SortSt} {lo n ok:Nat} {Q:Bool->SortSt->Prop} (L:Asks M A E s κ a₀ f) (hn:lo+n <= a₀.size) (hok:ok <= n) (hB:SB κ a₀ st) (hs:Up f (arrOf st) lo ok)
  (h:∀ st',SB κ a₀ st'->Up f (arrOf st') lo n->Kept lo (arrOf st) (arrOf st')->pendingOf st'=pendingOf st->Q true st'):wpS M A E s (binarySort' lo n ok) Q st:=by
 rw [binarySort'_eq]
 refine wpS_bind (wpS_mono (wpS_forRange (I:=fun k c st'=>c=(none,()) /\ SB κ a₀ st' /\ Up f (arrOf st') lo (min k n) /\ Kept lo (arrOf st) (arrOf st') /\ pendingOf st'=pendingOf st)
  (Q:=fun c st'=>c=(none,()) /\ SB κ a₀ st' /\ Up f (arrOf st') lo n /\ Kept lo (arrOf st) (arrOf st') /\ pendingOf st'=pendingOf st) ?_ ?_ ?_) ?_)
 .rintro k c st' hak hkn ⟨rfl,hB',hs',hk',hp'⟩
  rw [show min k n=k by omega] at hs'
  have hk:lo+k < a₀.size:=by omega
  refine wpS_bind (wpS_mono (wpS_forRange (I:=fun x c st2=>st2=st' /\ ∃ l r,c=(none,l,r) /\ l <= r /\ r <= k /\ r-l <= k-x /\
    (∀ i,i < l->kn f (arrOf st') (lo+i) <= kn f (arrOf st') (lo+k)) /\ (∀ i,r <= i->i < k->kn f (arrOf st') (lo+k) < kn f (arrOf st') (lo+i)))
   (Q:=fun c st2=>st2=st' /\ ∃ l r,c=(none,l,r) /\ l <= k /\ (∀ i,i < l->kn f (arrOf st') (lo+i) <= kn f (arrOf st') (lo+k)) /\ (∀ i,l <= i->i < k->kn f (arrOf st') (lo+k) < kn f (arrOf st') (lo+i))) ?_ ?_ ?_) ?_)
  .rintro x c st2 _ hxk ⟨rfl,l,r,rfl,hlr,hrk,hm,hlo,hhi⟩
   dsimp only
   by_cases hge:l≥r
   .rw [if_pos hge]
    have:l=r:=by omega
    subst this
    exact wpS_pure ⟨rfl,l,l,rfl,hrk,hlo,hhi⟩
   rw [if_neg hge]
   refine wpS_bind (ZDh L hB' hk (by omega) ?_)
   by_cases hl:kn f (arrOf st2) (lo+k) < kn f (arrOf st2) (lo+(l+r) / 2)
   .rw [decide_eq_true hl]
    refine wpS_pure ⟨rfl,l,(l+r) / 2,rfl,by omega,by omega,by omega,hlo,fun i z1 z2=>?_⟩
    exact Int.lt_of_lt_of_le hl (hs' _ _ (by omega) (by omega) (by omega))
   .rw [decide_eq_false hl]
    refine wpS_pure ⟨rfl,(l+r) / 2+1,r,rfl,by omega,by omega,by omega,fun i z1=>?_,hhi⟩
    have e1:=hs' (lo+i) (lo+(l+r) / 2) (by omega) (by omega) (by omega)
    omega
  .rintro c st2 ⟨rfl,l,r,rfl,hlr,hrk,hm,hlo,hhi⟩
   have:l=r:=by omega
   subst this
   exact ⟨rfl,l,l,rfl,hrk,hlo,hhi⟩
  .exact ⟨rfl,0,k,rfl,by omega,by omega,by omega,fun i hi=>by omega,fun i z1 z2=>by omega⟩
  .rintro c st2 ⟨rfl,l,r,rfl,hlk,hlo,hhi⟩
   show wpS _ _ _ _ (moveDown' (lo+k) (lo+l) >>= fun _=>pure (ForInStep.yield (none,()))) _ _
   rw [moveDown'_eq,show lo+k-(lo+l)=k-l by omega]
   have hks:lo+k < (arrOf st2).size:=by rw [hB'.size];exact hk
   refine wpS_bind (wpS_modify (wpS_pure ⟨rfl,hB'.arr (bubble_perm _ _ _),?_,hk'.trans (kept_bubble hks (by omega)),hp'⟩))
   rw [show min (k+1) n=k+1 by omega]
   intro i j z1 z2 z3
   show kn f (bubble (arrOf st2) (lo+k) (k-l)) i <= kn f (bubble (arrOf st2) (lo+k) (k-l)) j
   have at':∀ m,lo <= m->m < lo+k+1->kn f (bubble (arrOf st2) (lo+k) (k-l)) m=if m < lo+l then kn f (arrOf st2) m else if m=lo+l then kn f (arrOf st2) (lo+k) else kn f (arrOf st2) (m-1):=fun m m1 m2=>by
    rw [kn_bubble hks (by omega)]
    by_cases c1:m < lo+l
    .rw [if_pos c1,if_neg (by omega),if_neg (by omega)]
    .rw [if_neg c1]
     by_cases c2:m=lo+l
     .rw [if_pos c2,if_pos (by omega)]
     .rw [if_neg c2,if_neg (by omega),if_pos (by omega)]
   rw [at' i z1 (by omega),at' j (by omega) (by omega)]
   have lo':∀ m,lo <= m->m < lo+l->kn f (arrOf st2) m <= kn f (arrOf st2) (lo+k):=fun m m1 m2=>by
    have:=hlo (m-lo) (by omega)
    rw [show lo+(m-lo)=m by omega] at this
    exact this
   have hi':∀ m,lo+l <= m->m < lo+k->kn f (arrOf st2) (lo+k) < kn f (arrOf st2) m:=fun m m1 m2=>by
    have:=hhi (m-lo) (by omega) (by omega)
    rw [show lo+(m-lo)=m by omega] at this
    exact this
   by_cases c1:j < lo+l
   .rw [if_pos c1,if_pos (by omega)]
    exact hs' i j z1 z2 (by omega)
   rw [if_neg c1]
   by_cases c2:j=lo+l
   .rw [if_pos c2]
    by_cases c3:i < lo+l
    .rw [if_pos c3];exact lo' i z1 c3
    .rw [if_neg c3,if_pos (by omega)];exact Int.le_refl _
   .rw [if_neg c2]
    by_cases c3:i < lo+l
    .rw [if_pos c3];exact hs' i (j-1) z1 (by omega) (by omega)
    .rw [if_neg c3]
     by_cases c4:i=lo+l
     .rw [if_pos c4];exact Int.le_of_lt (hi' (j-1) (by omega) (by omega))
     .rw [if_neg c4];exact hs' (i-1) (j-1) (by omega) (by omega) (by omega)
 .rintro c st' ⟨hc,hB',hs',hk',hp'⟩
  rw [show min (max (max ok 1) n) n=n by omega] at hs'
  exact ⟨hc,hB',hs',hk',hp'⟩
 .refine ⟨rfl,hB,fun i j z1 z2 z3=>?_,.refl,rfl⟩
  by_cases h1:ok=0
  .rw [show i=j by omega];exact Int.le_refl _
  .exact hs i j z1 z2 (by omega)
 .rintro c st' ⟨rfl,hB',hs',hk',hp'⟩
  exact wpS_pure (h st' hB' hs' hk' hp')
end
end L2S
namespace L2S
open PySem PyProof.Rows
noncomputable def gal:Bool->Keyed->Array Keyed->Nat->Nat->Nat->StateT SortSt Sem (Option Nat):=sortPriv% PySem.Builtin.gallop
noncomputable def past (left:Bool) (key:Keyed) (arr:Array Keyed) (base i:Nat):StateT SortSt Sem (Option Bool):=do
 let y <- elem' arr (base+i)
 if left then lt' y key else return (<- lt' key y).map (!·)
theorem gal_eq (left:Bool) (key:Keyed) (arr:Array Keyed) (base n hint:Nat):gal left key arr base n hint=(do
 let mut o1:=0
 let mut o2:=1
 let mut p1:=0
 let mut p2:=0
 let some b0 <- past left key arr base hint | return none
 if b0 then
  let mx:=n-hint
  for _ in [0:n] do
   if o2≥mx then break
   let some b <- past left key arr base (hint+o2) | return none
   if !b then break
   o1:=o2
   o2:=2 * o2+1
  p1:=hint+o1+1
  p2:=hint+min o2 mx
 else
  let mx:=hint+1
  for _ in [0:n] do
   if o2≥mx then break
   let some b <- past left key arr base (hint-o2) | return none
   if b then break
   o1:=o2
   o2:=2 * o2+1
  p1:=hint+1-min o2 mx
  p2:=hint-o1
 for _ in [0:n] do
  if p1≥p2 then break
  let m:=p1+(p2-p1) / 2
  let some b <- past left key arr base m | return none
  if b then p1:=m+1 else p2:=m
 return some p2):=rfl
section
variable {M:Model} {A:Around} {E:Value->Shared->Prop} {s:Shared}
theorem gal_ok {left:Bool} {key:Keyed} {arr:Array Keyed} {base n hint:Nat} {st:SortSt} {Q:Option Nat->SortSt->Prop} (g:Nat->Bool) (hh:hint < n)
  (hp:∀ i,i < n->∀ Q:Option Bool->SortSt->Prop,Q (some (g i)) st->wpS M A E s (past left key arr base i) Q st) (hm:∀ i j,i <= j->j < n->g j=true->g i=true)
  (h:∀ k,k <= n->(∀ i,i < k->g i=true)->(∀ i,k <= i->i < n->g i=false)->Q (some k) st):wpS M A E s (gal left key arr base n hint) Q st:=by
 have hm':∀ i j,i <= j->j < n->g i=false->g j=false:=fun i j z1 z2 z3=>by
  cases e:g j with
  | false=>rfl
  | true=>rw [hm i j z1 z2 e] at z3;cases z3
 have last:∀ p1 p2:Nat,p1 <= p2->p2 <= n->(∀ i,i < p1->g i=true)->(∀ i,p2 <= i->i < n->g i=false) ->
   wpS M A E s (forIn [0:n] ((none,p1,p2):Option (Option Nat)×Nat×Nat) fun _ c=>if c.2.1≥c.2.2 then pure (ForInStep.done (none,c.2.1,c.2.2)) else do
    let r <- past left key arr base (c.2.1+(c.2.2-c.2.1) / 2)
    match r with
    | some b=>if b=true then pure (ForInStep.yield (none,c.2.1+(c.2.2-c.2.1) / 2+1,c.2.2)) else pure (ForInStep.yield (none,c.2.1,c.2.1+(c.2.2-c.2.1) / 2))
    | _=>pure (ForInStep.done (some none,c.2.1,c.2.2))) (fun c st'=>∃ k,c=(none,k,k) /\ st'=st /\ k <= n /\ (∀ i,i < k->g i=true) /\ (∀ i,k <= i->i < n->g i=false)) st:=by
  intro p1 p2 a1 a2 a3 a4
  refine wpS_forRange (I:=fun x c st'=>st'=st /\ ∃ p1 p2,c=(none,p1,p2) /\ p1 <= p2 /\ p2 <= n /\ p2-p1 <= n-x /\ (∀ i,i < p1->g i=true) /\ (∀ i,p2 <= i->i < n->g i=false)) ?_ ?_ ⟨rfl,p1,p2,rfl,a1,a2,by omega,a3,a4⟩
  .rintro x c st' _ hx ⟨rfl,p1,p2,rfl,b1,b2,b3,b4,b5⟩
   dsimp only
   by_cases hge:p1≥p2
   .rw [if_pos hge]
    have:p1=p2:=by omega
    subst this
    exact wpS_pure ⟨p1,rfl,rfl,b2,b4,b5⟩
   rw [if_neg hge]
   refine wpS_bind (hp _ (by omega) _ ?_)
   cases e:g (p1+(p2-p1) / 2) with
   | true=>exact wpS_pure ⟨rfl,_,_,rfl,by omega,b2,by omega,fun i hi=>hm i _ (by omega) (by omega) e,b5⟩
   | false=>exact wpS_pure ⟨rfl,_,_,rfl,by omega,by omega,by omega,b4,fun i i1 i2=>hm' _ i i1 i2 e⟩
  .rintro c st' ⟨rfl,p1,p2,rfl,b1,b2,b3,b4,b5⟩
   have:p1=p2:=by omega
   subst this
   exact ⟨p1,rfl,rfl,b2,b4,b5⟩
 rw [gal_eq]
 refine wpS_bind (hp hint hh _ ?_)
 cases e0:g hint with
 | true=>
  refine wpS_bind (wpS_mono (wpS_forRange (I:=fun x c st'=>st'=st /\ ∃ o1 o2,c=(none,o1,o2) /\ o1 < o2 /\ x+1 <= o2 /\ hint+o1 < n /\ g (hint+o1)=true)
   (Q:=fun c st'=>st'=st /\ ∃ o1 o2,c=(none,o1,o2) /\ o1 < o2 /\ hint+o1 < n /\ g (hint+o1)=true /\ (o2≥n-hint∨(hint+o2 < n /\ g (hint+o2)=false))) ?_ ?_ ⟨rfl,0,1,rfl,by omega,by omega,by omega,e0⟩) ?_)
  .rintro x c st' _ hx ⟨rfl,o1,o2,rfl,b1,b2,b3,b4⟩
   dsimp only
   by_cases hge:o2≥n-hint
   .rw [if_pos hge]
    exact wpS_pure ⟨rfl,o1,o2,rfl,b1,b3,b4,.inl hge⟩
   rw [if_neg hge]
   refine wpS_bind (hp _ (by omega) _ ?_)
   cases e:g (hint+o2) with
   | true=>exact wpS_pure ⟨rfl,_,_,rfl,by omega,by omega,by omega,e⟩
   | false=>exact wpS_pure ⟨rfl,_,_,rfl,b1,b3,b4,.inr ⟨by omega,e⟩⟩
  .rintro c st' ⟨rfl,o1,o2,rfl,b1,b2,b3,b4⟩
   exact ⟨rfl,o1,o2,rfl,b1,b3,b4,.inl (by omega)⟩
  .rintro c st' ⟨rfl,o1,o2,rfl,b1,b3,b4,b5⟩
   dsimp only
   refine wpS_bind (wpS_mono (last (hint+o1+1) (hint+min o2 (n-hint)) (by omega) (by omega) (fun i hi=>hm i _ (by omega) b3 b4) fun i i1 i2=>?_) ?_)
   .rcases b5 with z | ⟨z1,z2⟩
    .omega
    .exact hm' _ i (by omega) i2 z2
   .rintro c st' ⟨k,rfl,rfl,k1,k2,k3⟩
    exact wpS_pure (h k k1 k2 k3)
 | false=>
  refine wpS_bind (wpS_mono (wpS_forRange (I:=fun x c st'=>st'=st /\ ∃ o1 o2,c=(none,o1,o2) /\ o1 < o2 /\ x+1 <= o2 /\ o1 <= hint /\ g (hint-o1)=false)
   (Q:=fun c st'=>st'=st /\ ∃ o1 o2,c=(none,o1,o2) /\ o1 < o2 /\ o1 <= hint /\ g (hint-o1)=false /\ (o2≥hint+1∨(o2 < hint+1 /\ g (hint-o2)=true))) ?_ ?_ ⟨rfl,0,1,rfl,by omega,by omega,by omega,e0⟩) ?_)
  .rintro x c st' _ hx ⟨rfl,o1,o2,rfl,b1,b2,b3,b4⟩
   dsimp only
   by_cases hge:o2≥hint+1
   .rw [if_pos hge]
    exact wpS_pure ⟨rfl,o1,o2,rfl,b1,b3,b4,.inl hge⟩
   rw [if_neg hge]
   refine wpS_bind (hp _ (by omega) _ ?_)
   cases e:g (hint-o2) with
   | true=>exact wpS_pure ⟨rfl,_,_,rfl,b1,b3,b4,.inr ⟨by omega,e⟩⟩
   | false=>exact wpS_pure ⟨rfl,_,_,rfl,by omega,by omega,by omega,e⟩
  .rintro c st' ⟨rfl,o1,o2,rfl,b1,b2,b3,b4⟩
   exact ⟨rfl,o1,o2,rfl,b1,b3,b4,.inl (by omega)⟩
  .rintro c st' ⟨rfl,o1,o2,rfl,b1,b3,b4,b5⟩
   dsimp only
   refine wpS_bind (wpS_mono (last (hint+1-min o2 (hint+1)) (hint-o1) (by omega) (by omega) (fun i hi=>?_) fun i i1 i2=>hm' _ i i1 i2 b4) ?_)
   .rcases b5 with z | ⟨z1,z2⟩
    .omega
    .exact hm i _ (by omega) (by omega) z2
   .rintro c st' ⟨k,rfl,rfl,k1,k2,k3⟩
    exact wpS_pure (h k k1 k2 k3)
end
end L2S
namespace L2S
open PySem PyProof.Rows
noncomputable def mLo:Array Keyed->Array Keyed->StateT SortSt Sem (Array Keyed):=sortPriv% PySem.Builtin.mergeLo
noncomputable abbrev setG (st:SortSt) (g:Nat):SortSt:=SortSt.mk' (kindOf st) (arrOf st) (pendingOf st) g (failedOf st)
theorem mLo_eq (a b:Array Keyed):mLo a b=(do
 rule "list.sort.merge-lo"
 let tt:=a.size+b.size
 let dn (o:Array Keyed) (i j:Nat):=o++a.extract i a.size++b.extract j b.size
 let la (o:Array Keyed) (i j:Nat):=o++b.extract j b.size++a.extract i a.size
 let mut o:Array Keyed:=#[<- elem' b 0]
 let mut i:=0
 let mut j:=1
 if j == b.size then return dn o i j
 if i+1 == a.size then return la o i j
 let mut mg:=gallopOf (<- get)
 for _ in [0:tt] do
  let mut ac:=0
  let mut bc:=0
  for _ in [0:tt] do
   let some w <- lt' (<- elem' b j) (<- elem' a i) | return dn o i j
   if w then
    o:=o.push (<- elem' b j);j:=j+1;bc:=bc+1;ac:=0
    if j == b.size then return dn o i j
    if bc≥mg then break
   else
    o:=o.push (<- elem' a i);i:=i+1;ac:=ac+1;bc:=0
    if i+1 == a.size then return la o i j
    if ac≥mg then break
  rule "list.sort.gallop"
  mg:=mg+1
  for _ in [0:tt] do
   if mg > 1 then mg:=mg-1
   modify fun st=>setG st mg
   let some k <- gal false (<- elem' b j) a i (a.size-i) 0 | return dn o i j
   ac:=k
   if k > 0 then
    o:=o++a.extract i (i+k);i:=i+k
    if i+1 == a.size then return la o i j
    if i == a.size then return dn o i j
   o:=o.push (<- elem' b j);j:=j+1
   if j == b.size then return dn o i j
   let some k <- gal true (<- elem' a i) b j (b.size-j) 0 | return dn o i j
   bc:=k
   if k > 0 then
    o:=o++b.extract j (j+k);j:=j+k
    if j == b.size then return dn o i j
   o:=o.push (<- elem' a i);i:=i+1
   if i+1 == a.size then return la o i j
   if ac < 7 && bc < 7 then break
  mg:=mg+1
  modify fun st=>setG st mg
 unsupported "internal:list.sort.merge-bound"):=rfl
noncomputable def leK (f:Keyed->Int) (x y:Keyed):Prop:=f x <= f y
structure Jm (f:Keyed->Int) (as bs o:List Keyed) (i j:Nat):Prop where
 perm:o.Perm (as.take i++bs.take j)
 sa:(o++as.drop i).Pairwise (leK f)
 sb:(o++bs.drop j).Pairwise (leK f)
noncomputable def Good (f:Keyed->Int) (as bs r:List Keyed):Prop:=r.Perm (as++bs) /\ r.Pairwise (leK f)
theorem take_more (as:List Keyed) (i k:Nat):as.take (i+k)=as.take i++(as.drop i).take k:=List.take_add
theorem drop_more (as:List Keyed) (i k:Nat):as.drop i=(as.drop i).take k++as.drop (i+k):=by rw [<- List.drop_drop,yBS]
section
variable {f:Keyed->Int} {as bs o:List Keyed} {i j:Nat}
theorem Jm.swap (h:Jm f as bs o i j):Jm f bs as o j i:=⟨h.perm.trans yCA,h.sb,h.sa⟩
theorem Jm.chunk (h:Jm f as bs o i j) (k:Nat) (hc:∀ x∈(as.drop i).take k,∀ y∈bs.drop j,f x <= f y):Jm f as bs (o++(as.drop i).take k) (i+k) j:=by
 have sa:=h.sa
 rw [drop_more as i k,<- yBA] at sa
 refine ⟨?_,sa,?_⟩
 .rw [take_more]
  refine (List.Perm.append_right _ h.perm).trans ?_
  rw [yBA,yBA]
  exact List.Perm.append_left _ yCA
 .obtain ⟨p1,p2,p3⟩:=List.pairwise_append.mp h.sb
  obtain ⟨q1,q2,q3⟩:=List.pairwise_append.mp sa
  refine List.pairwise_append.mpr ⟨q1,p2,fun x hx y hy=>?_⟩
  rcases yBC.mp hx with z | z
  .exact p3 x z y hy
  .exact hc x z y hy
theorem Jm.dn (h:Jm f as bs o i j) (e:as.drop i=[]∨bs.drop j=[]):Good f as bs (o++as.drop i++bs.drop j):=by
 refine ⟨?_,?_⟩
 .have p:(o++as.drop i++bs.drop j).Perm ((as.take i++bs.take j)++as.drop i++bs.drop j):=List.Perm.append_right _ (List.Perm.append_right _ h.perm)
  refine p.trans ?_
  have e1:(as.take i++bs.take j++as.drop i++bs.drop j).Perm (as.take i++as.drop i++(bs.take j++bs.drop j)):=by
   rw [yBA,yBA,yBA]
   refine List.Perm.append_left _ ?_
   rw [<- yBA,<- yBA]
   exact List.Perm.append_right _ yCA
  rw [yBS,yBS] at e1
  exact e1
 .rcases e with e | e
  .rw [e,yBI];exact h.sb
  .rw [e,yBI];exact h.sa
theorem Jm.la (h:Jm f as bs o i j) (hl:∀ x∈as.drop i,∀ y∈bs.drop j,f y <= f x):Good f as bs (o++bs.drop j++as.drop i):=by
 have c:=h.swap.chunk (bs.length-j) (fun x hx y hy=>hl y hy x (List.mem_of_mem_take hx))
 rw [yBY (by rw [yBE];exact yAA _)] at c
 have g:=c.dn (.inl (List.drop_eq_nil_of_le (by omega)))
 rw [List.drop_eq_nil_of_le (as:=bs) (i:=j+(bs.length-j)) (by omega),yBI] at g
 exact ⟨g.1.trans yCA,g.2⟩
end
theorem ZDZ (a:Array Keyed) (i:Nat):(a.extract i a.size).toList=a.toList.drop i:=by
 rw [yBT,yBU]
 exact yBY (by rw [yBE];simp)
theorem ZD1 (a:Array Keyed) (i k:Nat):(a.extract i (i+k)).toList=(a.toList.drop i).take k:=by
 rw [yBT,yBU,show i+k-i=k by omega]
theorem ZEb {a:Array Keyed} {i:Nat} {x:Keyed} (h:a[i]?=some x):(a.toList.drop i).take 1=[x]:=by
 have hi:i < a.toList.length:=by
  rw [yAH]
  exact (yAV.mp h).1
 rw [List.drop_eq_getElem_cons hi]
 have:a.toList[i]=x:=by
  rw [yAV] at h
  obtain ⟨_,e⟩:=h
  simpa using e
 rw [this]
 simp
structure Ev (st st':SortSt):Prop where
 k:kindOf st'=kindOf st
 a:arrOf st'=arrOf st
 p:pendingOf st'=pendingOf st
 f:failedOf st'=failedOf st
theorem Ev.refl {st:SortSt}:Ev st st:=⟨rfl,rfl,rfl,rfl⟩
theorem Ev.setG {st st':SortSt} (h:Ev st st') (g:Nat):Ev st (setG st' g):=⟨h.k,h.a,h.p,h.f⟩
section
variable {M:Model} {A:Around} {E:Value->Shared->Prop} {s:Shared} {κ:SortKind} {a₀:Array Keyed} {f:Keyed->Int}
theorem ZAf {a:Array Keyed} {i:Nat} {x:Keyed} {st:SortSt} {Q:Keyed->SortSt->Prop} (h:a[i]?=some x) (q:Q x st):wpS M A E s (elem' a i) Q st:=by
 rw [elem'_eq,h]
 exact wpS_pure q
noncomputable def InA (a₀ a:Array Keyed):Prop:=∀ x∈a.toList,x∈a₀.toList
theorem InA.get {a:Array Keyed} (h:InA a₀ a) {i:Nat} {x:Keyed} (e:a[i]?=some x):x∈a₀.toList:=h x (by rw [yAV] at e;obtain ⟨_,rfl⟩:=e;simp)
theorem ZA7 {a:Array Keyed} {i:Nat} {x:Keyed} (e:a[i]?=some x):kn f a i=f x:=by unfold kn;rw [e];rfl
theorem ZB4 {a:Array Keyed} {i:Nat} (h:i < a.size):∃ x,a[i]?=some x:=⟨_,getElem?_pos a i h⟩
theorem past_at {left:Bool} {key x:Keyed} {arr:Array Keyed} {base i:Nat} {st:SortSt} {Q:Option Bool->SortSt->Prop} (L:Asks M A E s κ a₀ f) (hk:kindOf st=κ) (hx:arr[base+i]?=some x) (h1:x∈a₀.toList) (h2:key∈a₀.toList)
  (q:Q (some (if left=true then decide (f x < f key) else !decide (f key < f x))) st):wpS M A E s (past left key arr base i) Q st:=by
 unfold past
 refine wpS_bind (ZAf hx ?_)
 cases left with
 | true=>exact L.lt x key h1 h2 st _ hk q
 | false=>
  refine wpS_bind (L.lt key x h2 h1 st _ hk ?_)
  exact wpS_pure q
theorem ZEe {key:Keyed} {arr:Array Keyed} {base n hint:Nat} {st:SortSt} {Q:Option Nat->SortSt->Prop} (L:Asks M A E s κ a₀ f) (hk:kindOf st=κ) (hi:InA a₀ arr) (hkey:key∈a₀.toList) (hh:hint < n) (hs:base+n <= arr.size) (hu:Up f arr base n)
  (h:∀ k,k <= n->(∀ i,i < k->kn f arr (base+i) <= f key)->(∀ i,k <= i->i < n->f key < kn f arr (base+i))->Q (some k) st):wpS M A E s (gal false key arr base n hint) Q st:=by
 refine gal_ok (fun i=>!decide (f key < kn f arr (base+i))) hh (fun i hin Q q=>?_) (fun i j z1 z2 z3=>?_) fun k k1 k2 k3=>h k k1 (fun i z=>?_) fun i z1 z2=>?_
 .obtain ⟨x,hx⟩:=ZB4 (a:=arr) (i:=base+i) (by omega)
  refine past_at L hk hx (hi.get hx) hkey ?_
  rw [ZA7 hx] at q
  exact q
 .have:=hu (base+i) (base+j) (by omega) (by omega) (by omega)
  simp at z3 ⊢
  omega
 .have:=k2 i z
  simp at this
  exact this
 .have:=k3 i z1 z2
  simp at this
  exact this
theorem ZDz {key:Keyed} {arr:Array Keyed} {base n hint:Nat} {st:SortSt} {Q:Option Nat->SortSt->Prop} (L:Asks M A E s κ a₀ f) (hk:kindOf st=κ) (hi:InA a₀ arr) (hkey:key∈a₀.toList) (hh:hint < n) (hs:base+n <= arr.size) (hu:Up f arr base n)
  (h:∀ k,k <= n->(∀ i,i < k->kn f arr (base+i) < f key)->(∀ i,k <= i->i < n->f key <= kn f arr (base+i))->Q (some k) st):wpS M A E s (gal true key arr base n hint) Q st:=by
 refine gal_ok (fun i=>decide (kn f arr (base+i) < f key)) hh (fun i hin Q q=>?_) (fun i j z1 z2 z3=>?_) fun k k1 k2 k3=>h k k1 (fun i z=>?_) fun i z1 z2=>?_
 .obtain ⟨x,hx⟩:=ZB4 (a:=arr) (i:=base+i) (by omega)
  refine past_at L hk hx (hi.get hx) hkey ?_
  rw [ZA7 hx] at q
  exact q
 .have:=hu (base+i) (base+j) (by omega) (by omega) (by omega)
  simp at z3 ⊢
  omega
 .have:=k2 i z
  simp at this
  exact this
 .have:=k3 i z1 z2
  simp at this
  exact this
theorem ZCb {a:Array Keyed} {i:Nat} {x:Keyed} (h:x∈a.toList.drop i):∃ k,i <= k /\ k < a.size /\ kn f a k=f x /\ a[k]?=some x:=by
 obtain ⟨n,hn⟩:=yBO h
 rw [yBZ] at hn
 rw [yAU] at hn
 exact ⟨i+n,by omega,(yAV.mp hn).1,ZA7 hn,hn⟩
theorem mem_take {a:Array Keyed} {i k:Nat} {x:Keyed} (h:x∈(a.toList.drop i).take k):∃ n,i <= n /\ n < i+k /\ n < a.size /\ kn f a n=f x:=by
 obtain ⟨n,hn⟩:=yBO h
 have hl:=(yAX.mp hn).1
 rw [yAK] at hl
 rw [yBQ (by omega),yBZ,yAU] at hn
 exact ⟨i+n,by omega,by omega,(yAV.mp hn).1,ZA7 hn⟩
structure Two (a₀:Array Keyed) (f:Keyed->Int) (a b:Array Keyed):Prop where
 ia:InA a₀ a
 ib:InA a₀ b
 ua:Up f a 0 a.size
 ub:Up f b 0 b.size
 na:1 <= a.size
 nb:1 <= b.size
 lo:∀ i,i < a.size->kn f b 0 <= kn f a i
 hi:∀ j,j < b.size->kn f b j <= kn f a (a.size-1)
end
end L2S
namespace L2S
open PySem PyProof.Rows
noncomputable abbrev C5:=Option (Array Keyed)×Array Keyed×Nat×Nat×Nat
noncomputable abbrev C6:=Option (Array Keyed)×Array Keyed×Nat×Nat×Nat×Nat
noncomputable abbrev C7:=Option (Array Keyed)×Array Keyed×Nat×Nat×Nat×Nat×Nat
noncomputable abbrev SM (α:Type):=StateT SortSt Sem α
noncomputable abbrev dnA (a b o:Array Keyed) (i j:Nat):Array Keyed:=o++a.extract i a.size++b.extract j b.size
noncomputable abbrev laA (a b o:Array Keyed) (i j:Nat):Array Keyed:=o++b.extract j b.size++a.extract i a.size
noncomputable def lo1 (a b:Array Keyed) (mg:Nat) (c:C6):SM (ForInStep C6):=do
 let y <- elem' b c.2.2.2.1
 let x <- elem' a c.2.2.1
 let r <- lt' y x
 match r with
 | some w=>
  if w=true then do
   let y <- elem' b c.2.2.2.1
   if (c.2.2.2.1+1 == b.size)=true then pure (.done (some (dnA a b (c.2.1.push y) c.2.2.1 (c.2.2.2.1+1)),c.2.1.push y,c.2.2.1,c.2.2.2.1+1,0,c.2.2.2.2.2+1))
   else if c.2.2.2.2.2+1≥mg then pure (.done (none,c.2.1.push y,c.2.2.1,c.2.2.2.1+1,0,c.2.2.2.2.2+1))
   else pure (.yield (none,c.2.1.push y,c.2.2.1,c.2.2.2.1+1,0,c.2.2.2.2.2+1))
  else do
   let x <- elem' a c.2.2.1
   if (c.2.2.1+1+1 == a.size)=true then pure (.done (some (laA a b (c.2.1.push x) (c.2.2.1+1) c.2.2.2.1),c.2.1.push x,c.2.2.1+1,c.2.2.2.1,c.2.2.2.2.1+1,0))
   else if c.2.2.2.2.1+1≥mg then pure (.done (none,c.2.1.push x,c.2.2.1+1,c.2.2.2.1,c.2.2.2.2.1+1,0))
   else pure (.yield (none,c.2.1.push x,c.2.2.1+1,c.2.2.2.1,c.2.2.2.2.1+1,0))
 | _=>pure (.done (some (dnA a b c.2.1 c.2.2.1 c.2.2.2.1),c.2.1,c.2.2.1,c.2.2.2.1,c.2.2.2.2.1,c.2.2.2.2.2))
noncomputable def lo4 (a b:Array Keyed) (g ac bc:Nat) (o:Array Keyed) (i j:Nat):SM (ForInStep C7):=do
 let x <- elem' a i
 if (i+1+1 == a.size)=true then pure (.done (some (laA a b (o.push x) (i+1) j),o.push x,i+1,j,g,ac,bc))
 else if (decide (ac < 7) && decide (bc < 7))=true then pure (.done (none,o.push x,i+1,j,g,ac,bc))
 else pure (.yield (none,o.push x,i+1,j,g,ac,bc))
noncomputable def lo3 (a b:Array Keyed) (g ac bc:Nat) (o:Array Keyed) (i j:Nat):SM (ForInStep C7):=do
 let y <- elem' b j
 if (j+1 == b.size)=true then pure (.done (some (dnA a b (o.push y) i (j+1)),o.push y,i,j+1,g,ac,bc))
 else do
  let x <- elem' a i
  let r <- gal true x b (j+1) (b.size-(j+1)) 0
  match r with
  | some k=>
   if k > 0 then
    if (j+1+k == b.size)=true then pure (.done (some (dnA a b (o.push y++b.extract (j+1) (j+1+k)) i (j+1+k)),o.push y++b.extract (j+1) (j+1+k),i,j+1+k,g,ac,k))
    else lo4 a b g ac k (o.push y++b.extract (j+1) (j+1+k)) i (j+1+k)
   else lo4 a b g ac k (o.push y) i (j+1)
  | _=>pure (.done (some (dnA a b (o.push y) i (j+1)),o.push y,i,j+1,g,ac,bc))
noncomputable def lo2 (a b:Array Keyed) (g ac bc:Nat) (o:Array Keyed) (i j:Nat):SM (ForInStep C7):=do
 modify fun st=>setG st g
 let y <- elem' b j
 let r <- gal false y a i (a.size-i) 0
 match r with
 | some k=>
  if k > 0 then
   if (i+k+1 == a.size)=true then pure (.done (some (laA a b (o++a.extract i (i+k)) (i+k) j),o++a.extract i (i+k),i+k,j,g,k,bc))
   else if (i+k == a.size)=true then pure (.done (some (dnA a b (o++a.extract i (i+k)) (i+k) j),o++a.extract i (i+k),i+k,j,g,k,bc))
   else lo3 a b g k bc (o++a.extract i (i+k)) (i+k) j
  else lo3 a b g k bc o i j
 | _=>pure (.done (some (dnA a b o i j),o,i,j,g,ac,bc))
noncomputable def loB (a b:Array Keyed) (c:C7):SM (ForInStep C7) :=
 if c.2.2.2.2.1 > 1 then lo2 a b (c.2.2.2.2.1-1) c.2.2.2.2.2.1 c.2.2.2.2.2.2 c.2.1 c.2.2.1 c.2.2.2.1
 else lo2 a b c.2.2.2.2.1 c.2.2.2.2.2.1 c.2.2.2.2.2.2 c.2.1 c.2.2.1 c.2.2.2.1
noncomputable def loO (a b:Array Keyed) (c:C5):SM (ForInStep C5):=do
 let c1 <- forIn [0:a.size+b.size] ((none,c.2.1,c.2.2.1,c.2.2.2.1,0,0):C6) fun _ d=>lo1 a b c.2.2.2.2 d
 match c1.1 with
 | some r=>pure (.done (some r,c1.2.1,c1.2.2.1,c1.2.2.2.1,c.2.2.2.2))
 | none=>do
  liftM (rule "list.sort.gallop")
  let c2 <- forIn [0:a.size+b.size] ((none,c1.2.1,c1.2.2.1,c1.2.2.2.1,c.2.2.2.2+1,c1.2.2.2.2.1,c1.2.2.2.2.2):C7) fun _ d=>loB a b d
  match c2.1 with
  | some r=>pure (.done (some r,c2.2.1,c2.2.2.1,c2.2.2.2.1,c2.2.2.2.2.1))
  | none=>do
   modify fun st=>setG st (c2.2.2.2.2.1+1)
   pure (.yield (none,c2.2.1,c2.2.2.1,c2.2.2.2.1,c2.2.2.2.2.1+1))
theorem bnd2 {α β:Type} {m m':StateT SortSt Sem α} {g h:α->StateT SortSt Sem β} (e0:m=m') (e:∀ a,g a=h a):(m >>= g)=(m' >>= h):=by rw [e0,show g=h from funext e]
theorem for2 {β:Type} {r:Std.Legacy.Range} {c:β} {g h:Nat->β->StateT SortSt Sem (ForInStep β)} (e:∀ x c,g x c=h x c):forIn r c g=forIn r c h:=by rw [show g=h from funext fun x=>funext (e x)]
theorem if2 {α:Type} {c:Prop} [Decidable c] {x y x' y':α} (e1:x=x') (e2:y=y'):(if c then x else y)=(if c then x' else y'):=by rw [e1,e2]
theorem mLo_low (a b:Array Keyed):mLo a b=(do
 liftM (rule "list.sort.merge-lo")
 let y <- elem' b 0
 if (1 == b.size)=true then pure (dnA a b #[y] 0 1)
 else if (0+1 == a.size)=true then pure (laA a b #[y] 0 1)
 else do
  let st <- get
  let c <- forIn [0:a.size+b.size] ((none,#[y],0,1,gallopOf st):C5) fun _ d=>loO a b d
  match c.1 with
  | some r=>pure r
  | none=>liftM (unsupported "internal:list.sort.merge-bound":Sem (Array Keyed))):=by
 rw [mLo_eq]
 refine bnd _ fun _=>bnd _ fun y=>?_
 refine if2 rfl (if2 rfl ?_)
 refine bnd _ fun st=>bnd2 (for2 fun _ c=>?_) fun c=>?_
 .unfold loO
  refine bnd2 (for2 fun _ d=>?_) fun c1=>?_
  .rfl
  .obtain ⟨r,o,i,j,ac,bc⟩:=c1
   cases r with
   | some r=>rfl
   | none=>
    refine bnd2 rfl fun _=>bnd2 (for2 fun _ d=>?_) fun c2=>?_
    .unfold loB
     refine if2 ?_ ?_
     all_goals
      unfold lo2
      refine bnd2 rfl fun _=>bnd2 rfl fun y=>bnd2 rfl fun r=>?_
      cases r with
      | none=>rfl
      | some k=>
       refine if2 (if2 rfl (if2 rfl ?_)) ?_
       all_goals
        unfold lo3
        refine bnd2 rfl fun y2=>if2 rfl (bnd2 rfl fun x2=>bnd2 rfl fun r2=>?_)
        cases r2 with
        | none=>rfl
        | some k2=>
         refine if2 (if2 rfl ?_) ?_
         all_goals
          unfold lo4
          refine bnd2 rfl fun x3=>if2 rfl (if2 rfl rfl)
    .obtain ⟨r,o,i,j,g,ac,bc⟩:=c2
     cases r with
     | some r=>rfl
     | none=>rfl
 .obtain ⟨r,o,i,j,g⟩:=c
  cases r with
  | some r=>rfl
  | none=>rfl
end L2S
namespace L2S
open PySem PyProof.Rows
section
variable {M:Model} {A:Around} {E:Value->Shared->Prop} {s:Shared} {κ:SortKind} {a₀:Array Keyed} {f:Keyed->Int} {a b o:Array Keyed} {i j:Nat}
theorem ZEk {a:Array Keyed} (h:Up f a 0 a.size):a.toList.Pairwise (leK f):=by
 rw [List.pairwise_iff_getElem]
 intro i j hi hj hij
 rw [yAH] at hi hj
 have:=h i j (yAC _) (yBH hij) (by omega)
 rw [ZA7 (getElem?_pos a i hi),ZA7 (getElem?_pos a j hj)] at this
 simpa [leK] using this
noncomputable abbrev JA (f:Keyed->Int) (a b o:Array Keyed) (i j:Nat):Prop:=Jm f a.toList b.toList o.toList i j
noncomputable abbrev Fin (f:Keyed->Int) (a b r:Array Keyed):Prop:=Good f a.toList b.toList r.toList
theorem JA.dn (h:JA f a b o i j) (e:a.size <= i∨b.size <= j):Fin f a b (dnA a b o i j):=by
 have g:=Jm.dn h (e.imp (fun z=>List.drop_eq_nil_of_le (by rw [yAH];exact z)) (fun z=>List.drop_eq_nil_of_le (by rw [yAH];exact z)))
 unfold Fin dnA
 rw [yBJ,yBJ,ZDZ,ZDZ]
 exact g
theorem JA.la (h:JA f a b o i j) (T:Two a₀ f a b) (e:i+1=a.size):Fin f a b (laA a b o i j):=by
 have g:=Jm.la h fun x hx y hy=>by
  obtain ⟨k,k1,k2,k3,_⟩:=ZCb (f:=f) hx
  obtain ⟨n,n1,n2,n3,_⟩:=ZCb (f:=f) hy
  have:=T.hi n n2
  rw [show a.size-1=k by omega,k3,n3] at this
  exact this
 unfold Fin laA
 rw [yBJ,yBJ,ZDZ,ZDZ]
 exact g
theorem JA.pushA {x:Keyed} (h:JA f a b o i j) (hx:a[i]?=some x) (hc:∀ n,j <= n->n < b.size->f x <= kn f b n):JA f a b (o.push x) (i+1) j:=by
 have g:=Jm.chunk h 1 fun u hu y hy=>by
  rw [ZEb hx,yAW] at hu
  obtain ⟨n,n1,n2,n3,_⟩:=ZCb (f:=f) hy
  rw [hu,<- n3]
  exact hc n n1 n2
 rw [ZEb hx] at g
 unfold JA
 rw [Array.toList_push]
 exact g
theorem JA.pushB {x:Keyed} (h:JA f a b o i j) (hx:b[j]?=some x) (hc:∀ n,i <= n->n < a.size->f x <= kn f a n):JA f a b (o.push x) i (j+1) :=
 (JA.pushA (Jm.swap h) hx hc).swap
theorem JA.chunkA (h:JA f a b o i j) (k:Nat) (hc:∀ n m,i <= n->n < i+k->n < a.size->j <= m->m < b.size->kn f a n <= kn f b m):JA f a b (o++a.extract i (i+k)) (i+k) j:=by
 have g:=Jm.chunk h k fun u hu y hy=>by
  obtain ⟨n,n1,n2,n3,n4⟩:=mem_take (f:=f) hu
  obtain ⟨m,m1,m2,m3,_⟩:=ZCb (f:=f) hy
  rw [<- n4,<- m3]
  exact hc n m n1 n2 n3 m1 m2
 unfold JA
 rw [yBJ,ZD1]
 exact g
theorem JA.chunkB (h:JA f a b o i j) (k:Nat) (hc:∀ n m,j <= n->n < j+k->n < b.size->i <= m->m < a.size->kn f b n <= kn f a m):JA f a b (o++b.extract j (j+k)) i (j+k) :=
 (JA.chunkA (Jm.swap h) k hc).swap
theorem Up.sub {xs:Array Keyed} {n:Nat} (h:Up f xs 0 n) {lo m:Nat} (e:lo+m <= n):Up f xs lo m:=fun i j z1 z2 z3=>h i j (yAC _) z2 (by omega)
noncomputable def R7 (f:Keyed->Int) (a b:Array Keyed) (st:SortSt) (x:Nat):ForInStep C7->SortSt->Prop
 | .done c,st'=>Ev st st' /\ ((∃ r z,c=(some r,z) /\ Fin f a b r)∨∃ o i j g ac bc,c=(none,o,i,j,g,ac,bc) /\ JA f a b o i j /\ i+1 < a.size /\ j < b.size /\ x+2 <= i+j)
 | .yield c,st'=>Ev st st' /\ ∃ o i j g ac bc,c=(none,o,i,j,g,ac,bc) /\ JA f a b o i j /\ i+1 < a.size /\ j < b.size /\ x+2 <= i+j
theorem mLo_ok {st:SortSt} {Q:Array Keyed->SortSt->Prop} (L:Asks M A E s κ a₀ f) (hk:kindOf st=κ) (T:Two a₀ f a b) (h:∀ r st',Ev st st'->Fin f a b r->Q r st'):wpS M A E s (mLo a b) Q st:=by
 have ta:=T.na
 have tb:=T.nb
 have ua:∀ n m,n <= m->m < a.size->kn f a n <= kn f a m:=fun n m z1 z2=>T.ua n m (yAC _) z1 (by omega)
 have ub:∀ n m,n <= m->m < b.size->kn f b n <= kn f b m:=fun n m z1 z2=>T.ub n m (yAC _) z1 (by omega)
 rw [mLo_low]
 refine wpS_bind (wpS_lift (wpAny_rule ⟨rfl,?_⟩))
 obtain ⟨y0,hy0⟩:=ZB4 (a:=b) (i:=0) (by omega)
 refine wpS_bind (ZAf hy0 ?_)
 have J0:JA f a b #[y0] 0 1:=by
  have e:JA f a b #[] 0 0:=⟨by simp,by simpa using ZEk T.ua,by simpa using ZEk T.ub⟩
  have:=JA.pushB e hy0 fun n _ n2=>by rw [<- ZA7 (f:=f) hy0];exact T.lo n n2
  exact this
 by_cases c1:1=b.size
 .rw [if_pos (by simpa using c1)]
  exact wpS_pure (h _ st .refl (J0.dn (.inr (by omega))))
 rw [if_neg (by simpa using c1)]
 by_cases c2:0+1=a.size
 .rw [if_pos (by simpa using c2)]
  exact wpS_pure (h _ st .refl (J0.la T c2))
 rw [if_neg (by simpa using c2)]
 refine wpS_bind (wpS_get ?_)
 refine wpS_bind (wpS_mono (wpS_forRange (I:=fun x c st'=>Ev st st' /\ ∃ o i j g,c=(none,o,i,j,g) /\ JA f a b o i j /\ i+1 < a.size /\ j < b.size /\ x+1 <= i+j) (Q:=fun c st'=>Ev st st' /\ ∃ r z,c=(some r,z) /\ Fin f a b r) ?_ ?_ ⟨.refl,_,0,1,_,rfl,J0,by omega,by omega,by omega⟩) ?_)
 .rintro x c st1 _ hx ⟨e1,o,i,j,g,rfl,J,hi,hj,hp⟩
  unfold loO
  dsimp only
  refine wpS_bind (wpS_mono (wpS_forRange (I:=fun y c st'=>Ev st st' /\ ∃ o i j ac bc,c=(none,o,i,j,ac,bc) /\ JA f a b o i j /\ i+1 < a.size /\ j < b.size /\ x+1+y <= i+j)
   (Q:=fun c st'=>Ev st st' /\ ((∃ r z,c=(some r,z) /\ Fin f a b r)∨∃ o i j ac bc,c=(none,o,i,j,ac,bc) /\ JA f a b o i j /\ i+1 < a.size /\ j < b.size /\ x+2 <= i+j)) ?_ ?_ ⟨e1,o,i,j,0,0,rfl,J,hi,hj,by omega⟩) ?_)
  .rintro y c st2 _ hy ⟨e2,o,i,j,ac,bc,rfl,J,hi,hj,hp⟩
   unfold lo1
   dsimp only
   obtain ⟨yb,hyb⟩:=ZB4 (a:=b) hj
   obtain ⟨xa,hxa⟩:=ZB4 (a:=a) (i:=i) (by omega)
   refine wpS_bind (ZAf hyb ?_)
   refine wpS_bind (ZAf hxa ?_)
   refine wpS_bind (L.lt yb xa (T.ib.get hyb) (T.ia.get hxa) st2 _ (e2.k.trans hk) ?_)
   by_cases hw:f yb < f xa
   .rw [decide_eq_true hw]
    dsimp only
    rw [if_pos rfl]
    refine wpS_bind (ZAf hyb ?_)
    have J2:=J.pushB hyb fun n n1 n2=>by
     have:=ua i n n1 n2
     rw [ZA7 hxa] at this
     omega
    by_cases c3:j+1=b.size
    .rw [if_pos (by simpa using c3)]
     exact wpS_pure ⟨e2,.inl ⟨_,_,rfl,J2.dn (.inr (by omega))⟩⟩
    rw [if_neg (by simpa using c3)]
    split
    .exact wpS_pure ⟨e2,.inr ⟨_,_,_,_,_,rfl,J2,hi,by omega,by omega⟩⟩
    .exact wpS_pure ⟨e2,_,_,_,_,_,rfl,J2,hi,by omega,by omega⟩
   .rw [decide_eq_false hw]
    dsimp only
    rw [if_neg (by decide)]
    refine wpS_bind (ZAf hxa ?_)
    have J2:=J.pushA hxa fun n n1 n2=>by
     have:=ub j n n1 n2
     rw [ZA7 hyb] at this
     omega
    by_cases c3:i+1+1=a.size
    .rw [if_pos (by simpa using c3)]
     exact wpS_pure ⟨e2,.inl ⟨_,_,rfl,J2.la T c3⟩⟩
    rw [if_neg (by simpa using c3)]
    split
    .exact wpS_pure ⟨e2,.inr ⟨_,_,_,_,_,rfl,J2,by omega,hj,by omega⟩⟩
    .exact wpS_pure ⟨e2,_,_,_,_,_,rfl,J2,by omega,hj,by omega⟩
  .rintro c st2 ⟨e2,o,i,j,ac,bc,rfl,J,hi,hj,hp⟩
   exact ⟨e2,.inr ⟨_,_,_,_,_,rfl,J,hi,hj,by omega⟩⟩
  .rintro c st2 ⟨e2,⟨r,z,rfl,hr⟩ | ⟨o,i,j,ac,bc,rfl,J,hi,hj,hp⟩⟩
   .exact wpS_pure ⟨e2,r,_,rfl,hr⟩
   dsimp only
   refine wpS_bind (wpS_lift (wpAny_rule ⟨rfl,?_⟩))
   refine wpS_bind (wpS_mono (wpS_forRange (I:=fun y c st'=>Ev st st' /\ ∃ o i j g ac bc,c=(none,o,i,j,g,ac,bc) /\ JA f a b o i j /\ i+1 < a.size /\ j < b.size /\ x+2 <= i+j)
    (Q:=fun c st'=>Ev st st' /\ ((∃ r z,c=(some r,z) /\ Fin f a b r)∨∃ o i j g ac bc,c=(none,o,i,j,g,ac,bc) /\ JA f a b o i j /\ i+1 < a.size /\ j < b.size /\ x+2 <= i+j)) ?_ ?_ ⟨e2,o,i,j,_,ac,bc,rfl,J,hi,hj,hp⟩) ?_)
   .rintro y c st3 _ hy ⟨e3,o,i,j,g,ac,bc,rfl,J,hi,hj,hp⟩
    have four:∀ (g ac bc:Nat) (o:Array Keyed) (i j:Nat) (st4:SortSt) (xa:Keyed),Ev st st4->JA f a b o i j->i+1 < a.size->j < b.size->x+2 <= i+j->a[i]?=some xa->(∀ n,j <= n->n < b.size->f xa <= kn f b n) ->
      wpS M A E s (lo4 a b g ac bc o i j) (R7 f a b st x) st4:=by
     intro g ac bc o i j st4 xa e4 J hi hj hp hxa hle
     unfold lo4
     refine wpS_bind (ZAf hxa ?_)
     have J2:=J.pushA hxa hle
     by_cases c3:i+1+1=a.size
     .rw [if_pos (by simpa using c3)]
      exact wpS_pure ⟨e4,.inl ⟨_,_,rfl,J2.la T c3⟩⟩
     rw [if_neg (by simpa using c3)]
     split
     .exact wpS_pure ⟨e4,.inr ⟨_,_,_,_,_,_,rfl,J2,by omega,hj,by omega⟩⟩
     .exact wpS_pure ⟨e4,_,_,_,_,_,_,rfl,J2,by omega,hj,by omega⟩
    have three:∀ (g ac bc:Nat) (o:Array Keyed) (i j:Nat) (st4:SortSt) (yb:Keyed),Ev st st4->JA f a b o i j->i+1 < a.size->j < b.size->x+2 <= i+j->b[j]?=some yb->(∀ n,i <= n->n < a.size->f yb <= kn f a n) ->
      wpS M A E s (lo3 a b g ac bc o i j) (R7 f a b st x) st4:=by
     intro g ac bc o i j st4 yb e4 J hi hj hp hyb hle
     unfold lo3
     refine wpS_bind (ZAf hyb ?_)
     have J2:=J.pushB hyb hle
     by_cases c3:j+1=b.size
     .rw [if_pos (by simpa using c3)]
      exact wpS_pure ⟨e4,.inl ⟨_,_,rfl,J2.dn (.inr (by omega))⟩⟩
     rw [if_neg (by simpa using c3)]
     obtain ⟨xa,hxa⟩:=ZB4 (a:=a) (i:=i) (by omega)
     refine wpS_bind (ZAf hxa ?_)
     refine wpS_bind (ZDz L (e4.k.trans hk) T.ib (T.ia.get hxa) (by omega) (by omega) (T.ub.sub (by omega)) fun k k1 k2 k3=>?_)
     dsimp only
     have rest:∀ n,j+1+k <= n->n < b.size->f xa <= kn f b n:=fun n n1 n2=>by
      have:=k3 (n-(j+1)) (by omega) (by omega)
      rw [show j+1+(n-(j+1))=n by omega] at this
      exact this
     by_cases hk0:k > 0
     .rw [if_pos hk0]
      have J3:=J2.chunkB k fun n m n1 n2 n3 m1 m2=>by
       have z:=k2 (n-(j+1)) (by omega)
       rw [show j+1+(n-(j+1))=n by omega] at z
       have z2:=ua i m m1 m2
       rw [ZA7 hxa] at z2
       omega
      by_cases c4:j+1+k=b.size
      .rw [if_pos (by simpa using c4)]
       exact wpS_pure ⟨e4,.inl ⟨_,_,rfl,J3.dn (.inr (by omega))⟩⟩
      rw [if_neg (by simpa using c4)]
      exact four _ _ _ _ _ _ _ xa e4 J3 hi (by omega) (by omega) hxa rest
     .rw [if_neg hk0]
      have:k=0:=by omega
      subst this
      exact four _ _ _ _ _ _ _ xa e4 J2 hi (by omega) (by omega) hxa rest
    have two:∀ (g ac bc:Nat),wpS M A E s (lo2 a b g ac bc o i j) (R7 f a b st x) st3:=by
     intro g ac bc
     unfold lo2
     obtain ⟨yb,hyb⟩:=ZB4 (a:=b) hj
     refine wpS_bind (wpS_modify ?_)
     have e4:=e3.setG g
     refine wpS_bind (ZAf hyb ?_)
     refine wpS_bind (ZEe L (e4.k.trans hk) T.ia (T.ib.get hyb) (by omega) (by omega) (T.ua.sub (by omega)) fun k k1 k2 k3=>?_)
     dsimp only
     have rest:∀ n,i+k <= n->n < a.size->f yb <= kn f a n:=fun n n1 n2=>by
      have:=k3 (n-i) (by omega) (by omega)
      rw [show i+(n-i)=n by omega] at this
      omega
     by_cases hk0:k > 0
     .rw [if_pos hk0]
      have J3:=J.chunkA k fun n m n1 n2 n3 m1 m2=>by
       have z:=k2 (n-i) (by omega)
       rw [show i+(n-i)=n by omega] at z
       have z2:=ub j m m1 m2
       rw [ZA7 hyb] at z2
       omega
      by_cases c4:i+k+1=a.size
      .rw [if_pos (by simpa using c4)]
       exact wpS_pure ⟨e4,.inl ⟨_,_,rfl,J3.la T c4⟩⟩
      rw [if_neg (by simpa using c4)]
      by_cases c5:i+k=a.size
      .rw [if_pos (by simpa using c5)]
       exact wpS_pure ⟨e4,.inl ⟨_,_,rfl,J3.dn (.inl (by omega))⟩⟩
      rw [if_neg (by simpa using c5)]
      exact three _ _ _ _ _ _ _ yb e4 J3 (by omega) hj (by omega) hyb rest
     .rw [if_neg hk0]
      have:k=0:=by omega
      subst this
      exact three _ _ _ _ _ _ _ yb e4 J hi hj hp hyb rest
    unfold loB
    dsimp only
    split
    .exact wpS_mono (two _ _ _) fun r st' z=>by cases r <;> exact z
    .exact wpS_mono (two _ _ _) fun r st' z=>by cases r <;> exact z
   .rintro c st3 ⟨e3,o,i,j,g,ac,bc,rfl,J,hi,hj,hp⟩
    exact ⟨e3,.inr ⟨_,_,_,_,_,_,rfl,J,hi,hj,hp⟩⟩
   .rintro c st3 ⟨e3,⟨r,z,rfl,hr⟩ | ⟨o,i,j,g,ac,bc,rfl,J,hi,hj,hp⟩⟩
    .exact wpS_pure ⟨e3,r,_,rfl,hr⟩
    .dsimp only
     exact wpS_bind (wpS_modify (wpS_pure ⟨e3.setG _,_,_,_,_,rfl,J,hi,hj,by omega⟩))
 .rintro c st1 ⟨e1,o,i,j,g,rfl,J,hi,hj,hp⟩
  omega
 .rintro c st1 ⟨e1,r,z,rfl,hr⟩
  exact wpS_pure (h r st1 e1 hr)
end
end L2S
namespace L2S
open PySem PyProof.Rows
noncomputable def mHi:Array Keyed->Array Keyed->StateT SortSt Sem (Array Keyed):=sortPriv% PySem.Builtin.mergeHi
theorem mHi_eq (a b:Array Keyed):mHi a b=(do
 rule "list.sort.merge-hi"
 let tt:=a.size+b.size
 let dn (o:Array Keyed) (i j:Nat):=a.extract 0 i++b.extract 0 j++o.reverse
 let fb (o:Array Keyed) (i j:Nat):=b.extract 0 j++a.extract 0 i++o.reverse
 let mut i:=a.size-1
 let mut j:=b.size
 let mut o:Array Keyed:=#[<- elem' a i]
 if i == 0 then return dn o i j
 if j == 1 then return fb o i j
 let mut mg:=gallopOf (<- get)
 for _ in [0:tt] do
  let mut ac:=0
  let mut bc:=0
  for _ in [0:tt] do
   let some w <- lt' (<- elem' b (j-1)) (<- elem' a (i-1)) | return dn o i j
   if w then
    i:=i-1;o:=o.push (<- elem' a i);ac:=ac+1;bc:=0
    if i == 0 then return dn o i j
    if ac≥mg then break
   else
    j:=j-1;o:=o.push (<- elem' b j);bc:=bc+1;ac:=0
    if j == 1 then return fb o i j
    if bc≥mg then break
  rule "list.sort.gallop"
  mg:=mg+1
  for _ in [0:tt] do
   if mg > 1 then mg:=mg-1
   modify fun st=>setG st mg
   let some t <- gal false (<- elem' b (j-1)) a 0 i (i-1) | return dn o i j
   let k:=i-t
   ac:=k
   if k > 0 then
    o:=o++(a.extract t i).reverse;i:=t
    if i == 0 then return dn o i j
   j:=j-1;o:=o.push (<- elem' b j)
   if j == 1 then return fb o i j
   let some t <- gal true (<- elem' a (i-1)) b 0 j (j-1) | return dn o i j
   let k:=j-t
   bc:=k
   if k > 0 then
    o:=o++(b.extract t j).reverse;j:=t
    if j == 1 then return fb o i j
    if j == 0 then return dn o i j
   i:=i-1;o:=o.push (<- elem' a i)
   if i == 0 then return dn o i j
   if ac < 7 && bc < 7 then break
  mg:=mg+1
  modify fun st=>setG st mg
 unsupported "internal:list.sort.merge-bound"):=rfl
noncomputable abbrev D5:=Option (Array Keyed)×Nat×Nat×Array Keyed×Nat
noncomputable abbrev D6:=Option (Array Keyed)×Nat×Nat×Array Keyed×Nat×Nat
noncomputable abbrev D7:=Option (Array Keyed)×Nat×Nat×Array Keyed×Nat×Nat×Nat
noncomputable abbrev dnH (a b o:Array Keyed) (i j:Nat):Array Keyed:=a.extract 0 i++b.extract 0 j++o.reverse
noncomputable abbrev fbH (a b o:Array Keyed) (i j:Nat):Array Keyed:=b.extract 0 j++a.extract 0 i++o.reverse
noncomputable def hi1 (a b:Array Keyed) (mg:Nat) (c:D6):SM (ForInStep D6):=do
 let y <- elem' b (c.2.2.1-1)
 let x <- elem' a (c.2.1-1)
 let r <- lt' y x
 match r with
 | some w=>
  if w=true then do
   let x <- elem' a (c.2.1-1)
   if (c.2.1-1 == 0)=true then pure (.done (some (dnH a b (c.2.2.2.1.push x) (c.2.1-1) c.2.2.1),c.2.1-1,c.2.2.1,c.2.2.2.1.push x,c.2.2.2.2.1+1,0))
   else if c.2.2.2.2.1+1≥mg then pure (.done (none,c.2.1-1,c.2.2.1,c.2.2.2.1.push x,c.2.2.2.2.1+1,0))
   else pure (.yield (none,c.2.1-1,c.2.2.1,c.2.2.2.1.push x,c.2.2.2.2.1+1,0))
  else do
   let y <- elem' b (c.2.2.1-1)
   if (c.2.2.1-1 == 1)=true then pure (.done (some (fbH a b (c.2.2.2.1.push y) c.2.1 (c.2.2.1-1)),c.2.1,c.2.2.1-1,c.2.2.2.1.push y,0,c.2.2.2.2.2+1))
   else if c.2.2.2.2.2+1≥mg then pure (.done (none,c.2.1,c.2.2.1-1,c.2.2.2.1.push y,0,c.2.2.2.2.2+1))
   else pure (.yield (none,c.2.1,c.2.2.1-1,c.2.2.2.1.push y,0,c.2.2.2.2.2+1))
 | _=>pure (.done (some (dnH a b c.2.2.2.1 c.2.1 c.2.2.1),c.2.1,c.2.2.1,c.2.2.2.1,c.2.2.2.2.1,c.2.2.2.2.2))
noncomputable def hi4 (a b:Array Keyed) (g ac bc:Nat) (o:Array Keyed) (i j:Nat):SM (ForInStep D7):=do
 let x <- elem' a (i-1)
 if (i-1 == 0)=true then pure (.done (some (dnH a b (o.push x) (i-1) j),i-1,j,o.push x,g,ac,bc))
 else if (decide (ac < 7) && decide (bc < 7))=true then pure (.done (none,i-1,j,o.push x,g,ac,bc))
 else pure (.yield (none,i-1,j,o.push x,g,ac,bc))
noncomputable def hi3 (a b:Array Keyed) (g ac bc:Nat) (o:Array Keyed) (i j:Nat):SM (ForInStep D7):=do
 let y <- elem' b (j-1)
 if (j-1 == 1)=true then pure (.done (some (fbH a b (o.push y) i (j-1)),i,j-1,o.push y,g,ac,bc))
 else do
  let x <- elem' a (i-1)
  let r <- gal true x b 0 (j-1) (j-1-1)
  match r with
  | some t=>
   if j-1-t > 0 then
    if (t == 1)=true then pure (.done (some (fbH a b (o.push y++(b.extract t (j-1)).reverse) i t),i,t,o.push y++(b.extract t (j-1)).reverse,g,ac,j-1-t))
    else if (t == 0)=true then pure (.done (some (dnH a b (o.push y++(b.extract t (j-1)).reverse) i t),i,t,o.push y++(b.extract t (j-1)).reverse,g,ac,j-1-t))
    else hi4 a b g ac (j-1-t) (o.push y++(b.extract t (j-1)).reverse) i t
   else hi4 a b g ac (j-1-t) (o.push y) i (j-1)
  | _=>pure (.done (some (dnH a b (o.push y) i (j-1)),i,j-1,o.push y,g,ac,bc))
noncomputable def hi2 (a b:Array Keyed) (g ac bc:Nat) (o:Array Keyed) (i j:Nat):SM (ForInStep D7):=do
 modify fun st=>setG st g
 let y <- elem' b (j-1)
 let r <- gal false y a 0 i (i-1)
 match r with
 | some t=>
  if i-t > 0 then
   if (t == 0)=true then pure (.done (some (dnH a b (o++(a.extract t i).reverse) t j),t,j,o++(a.extract t i).reverse,g,i-t,bc))
   else hi3 a b g (i-t) bc (o++(a.extract t i).reverse) t j
  else hi3 a b g (i-t) bc o i j
 | _=>pure (.done (some (dnH a b o i j),i,j,o,g,ac,bc))
noncomputable def hiB (a b:Array Keyed) (c:D7):SM (ForInStep D7) :=
 if c.2.2.2.2.1 > 1 then hi2 a b (c.2.2.2.2.1-1) c.2.2.2.2.2.1 c.2.2.2.2.2.2 c.2.2.2.1 c.2.1 c.2.2.1
 else hi2 a b c.2.2.2.2.1 c.2.2.2.2.2.1 c.2.2.2.2.2.2 c.2.2.2.1 c.2.1 c.2.2.1
noncomputable def hiO (a b:Array Keyed) (c:D5):SM (ForInStep D5):=do
 let c1 <- forIn [0:a.size+b.size] ((none,c.2.1,c.2.2.1,c.2.2.2.1,0,0):D6) fun _ d=>hi1 a b c.2.2.2.2 d
 match c1.1 with
 | some r=>pure (.done (some r,c1.2.1,c1.2.2.1,c1.2.2.2.1,c.2.2.2.2))
 | none=>do
  liftM (rule "list.sort.gallop")
  let c2 <- forIn [0:a.size+b.size] ((none,c1.2.1,c1.2.2.1,c1.2.2.2.1,c.2.2.2.2+1,c1.2.2.2.2.1,c1.2.2.2.2.2):D7) fun _ d=>hiB a b d
  match c2.1 with
  | some r=>pure (.done (some r,c2.2.1,c2.2.2.1,c2.2.2.2.1,c2.2.2.2.2.1))
  | none=>do
   modify fun st=>setG st (c2.2.2.2.2.1+1)
   pure (.yield (none,c2.2.1,c2.2.2.1,c2.2.2.2.1,c2.2.2.2.2.1+1))
theorem mHi_low (a b:Array Keyed):mHi a b=(do
 liftM (rule "list.sort.merge-hi")
 let x <- elem' a (a.size-1)
 if (a.size-1 == 0)=true then pure (dnH a b #[x] (a.size-1) b.size)
 else if (b.size == 1)=true then pure (fbH a b #[x] (a.size-1) b.size)
 else do
  let st <- get
  let c <- forIn [0:a.size+b.size] ((none,a.size-1,b.size,#[x],gallopOf st):D5) fun _ d=>hiO a b d
  match c.1 with
  | some r=>pure r
  | none=>liftM (unsupported "internal:list.sort.merge-bound":Sem (Array Keyed))):=by
 rw [mHi_eq]
 refine bnd _ fun _=>bnd _ fun y=>?_
 refine if2 rfl (if2 rfl ?_)
 refine bnd _ fun st=>bnd2 (for2 fun _ c=>?_) fun c=>?_
 .unfold hiO
  refine bnd2 (for2 fun _ d=>?_) fun c1=>?_
  .rfl
  .obtain ⟨r,i,j,o,ac,bc⟩:=c1
   cases r with
   | some r=>rfl
   | none=>
    refine bnd2 rfl fun _=>bnd2 (for2 fun _ d=>?_) fun c2=>?_
    .unfold hiB
     refine if2 ?_ ?_
     all_goals
      unfold hi2
      refine bnd2 rfl fun _=>bnd2 rfl fun y=>bnd2 rfl fun r=>?_
      cases r with
      | none=>rfl
      | some k=>
       refine if2 (if2 rfl ?_) ?_
       all_goals
        unfold hi3
        refine bnd2 rfl fun y2=>if2 rfl (bnd2 rfl fun x2=>bnd2 rfl fun r2=>?_)
        cases r2 with
        | none=>rfl
        | some k2=>
         refine if2 (if2 rfl (if2 rfl ?_)) ?_
         all_goals
          unfold hi4
          refine bnd2 rfl fun x3=>if2 rfl (if2 rfl rfl)
    .obtain ⟨r,i,j,o,g,ac,bc⟩:=c2
     cases r with
     | some r=>rfl
     | none=>rfl
 .obtain ⟨r,i,j,o,g⟩:=c
  cases r with
  | some r=>rfl
  | none=>rfl
end L2S
namespace L2S
open PySem PyProof.Rows
section
variable {M:Model} {A:Around} {E:Value->Shared->Prop} {s:Shared} {κ:SortKind} {a₀:Array Keyed} {f:Keyed->Int} {a b o:Array Keyed} {i j:Nat}
noncomputable abbrev JH (f:Keyed->Int) (a b o:Array Keyed) (i j:Nat):Prop:=Jm (fun x=>- f x) a.toList.reverse b.toList.reverse o.toList (a.size-i) (b.size-j)
theorem ZBE {a:Array Keyed} {i:Nat} (h:i <= a.size):a.toList.reverse.drop (a.size-i)=(a.toList.take i).reverse:=by
 rw [List.drop_reverse,yAH,show a.size-(a.size-i)=i by omega]
theorem ZEE (a:Array Keyed) (i:Nat):(a.extract 0 i).toList=a.toList.take i:=by
 rw [yBT,yBU,Nat.sub_zero]
 rfl
theorem ZDu {a:Array Keyed} {i:Nat} {x:Keyed} (h:i <= a.size) (hx:x∈a.toList.reverse.drop (a.size-i)):∃ k,k < i /\ kn f a k=f x:=by
 rw [ZBE h,List.mem_reverse] at hx
 obtain ⟨n,hn⟩:=yBO hx
 have hl:=(yAX.mp hn).1
 rw [yAK] at hl
 rw [yBQ (by omega),yAU] at hn
 exact ⟨n,by omega,ZA7 hn⟩
theorem good_rev {as bs r:List Keyed} (h:Good (fun x=>- f x) as.reverse bs.reverse r):Good f as bs r.reverse:=by
 refine ⟨?_,?_⟩
 .refine (List.reverse_perm r).trans (h.1.trans ?_)
  exact List.Perm.append (List.reverse_perm as) (List.reverse_perm bs)
 .rw [List.pairwise_reverse]
  refine h.2.imp fun {x y} z=>?_
  have w:- f x <= - f y:=z
  show f y <= f x
  omega
theorem JH.dn (h:JH f a b o i j) (hi:i <= a.size) (hj:j <= b.size) (e:i=0∨j=0):Fin f a b (dnH a b o i j):=by
 have g:=Jm.dn (Jm.swap h) (e.symm.imp (fun z=>by rw [ZBE hj,z];rfl) (fun z=>by rw [ZBE hi,z];rfl))
 have g2:=good_rev g
 rw [ZBE hi,ZBE hj,List.reverse_append,List.reverse_append,List.reverse_reverse,List.reverse_reverse,<- yBA] at g2
 unfold Fin dnH
 rw [yBJ,yBJ,ZEE,ZEE,Array.toList_reverse]
 exact ⟨g2.1.trans yCA,g2.2⟩
theorem JH.fb (h:JH f a b o i j) (T:Two a₀ f a b) (hi:i <= a.size) (hj:j <= b.size) (e:j=1):Fin f a b (fbH a b o i j):=by
 have g:=Jm.la (Jm.swap h) fun x hx y hy=>by
  obtain ⟨k,k1,k2⟩:=ZDu (f:=f) hj hx
  obtain ⟨n,n1,n2⟩:=ZDu (f:=f) hi hy
  have:=T.lo n (by omega)
  rw [show k=0 by omega] at k2
  rw [k2,n2] at this
  show-f y <= - f x
  omega
 have g2:=good_rev g
 rw [ZBE hi,ZBE hj,List.reverse_append,List.reverse_append,List.reverse_reverse,List.reverse_reverse,<- yBA] at g2
 unfold Fin fbH
 rw [yBJ,yBJ,ZEE,ZEE,Array.toList_reverse]
 exact ⟨g2.1.trans yCA,g2.2⟩
theorem JH.chunkA (h:JH f a b o i j) {t:Nat} (ht:t <= i) (hi:i <= a.size) (hj:j <= b.size) (hc:∀ n m,t <= n->n < i->m < j->kn f b m <= kn f a n):JH f a b (o++(a.extract t i).reverse) t j:=by
 have e:(a.toList.reverse.drop (a.size-i)).take (i-t)=(a.extract t i).reverse.toList:=by
  rw [ZBE hi,List.take_reverse,Array.toList_reverse,yBT,yBU,yAK,yAH,yBP hi,show i-(i-t)=t by omega,List.drop_take]
 have g:=Jm.chunk h (i-t) fun u hu y hy=>by
  obtain ⟨m,m1,m2⟩:=ZDu (f:=f) hj hy
  rw [e,Array.toList_reverse,List.mem_reverse,show i=t+(i-t) by omega,ZD1] at hu
  obtain ⟨n,n1,n2,n3,n4⟩:=mem_take (f:=f) hu
  have:=hc n m n1 (by omega) m1
  show-f u <= - f y
  omega
 rw [e] at g
 unfold JH
 rw [yBJ,show a.size-t=a.size-i+(i-t) by omega]
 exact g
theorem JH.chunkB (h:JH f a b o i j) {t:Nat} (ht:t <= j) (hi:i <= a.size) (hj:j <= b.size) (hc:∀ n m,t <= n->n < j->m < i->kn f a m <= kn f b n):JH f a b (o++(b.extract t j).reverse) i t :=
 (JH.chunkA (Jm.swap h) ht hj hi hc).swap
theorem one_rev {x:Keyed} (hx:a[i-1]?=some x) (hi:1 <= i):(a.extract (i-1) i).reverse=#[x]:=by
 have e:(a.extract (i-1) i).toList=[x]:=by
  have:=ZD1 a (i-1) 1
  rw [show i-1+1=i by omega] at this
  rw [this]
  exact ZEb hx
 apply Array.toList_inj.mp
 rw [Array.toList_reverse,e]
 rfl
theorem JH.pushA {x:Keyed} (h:JH f a b o i j) (hx:a[i-1]?=some x) (h1:1 <= i) (hi:i <= a.size) (hj:j <= b.size) (hc:∀ m,m < j->kn f b m <= f x):JH f a b (o.push x) (i-1) j:=by
 have g:=JH.chunkA h (t:=i-1) (by omega) hi hj fun n m n1 n2 m1=>by
  rw [show n=i-1 by omega,ZA7 hx]
  exact hc m m1
 rw [one_rev hx h1] at g
 rw [show o.push x=o++#[x] from rfl]
 exact g
theorem JH.pushB {x:Keyed} (h:JH f a b o i j) (hx:b[j-1]?=some x) (h1:1 <= j) (hi:i <= a.size) (hj:j <= b.size) (hc:∀ m,m < i->kn f a m <= f x):JH f a b (o.push x) i (j-1) :=
 (JH.pushA (Jm.swap h) hx h1 hj hi hc).swap
structure At (f:Keyed->Int) (a b:Array Keyed) (x:Nat) (i j:Nat) (o:Array Keyed):Prop where
 J:JH f a b o i j
 i1:1 <= i
 i2:i <= a.size
 j1:2 <= j
 j2:j <= b.size
 p:x+i+j <= a.size+b.size
noncomputable def R7h (f:Keyed->Int) (a b:Array Keyed) (st:SortSt) (x:Nat):ForInStep D7->SortSt->Prop
 | .done c,st'=>Ev st st' /\ ((∃ r z,c=(some r,z) /\ Fin f a b r)∨∃ i j o g ac bc,c=(none,i,j,o,g,ac,bc) /\ At f a b x i j o)
 | .yield c,st'=>Ev st st' /\ ∃ i j o g ac bc,c=(none,i,j,o,g,ac,bc) /\ At f a b x i j o
theorem mHi_ok {st:SortSt} {Q:Array Keyed->SortSt->Prop} (L:Asks M A E s κ a₀ f) (hk:kindOf st=κ) (T:Two a₀ f a b) (h:∀ r st',Ev st st'->Fin f a b r->Q r st'):wpS M A E s (mHi a b) Q st:=by
 have ta:=T.na
 have tb:=T.nb
 have ua:∀ n m,n <= m->m < a.size->kn f a n <= kn f a m:=fun n m z1 z2=>T.ua n m (yAC _) z1 (by omega)
 have ub:∀ n m,n <= m->m < b.size->kn f b n <= kn f b m:=fun n m z1 z2=>T.ub n m (yAC _) z1 (by omega)
 have pr:∀ l:List Keyed,l.Pairwise (leK f)->l.reverse.Pairwise (leK fun x=>- f x):=fun l z=>by
  rw [List.pairwise_reverse]
  refine z.imp fun {x y} w=>?_
  have w':f x <= f y:=w
  show-f y <= - f x
  omega
 rw [mHi_low]
 refine wpS_bind (wpS_lift (wpAny_rule ⟨rfl,?_⟩))
 obtain ⟨x0,hx0⟩:=ZB4 (a:=a) (i:=a.size-1) (by omega)
 refine wpS_bind (ZAf hx0 ?_)
 have J0:JH f a b #[x0] (a.size-1) b.size:=by
  have e:JH f a b #[] a.size b.size:=⟨by simp,by simpa using pr _ (ZEk T.ua),by simpa using pr _ (ZEk T.ub)⟩
  exact JH.pushA e hx0 ta (yAA _) (yAA _) fun m m1=>by rw [<- ZA7 (f:=f) hx0];exact T.hi m m1
 by_cases c1:a.size-1=0
 .rw [if_pos (by simpa using c1)]
  exact wpS_pure (h _ st .refl (J0.dn (by omega) (yAA _) (.inl c1)))
 rw [if_neg (by simpa using c1)]
 by_cases c2:b.size=1
 .rw [if_pos (by simpa using c2)]
  exact wpS_pure (h _ st .refl (J0.fb T (by omega) (yAA _) c2))
 rw [if_neg (by simpa using c2)]
 refine wpS_bind (wpS_get ?_)
 refine wpS_bind (wpS_mono (wpS_forRange (I:=fun x c st'=>Ev st st' /\ ∃ i j o g,c=(none,i,j,o,g) /\ At f a b (x+1) i j o) (Q:=fun c st'=>Ev st st' /\ ∃ r z,c=(some r,z) /\ Fin f a b r) ?_ ?_ ⟨.refl,_,_,_,_,rfl,J0,by omega,by omega,by omega,by omega,by omega⟩) ?_)
 .rintro x c st1 _ hx ⟨e1,i,j,o,g,rfl,W⟩
  unfold hiO
  dsimp only
  refine wpS_bind (wpS_mono (wpS_forRange (I:=fun y c st'=>Ev st st' /\ ∃ i j o ac bc,c=(none,i,j,o,ac,bc) /\ At f a b (x+1+y) i j o)
   (Q:=fun c st'=>Ev st st' /\ ((∃ r z,c=(some r,z) /\ Fin f a b r)∨∃ i j o ac bc,c=(none,i,j,o,ac,bc) /\ At f a b (x+2) i j o)) ?_ ?_ ⟨e1,i,j,o,0,0,rfl,W⟩) ?_)
  .rintro y c st2 _ hy ⟨e2,i,j,o,ac,bc,rfl,J,i1,i2,j1,j2,hp⟩
   unfold hi1
   dsimp only
   obtain ⟨yb,hyb⟩:=ZB4 (a:=b) (i:=j-1) (by omega)
   obtain ⟨xa,hxa⟩:=ZB4 (a:=a) (i:=i-1) (by omega)
   refine wpS_bind (ZAf hyb ?_)
   refine wpS_bind (ZAf hxa ?_)
   refine wpS_bind (L.lt yb xa (T.ib.get hyb) (T.ia.get hxa) st2 _ (e2.k.trans hk) ?_)
   by_cases hw:f yb < f xa
   .rw [decide_eq_true hw]
    dsimp only
    rw [if_pos rfl]
    refine wpS_bind (ZAf hxa ?_)
    have J2:=J.pushA hxa i1 i2 j2 fun m m1=>by
     have:=ub m (j-1) (by omega) (by omega)
     rw [ZA7 hyb] at this
     omega
    by_cases c3:i-1=0
    .rw [if_pos (by simpa using c3)]
     exact wpS_pure ⟨e2,.inl ⟨_,_,rfl,J2.dn (by omega) j2 (.inl c3)⟩⟩
    rw [if_neg (by simpa using c3)]
    split
    .exact wpS_pure ⟨e2,.inr ⟨_,_,_,_,_,rfl,J2,by omega,by omega,j1,j2,by omega⟩⟩
    .exact wpS_pure ⟨e2,_,_,_,_,_,rfl,J2,by omega,by omega,j1,j2,by omega⟩
   .rw [decide_eq_false hw]
    dsimp only
    rw [if_neg (by decide)]
    refine wpS_bind (ZAf hyb ?_)
    have J2:=J.pushB hyb (by omega) i2 j2 fun m m1=>by
     have:=ua m (i-1) (by omega) (by omega)
     rw [ZA7 hxa] at this
     omega
    by_cases c3:j-1=1
    .rw [if_pos (by simpa using c3)]
     exact wpS_pure ⟨e2,.inl ⟨_,_,rfl,J2.fb T i2 (by omega) c3⟩⟩
    rw [if_neg (by simpa using c3)]
    split
    .exact wpS_pure ⟨e2,.inr ⟨_,_,_,_,_,rfl,J2,i1,i2,by omega,by omega,by omega⟩⟩
    .exact wpS_pure ⟨e2,_,_,_,_,_,rfl,J2,i1,i2,by omega,by omega,by omega⟩
  .rintro c st2 ⟨e2,i,j,o,ac,bc,rfl,J,i1,i2,j1,j2,hp⟩
   exact ⟨e2,.inr ⟨_,_,_,_,_,rfl,J,i1,i2,j1,j2,by omega⟩⟩
  .rintro c st2 ⟨e2,⟨r,z,rfl,hr⟩ | ⟨i,j,o,ac,bc,rfl,W⟩⟩
   .exact wpS_pure ⟨e2,r,_,rfl,hr⟩
   dsimp only
   refine wpS_bind (wpS_lift (wpAny_rule ⟨rfl,?_⟩))
   refine wpS_bind (wpS_mono (wpS_forRange (I:=fun y c st'=>Ev st st' /\ ∃ i j o g ac bc,c=(none,i,j,o,g,ac,bc) /\ At f a b (x+2) i j o)
    (Q:=fun c st'=>Ev st st' /\ ((∃ r z,c=(some r,z) /\ Fin f a b r)∨∃ i j o g ac bc,c=(none,i,j,o,g,ac,bc) /\ At f a b (x+2) i j o)) ?_ ?_ ⟨e2,i,j,o,_,ac,bc,rfl,W⟩) ?_)
   .rintro y c st3 _ hy ⟨e3,i,j,o,g,ac,bc,rfl,J,i1,i2,j1,j2,hp⟩
    have four:∀ (g ac bc:Nat) (o:Array Keyed) (i j:Nat) (st4:SortSt) (xa:Keyed),Ev st st4->At f a b (x+2) i j o->a[i-1]?=some xa->(∀ n,n < j->kn f b n <= f xa)->wpS M A E s (hi4 a b g ac bc o i j) (R7h f a b st (x+2)) st4:=by
     rintro g ac bc o i j st4 xa e4 ⟨J,i1,i2,j1,j2,hp⟩ hxa hle
     unfold hi4
     refine wpS_bind (ZAf hxa ?_)
     have J2:=J.pushA hxa i1 i2 j2 hle
     by_cases c3:i-1=0
     .rw [if_pos (by simpa using c3)]
      exact wpS_pure ⟨e4,.inl ⟨_,_,rfl,J2.dn (by omega) j2 (.inl c3)⟩⟩
     rw [if_neg (by simpa using c3)]
     split
     .exact wpS_pure ⟨e4,.inr ⟨_,_,_,_,_,_,rfl,J2,by omega,by omega,j1,j2,by omega⟩⟩
     .exact wpS_pure ⟨e4,_,_,_,_,_,_,rfl,J2,by omega,by omega,j1,j2,by omega⟩
    have three:∀ (g ac bc:Nat) (o:Array Keyed) (i j:Nat) (st4:SortSt) (yb:Keyed),Ev st st4->At f a b (x+2) i j o->b[j-1]?=some yb->(∀ n,n < i->kn f a n <= f yb)->wpS M A E s (hi3 a b g ac bc o i j) (R7h f a b st (x+2)) st4:=by
     rintro g ac bc o i j st4 yb e4 ⟨J,i1,i2,j1,j2,hp⟩ hyb hle
     unfold hi3
     refine wpS_bind (ZAf hyb ?_)
     have J2:=J.pushB hyb (by omega) i2 j2 hle
     by_cases c3:j-1=1
     .rw [if_pos (by simpa using c3)]
      exact wpS_pure ⟨e4,.inl ⟨_,_,rfl,J2.fb T i2 (by omega) c3⟩⟩
     rw [if_neg (by simpa using c3)]
     obtain ⟨xa,hxa⟩:=ZB4 (a:=a) (i:=i-1) (by omega)
     refine wpS_bind (ZAf hxa ?_)
     refine wpS_bind (ZDz L (e4.k.trans hk) T.ib (T.ia.get hxa) (by omega) (by omega) (T.ub.sub (by omega)) fun t k1 k2 k3=>?_)
     dsimp only
     have rest:∀ n,n < t->kn f b n <= f xa:=fun n n1=>by
      have:=k2 n n1
      rw [yBG] at this
      omega
     by_cases hk0:j-1-t > 0
     .rw [if_pos hk0]
      have J3:=J2.chunkB k1 i2 (by omega) fun n m n1 n2 m1=>by
       have z:=k3 n n1 n2
       rw [yBG] at z
       have z2:=ua m (i-1) (by omega) (by omega)
       rw [ZA7 hxa] at z2
       omega
      by_cases c4:t=1
      .rw [if_pos (by simpa using c4)]
       exact wpS_pure ⟨e4,.inl ⟨_,_,rfl,J3.fb T i2 (by omega) c4⟩⟩
      rw [if_neg (by simpa using c4)]
      by_cases c5:t=0
      .rw [if_pos (by simpa using c5)]
       exact wpS_pure ⟨e4,.inl ⟨_,_,rfl,J3.dn i2 (by omega) (.inr c5)⟩⟩
      rw [if_neg (by simpa using c5)]
      exact four _ _ _ _ _ _ _ xa e4 ⟨J3,i1,i2,by omega,by omega,by omega⟩ hxa rest
     .rw [if_neg hk0]
      have:t=j-1:=by omega
      subst this
      exact four _ _ _ _ _ _ _ xa e4 ⟨J2,i1,i2,by omega,by omega,by omega⟩ hxa rest
    have two:∀ (g ac bc:Nat),wpS M A E s (hi2 a b g ac bc o i j) (R7h f a b st (x+2)) st3:=by
     intro g ac bc
     unfold hi2
     obtain ⟨yb,hyb⟩:=ZB4 (a:=b) (i:=j-1) (by omega)
     refine wpS_bind (wpS_modify ?_)
     have e4:=e3.setG g
     refine wpS_bind (ZAf hyb ?_)
     refine wpS_bind (ZEe L (e4.k.trans hk) T.ia (T.ib.get hyb) (by omega) (by omega) (T.ua.sub (by omega)) fun t k1 k2 k3=>?_)
     dsimp only
     have rest:∀ n,n < t->kn f a n <= f yb:=fun n n1=>by
      have:=k2 n n1
      rw [yBG] at this
      exact this
     by_cases hk0:i-t > 0
     .rw [if_pos hk0]
      have J3:=J.chunkA k1 i2 j2 fun n m n1 n2 m1=>by
       have z:=k3 n n1 n2
       rw [yBG] at z
       have z2:=ub m (j-1) (by omega) (by omega)
       rw [ZA7 hyb] at z2
       omega
      by_cases c4:t=0
      .rw [if_pos (by simpa using c4)]
       exact wpS_pure ⟨e4,.inl ⟨_,_,rfl,J3.dn (by omega) j2 (.inl c4)⟩⟩
      rw [if_neg (by simpa using c4)]
      exact three _ _ _ _ _ _ _ yb e4 ⟨J3,by omega,by omega,j1,j2,by omega⟩ hyb rest
     .rw [if_neg hk0]
      have:t=i:=by omega
      subst this
      exact three _ _ _ _ _ _ _ yb e4 ⟨J,i1,i2,j1,j2,hp⟩ hyb rest
    unfold hiB
    dsimp only
    split
    .exact wpS_mono (two _ _ _) fun r st' z=>by cases r <;> exact z
    .exact wpS_mono (two _ _ _) fun r st' z=>by cases r <;> exact z
   .rintro c st3 ⟨e3,i,j,o,g,ac,bc,rfl,W⟩
    exact ⟨e3,.inr ⟨_,_,_,_,_,_,rfl,W⟩⟩
   .rintro c st3 ⟨e3,⟨r,z,rfl,hr⟩ | ⟨i,j,o,g,ac,bc,rfl,W⟩⟩
    .exact wpS_pure ⟨e3,r,_,rfl,hr⟩
    .dsimp only
     exact wpS_bind (wpS_modify (wpS_pure ⟨e3.setG _,_,_,_,_,rfl,W⟩))
 .rintro c st1 ⟨e1,i,j,o,g,rfl,J,i1,i2,j1,j2,hp⟩
  omega
 .rintro c st1 ⟨e1,r,z,rfl,hr⟩
  exact wpS_pure (h r st1 e1 hr)
end
end L2S
namespace L2S
open PySem PyProof.Rows
noncomputable abbrev PT:=Nat×Nat×Nat
noncomputable def ZC7 (xs m:Array Keyed) (lo:Nat):Array Keyed:=m.toList.zipIdx.foldl (fun a (p,j)=>a.setIfInBounds (lo+j) p) xs
theorem mAt_eq (i:Nat):mergeAt' i=(do
 let z <- get
 let (some (s1,n1,w1),some (s2,n2,_)):=((pendingOf z)[i]?,(pendingOf z)[i+1]?) | unsupported "internal:list.sort.pending"
 set (setPending z (((pendingOf z).setIfInBounds i (s1,n1+n2,w1)).eraseIdxIfInBounds (i+1)))
 let some k <- gal false (<- elem' (arrOf z) s2) (arrOf z) s1 n1 0 | return false
 let (s1,n1):=(s1+k,n1-k)
 if n1 == 0 then return true
 let some n2 <- gal true (<- elem' (arrOf z) (s1+n1-1)) (arrOf z) s2 n2 (n2-1) | return false
 if n2 == 0 then return true
 let x:=(arrOf z).extract s1 s2
 let y:=(arrOf z).extract s2 (s2+n2)
 let m <- if n1 <= n2 then mLo x y else mHi x y
 modify fun z=>setArr z (ZC7 (arrOf z) m s1)
 return (failedOf (<- get)).isNone):=rfl
theorem wpS_set {M:Model} {A:Around} {E:Value->Shared->Prop} {s:Shared} {σ:Type} {x:σ} {Q:PUnit->σ->Prop} {st:σ} (h:Q ⟨⟩ x):wpS M A E s (set x:StateT σ Sem PUnit) Q st:=by
 unfold wpS;rw [StateT.run_set];exact wpAny_pure ⟨rfl,h⟩
theorem lay_go (lo:Nat):∀ (l:List Keyed) (k:Nat) (xs:Array Keyed),lo+k+l.length <= xs.size ->
  (((l.zipIdx k).foldl (fun a (p:Keyed×Nat)=>a.setIfInBounds (lo+p.2) p.1) xs).size=xs.size) /\ ∀ n,((l.zipIdx k).foldl (fun a (p:Keyed×Nat)=>a.setIfInBounds (lo+p.2) p.1) xs)[n]?=if lo+k <= n /\ n < lo+k+l.length then l[n-(lo+k)]? else xs[n]?
 | [],k,xs,_=>by
  refine ⟨rfl,fun n=>?_⟩
  rw [if_neg (fun z=>by rw [yBR] at z;omega)]
  rfl
 | x::r,k,xs,h=>by
  rw [yAJ] at h
  rw [List.zipIdx_cons,List.foldl_cons]
  obtain ⟨i1,i2⟩:=lay_go lo r (k+1) (xs.setIfInBounds (lo+k) x) (by rw [Array.size_setIfInBounds];omega)
  refine ⟨by rw [i1,Array.size_setIfInBounds],fun n=>?_⟩
  rw [i2,yAJ]
  by_cases c1:lo+(k+1) <= n /\ n < lo+(k+1)+r.length
  .rw [if_pos c1,if_pos (by omega),show n-(lo+k)=(n-(lo+(k+1)))+1 by omega,List.getElem?_cons_succ]
  .rw [if_neg c1,Array.getElem?_setIfInBounds]
   by_cases c2:lo+k=n
   .rw [if_pos c2,if_pos (by omega),if_pos (by omega),show n-(lo+k)=0 by omega]
    rfl
   .rw [if_neg c2,if_neg (by omega)]
theorem ZDv {xs m:Array Keyed} {lo:Nat} (h:lo+m.size <= xs.size) (n:Nat):(ZC7 xs m lo)[n]?=if lo <= n /\ n < lo+m.size then m[n-lo]? else xs[n]?:=by
 have:=(lay_go lo m.toList 0 xs (by rw [yAH];omega)).2 n
 rw [yAH,Nat.add_zero,yAU] at this
 exact this
theorem lay_list {xs m:Array Keyed} {lo:Nat} (h:lo+m.size <= xs.size):(ZC7 xs m lo).toList=xs.toList.take lo++m.toList++xs.toList.drop (lo+m.size):=by
 refine List.ext_getElem? fun n=>?_
 rw [yAU,ZDv h]
 by_cases c1:n < lo
 .rw [if_neg (by omega),yBA,yAZ (by rw [yAK,yAH];omega),yBQ c1,yAU]
 .by_cases c2:n < lo+m.size
  .rw [if_pos (by omega),yBA,yAY (by rw [yAK,yAH];omega),yAK,yAH,yBP (by omega),yAZ (by rw [yAH];omega),yAU]
  .rw [if_neg (by omega),yAY (by rw [yAF,yAK,yAH,yAH];omega),yAF,yAK,yAH,yAH,yBP (by omega),yBZ,yAU]
   congr 1
   omega
section
variable {M:Model} {A:Around} {E:Value->Shared->Prop} {s:Shared} {κ:SortKind} {a₀:Array Keyed} {f:Keyed->Int}
theorem SB.inA {st:SortSt} (h:SB κ a₀ st):InA a₀ (arrOf st):=fun x hx=>(Array.perm_iff_toList_perm.mp h.perm).mem_iff.mp hx
theorem ext_get {xs:Array Keyed} {i j n:Nat} (h:j <= xs.size) (hn:n < j-i):(xs.extract i j)[n]?=xs[i+n]?:=by
 rw [Array.getElem?_extract]
 rw [if_pos (by omega)]
theorem merge_at {st:SortSt} {i sa na w nb v:Nat} {Q:Bool->SortSt->Prop} (L:Asks M A E s κ a₀ f) (hB:SB κ a₀ st) (p1:(pendingOf st)[i]?=some (sa,na,w)) (p2:(pendingOf st)[i+1]?=some (sa+na,nb,v)) (na1:1 <= na) (nb1:1 <= nb) (hz:sa+na+nb <= a₀.size)
  (ua:Up f (arrOf st) sa na) (ub:Up f (arrOf st) (sa+na) nb)
  (h:∀ st',SB κ a₀ st'->pendingOf st'=((pendingOf st).setIfInBounds i (sa,na+nb,w)).eraseIdxIfInBounds (i+1)->Up f (arrOf st') sa (na+nb)->(∀ k,k < sa∨sa+na+nb <= k->(arrOf st')[k]?=(arrOf st)[k]?)->Q true st'):wpS M A E s (mergeAt' i) Q st:=by
 have hsz:=hB.size
 rw [mAt_eq]
 refine wpS_bind (wpS_get ?_)
 rw [p1,p2]
 dsimp only
 refine wpS_bind (wpS_set ?_)
 have hB1:SB κ a₀ (setPending st (((pendingOf st).setIfInBounds i (sa,na+nb,w)).eraseIdxIfInBounds (i+1))):=⟨hB.perm,hB.kind,hB.fail⟩
 obtain ⟨b0,hb0⟩:=ZB4 (a:=arrOf st) (i:=sa+na) (by omega)
 refine wpS_bind (ZAf hb0 ?_)
 refine wpS_bind (ZEe L hB1.kind hB.inA (hB.inA.get hb0) (by omega) (by omega) ua fun k k1 k2 k3=>?_)
 dsimp only
 have lowA:∀ n,sa <= n->n < sa+k->kn f (arrOf st) n <= f b0:=fun n n1 n2=>by
  have:=k2 (n-sa) (by omega)
  rw [show sa+(n-sa)=n by omega] at this
  exact this
 have fromB:∀ n,sa+na <= n->n < sa+na+nb->f b0 <= kn f (arrOf st) n:=fun n n1 n2=>by
  have:=ub (sa+na) n (yAA _) n1 n2
  rw [ZA7 hb0] at this
  exact this
 by_cases c1:na-k=0
 .rw [if_pos (by simpa using c1)]
  refine wpS_pure (h _ hB1 rfl (fun n m n1 n2 n3=>?_) fun _ _=>rfl)
  by_cases d1:m < sa+na
  .exact ua n m n1 n2 d1
  .by_cases d2:n < sa+na
   .have z1:=lowA n n1 (by omega)
    have z2:=fromB m (by omega) (by omega)
    show kn f (arrOf st) n <= kn f (arrOf st) m
    omega
   .exact ub n m (by omega) n2 (by omega)
 rw [if_neg (by simpa using c1)]
 rw [show sa+k+(na-k)-1=sa+na-1 by omega]
 obtain ⟨aN,haN⟩:=ZB4 (a:=arrOf st) (i:=sa+na-1) (by omega)
 refine wpS_bind (ZAf haN ?_)
 refine wpS_bind (ZDz L hB1.kind hB.inA (hB.inA.get haN) (by omega) (by omega) ub fun t t1 t2 t3=>?_)
 dsimp only
 have highB:∀ n,sa+na+t <= n->n < sa+na+nb->f aN <= kn f (arrOf st) n:=fun n n1 n2=>by
  have:=t3 (n-(sa+na)) (by omega) (by omega)
  rw [show sa+na+(n-(sa+na))=n by omega] at this
  exact this
 have toA:∀ n,sa <= n->n < sa+na->kn f (arrOf st) n <= f aN:=fun n n1 n2=>by
  have:=ua n (sa+na-1) n1 (by omega) (by omega)
  rw [ZA7 haN] at this
  exact this
 by_cases c2:t=0
 .rw [if_pos (by simpa using c2)]
  refine wpS_pure (h _ hB1 rfl (fun n m n1 n2 n3=>?_) fun _ _=>rfl)
  by_cases d1:m < sa+na
  .exact ua n m n1 n2 d1
  .by_cases d2:n < sa+na
   .have z1:=toA n n1 d2
    have z2:=highB m (by omega) (by omega)
    show kn f (arrOf st) n <= kn f (arrOf st) m
    omega
   .exact ub n m (by omega) n2 (by omega)
 rw [if_neg (by simpa using c2)]
 have x1:((arrOf st).extract (sa+k) (sa+na)).size=na-k:=by rw [Array.size_extract];omega
 have y1:((arrOf st).extract (sa+na) (sa+na+t)).size=t:=by rw [Array.size_extract];omega
 have xg:∀ n,n < na-k->kn f ((arrOf st).extract (sa+k) (sa+na)) n=kn f (arrOf st) (sa+k+n):=fun n hn=>ZAp (ext_get (by omega) (by omega))
 have yg:∀ n,n < t->kn f ((arrOf st).extract (sa+na) (sa+na+t)) n=kn f (arrOf st) (sa+na+n):=fun n hn=>ZAp (ext_get (by omega) (by omega))
 have hiA:∀ n,sa+k <= n->n < sa+na->f b0 < kn f (arrOf st) n:=fun n n1 n2=>by
  have:=k3 (n-sa) (by omega) (by omega)
  rw [show sa+(n-sa)=n by omega] at this
  exact this
 have inx:∀ (lo hi:Nat),InA a₀ ((arrOf st).extract lo hi):=fun lo hi x hx=>by
  rw [yBT,yBU] at hx
  exact hB.inA x (List.mem_of_mem_drop (List.mem_of_mem_take hx))
 have T:Two a₀ f ((arrOf st).extract (sa+k) (sa+na)) ((arrOf st).extract (sa+na) (sa+na+t)):={
  ia:=inx _ _
  ib:=inx _ _
  ua:=fun n m _ n2 n3=>by
   rw [xg n (by omega),xg m (by omega)]
   exact ua _ _ (by omega) (by omega) (by omega)
  ub:=fun n m _ n2 n3=>by
   rw [yg n (by omega),yg m (by omega)]
   exact ub _ _ (by omega) (by omega) (by omega)
  na:=by omega
  nb:=by omega
  lo:=fun n hn=>by
   rw [xg n (by omega),yg 0 (by omega),Nat.add_zero,ZA7 hb0]
   exact Int.le_of_lt (hiA _ (by omega) (by omega))
  hi:=fun n hn=>by
   rw [x1,xg _ (by omega),yg n (by omega),show sa+k+(na-k-1)=sa+na-1 by omega,ZA7 haN]
   exact Int.le_of_lt (t2 n (by omega)) }
 have fin:∀ m st',Ev (setPending st (((pendingOf st).setIfInBounds i (sa,na+nb,w)).eraseIdxIfInBounds (i+1))) st'->Fin f ((arrOf st).extract (sa+k) (sa+na)) ((arrOf st).extract (sa+na) (sa+na+t)) m ->
   wpS M A E s (modify (fun z=>setArr z (ZC7 (arrOf z) m (sa+k))) >>= fun _=>get >>= fun z=>pure (failedOf z).isNone) Q st':=by
  intro m st' ev g
  have ea:arrOf st'=arrOf st:=ev.a
  have hm:m.size=na-k+t:=by
   have:=g.1.length_eq
   rw [yAH,yAF,yAH,yAH,x1,y1] at this
   exact this
  refine wpS_bind (wpS_modify (wpS_bind (wpS_get (wpS_pure ?_))))
  have hf:failedOf st'=none:=ev.f.trans hB.fail
  show Q (failedOf st').isNone _
  rw [hf]
  have hl:sa+k+m.size <= (arrOf st).size:=by omega
  have mel:∀ n,n < m.size->∃ p,sa+k <= p /\ p < sa+na+t /\ kn f m n=kn f (arrOf st) p:=fun n hn=>by
   obtain ⟨x,hx⟩:=ZB4 (a:=m) hn
   have hxm:x∈m.toList:=by
    rw [yAV] at hx
    obtain ⟨_,rfl⟩:=hx
    simp
   have:=g.1.mem_iff.mp hxm
   rw [ZA7 hx]
   rcases yBC.mp this with z | z
   .obtain ⟨q,q1⟩:=yBO z
    rw [yAU] at q1
    have q2:=(yAV.mp q1).1
    refine ⟨sa+k+q,by omega,by omega,?_⟩
    rw [<- xg q (by omega),ZA7 q1]
   .obtain ⟨q,q1⟩:=yBO z
    rw [yAU] at q1
    have q2:=(yAV.mp q1).1
    refine ⟨sa+na+q,by omega,by omega,?_⟩
    rw [<- yg q (by omega),ZA7 q1]
  have ms:∀ n q,n <= q->q < m.size->kn f m n <= kn f m q:=fun n q n1 n2=>by
   by_cases e:n=q
   .rw [e];exact Int.le_refl _
   .have:=List.pairwise_iff_getElem.mp g.2 n q (by rw [yAH];omega) (by rw [yAH];omega) (by omega)
    rw [ZA7 (getElem?_pos m n (by omega)),ZA7 (getElem?_pos m q n2)]
    simpa [leK] using this
  have lk:∀ n,kn f (ZC7 (arrOf st') m (sa+k)) n=if sa+k <= n /\ n < sa+na+t then kn f m (n-(sa+k)) else kn f (arrOf st) n:=fun n=>by
   rw [ea]
   have:=ZDv hl n
   by_cases e:sa+k <= n /\ n < sa+na+t
   .rw [if_pos e]
    rw [if_pos (by omega)] at this
    exact ZAp this
   .rw [if_neg e]
    rw [if_neg (by omega)] at this
    exact ZAp this
  refine h (setArr st' (ZC7 (arrOf st') m (sa+k))) ⟨?_,ev.k.trans hB.kind,hf⟩ ev.p (fun n q n1 n2 n3=>?_) fun n hn=>?_
  .show (ZC7 (arrOf st') m (sa+k)).Perm a₀
   rw [ea]
   refine Array.Perm.trans ?_ hB.perm
   rw [Array.perm_iff_toList_perm,lay_list hl]
   have e1:(arrOf st).toList=(arrOf st).toList.take (sa+k)++(((arrOf st).extract (sa+k) (sa+na)).toList++((arrOf st).extract (sa+na) (sa+na+t)).toList)++(arrOf st).toList.drop (sa+k+m.size):=by
    rw [yBT,yBT,yBU,yBU]
    have s1:((arrOf st).toList.drop (sa+k)).take (sa+na-(sa+k))++((arrOf st).toList.drop (sa+na)).take (sa+na+t-(sa+na))=((arrOf st).toList.drop (sa+k)).take m.size:=by
     rw [show m.size=(sa+na-(sa+k))+(sa+na+t-(sa+na)) by omega,List.take_add,List.drop_drop,show sa+k+(sa+na-(sa+k))=sa+na by omega]
    rw [s1,yBA,show (arrOf st).toList.drop (sa+k+m.size)=((arrOf st).toList.drop (sa+k)).drop m.size by rw [List.drop_drop],yBS,yBS]
   conv=>rhs;rw [e1]
   exact List.Perm.append_right _ (List.Perm.append_left _ g.1)
  .show kn f (ZC7 (arrOf st') m (sa+k)) n <= kn f (ZC7 (arrOf st') m (sa+k)) q
   rw [lk,lk]
   by_cases c3:sa+k <= n /\ n < sa+na+t
   .rw [if_pos c3]
    by_cases c4:sa+k <= q /\ q < sa+na+t
    .rw [if_pos c4]
     exact ms _ _ (by omega) (by omega)
    .rw [if_neg c4]
     obtain ⟨p,q1,q2,q3⟩:=mel (n-(sa+k)) (by omega)
     rw [q3]
     by_cases c5:p < sa+na
     .have z1:=toA p (by omega) c5
      have z2:=highB q (by omega) (by omega)
      omega
     .exact ub p q (by omega) (by omega) (by omega)
   .rw [if_neg c3]
    by_cases c4:sa+k <= q /\ q < sa+na+t
    .rw [if_pos c4]
     obtain ⟨p,q1,q2,q3⟩:=mel (q-(sa+k)) (by omega)
     rw [q3]
     have z1:=lowA n n1 (by omega)
     by_cases c5:p < sa+na
     .exact ua n p n1 (by omega) c5
     .have z2:=fromB p (by omega) (by omega)
      omega
    .rw [if_neg c4]
     by_cases c5:q < sa+na
     .exact ua n q n1 n2 c5
     .by_cases c6:n < sa+na
      .have z1:=lowA n n1 (by omega)
       have z2:=fromB q (by omega) (by omega)
       omega
      .exact ub n q (by omega) n2 (by omega)
  .show (ZC7 (arrOf st') m (sa+k))[n]?=(arrOf st)[n]?
   rw [ea,ZDv hl,if_neg (by omega)]
 by_cases c3:na-k <= t
 .rw [if_pos c3]
  exact wpS_bind (mLo_ok L hB1.kind T fin)
 .rw [if_neg c3]
  exact wpS_bind (mHi_ok L hB1.kind T fin)
end
end L2S
namespace L2S
open PySem PyProof.Rows
section
variable {M:Model} {A:Around} {E:Value->Shared->Prop} {s:Shared} {κ:SortKind} {a₀:Array Keyed} {f:Keyed->Int}
noncomputable def Chn (f:Keyed->Int) (xs:Array Keyed):Nat->List PT->Nat->Prop
 | a,[],e=>a=e
 | a,(b,n,_)::r,e=>b=a /\ 1 <= n /\ Up f xs a n /\ Chn f xs (a+n) r e
theorem Chn.le {xs:Array Keyed}:∀ {l:List PT} {a e:Nat},Chn f xs a l e->a+l.length <= e
 | [],a,e,h=>by have:a=e:=h;rw [yBR];omega
 | (b,n,w)::r,a,e,h=>by
  obtain ⟨_,h1,_,h2⟩:=h
  have:=h2.le
  rw [yAJ]
  omega
theorem Chn.keep {xs ys:Array Keyed}:∀ {l:List PT} {a e:Nat},Chn f xs a l e->(∀ k,a <= k->k < e->ys[k]?=xs[k]?)->Chn f ys a l e
 | [],a,e,h,_=>h
 | (b,n,w)::r,a,e,⟨h0,h1,h2,h3⟩,k=>by
  have hl:=h3.le
  refine ⟨h0,h1,fun i j z1 z2 z3=>?_,h3.keep fun m m1 m2=>k m (by omega) m2⟩
  rw [ZAp (k i z1 (by omega)),ZAp (k j (by omega) (by omega))]
  exact h2 i j z1 z2 z3
theorem Chn.app {xs:Array Keyed}:∀ {l m:List PT} {a e:Nat},Chn f xs a (l++m) e↔∃ c,Chn f xs a l c /\ Chn f xs c m e
 | [],m,a,e=>⟨fun h=>⟨a,rfl,h⟩,fun ⟨c,h1,h2⟩=>by have:a=c:=h1;rw [this];exact h2⟩
 | (b,n,w)::r,m,a,e=>by
  constructor
  .rintro ⟨h0,h1,h2,h3⟩
   obtain ⟨c,h4,h5⟩:=Chn.app.mp h3
   exact ⟨c,⟨h0,h1,h2,h4⟩,h5⟩
  .rintro ⟨c,⟨h0,h1,h2,h4⟩,h5⟩
   exact ⟨h0,h1,h2,Chn.app.mpr ⟨c,h4,h5⟩⟩
theorem two_of {l:List PT} {i:Nat} (h:i+1 < l.length):∃ l1 x y l2,l=l1++x::y::l2 /\ l1.length=i:=by
 refine ⟨l.take i,l[i],l[i+1],l.drop (i+2),?_,by rw [yAK];omega⟩
 rw [<- List.drop_eq_getElem_cons (by omega),<- List.drop_eq_getElem_cons (by omega),yBS]
theorem join_of {l1 l2:List PT} {x y v:PT} {i:Nat} (h:l1.length=i):((l1++x::y::l2).set i v).eraseIdx (i+1)=l1++v::l2:=by
 subst h
 rw [List.set_append_right _ _ (yAA _),yBK,List.set_cons_zero,List.eraseIdx_append_of_length_le (by omega),show l1.length+1-l1.length=1 by omega]
 rfl
theorem join_at {st:SortSt} {i lo:Nat} {Q:Bool->SortSt->Prop} (L:Asks M A E s κ a₀ f) (hB:SB κ a₀ st) (hc:Chn f (arrOf st) 0 (pendingOf st).toList lo) (hlo:lo <= a₀.size) (hi:i+1 < (pendingOf st).size)
  (h:∀ st',SB κ a₀ st'->Chn f (arrOf st') 0 (pendingOf st').toList lo->(pendingOf st').size+1=(pendingOf st).size->(∀ k,lo <= k->(arrOf st')[k]?=(arrOf st)[k]?)->Q true st'):wpS M A E s (mergeAt' i) Q st:=by
 obtain ⟨l1,⟨b1,n1,w1⟩,⟨b2,n2,w2⟩,l2,el,hl⟩:=two_of (l:=(pendingOf st).toList) (i:=i) (by rw [yAH];exact hi)
 have hc':=hc
 rw [el] at hc'
 obtain ⟨c,c1,rfl,c2,c3,rfl,c4,c5,c6⟩:=Chn.app.mp hc'
 have le:=c6.le
 have p1:(pendingOf st)[i]?=some (b1,n1,w1):=by
  rw [<- yAU,el,yAY (by omega),hl,yBK]
  rfl
 have p2:(pendingOf st)[i+1]?=some (b1+n1,n2,w2):=by
  rw [<- yAU,el,yAY (by omega),show i+1-l1.length=1 by omega]
  rfl
 refine merge_at L hB p1 p2 c2 c4 (by omega) c3 c5 fun st' hB' hp hu hk=>?_
 have e2:(pendingOf st').toList=l1++(b1,n1+n2,w1)::l2:=by
  rw [hp,Array.toList_eraseIdxIfInBounds,Array.toList_setIfInBounds,el]
  exact join_of hl
 refine h st' hB' ?_ ?_ fun k hk2=>hk k (.inr (by omega))
 .rw [e2]
  have le1:=c1.le
  refine Chn.app.mpr ⟨b1,c1.keep fun k k1 k2=>hk k (.inl k2),rfl,by omega,hu,?_⟩
  rw [show b1+(n1+n2)=b1+n1+n2 by omega]
  exact c6.keep fun k k1 k2=>hk k (.inr k1)
 .have z1:=congrArg List.length e2
  have z2:=congrArg List.length el
  rw [yAH,yAF,yAJ] at z1 z2
  rw [yAJ] at z2
  omega
theorem Chn.pow {xs:Array Keyed} {l:List PT} {b n w v a e:Nat} (h:Chn f xs a (l++[(b,n,w)]) e):Chn f xs a (l++[(b,n,v)]) e:=by
 obtain ⟨c,c1,c2,c3,c4,c5⟩:=Chn.app.mp h
 exact Chn.app.mpr ⟨c,c1,c2,c3,c4,c5⟩
noncomputable def more (sz pw:Nat):SM (Option Unit×Unit):=forIn [0:sz] ((none,()):Option Unit×Unit) fun _ _=>do
 let z <- get
 match if (pendingOf z).size > 1 then (pendingOf z)[(pendingOf z).size-2]? else none with
 | some (_,_,old)=>
  if old <= pw then pure (ForInStep.done (none,()))
  else do
   let b <- mergeAt' ((pendingOf z).size-2)
   if (!b)=true then pure (ForInStep.done (some (),())) else pure (ForInStep.yield (none,()))
 | _=>pure (ForInStep.done (none,()))
noncomputable def pile (sz lo n:Nat):SM (ForInStep (Option Unit×Nat)):=do
 let z <- get
 match (pendingOf z).back? with
 | some (s1,n1,_)=>do
  let c <- more sz (power' sz (2 * s1+n1) (2 * s1+n1+n1+n) sz)
  match c.fst with
  | some r=>pure (ForInStep.done (some r,lo))
  | none=>do
   modify fun z=>setPending z ((pendingOf z).modify ((pendingOf z).size-1) fun x=>(x.fst,x.2.fst,power' sz (2 * s1+n1) (2 * s1+n1+n1+n) sz))
   modify fun z=>setPending z ((pendingOf z).push (lo,n,0))
   pure (ForInStep.yield (none,lo+n))
 | _=>do
  modify fun z=>setPending z ((pendingOf z).push (lo,n,0))
  pure (ForInStep.yield (none,lo+n))
noncomputable abbrev PQ (κ:SortKind) (a₀:Array Keyed) (f:Keyed->Int) (lo n:Nat) (st:SortSt):Prop:=SB κ a₀ st /\ Chn f (arrOf st) 0 (pendingOf st).toList lo /\ Up f (arrOf st) lo n
theorem more_ok {sz pw lo n:Nat} {st:SortSt} {Q:Option Unit×Unit->SortSt->Prop} (L:Asks M A E s κ a₀ f) (hlo:lo <= a₀.size) (hq:PQ κ a₀ f lo n st) (h:∀ st',PQ κ a₀ f lo n st'->Q (none,()) st'):wpS M A E s (more sz pw) Q st:=by
 unfold more
 refine wpS_forRange (I:=fun x c st'=>c=(none,()) /\ PQ κ a₀ f lo n st') ?_ ?_ ⟨rfl,hq⟩
 .rintro x c st1 _ _ ⟨rfl,hB,hc,hu⟩
  refine wpS_bind (wpS_get ?_)
  by_cases h1:(pendingOf st1).size > 1
  .rw [if_pos h1,getElem?_pos (pendingOf st1) ((pendingOf st1).size-2) (by omega)]
   dsimp only
   split
   .exact wpS_pure (h _ ⟨hB,hc,hu⟩)
   .refine wpS_bind (join_at L hB hc hlo (by omega) fun st2 hB2 hc2 _ hk2=>?_)
    exact wpS_pure ⟨rfl,hB2,hc2,fun i j z1 z2 z3=>by rw [ZAp (hk2 i z1),ZAp (hk2 j (by omega))];exact hu i j z1 z2 z3⟩
  .rw [if_neg h1]
   exact wpS_pure (h _ ⟨hB,hc,hu⟩)
 .rintro c st1 ⟨rfl,hq⟩
  exact h _ hq
theorem modify_last {p:Array PT} {w:Nat} {l:List PT} {b n v:Nat} (h:p.toList=l++[(b,n,v)]):(p.modify (p.size-1) fun x=>(x.fst,x.2.fst,w)).toList=l++[(b,n,w)]:=by
 have hs:p.size=l.length+1:=by rw [<- yAH,h,yAF];rfl
 refine List.ext_getElem? fun i=>?_
 rw [yAU,Array.getElem?_modify]
 rw [<- yAU,h]
 by_cases c:p.size-1=i
 .rw [if_pos c,yAY (by omega),yAY (by omega),show i-l.length=0 by omega]
  rfl
 .rw [if_neg c]
  by_cases c2:i < l.length
  .rw [yAZ c2,yAZ c2]
  .rw [yBF (by rw [yAF,List.length_singleton];omega),yBF (by rw [yAF,List.length_singleton];omega)]
theorem pile_ok {lo n:Nat} {st:SortSt} {Q:ForInStep (Option Unit×Nat)->SortSt->Prop} (L:Asks M A E s κ a₀ f) (hn:1 <= n) (hln:lo+n <= a₀.size) (hq:PQ κ a₀ f lo n st)
  (h:∀ st',SB κ a₀ st'->Chn f (arrOf st') 0 (pendingOf st').toList (lo+n)->Q (.yield (none,lo+n)) st'):wpS M A E s (pile a₀.size lo n) Q st:=by
 have fin:∀ st3:SortSt,PQ κ a₀ f lo n st3->wpS M A E s (modify (fun z=>setPending z ((pendingOf z).push (lo,n,0))) >>= fun _=>pure (ForInStep.yield ((none,lo+n):Option Unit×Nat))) Q st3:=by
  rintro st3 ⟨hB3,hc3,hu3⟩
  refine wpS_bind (wpS_modify (wpS_pure (h _ ⟨hB3.perm,hB3.kind,hB3.fail⟩ ?_)))
  show Chn f (arrOf st3) 0 ((pendingOf st3).push (lo,n,0)).toList (lo+n)
  rw [Array.toList_push]
  exact Chn.app.mpr ⟨lo,hc3,rfl,hn,hu3,rfl⟩
 unfold pile
 refine wpS_bind (wpS_get ?_)
 cases hb:(pendingOf st).back? with
 | none=>exact fin st hq
 | some t=>
  obtain ⟨s1,n1,w1⟩:=t
  dsimp only
  refine wpS_bind (more_ok L (by omega) hq fun st2 hq2=>?_)
  dsimp only
  refine wpS_bind (wpS_modify (fin _ ?_))
  obtain ⟨hB2,hc2,hu2⟩:=hq2
  refine ⟨⟨hB2.perm,hB2.kind,hB2.fail⟩,?_,hu2⟩
  show Chn f (arrOf st2) 0 ((pendingOf st2).modify _ _).toList lo
  rcases List.eq_nil_or_concat (pendingOf st2).toList with e | ⟨l,⟨b,k,v⟩,e⟩
  .have:pendingOf st2=#[]:=by rw [<- Array.toList_inj,e]
   rw [this] at hc2 ⊢
   exact hc2
  .rw [List.concat_eq_append] at e
   rw [modify_last e]
   rw [e] at hc2
   exact hc2.pow
theorem ite_less (c:Prop) [Decidable c] (n:Nat):(if c then n-1 else n) <= n:=by split <;> omega
theorem wpS_cast {α:Type} {m m':SM α} {Q Q':α->SortSt->Prop} {st:SortSt} (e:m=m') (h:wpS M A E s m' Q' st) (q:∀ a st',Q' a st'->Q a st'):wpS M A E s m Q st:=by rw [e];exact wpS_mono h q
theorem sort_runs {st:SortSt} {Q:Unit->SortSt->Prop} (L:Asks M A E s κ a₀ f) (hB:SB κ a₀ st) (hp:pendingOf st=#[]) (h2:2 <= a₀.size)
  (h:∀ st',SB κ a₀ st'->Up f (arrOf st') 0 a₀.size->Q () st'):wpS M A E s sortRuns' Q st:=by
 rw [sortRuns'_eq]
 refine wpS_bind (wpS_get ?_)
 dsimp only
 rw [hB.size]
 generalize minRun' a₀.size a₀.size 0=mr
 refine wpS_bind (wpS_mono (wpS_forRange (I:=fun x c st'=>∃ lo,c=(none,lo) /\ SB κ a₀ st' /\ Chn f (arrOf st') 0 (pendingOf st').toList lo /\ lo <= a₀.size /\ min x a₀.size <= lo)
  (Q:=fun c st'=>c=(none,a₀.size) /\ SB κ a₀ st' /\ Chn f (arrOf st') 0 (pendingOf st').toList a₀.size) ?_ ?_ ⟨0,rfl,hB,by rw [hp];rfl,by omega,by omega⟩) ?_)
 .rintro x c st1 _ hx ⟨lo,rfl,hB1,hc1,hlo,hxl⟩
  dsimp only
  by_cases hge:lo≥a₀.size
  .rw [if_pos hge]
   have:lo=a₀.size:=by omega
   subst this
   exact wpS_pure ⟨rfl,hB1,hc1⟩
  rw [if_neg hge]
  refine wpS_bind (count_run L (by omega) (by omega) hB1 fun m st2 hB2 hm1 hm2 hu2 hk2 hp2=>?_)
  dsimp only
  have hc2:Chn f (arrOf st2) 0 (pendingOf st2).toList lo:=by
   rw [hp2]
   exact hc1.keep fun k _ k2=>hk2 k k2
  have done:∀ (n:Nat) (st3:SortSt),1 <= n->lo+n <= a₀.size->PQ κ a₀ f lo n st3->wpS M A E s (pile a₀.size lo n)
    (fun r st'=>match r with | .done c'=>c'=(none,a₀.size) /\ SB κ a₀ st' /\ Chn f (arrOf st') 0 (pendingOf st').toList a₀.size | .yield c'=>∃ lo,c'=(none,lo) /\ SB κ a₀ st' /\ Chn f (arrOf st') 0 (pendingOf st').toList lo /\ lo <= a₀.size /\ min (x+1) a₀.size <= lo) st3 :=
   fun n st3 hn hln hq=>pile_ok L hn hln hq fun st' hB' hc'=>⟨lo+n,rfl,hB',hc',hln,by omega⟩
  by_cases hlt:m < mr
  .rw [if_pos hlt]
   refine wpS_bind (wpS_lift (wpAny_rule ⟨rfl,?_⟩))
   refine wpS_bind (bin_sort L (by omega) (by omega) hB2 hu2 fun st3 hB3 hu3 hk3 hp3=>?_)
   rw [if_neg (by decide)]
   refine wpS_cast (by
    refine bnd _ fun z=>?_
    cases (pendingOf z).back? with
    | none=>rfl
    | some t=>
     obtain ⟨s1,n1,w1⟩:=t
     refine bnd2 (for2 fun _ c=>bnd _ fun z2=>?_) fun c=>?_
     .generalize (if (pendingOf z2).size > 1 then (pendingOf z2)[(pendingOf z2).size-2]? else none)=t2
      cases t2 with
      | none=>rfl
      | some t2=>rfl
     .obtain ⟨r,u⟩:=c
      cases r with
      | none=>rfl
      | some r=>rfl) (done _ st3 (by omega) (by omega) ⟨hB3,by rw [hp3];exact hc2.keep fun k _ k2=>hk3 k k2,hu3⟩) fun r st' z=>by cases r <;> exact z
  .rw [if_neg hlt]
   refine wpS_cast (by
    refine bnd _ fun z=>?_
    cases (pendingOf z).back? with
    | none=>rfl
    | some t=>
     obtain ⟨s1,n1,w1⟩:=t
     refine bnd2 (for2 fun _ c=>bnd _ fun z2=>?_) fun c=>?_
     .generalize (if (pendingOf z2).size > 1 then (pendingOf z2)[(pendingOf z2).size-2]? else none)=t2
      cases t2 with
      | none=>rfl
      | some t2=>rfl
     .obtain ⟨r,u⟩:=c
      cases r with
      | none=>rfl
      | some r=>rfl) (done m st2 hm1 (by omega) ⟨hB2,hc2,hu2⟩) fun r st' z=>by cases r <;> exact z
 .rintro c st1 ⟨lo,rfl,hB1,hc1,hlo,hxl⟩
  have:lo=a₀.size:=by omega
  subst this
  exact ⟨rfl,hB1,hc1⟩
 .rintro c st1 ⟨rfl,hB1,hc1⟩
  dsimp only
  refine wpS_bind (wpS_mono (wpS_forRange (I:=fun x c st'=>c=(none,()) /\ SB κ a₀ st' /\ Chn f (arrOf st') 0 (pendingOf st').toList a₀.size /\ ((pendingOf st').size+x <= a₀.size∨(pendingOf st').size <= 1))
   (Q:=fun c st'=>c=(none,()) /\ SB κ a₀ st' /\ Chn f (arrOf st') 0 (pendingOf st').toList a₀.size /\ (pendingOf st').size <= 1) ?_ ?_ ?_) ?_)
  .rintro x c st2 _ hx ⟨rfl,hB2,hc2,hz2⟩
   refine wpS_bind (wpS_get ?_)
   by_cases h1:(pendingOf st2).size <= 1
   .rw [if_pos h1]
    exact wpS_pure ⟨rfl,hB2,hc2,h1⟩
   rw [if_neg h1]
   have go:∀ i,i+1 < (pendingOf st2).size->wpS M A E s (mergeAt' i >>= fun b=>if (!b)=true then pure (ForInStep.done (some (),())) else pure (ForInStep.yield ((none,()):Option Unit×Unit)))
     (fun r st'=>match r with | .done c'=>c'=(none,()) /\ SB κ a₀ st' /\ Chn f (arrOf st') 0 (pendingOf st').toList a₀.size /\ (pendingOf st').size <= 1 | .yield c'=>c'=(none,()) /\ SB κ a₀ st' /\ Chn f (arrOf st') 0 (pendingOf st').toList a₀.size /\ ((pendingOf st').size+(x+1) <= a₀.size∨(pendingOf st').size <= 1)) st2:=fun i hi=>by
    refine wpS_bind (join_at L hB2 hc2 (yAA _) hi fun st3 hB3 hc3 hz3 _=>?_)
    exact wpS_pure ⟨rfl,hB3,hc3,by omega⟩
   refine wpS_mono (go _ ?_) fun r st' z=>by cases r <;> exact z
   exact Nat.lt_of_le_of_lt (Nat.add_le_add_right (ite_less _ _) 1) (by omega)
  .rintro c st2 ⟨rfl,hB2,hc2,hz2⟩
   exact ⟨rfl,hB2,hc2,by omega⟩
  .refine ⟨rfl,hB1,hc1,.inl ?_⟩
   have:=hc1.le
   rw [yAH] at this
   omega
  .rintro c st2 ⟨rfl,hB2,hc2,hz2⟩
   refine wpS_pure (h st2 hB2 ?_)
   cases e:(pendingOf st2).toList with
   | nil=>
    rw [e] at hc2
    have:0=a₀.size:=hc2
    omega
   | cons t r=>
    have hl:=congrArg List.length e
    rw [yAH,yAJ] at hl
    have hr:r=[]:=List.length_eq_zero_iff.mp (by omega)
    subst hr
    obtain ⟨b,n,w⟩:=t
    rw [e] at hc2
    obtain ⟨_,_,hu,hn⟩:=hc2
    have:0+n=a₀.size:=hn
    rw [yBG] at this
    rw [<- this]
    exact hu
end
end L2S
namespace L2S
open PySem PyProof.Rows
noncomputable abbrev ZB1 (h:Heap) (a:Addr) (vs:List Value):Heap:=((h.update a (Obj.mapSeq fun _=>#[])).push (seqObj "tuple" vs.toArray 0)).push (seqObj "list" #[] 0)
section
variable {prog:Program} {w:World} {A:Around} {E:Value->Shared->Prop} {s:Shared}
theorem mid_old {h:Heap} {a b:Addr} {vs:List Value} {o:Obj} (hb:b≠a) (e:h.get? b=some o):(ZB1 h a vs).get? b=some o:=by
 refine Heap.get?_push_of_some _ (Heap.get?_push_of_some _ ?_)
 exact (Heap.get?_update_other _ _ (Ne.symm hb)).trans e
theorem sort_any {a:Addr} {vs:List Value} {n:Nat} {κ:SortKind} {f:Keyed->Int} {P:PySem.Fin->Shared->Prop} (ho:s.heap.get? a=some (seqObj "list" vs.toArray n)) (hz:vs.length <= 1000)
  (hkind:2 <= vs.length->∀ Q':SortKind->Shared->Prop,Q' κ { s with heap:=ZB1 s.heap a vs }->wpAny (model prog w) A (keyKind' vs.toArray) Q' E { s with heap:=ZB1 s.heap a vs })
  (hask:2 <= vs.length->Asks (model prog w) A E { s with heap:=ZB1 s.heap a vs } κ (pairsOf vs) f)
  (h:∀ out:Array Keyed,out.Perm (pairsOf vs)->Up f out 0 vs.length->P (.done (.ret .none)) { s with heap:=sortedHeap s.heap a vs (out.map (·.2)) }):wpAny (model prog w) A (Builtin.«list.sort» ⟨[.ref a],[]⟩) P E s:=by
 rw [list_sort_plain]
 have ha:a < s.heap.objs.size:=Heap.lt_size ho
 refine wpAny_bind (listItems_at ho rfl ?_)
 refine wpAny_bind (listUpdate_at ho rfl ?_)
 obtain ⟨e1,ho1⟩:∃ e1,(s.heap.update a (Obj.mapSeq fun _=>#[])).get? a=some (seqObj "list" #[] e1):=⟨_,get?_update_seq ho (fun _=>#[])⟩
 refine wpAny_bind (seqEpoch_at ho1 rfl ?_)
 refine wpAny_bind (wpAny_newTuple (wpAny_bind (wpAny_newList (wpAny_holding ?_))))
 have ho6:(ZB1 s.heap a vs).get? a=some (seqObj "list" #[] e1):=Heap.get?_push_of_some _ (Heap.get?_push_of_some _ ho1)
 show wpAny (model prog w) A _ P E { s with heap:=ZB1 s.heap a vs }
 dsimp only
 have hsz:vs.toArray.size=vs.length:=yAL ..
 have hl:vs.length <= sizeLine:=yAD hz (by decide)
 rw [hsz]
 by_cases h2:vs.length < 2
 .rw [if_pos h2,if_pos h2]
  refine wpAny_bind (wpAny_pure ?_)
  rw [StateT.run_pure]
  refine wpAny_bind (wpAny_pure ?_)
  dsimp only
  refine wpAny_bind (seqEpoch_at ho6 rfl ?_)
  refine wpAny_bind (listUpdate_at ho6 rfl ?_ (hsz2:=by rw [Array.size_map];show (pairsOf vs).size <= _;rw [pairsOf_size];omega))
  rw [if_neg (by simp)]
  exact wpAny_pure (h (pairsOf vs) (Array.Perm.refl _) fun i j _ z2 z3=>by rw [show i=j by omega];exact Int.le_refl _)
 .rw [if_neg h2,if_neg h2]
  refine wpAny_bind (hkind (by omega) _ ?_)
  refine wpAny_bind (wpAny_mono (sort_runs (st:=SortSt.mk' κ (vs.toArray.zip vs.toArray) #[] 7 none) (Q:=fun _ st'=>SB κ (pairsOf vs) st' /\ Up f (arrOf st') 0 (pairsOf vs).size) (hask (by omega)) ⟨Array.Perm.refl _,rfl,rfl⟩ rfl (by rw [pairsOf_size];omega) fun st' a1 a2=>⟨a1,a2⟩) ?_ fun _ _ e=>e)
  rintro ⟨⟨⟩,st'⟩ s' ⟨rfl,hB,hu⟩
  dsimp only
  refine wpAny_bind (seqEpoch_at ho6 rfl ?_)
  have hs:(arrOf st').size=(pairsOf vs).size:=hB.size
  rw [pairsOf_size] at hs hu
  refine wpAny_bind (listUpdate_at ho6 rfl ?_ (hsz2:=by rw [Array.size_map];omega))
  rw [hB.fail,if_neg (by simp)]
  exact wpAny_pure (h _ hB.perm hu)
theorem sorted_any {l:Addr} {vs:List Value} {κ:SortKind} {f:Keyed->Int} {Q:Value->Shared->Prop} (hl:s.heap.IsList l vs.toArray) (hz:vs.length <= 1000)
  (hkind:∀ h':Heap,(∀ b o,s.heap.get? b=some o->h'.get? b=some o)->2 <= vs.length->∀ (A':Around) (E':Value->Shared->Prop) (Q':SortKind->Shared->Prop),A'.units <= A.units+8->Q' κ { s with heap:=h' }->wpAny (model prog w) A' (keyKind' vs.toArray) Q' E' { s with heap:=h' })
  (hask:∀ h':Heap,(∀ b o,s.heap.get? b=some o->h'.get? b=some o)->2 <= vs.length->∀ (A':Around) (E':Value->Shared->Prop),A'.units <= A.units+8->Asks (model prog w) A' E' { s with heap:=h' } κ (pairsOf vs) f)
  (h:∀ out:Array Keyed,out.Perm (pairsOf vs)->Up f out 0 vs.length->Q (.ref (s.heap.objs.size+1)) { s with heap:=sortedAll s.heap vs (out.map (·.2)) }):wpAny (model prog w) A (call (.builtin "sorted") [.ref l]) Q E s:=by
 refine Calls.call_function_entry kind_sorted plain_sorted entry_sorted (args_sorted1 _) ?_
 unfold Builtin.«sorted»
 refine wpAny_bind (m:=checkCount "sorted" 1 1 _) (wpAny_pure ?_)
 refine wpAny_bind (collect_list hl ?_ (yAD hz (by decide)))
 refine wpAny_bind (wpAny_newList ?_)
 have z1:((s.heap.push (seqObj "list" #[] 0)).update s.heap.objs.size (Obj.mapSeq (·++vs.toArray))).objs.size=s.heap.objs.size+1:=(Heap.size_update ..).trans (size_push' ..)
 have g1:(((s.heap.push (seqObj "list" #[] 0)).update s.heap.objs.size (Obj.mapSeq (·++vs.toArray))).push (seqObj "list" vs.toArray 0)).get? (s.heap.objs.size+1)=some (seqObj "list" vs.toArray 0):=by
  rw [<- z1];exact Heap.get?_push_size _ rfl
 have old:∀ b o,s.heap.get? b=some o->(ZB1 (((s.heap.push (seqObj "list" #[] 0)).update s.heap.objs.size (Obj.mapSeq (·++vs.toArray))).push (seqObj "list" vs.toArray 0)) (s.heap.objs.size+1) vs).get? b=some o:=fun b o e=>by
  have lt:=Heap.lt_size e
  refine mid_old (yAE (Nat.lt_succ_of_lt lt)) (Heap.get?_push_of_some _ ?_)
  exact (Heap.get?_update_other _ _ (Nat.ne_of_gt lt)).trans (Heap.get?_push_of_some _ e)
 show wpAny _ _ _ _ _ { s with heap:=((s.heap.push (seqObj "list" #[] 0)).update s.heap.objs.size (Obj.mapSeq (·++vs.toArray))).push (seqObj "list" vs.toArray 0) }
 rw [z1]
 refine wpAny_bind (wpAny_holding (wpAny_call_entry slot_list_sort ⟨_,g1,rfl⟩ entry_list_sort (sort_any g1 hz (fun h2 Q' q=>hkind _ old h2 _ _ Q' ?_ q) (fun h2=>hask _ old h2 _ _ ?_) fun out a1 a2=>⟨_,rfl,?_⟩) (args_list_sort _)))
 .show A.units+1+1 <= A.units+8;omega
 .show A.units+1+1 <= A.units+8;omega
 .exact wpAny_pure ⟨_,rfl,h out a1 a2⟩
end
end L2S
namespace L2
open PySem PySem.Spec PyProof.Rows L2S
theorem kn_K {xs:Array Keyed} {i:Nat}:kn (fun p=>numOf p.1) xs i=PyProof.Rows.K xs i:=by
 unfold kn PyProof.Rows.K
 cases xs[i]? <;> rfl
section
variable {prog:Program} {w:World} {A:Around} {E:Value->Shared->Prop} {s:Shared}
theorem asks_ints {a₀:Array Keyed} (h0:IntKeys a₀):Asks (model prog w) A E s oneType' a₀ fun p=>numOf p.1 where
 lt:=fun x y hx hy st Q hk q=>by
  obtain ⟨n,t,e1⟩:=h0 x hx
  obtain ⟨m,u,e2⟩:=h0 y hy
  rw [lt'_eq]
  refine wpS_bind (wpS_get ?_)
  rw [hk,keyLt'_oneType]
  rw [e1,e2] at q ⊢
  exact wpS_bind (wpS_lift (wpAny_attempt (oneLt_int ⟨rfl,wpS_pure q⟩)))
theorem kind_of_ints {vs:List Value} {ns:List Int} (hI:IntsAre vs ns) (h2:2 <= vs.length):keyKind' vs.toArray=pure oneType':=by
 cases vs with
 | nil=>exact absurd h2 (by simp)
 | cons v₁ r=>
  cases r with
  | nil=>exact absurd h2 (by simp)
  | cons v₂ r=>exact keyKind_ints hI
theorem sorted_intsB {l:Addr} {vs:List Value} {ns:List Int} {Q:Value->Shared->Prop} (hl:s.heap.IsList l vs.toArray) (hI:IntsAre vs ns) (hz:vs.length <= 1000)
  (h:∀ (out:Array Value) (ns':List Int),IntsAre out.toList ns'->ns'.Perm ns->ns'.Pairwise (· <= ·)->Q (.ref (s.heap.objs.size+1)) { s with heap:=sortedAll s.heap vs out }):wpAny (model prog w) A (call (.builtin "sorted") [.ref l]) Q E s:=by
 refine sorted_any (κ:=oneType') (f:=fun p=>numOf p.1) hl hz (fun h' _ h2 A' E' Q' _ q=>?_) (fun h' _ h2 A' E' _=>asks_ints hI.intKeys) fun out hp hu=>?_
 .rw [kind_of_ints hI h2]
  exact wpAny_pure q
 .obtain ⟨ns',a1,a2,a3⟩:=sorted_out hI hp (fun i j z1 z2=>by
   rw [pairsOf_size] at z2
   have:=hu i j (yAC _) z1 (by omega)
   rw [kn_K,kn_K] at this
   exact this)
  exact h _ ns' a1 a2 a3
end
section
variable {X:Cx}
theorem call_sortedB:ZBr X (.builtin "sorted") (fun xs H Q=>∃ (p:Addr) (ns:List Int),xs=[.ref p] /\ SqL X.K H p (ns.map V.int) /\ ns.length <= 1000 /\ ∀ (l:Addr) (ms:List Int),H l=none->ms.Perm ns->ms.Pairwise (· <= ·)->Q (.ref l) (upd H l (.lst (ms.map V.int)))):=by
 intro pins s σ H xs us Q I r h
 obtain ⟨p,ns,rfl,hq,hn,q⟩:=h
 obtain ⟨u,rfl,rx⟩:=ZCj r
 cases rx
 obtain ⟨its,r',pl,hz⟩:=I.list hq
 have hlen:=r'.length
 rw [yAB] at hlen
 refine sorted_intsB pl.isList (intsAre_of r') (by omega) fun out ns' a1 a2 a3=>?_
 obtain ⟨e,he⟩:=sortedAll_at s.heap its out
 have hl':ns'.length=ns.length:=a2.length_eq
 refine ⟨.ref (s.heap.objs.size+1),_,I.laid (t':=s.toks) (fun b o e=>sortedAll_old e) (yAR _) (o:=.lst (ns'.map V.int)) ⟨?_,out.toList,e,ZB5 a1,by simpa using he⟩,rfl,q _ ns' (I.hok.fresh (yAR _)) a2 a3⟩
 rw [yAB]
 exact ZAj (by omega)
end
open PySem
theorem tVar_1 {v:V} {a0:Option V} {σ:St} {H:Hp} {Q:VK}:tVar 1 (a0::some v::σ) H Q=Q v H:=by
 simp only [ZAa,ZAX]
theorem tVar_2 {v:V} {a0 a1:Option V} {σ:St} {H:Hp} {Q:VK}:tVar 2 (a0::a1::some v::σ) H Q=Q v H:=by
 simp only [ZAa,ZAX]
theorem tVar_3 {v:V} {a0 a1 a2:Option V} {σ:St} {H:Hp} {Q:VK}:tVar 3 (a0::a1::a2::some v::σ) H Q=Q v H:=by
 simp only [ZAa,ZAX]
theorem tVar_4 {v:V} {a0 a1 a2 a3:Option V} {σ:St} {H:Hp} {Q:VK}:tVar 4 (a0::a1::a2::a3::some v::σ) H Q=Q v H:=by
 simp only [ZAa,ZAX]
theorem tVar_5 {v:V} {a0 a1 a2 a3 a4:Option V} {σ:St} {H:Hp} {Q:VK}:tVar 5 (a0::a1::a2::a3::a4::some v::σ) H Q=Q v H:=by
 simp only [ZAa,ZAX]
theorem tVar_6 {v:V} {a0 a1 a2 a3 a4 a5:Option V} {σ:St} {H:Hp} {Q:VK}:tVar 6 (a0::a1::a2::a3::a4::a5::some v::σ) H Q=Q v H:=by
 simp only [ZAa,ZAX]
theorem tVar_7 {v:V} {a0 a1 a2 a3 a4 a5 a6:Option V} {σ:St} {H:Hp} {Q:VK}:tVar 7 (a0::a1::a2::a3::a4::a5::a6::some v::σ) H Q=Q v H:=by
 simp only [ZAa,ZAX]
theorem tVar_8 {v:V} {a0 a1 a2 a3 a4 a5 a6 a7:Option V} {σ:St} {H:Hp} {Q:VK}:tVar 8 (a0::a1::a2::a3::a4::a5::a6::a7::some v::σ) H Q=Q v H:=by
 simp only [ZAa,ZAX]
theorem tVar_9 {v:V} {a0 a1 a2 a3 a4 a5 a6 a7 a8:Option V} {σ:St} {H:Hp} {Q:VK}:tVar 9 (a0::a1::a2::a3::a4::a5::a6::a7::a8::some v::σ) H Q=Q v H:=by
 simp only [ZAa,ZAX]
theorem tVar_10 {v:V} {a0 a1 a2 a3 a4 a5 a6 a7 a8 a9:Option V} {σ:St} {H:Hp} {Q:VK}:tVar 10 (a0::a1::a2::a3::a4::a5::a6::a7::a8::a9::some v::σ) H Q=Q v H:=by
 simp only [ZAa,ZAX]
theorem tVar_11 {v:V} {a0 a1 a2 a3 a4 a5 a6 a7 a8 a9 a10:Option V} {σ:St} {H:Hp} {Q:VK}:tVar 11 (a0::a1::a2::a3::a4::a5::a6::a7::a8::a9::a10::some v::σ) H Q=Q v H:=by
 simp only [ZAa,ZAX]
theorem tVar_12 {v:V} {a0 a1 a2 a3 a4 a5 a6 a7 a8 a9 a10 a11:Option V} {σ:St} {H:Hp} {Q:VK}:tVar 12 (a0::a1::a2::a3::a4::a5::a6::a7::a8::a9::a10::a11::some v::σ) H Q=Q v H:=by
 simp only [ZAa,ZAX]
theorem tVar_13 {v:V} {a0 a1 a2 a3 a4 a5 a6 a7 a8 a9 a10 a11 a12:Option V} {σ:St} {H:Hp} {Q:VK}:tVar 13 (a0::a1::a2::a3::a4::a5::a6::a7::a8::a9::a10::a11::a12::some v::σ) H Q=Q v H:=by
 simp only [ZAa,ZAX]
theorem tVar_14 {v:V} {a0 a1 a2 a3 a4 a5 a6 a7 a8 a9 a10 a11 a12 a13:Option V} {σ:St} {H:Hp} {Q:VK}:tVar 14 (a0::a1::a2::a3::a4::a5::a6::a7::a8::a9::a10::a11::a12::a13::some v::σ) H Q=Q v H:=by
 simp only [ZAa,ZAX]
theorem tVar_15 {v:V} {a0 a1 a2 a3 a4 a5 a6 a7 a8 a9 a10 a11 a12 a13 a14:Option V} {σ:St} {H:Hp} {Q:VK}:tVar 15 (a0::a1::a2::a3::a4::a5::a6::a7::a8::a9::a10::a11::a12::a13::a14::some v::σ) H Q=Q v H:=by
 simp only [ZAa,ZAX]
theorem tVar_16 {v:V} {a0 a1 a2 a3 a4 a5 a6 a7 a8 a9 a10 a11 a12 a13 a14 a15:Option V} {σ:St} {H:Hp} {Q:VK}:tVar 16 (a0::a1::a2::a3::a4::a5::a6::a7::a8::a9::a10::a11::a12::a13::a14::a15::some v::σ) H Q=Q v H:=by
 simp only [ZAa,ZAX]
theorem tVar_17 {v:V} {a0 a1 a2 a3 a4 a5 a6 a7 a8 a9 a10 a11 a12 a13 a14 a15 a16:Option V} {σ:St} {H:Hp} {Q:VK}:tVar 17 (a0::a1::a2::a3::a4::a5::a6::a7::a8::a9::a10::a11::a12::a13::a14::a15::a16::some v::σ) H Q=Q v H:=by
 simp only [ZAa,ZAX]
theorem tVar_18 {v:V} {a0 a1 a2 a3 a4 a5 a6 a7 a8 a9 a10 a11 a12 a13 a14 a15 a16 a17:Option V} {σ:St} {H:Hp} {Q:VK}:tVar 18 (a0::a1::a2::a3::a4::a5::a6::a7::a8::a9::a10::a11::a12::a13::a14::a15::a16::a17::some v::σ) H Q=Q v H:=by
 simp only [ZAa,ZAX]
theorem tVar_19 {v:V} {a0 a1 a2 a3 a4 a5 a6 a7 a8 a9 a10 a11 a12 a13 a14 a15 a16 a17 a18:Option V} {σ:St} {H:Hp} {Q:VK}:tVar 19 (a0::a1::a2::a3::a4::a5::a6::a7::a8::a9::a10::a11::a12::a13::a14::a15::a16::a17::a18::some v::σ) H Q=Q v H:=by
 simp only [ZAa,ZAX]
theorem tVar_20 {v:V} {a0 a1 a2 a3 a4 a5 a6 a7 a8 a9 a10 a11 a12 a13 a14 a15 a16 a17 a18 a19:Option V} {σ:St} {H:Hp} {Q:VK}:tVar 20 (a0::a1::a2::a3::a4::a5::a6::a7::a8::a9::a10::a11::a12::a13::a14::a15::a16::a17::a18::a19::some v::σ) H Q=Q v H:=by
 simp only [ZAa,ZAX]
theorem tVar_21 {v:V} {a0 a1 a2 a3 a4 a5 a6 a7 a8 a9 a10 a11 a12 a13 a14 a15 a16 a17 a18 a19 a20:Option V} {σ:St} {H:Hp} {Q:VK}:tVar 21 (a0::a1::a2::a3::a4::a5::a6::a7::a8::a9::a10::a11::a12::a13::a14::a15::a16::a17::a18::a19::a20::some v::σ) H Q=Q v H:=by
 simp only [ZAa,ZAX]
theorem tVar_22 {v:V} {a0 a1 a2 a3 a4 a5 a6 a7 a8 a9 a10 a11 a12 a13 a14 a15 a16 a17 a18 a19 a20 a21:Option V} {σ:St} {H:Hp} {Q:VK}:tVar 22 (a0::a1::a2::a3::a4::a5::a6::a7::a8::a9::a10::a11::a12::a13::a14::a15::a16::a17::a18::a19::a20::a21::some v::σ) H Q=Q v H:=by
 simp only [ZAa,ZAX]
theorem tVar_23 {v:V} {a0 a1 a2 a3 a4 a5 a6 a7 a8 a9 a10 a11 a12 a13 a14 a15 a16 a17 a18 a19 a20 a21 a22:Option V} {σ:St} {H:Hp} {Q:VK}:tVar 23 (a0::a1::a2::a3::a4::a5::a6::a7::a8::a9::a10::a11::a12::a13::a14::a15::a16::a17::a18::a19::a20::a21::a22::some v::σ) H Q=Q v H:=by
 simp only [ZAa,ZAX]
theorem tVar_24 {v:V} {a0 a1 a2 a3 a4 a5 a6 a7 a8 a9 a10 a11 a12 a13 a14 a15 a16 a17 a18 a19 a20 a21 a22 a23:Option V} {σ:St} {H:Hp} {Q:VK}:tVar 24 (a0::a1::a2::a3::a4::a5::a6::a7::a8::a9::a10::a11::a12::a13::a14::a15::a16::a17::a18::a19::a20::a21::a22::a23::some v::σ) H Q=Q v H:=by
 simp only [ZAa,ZAX]
theorem tVar_25 {v:V} {a0 a1 a2 a3 a4 a5 a6 a7 a8 a9 a10 a11 a12 a13 a14 a15 a16 a17 a18 a19 a20 a21 a22 a23 a24:Option V} {σ:St} {H:Hp} {Q:VK}:tVar 25 (a0::a1::a2::a3::a4::a5::a6::a7::a8::a9::a10::a11::a12::a13::a14::a15::a16::a17::a18::a19::a20::a21::a22::a23::a24::some v::σ) H Q=Q v H:=by
 simp only [ZAa,ZAX]
theorem tVar_26 {v:V} {a0 a1 a2 a3 a4 a5 a6 a7 a8 a9 a10 a11 a12 a13 a14 a15 a16 a17 a18 a19 a20 a21 a22 a23 a24 a25:Option V} {σ:St} {H:Hp} {Q:VK}:tVar 26 (a0::a1::a2::a3::a4::a5::a6::a7::a8::a9::a10::a11::a12::a13::a14::a15::a16::a17::a18::a19::a20::a21::a22::a23::a24::a25::some v::σ) H Q=Q v H:=by
 simp only [ZAa,ZAX]
theorem tVar_27 {v:V} {a0 a1 a2 a3 a4 a5 a6 a7 a8 a9 a10 a11 a12 a13 a14 a15 a16 a17 a18 a19 a20 a21 a22 a23 a24 a25 a26:Option V} {σ:St} {H:Hp} {Q:VK}:tVar 27 (a0::a1::a2::a3::a4::a5::a6::a7::a8::a9::a10::a11::a12::a13::a14::a15::a16::a17::a18::a19::a20::a21::a22::a23::a24::a25::a26::some v::σ) H Q=Q v H:=by
 simp only [ZAa,ZAX]
theorem tVar_28 {v:V} {a0 a1 a2 a3 a4 a5 a6 a7 a8 a9 a10 a11 a12 a13 a14 a15 a16 a17 a18 a19 a20 a21 a22 a23 a24 a25 a26 a27:Option V} {σ:St} {H:Hp} {Q:VK}:tVar 28 (a0::a1::a2::a3::a4::a5::a6::a7::a8::a9::a10::a11::a12::a13::a14::a15::a16::a17::a18::a19::a20::a21::a22::a23::a24::a25::a26::a27::some v::σ) H Q=Q v H:=by
 simp only [ZAa,ZAX]
theorem tVar_29 {v:V} {a0 a1 a2 a3 a4 a5 a6 a7 a8 a9 a10 a11 a12 a13 a14 a15 a16 a17 a18 a19 a20 a21 a22 a23 a24 a25 a26 a27 a28:Option V} {σ:St} {H:Hp} {Q:VK}:tVar 29 (a0::a1::a2::a3::a4::a5::a6::a7::a8::a9::a10::a11::a12::a13::a14::a15::a16::a17::a18::a19::a20::a21::a22::a23::a24::a25::a26::a27::a28::some v::σ) H Q=Q v H:=by
 simp only [ZAa,ZAX]
theorem tVar_30 {v:V} {a0 a1 a2 a3 a4 a5 a6 a7 a8 a9 a10 a11 a12 a13 a14 a15 a16 a17 a18 a19 a20 a21 a22 a23 a24 a25 a26 a27 a28 a29:Option V} {σ:St} {H:Hp} {Q:VK}:tVar 30 (a0::a1::a2::a3::a4::a5::a6::a7::a8::a9::a10::a11::a12::a13::a14::a15::a16::a17::a18::a19::a20::a21::a22::a23::a24::a25::a26::a27::a28::a29::some v::σ) H Q=Q v H:=by
 simp only [ZAa,ZAX]
open PySem
noncomputable def Cut (t:TS):TS:=t
theorem ZAe {X:Cx} {rest:List Stmt} {u:TS} (h:PSs X rest u):PSs X rest (Cut u):=h
theorem ZAv {u:TS} {D:Ends} {σ:St} {H:Hp} (h:u D σ H):Cut u D σ H:=h
theorem us0 {l:List Value} (h:l.length=0):l=[]:=List.length_eq_zero_iff.mp h
theorem us1 {l:List Value} (h:l.length=1):∃ a0,l=[a0]:=by
 cases l with
 | nil=>cases h
 | cons a l=>
  obtain rfl:=us0 (l:=l) (Nat.succ.inj h)
  exact ⟨a,rfl⟩
theorem us2 {l:List Value} (h:l.length=2):∃ a0 a1,l=[a0,a1]:=by
 cases l with
 | nil=>cases h
 | cons a l=>
  obtain ⟨b0,rfl⟩:=us1 (l:=l) (Nat.succ.inj h)
  exact ⟨a,b0,rfl⟩
theorem us3 {l:List Value} (h:l.length=3):∃ a0 a1 a2,l=[a0,a1,a2]:=by
 cases l with
 | nil=>cases h
 | cons a l=>
  obtain ⟨b0,b1,rfl⟩:=us2 (l:=l) (Nat.succ.inj h)
  exact ⟨a,b0,b1,rfl⟩
theorem us4 {l:List Value} (h:l.length=4):∃ a0 a1 a2 a3,l=[a0,a1,a2,a3]:=by
 cases l with
 | nil=>cases h
 | cons a l=>
  obtain ⟨b0,b1,b2,rfl⟩:=us3 (l:=l) (Nat.succ.inj h)
  exact ⟨a,b0,b1,b2,rfl⟩
end L2
namespace Law
open PySem L2
local macro_rules | `(tactic| walk_at "o")=>`(tactic| first | exact Or.inl rfl | exact Or.inr rfl)
set_option hygiene false in
local macro_rules | `(tactic| walk_at "rd")=>`(tactic| ((try dsimp only [cx_K,tDNewT,tDNewK,tDNotIn,tDIn,tDGet,sDPut,tChain,tForZ_eq,ZEn,tCompR2_eq,sFldAug_eq,cx_cloK,ZEO,ZB7,tForE_eq,tCompE_eq,tMaxD,tAug_eq,ipI_int,gSub,gCons_eq,gNil_eq,tSeq,tIfS,ZEm,tB,tOr,tAnd,tNot,tOp,tUn,tC,ZAX,tTry,ZEP,tRaise,tMethS,ZDK,tXMk,tFS,ZEt,ZD6,tTry0,tCompZ_eq,tBreak,tPar,tVar_1,tVar_2,tVar_3,tVar_4,tVar_5,tVar_6,tVar_7,tVar_8,tVar_9,tVar_10,tVar_11,tVar_12,tVar_13,tVar_14,tVar_15,tVar_16,tVar_17,tVar_18,tVar_19,tVar_20,tVar_21,tVar_22,tVar_23,tVar_24,tVar_25,tVar_26,tVar_27,tVar_28,tVar_29,tVar_30,rI0_int,rI_int,rU_int,rEq_int,rNe_int,rEq_bl,rNe_bl,rEq_str,rNe_str,ex_bl,ex_int,tAsg,ZD0,tRet,tRetN,ZEr,ZEq,ZEM,ZEs,tOrV,ZEp,tIf,List.set_cons_zero,List.set_cons_succ,ZEQ,ZEG,ZBw,tNil,List.cons_append,List.nil_append,yBI,tCB,tFld_eq,sFld_eq,tForL_eq,tForR1_eq,tForR2_eq,tCompL_eq,tCompR1_eq,tYes,tBM,tBM0,tLst,tTup,ZEN,true_and,tSl,ZEo,ZDm,decide_eq_true_eq,Bool.not_eq_true',decide_eq_false_iff_not,L2.start,yAQ,List.map_nil,yAJ,yBR,Nat.reduceAdd,Nat.reduceSub,yBG,yBK,List.replicate_zero,List.replicate_succ,if_true,if_false,Bool.false_eq_true,Bool.true_eq_false,Bool.not_true,Bool.not_false]);(try simp only [cx_K,tDNewT,tDNewK,tDNotIn,tDIn,tDGet,sDPut,tChain,tForZ_eq,ZEn,tCompR2_eq,sFldAug_eq,cx_cloK,ZEO,ZB7,tForE_eq,tCompE_eq,tMaxD,tAug_eq,ipI_int,gSub,gCons_eq,gNil_eq,tSeq,tIfS,ZEm,tB,tOr,tAnd,tNot,tOp,tUn,tC,ZAX,tTry,ZEP,tRaise,tMethS,ZDK,tXMk,tFS,ZEt,ZD6,tTry0,tCompZ_eq,tBreak,tPar,tVar_1,tVar_2,tVar_3,tVar_4,tVar_5,tVar_6,tVar_7,tVar_8,tVar_9,tVar_10,tVar_11,tVar_12,tVar_13,tVar_14,tVar_15,tVar_16,tVar_17,tVar_18,tVar_19,tVar_20,tVar_21,tVar_22,tVar_23,tVar_24,tVar_25,tVar_26,tVar_27,tVar_28,tVar_29,tVar_30,rI0_int,rI_int,rU_int,rEq_int,rNe_int,rEq_bl,rNe_bl,rEq_str,rNe_str,ex_bl,ex_int,tAsg,ZD0,tRet,tRetN,ZEr,ZEq,ZEM,ZEs,tOrV,ZEp,tIf,List.set_cons_zero,List.set_cons_succ,ZEQ,ZEG,ZBw,tNil,List.cons_append,List.nil_append,yBI,tCB,tFld_eq,sFld_eq,tForL_eq,tForR1_eq,tForR2_eq,tCompL_eq,tCompR1_eq,tYes,tBM,tBM0,tLst,tTup,ZEN,true_and,tSl,ZEo,ZDm,decide_eq_true_eq,Bool.not_eq_true',decide_eq_false_iff_not,L2.start,yAQ,List.map_nil,yAJ,yBR,Nat.reduceAdd,Nat.reduceSub,yBG,yBK,List.replicate_zero,List.replicate_succ,if_true,if_false,Bool.false_eq_true,Bool.true_eq_false,Bool.not_true,Bool.not_false])))
local macro_rules | `(tactic| walk_at "up")=>`(tactic| first | assumption | (refine Same.get (by assumption) ?_;walk_at "up"))
local macro_rules | `(tactic| walk_at "lk")=>`(tactic| ((repeat (first | rw [lkc,if_pos rfl] | rw [lkc,if_neg (by decide +kernel)]));first | done | rfl))
noncomputable def top (i:Nat):Stmt:=PySem.Challenge.pw_sorthall_k39_whole_stopped.main.body.getD i (.Pass ⟨0,0,0,0⟩)
noncomputable abbrev ZAm:Stmt:=top 2
noncomputable abbrev ZA4:Stmt:=top 3
noncomputable abbrev ZBM:Stmt:=top 5
noncomputable abbrev ZAV:Stmt:=top 6
noncomputable abbrev ZAx:Stmt:=top 7
noncomputable abbrev ZAw:Stmt:=top 8
noncomputable abbrev ZAy:Stmt:=ZBh (top 12) 0
noncomputable abbrev ZA0:Stmt:=ZBh (top 14) 0
noncomputable abbrev ZAz:Stmt:=ZBh (top 14) 1
noncomputable abbrev ZAo:Stmt:=ZBh (top 14) 2
noncomputable abbrev ZAg:Stmt:=ZBh (top 14) 3
noncomputable abbrev ZAn:Stmt:=ZBh (top 14) 4
noncomputable abbrev ZAd:Stmt:=ZBh (top 17) 0
noncomputable abbrev ZAW:Stmt:=ZBh (top 17) 1
noncomputable abbrev ZBB:Stmt:=top 19
noncomputable abbrev ZBN:Stmt:=top 21
noncomputable abbrev ZBn:Stmt:=top 22
noncomputable abbrev ZBl:Stmt:=top 23
noncomputable abbrev ZBo:Stmt:=top 24
noncomputable abbrev ZBm:Stmt:=top 25
noncomputable abbrev ZDC:Stmt:=top 26
noncomputable abbrev ZCM:Stmt:=top 27
noncomputable abbrev ZDD:Stmt:=top 28
noncomputable abbrev ZBR:Stmt:=top 29
noncomputable abbrev ZEH:Stmt:=top 30
noncomputable abbrev ZDB:Stmt:=top 31
noncomputable abbrev ZA5:Stmt:=top 32
noncomputable abbrev ZCN:Stmt:=top 33
noncomputable abbrev ZDO:Stmt:=top 34
theorem sc_stretch_from:FnScope ["asker","first","end","stop","beyond","falling"] ["asker","first","end"] (ZAB ZAm):=⟨rfl,rfl,rfl,by decide +kernel,rfl,by decide +kernel,by decide +kernel⟩
theorem sc_stretches:FnScope ["asker","found","first","part"] ["asker"] (ZAB ZA4):=⟨rfl,rfl,rfl,by decide +kernel,rfl,by decide +kernel,by decide +kernel⟩
theorem sc_spot_of:FnScope ["asker","order","place","low","high","middle"] ["asker","order","place"] (ZAB ZBM):=⟨rfl,rfl,rfl,by decide +kernel,rfl,by decide +kernel,by decide +kernel⟩
theorem sc_spot_from_behind:FnScope ["asker","order","place","spot"] ["asker","order","place"] (ZAB ZAV):=⟨rfl,rfl,rfl,by decide +kernel,rfl,by decide +kernel,by decide +kernel⟩
theorem sc_by_putting:FnScope ["asker","order","place"] ["asker"] (ZAB ZAx):=⟨rfl,rfl,rfl,by decide +kernel,rfl,by decide +kernel,by decide +kernel⟩
theorem sc_by_walking:FnScope ["asker","order","place"] ["asker"] (ZAB ZAw):=⟨rfl,rfl,rfl,by decide +kernel,rfl,by decide +kernel,by decide +kernel⟩
theorem sc_Spent_init:FnScope ["self","asked"] ["self","asked"] (ZAB ZAy):=⟨rfl,rfl,rfl,by decide +kernel,rfl,by decide +kernel,by decide +kernel⟩
theorem sc_Asker_init:FnScope ["self","row","rule","most"] ["self","row","rule","most"] (ZAB ZA0):=⟨rfl,rfl,rfl,by decide +kernel,rfl,by decide +kernel,by decide +kernel⟩
theorem sc_Asker_many:FnScope ["self"] ["self"] (ZAB ZAz):=⟨rfl,rfl,rfl,by decide +kernel,rfl,by decide +kernel,by decide +kernel⟩
theorem sc_Asker_ahead:FnScope ["self","p","q","later","earlier","said"] ["self","p","q"] (ZAB ZAo):=⟨rfl,rfl,rfl,by decide +kernel,rfl,by decide +kernel,by decide +kernel⟩
theorem sc_Asker_answers:FnScope ["self"] ["self"] (ZAB ZAg):=⟨rfl,rfl,rfl,by decide +kernel,rfl,by decide +kernel,by decide +kernel⟩
theorem sc_Asker_widen:FnScope ["self","more"] ["self","more"] (ZAB ZAn):=⟨rfl,rfl,rfl,by decide +kernel,rfl,by decide +kernel,by decide +kernel⟩
theorem sc_AskedRule_init:FnScope ["self","teller"] ["self","teller"] (ZAB ZAd):=⟨rfl,rfl,rfl,by decide +kernel,rfl,by decide +kernel,by decide +kernel⟩
theorem sc_AskedRule_before:FnScope ["self","x","y","teller"] ["self","x","y"] (ZAB ZAW):=⟨rfl,rfl,rfl,by decide +kernel,rfl,by decide +kernel,by decide +kernel⟩
theorem sc_by_reach:FnScope ["asker","reach","order","place","start"] ["asker","reach"] (ZAB ZBB):=⟨rfl,rfl,rfl,by decide +kernel,rfl,by decide +kernel,by decide +kernel⟩
theorem sc_cell_at:FnScope ["_law_script","_law_k"] ["_law_script","_law_k"] (ZAB ZBN):=⟨rfl,rfl,rfl,by decide +kernel,rfl,by decide +kernel,by decide +kernel⟩
theorem sc_digits:FnScope ["_law_script","_law_k","_law_base","_law_spare_ones","_law_found","_law_cell","_law_turn"] ["_law_script","_law_k","_law_base"] (ZAB ZBn):=⟨rfl,rfl,rfl,by decide +kernel,rfl,by decide +kernel,by decide +kernel⟩
theorem sc_stream:FnScope ["_law_cell","_law_many","_law_found","_law_number","_law_k"] ["_law_cell","_law_many"] (ZAB ZBl):=⟨rfl,rfl,rfl,by decide +kernel,rfl,by decide +kernel,by decide +kernel⟩
theorem sc_blocks:FnScope ["_law_keys_here","_law_cell","_law_row","_law_number","_law_part"] ["_law_keys_here","_law_cell"] (ZAB ZBo):=⟨rfl,rfl,rfl,by decide +kernel,rfl,by decide +kernel,by decide +kernel⟩
theorem sc_nearly:FnScope ["_law_keys_here","_law_cell","_law_row","_law_number","_law_at","_law_key"] ["_law_keys_here","_law_cell"] (ZAB ZBm):=⟨rfl,rfl,rfl,by decide +kernel,rfl,by decide +kernel,by decide +kernel⟩
theorem sc_keys:FnScope ["_law_script","_law_most","_law_mode","_law_mix","_law_width","_law_keys_here","_law_way_here"] ["_law_script","_law_most"] (ZAB ZDC):=⟨rfl,rfl,rfl,by decide +kernel,rfl,by decide +kernel,by decide +kernel⟩
theorem sc_whole:FnScope ["_law_found"] ["_law_found"] (ZAB ZCM):=⟨rfl,rfl,rfl,by decide +kernel,rfl,by decide +kernel,by decide +kernel⟩
theorem sc_bits:FnScope ["_law_script","_law_mix"] ["_law_script","_law_mix"] (ZAB ZDD):=⟨rfl,rfl,rfl,by decide +kernel,rfl,by decide +kernel,by decide +kernel⟩
theorem sc_teller:FnScope ["_law_log","_law_bits_here","_law_teller_here"] ["_law_log","_law_bits_here"] (ZAB ZBR):=⟨rfl,rfl,rfl,by decide +kernel,rfl,by decide +kernel,by decide +kernel⟩
theorem sc_way:FnScope ["_law_way_here","_law_asker"] ["_law_way_here","_law_asker"] (ZAB ZEH):=⟨rfl,rfl,rfl,by decide +kernel,rfl,by decide +kernel,by decide +kernel⟩
theorem sc_told:FnScope ["_law_way_here","_law_asker","_law_told_here","e"] ["_law_way_here","_law_asker"] (ZAB ZDB):=⟨rfl,rfl,rfl,by decide +kernel,rfl,by decide +kernel,by decide +kernel⟩
theorem sc_each_once:FnScope ["_law_told_here","_law_many","_law_place"] ["_law_told_here","_law_many"] (ZAB ZA5):=⟨rfl,rfl,rfl,by decide +kernel,rfl,by decide +kernel,by decide +kernel⟩
theorem sc_bound:FnScope ["_law_way_here","_law_log","_law_many"] ["_law_way_here","_law_log","_law_many"] (ZAB ZCN):=⟨rfl,rfl,rfl,by decide +kernel,rfl,by decide +kernel,by decide +kernel⟩
theorem sc_law:FnScope ["_law_script","_law_keys_here","_law_row","_law_way_here","_law_bits_here","_law_free","_law_word","_law_told_here","_law_total","_law_most","_law_log","_law_asker","_law_again","_law_made"] ["_law_script"] (ZAB ZDO):=⟨rfl,rfl,rfl,by decide +kernel,rfl,by decide +kernel,by decide +kernel⟩
noncomputable abbrev ZAJ:Stmt:=inBody ZBR 0
theorem csc_teller:CloScope ["_law_x","_law_y","_law_said","_law_bits_here","_law_log"] ["_law_x","_law_y"] ["_law_bits_here","_law_log"] (ZAB ZAJ):=⟨rfl,rfl,rfl,by decide +kernel,rfl,rfl,by decide,by decide +kernel,by decide +kernel,by decide +kernel,fun x h=>(show ∀ y∈(ZAB ZAJ).names,y.2=.free->y.1∈(["_law_bits_here","_law_log"]:List Str) by decide +kernel) _ (PySem.mem_of_lookup h) rfl⟩
structure Bt (K:W.Frag) (mg:Str->Option Value) (C_Asker C_AskedRule C_HallError C_TooFar C_Spent:Addr):Prop where
 b_len:mg "len"=none
 b_range:mg "range"=none
 b_list:mg "list"=none
 b_isinstance:mg "isinstance"=none
 b_bool:mg "bool"=none
 b_int:mg "int"=none
 b_max:mg "max"=none
 b_min:mg "min"=none
 b_sum:mg "sum"=none
 b_sorted:mg "sorted"=none
 b_reversed:mg "reversed"=none
 b_enumerate:mg "enumerate"=none
 b_ValueError:mg "ValueError"=none
 m_Asker:mg "Asker"=some (.ref C_Asker)
 cl_Asker:Cls K C_Asker
 n_Asker_row:NoAttr K C_Asker "row"
 n_Asker_rule:NoAttr K C_Asker "rule"
 n_Asker_most:NoAttr K C_Asker "most"
 n_Asker_asked:NoAttr K C_Asker "asked"
 n_Asker_told:NoAttr K C_Asker "told"
 m_AskedRule:mg "AskedRule"=some (.ref C_AskedRule)
 cl_AskedRule:Cls K C_AskedRule
 n_AskedRule_teller:NoAttr K C_AskedRule "teller"
 m_HallError:mg "HallError"=some (.ref C_HallError)
 m_TooFar:mg "TooFar"=some (.ref C_TooFar)
 m_Spent:mg "Spent"=some (.ref C_Spent)
 xc_Spent:ExcC K C_Spent
 xk_Spent:XCls K C_Spent
 xi_Spent:∃ fI,ZCU K C_Spent fI bmV "ValueError.__new__"=true
 xm_Spent_Spent:PySem.W.exmOne K (.ref C_Spent) (.ref C_Spent)=some true
 n_Spent_asked:NoAttr K C_Spent "asked"
 xb_HallError:XBase K C_HallError
 kit_int_bool:PySem.W.kitOne K (.type "int") (.type "bool")=some false
 kit_Spent_Spent:PySem.W.kitOne K (.ref C_Spent) (.ref C_Spent)=some true
noncomputable def cellOf (ns:List Int) (k:Int):Int:=if k < (ns.length:Int) then (ns[k.toNat]?).getD 0 else 0
noncomputable def ZDA (K:W.Frag):Sp:=fun vs H Q _=>∃ (a:Addr) (ns:List Int) (k:Int),vs=[.ref a,.int k] /\ SqL K H a (ns.map V.int) /\ 0 <= k /\ Q (.int (cellOf ns k)) H
noncomputable def ZBP:Sp:=fun vs H Q _=>∃ (c m:Int),vs=[.int c,.int m] /\ 0 <= m /\ m <= 900 /\ ∀ l H' (zs:List Int),Same H H'->H l=none->H' l=some (.lst (zs.map V.int))->(zs.length:Int)=m->(∀ z∈zs,0 <= z /\ z < 2 ^ 31)->Q (.ref l) H'
noncomputable def ZBQ:Sp:=fun vs H Q _=>∃ (a:Addr) (ks:List Int) (c:Int),vs=[.ref a,.int c] /\ H a=some (.lst (ks.map V.int)) /\ ks.length <= 63 /\ ∀ l H' (zs:List Int),Same H H'->H l=none->H' l=some (.lst (zs.map V.int))->zs.length <= 63->Q (.ref l) H'
noncomputable def ZEU (K:W.Frag):Sp:=fun vs H Q _=>∃ (a:Addr) (ns:List Int),vs=[.ref a,.int 40] /\ SqL K H a (ns.map V.int) /\ ns.length <= 63 /\ ∀ l H' (zs:List Int),Same H H'->H l=none->H' l=some (.lst (zs.map V.int))->zs.length <= 119->Q (.ref l) H'
noncomputable def ZCX (K:W.Frag):Sp:=fun vs H Q _=>∃ (a:Addr) (ns:List Int) (k b:Int),vs=[.ref a,.int k,.int b] /\ SqL K H a (ns.map V.int) /\ ns.length <= 63 /\ 0 <= k /\ 0 < b /\ b <= 1000 /\ ∀ l H' (zs:List Int),Same H H'->H l=none->H' l=some (.lst (zs.map V.int))->zs.length=120->(∀ z∈zs,0 <= z /\ z < b)->Q (.ref l) H'
theorem once0 {M G:Prop} (h:M->G) (t:M):G:=h t
theorem ZEV {n:Nat} (h:n <= 90000):n < sizeLine:=Nat.lt_of_le_of_lt h (by decide)
noncomputable abbrev fA (rl ru:Addr) (m:V) (n:Int) (tl:Addr):List (Str×V):=[("told",.ref tl),("asked",.int n),("most",m),("rule",.ref ru),("row",.ref rl)]
noncomputable abbrev fR (g:Addr):List (Str×V):=[("teller",.ref g)]
theorem fA_canon {rl ru tl:Addr} {m:V} {n:Int}:∀ f,(putF "told" (.ref tl) (putF "asked" (.int n) (putF "most" m (putF "rule" (.ref ru) (putF "row" (.ref rl) []))))).lookup f=(fA rl ru m n tl).lookup f:=fun f=>by
 simp only [ZAZ,lkc]
theorem fA_asked {rl ru tl:Addr} {m:V} {n k:Int}:∀ f,(putF "asked" (.int k) (fA rl ru m n tl)).lookup f=(fA rl ru m k tl).lookup f:=fun f=>by
 rw [ZAZ]
 by_cases h:f=("asked":Str)
 .subst h
  rw [if_pos rfl]
  exact (show List.lookup _ (fA rl ru m k tl)=some (.int k) by walk_at "lk").symm
 .simp only [lkc,h,if_false]
theorem fA_most {rl ru tl:Addr} {m m':V} {n:Int}:∀ f,(putF "most" m' (fA rl ru m n tl)).lookup f=(fA rl ru m' n tl).lookup f:=fun f=>by
 rw [ZAZ]
 by_cases h:f=("most":Str)
 .subst h
  rw [if_pos rfl]
  exact (show List.lookup _ (fA rl ru m' n tl)=some m' by walk_at "lk").symm
 .simp only [lkc,h,if_false]
theorem insAugV {K:W.Frag} {f:Str} {a C:Addr} {fl:List (Str×V)} {i j:Int} {H:Hp} {D:Ends} {σ:St} (h:Ins H a C fl) (cl:Cls K C) (n:NoAttr K C f) (l:fl.lookup f=some (.int i))
  {te:TE} (hte:∀ Q:VK,Q (.int j) H->te σ H Q)
  (q:∀ H',Ins H' a C (putF f (.int (i+j)) fl)->(∀ b,b≠a->H' b=H b)->D.nx σ H'):augA K te rAdd f D σ (.ref a) H:=by
 obtain ⟨dx,fs,h1,h2,h3⟩:=h.ex
 refine ⟨a,C,dx,fs,_,rfl,h1,cl,n,(h3 f).trans l,hte _ ⟨i,j,rfl,rfl,dx,fs,h1,by omega,q _ ⟨dx,_,ZAE,?_,fun g=>?_⟩ fun b hb=>ZAF hb⟩⟩
 .rw [ZBL ((h3 f).trans l)];exact h2
 .rw [ZAZ,ZAZ,h3]
noncomputable abbrev fS (n:Int):List (Str×V):=[("asked",.int n)]
noncomputable def ZBy (C:Addr):Sp:=fun vs H Q _=>∃ (e:Addr) (n:Int),vs=[.ref e,.int n] /\ H e=some (excM e (.ref C) none) /\ n.natAbs.log2 < 1920 /\ ∀ d,H d=none->d≠e->Q .non (upd (upd H d (xdM d (fS n))) e (excM e (.ref C) (some d)))
noncomputable def ZBC (CA:Addr):Sp:=fun vs H Q _=>∃ (x dx r:Addr) (ru:Addr) (m:V) (xs:List V),vs=[.ref x,.ref r,.ref ru,m] /\ H x=some (.ins CA dx []) /\ H r=some (.lst xs) /\
 ∀ rl tl H',(∀ b o,b≠x->H b=some o->H' b=some o)->H rl=none->H tl=none->rl≠tl->Ins H' x CA (fA rl ru m 0 tl)->H' rl=some (.lst xs)->H' tl=some (.lst [])->Q .non H'
noncomputable def ZCl (CA:Addr):Sp:=fun vs H Q _=>∃ (a rl ru tl:Addr) (m:V) (n:Int) (ts:List V),vs=[.ref a] /\ Ins H a CA (fA rl ru m n tl) /\ H tl=some (.lst ts) /\ ∀ l H',Same H H'->H l=none->H' l=some (.lst ts)->Q (.ref l) H'
noncomputable def ZCL (CR:Addr):Sp:=fun vs H Q _=>∃ (x dx g:Addr),vs=[.ref x,.ref g] /\ H x=some (.ins CR dx []) /\ ∀ H',(∀ b o,b≠x->H b=some o->H' b=some o)->Ins H' x CR (fR g)->Q .non H'
noncomputable def ZCY (CR:Addr) (r:V->List V->Hp->VK->Prop):Sp:=fun vs H Q _=>∃ (ru g:Addr) (x y:V),vs=[.ref ru,x,y] /\ Ins H ru CR (fR g) /\ (∃ o,H g=some (FZ o) /\ ∃ fd,o.data=.func fd) /\ r (.ref g) [x,y] H Q
noncomputable def wdn (m:V) (i:Int):V:=match m with | .int k=>.int (k+i) | m=>m
noncomputable def ZDp (CA:Addr):Sp:=fun vs H Q _=>∃ (a rl ru tl:Addr) (m:V) (n i:Int),vs=[.ref a,.int i] /\ Ins H a CA (fA rl ru m n tl) /\ (m=.non∨∃ k,m=.int k) /\ ∀ H',(∀ b,b≠a->H' b=H b)->Ins H' a CA (fA rl ru (wdn m i) n tl)->Q .non H'
noncomputable def ZBz (CA CR CS:Addr) (r:V->List V->Hp->VK->Prop):Sp:=fun vs H Q E=>∃ (a rl ru tl:Addr) (m:V) (n p q:Int),vs=[.ref a,.int p,.int q] /\ Ins H a CA (fA rl ru m n tl) /\ n.natAbs.log2 < 1920 /\
 ((∃ k,m=.int k /\ k <= n /\ ∀ d H',Same H H'->H d=none->H' d=some (xdM d (fS n))->E (.ref CS) (some d) H') ∨
 ((m=.non∨∃ k,m=.int k /\ n < k) /\ ∃ (xs ts:List V) (x y:V),H rl=some (.lst xs) /\ p≠q /\ 0 <= p /\ 0 <= q /\ xs[(max p q).toNat]?=some x /\ xs[(min p q).toNat]?=some y /\ ZCY CR r [.ref ru,x,y] H (fun v H1=>∃ b,v=.bl b /\ Ins H1 a CA (fA rl ru m n tl) /\ H1 tl=some (.lst ts) /\ ts.length <= 90000 /\
  ∀ t H2,H1 t=none->Ins H2 a CA (fA rl ru m (n+1) tl)->H2 tl=some (.lst (ts++[.ref t]))->H2 t=some (.tup [.int (max p q),.int (min p q),.bl b])->(∀ c,c≠a->c≠tl->c≠t->H2 c=H1 c)->Q (.bl (if q < p then b else !b)) H2) E0))
theorem ins_fr {H H':Hp} {S:List Addr} {a C:Addr} {fl:List (Str×V)} (e:Fr S H H') (n:a∉S) (h:Ins H a C fl):Ins H' a C fl:=let ⟨dx,fs,h1,h2,h3⟩:=h.ex;⟨dx,fs,e _ _ n h1,h2,h3⟩
noncomputable abbrev nL (l:List Nat):List V:=l.map fun (x:Nat)=>V.int (x:Int)
theorem nL_ints (l:List Nat):nL l=(l.map fun (x:Nat)=>(x:Int)).map V.int:=by rw [List.map_map];rfl
theorem rints_nat {lo hi:Nat}:(ZCn (lo:Int) (hi:Int)).map V.int=nL (List.range' lo (hi-lo)):=by
 refine List.ext_getElem? fun i=>?_
 unfold nL
 rw [yAP,yAP]
 by_cases h:i < hi-lo
 .rw [List.getElem?_range' h,rints_get (by omega)]
  show some (V.int ((lo:Int)+i))=some (V.int ((lo+1 * i:Nat):Int))
  congr 2
  omega
 .rw [yBF (by rw [ZBb];omega),yBF (by rw [List.length_range'];omega)]
  rfl
noncomputable abbrev A3:=Nat×Nat×Bool
inductive Pg (α:Type) where
 | ret (a:α):Pg α
 | ask (p q:Nat) (k:Bool->Pg α):Pg α
noncomputable def Pg.bind {α β:Type} (f:α->Pg β):Pg α->Pg β
 | .ret a=>f a
 | .ask p q k=>.ask p q fun b=>(k b).bind f
noncomputable def Pg.run {α:Type} (An:Nat->Nat->Nat->Bool):Nat->Pg α->α×List A3
 | _,.ret a=>(a,[])
 | n,.ask p q k=>(((k (An n p q)).run An (n+1)).1,(p,q,An n p q)::((k (An n p q)).run An (n+1)).2)
noncomputable def Wp {α:Type} (An:Nat->Nat->Nat->Bool) (lim:Option Nat):Pg α->List A3->(α->List A3->Prop)->(List A3->Prop)->Prop
 | .ret a,pr,post,_=>post a pr
 | .ask p q k,pr,post,exc=>pr.length <= 80000 /\ ((∃ m,lim=some m /\ m <= pr.length /\ exc pr)∨((∀ m,lim=some m->pr.length < m) /\ Wp An lim (k (An pr.length p q)) (pr++[(p,q,An pr.length p q)]) post exc))
theorem Wp.bind {α β:Type} {An:Nat->Nat->Nat->Bool} {lim:Option Nat} {f:α->Pg β} {post:β->List A3->Prop} {exc:List A3->Prop}:∀ {x:Pg α} {pr:List A3},Wp An lim (x.bind f) pr post exc->Wp An lim x pr (fun a pr'=>Wp An lim (f a) pr' post exc) exc
 | .ret a,pr,h=>h
 | .ask p q k,pr,h=>by
  obtain ⟨h1,h2⟩:=h
  refine ⟨h1,h2.imp id fun h=>⟨h.1,Wp.bind h.2⟩⟩
theorem Wp.of {α:Type} {An:Nat->Nat->Nat->Bool} {lim:Option Nat} {post:α->List A3->Prop} {exc:List A3->Prop}:∀ {x:Pg α} {pr:List A3},pr.length+(x.run An pr.length).2.length <= 80000 ->
  ((∀ m,lim=some m->pr.length+(x.run An pr.length).2.length <= m)->post (x.run An pr.length).1 (pr++(x.run An pr.length).2)) ->
  (∀ m,lim=some m->m < pr.length+(x.run An pr.length).2.length->exc ((pr++(x.run An pr.length).2).take m))->(∀ m,lim=some m->pr.length <= m)->Wp An lim x pr post exc
 | .ret a,pr,h1,h2,h3,h4=>by
  have:=h2 (fun m hm=>h4 m hm)
  rw [Pg.run,yBI] at this
  exact this
 | .ask p q k,pr,h1,h2,h3,h4=>by
  rw [Pg.run] at h1 h2 h3
  simp only [yAJ] at h1 h2 h3
  refine ⟨by omega,?_⟩
  by_cases hm:∃ m,lim=some m /\ m <= pr.length
  .obtain ⟨m,e,hm⟩:=hm
   have hq:=h3 m e (by omega)
   have:m=pr.length:=Nat.le_antisymm hm (h4 m e)
   rw [this,List.take_left] at hq
   exact .inl ⟨m,e,hm,hq⟩
  .have hl:∀ m,lim=some m->pr.length < m:=fun m e=>by
    rcases Nat.lt_or_ge pr.length m with z | z
    .exact z
    .exact absurd ⟨m,e,z⟩ hm
   have el:(pr++[(p,q,An pr.length p q)]).length=pr.length+1:=by simp
   refine .inr ⟨hl,Wp.of ?_ ?_ ?_ ?_⟩
   .rw [el];omega
   .rw [el]
    intro z
    have:=h2 fun m e=>by have:=z m e;omega
    simpa using this
   .rw [el]
    intro m e z
    have:=h3 m e (by omega)
    simpa using this
   .intro m e
    rw [el]
    exact hl m e
noncomputable def hvP (os:List Nat) (pl:Nat):Nat->Nat->Nat->Pg Nat
 | 0,lo,_=>.ret lo
 | n+1,lo,hi=>if lo < hi then .ask pl (os.getD ((lo+hi) / 2) 0) fun b=>if b then hvP os pl n lo ((lo+hi) / 2) else hvP os pl n ((lo+hi) / 2+1) hi else .ret lo
noncomputable def ZB8 (os:List Nat) (pl:Nat):Pg Nat:=hvP os pl os.length 0 os.length
noncomputable def behP (os:List Nat) (pl:Nat):Nat->Pg Nat
 | 0=>.ret 0
 | s+1=>.ask pl (os.getD s 0) fun b=>if b then behP os pl s else .ret (s+1)
noncomputable def ZCi (os:List Nat) (pl:Nat):Pg Nat:=behP os pl os.length
noncomputable def insN (os:List Nat) (r x:Nat):List Nat:=os.take r++x::os.drop r
noncomputable def putP (sp:List Nat->Nat->Pg Nat):Nat->Nat->List Nat->Pg (List Nat)
 | 0,_,os=>.ret os
 | n+1,pl,os=>(sp os pl).bind fun r=>putP sp n (pl+1) (insN os r pl)
noncomputable def runP (stop:Nat) (fal:Bool):Nat->Nat->Pg (Nat×Bool)
 | 0,by'=>.ret (by',fal)
 | n+1,by'=>if by' < stop then .ask by' (by' - 1) fun b=>if b=fal then runP stop fal n (by' + 1) else .ret (by',fal) else .ret (by',fal)
noncomputable def strP (stop first:Nat):Pg (Nat×Bool):=if first+1 < stop then .ask (first+1) first fun b=>runP stop b stop (first+2) else .ret (first+1,false)
noncomputable def ZC3 (stop:Nat):Nat->Nat->List A3->Pg (List A3)
 | 0,_,acc=>.ret acc
 | n+1,first,acc=>if first < stop then (strP stop first).bind fun r=>ZC3 stop n r.1 (acc++[(first,r.1,r.2)]) else .ret acc
inductive Rs where
 | ord (os:List Nat):Rs
 | str (ts:List A3):Rs
noncomputable def wayP (w n:Nat):Pg Rs:=if w=1 then (putP ZCi n 0 []).bind fun os=>.ret (.ord os) else if w=3 then (ZC3 n n 0 []).bind fun ts=>.ret (.str ts) else (putP ZB8 n 0 []).bind fun os=>.ret (.ord os)
noncomputable def Pg.Al {α:Type} (c:Bool->Nat):Pg α->(α->Nat->Prop)->Prop
 | .ret a,P=>P a 0
 | .ask _ _ k,P=>∀ b,(k b).Al c fun a n=>P a (n+c b)
theorem Pg.Al.imp {α:Type} {c:Bool->Nat}:∀ {x:Pg α} {P Q:α->Nat->Prop},x.Al c P->(∀ a n,P a n->Q a n)->x.Al c Q
 | .ret a,_,_,h,f=>f a 0 h
 | .ask _ _ k,_,_,h,f=>fun b=>(h b).imp fun a n z=>f a _ z
theorem Pg.Al.bind {α β:Type} {c:Bool->Nat} {f:α->Pg β}:∀ {x:Pg α} {P:β->Nat->Prop},(x.Al c fun a n=>(f a).Al c fun b m=>P b (n+m))->(x.bind f).Al c P
 | .ret a,P,h=>(show (f a).Al c fun b m=>P b (0+m) from h).imp fun b m z=>by rw [yBG] at z;exact z
 | .ask _ _ k,P,h=>fun b=>Pg.Al.bind ((h b).imp fun a n z=>z.imp fun d m y=>by rw [show n+m+c b=n+c b+m by omega];exact y)
noncomputable def csum (c:Bool->Nat) (L:List A3):Nat:=(L.map fun e=>c e.2.2).sum
theorem Pg.Al.run {α:Type} {c:Bool->Nat} {An:Nat->Nat->Nat->Bool}:∀ {x:Pg α} {P:α->Nat->Prop} (k:Nat),x.Al c P->P (x.run An k).1 (csum c (x.run An k).2)
 | .ret a,_,_,h=>h
 | .ask p q f,P,k,h=>by
  have:=(h (An k p q)).run (An:=An) (k+1)
  rw [Pg.run]
  show P _ (c (An k p q)+csum c _)
  rw [Nat.add_comm (c (An k p q))]
  exact this
noncomputable def c1:Bool->Nat:=fun _=>1
noncomputable def c0:Bool->Nat:=fun b=>if b then 0 else 1
theorem ZCe:∀ L:List A3,csum c1 L=L.length
 | []=>rfl
 | _::r=>by
  show 1+csum c1 r=_
  rw [ZCe r,yAJ,Nat.add_comm]
theorem csum_no:∀ L:List A3,csum c0 L=(L.filter fun e=>!e.2.2).length
 | []=>rfl
 | (p,q,b)::r=>by
  show c0 b+csum c0 r=_
  rw [csum_no r]
  cases b
  .show 1+_=_
   rw [List.filter_cons_of_pos (by rfl),yAJ,Nat.add_comm]
  .show 0+_=_
   rw [List.filter_cons_of_neg (by simp),yBG]
noncomputable def bl (n:Nat):Nat:=if n=0 then 0 else n.log2+1
theorem bl_half {n:Nat} (h:0 < n):bl (n / 2)+1 <= bl n:=by
 unfold bl
 rw [if_neg (show ¬ n=0 by omega)]
 split
 .omega
 .rw [Nat.log2_def n,if_pos (show n≥2 by omega)]
  exact yAA _
theorem bl_mono {a b:Nat} (h:a <= b):bl a <= bl b:=by
 unfold bl
 split
 .omega
 .rename_i ha
  rw [if_neg (by omega)]
  have:=(Nat.le_log2 (n:=b) (k:=a.log2) (by omega)).mpr (yAD (Nat.log2_self_le ha) h)
  omega
theorem bl_le (n:Nat):bl n <= n:=by
 unfold bl
 split
 .omega
 .rename_i h
  have:=(Nat.log2_lt h).mpr (Nat.lt_two_pow_self (n:=n))
  omega
theorem ZED {os:List Nat} {pl:Nat}:∀ (n lo hi:Nat),(hvP os pl n lo hi).Al c1 fun _ k=>k <= bl (hi-lo)
 | 0,_,_=>yAC _
 | n+1,lo,hi=>by
  unfold hvP
  split
  .rename_i h
   have h2:=bl_half (n:=hi-lo) (by omega)
   intro b
   cases b
   .exact (ZED n _ _).imp fun _ k z=>(by have:=bl_mono (show hi-((lo+hi) / 2+1) <= (hi-lo) / 2 by omega);show k+1 <= _;omega)
   .exact (ZED n _ _).imp fun _ k z=>(by have:=bl_mono (show (lo+hi) / 2-lo <= (hi-lo) / 2 by omega);show k+1 <= _;omega)
  .exact yAC _
theorem behP_le {os:List Nat} {pl:Nat}:∀ s,(behP os pl s).Al c1 fun _ k=>k <= s
 | 0=>yAA _
 | s+1=>fun b=>by
  cases b
  .exact (show 0+1 <= s+1 by omega)
  .exact (behP_le s).imp fun _ k z=>(show k+1 <= s+1 by omega)
theorem behP_no {os:List Nat} {pl:Nat}:∀ s,(behP os pl s).Al c0 fun _ k=>k <= min 1 s
 | 0=>yAA _
 | s+1=>fun b=>by
  cases b
  .exact (show 0+1 <= min 1 (s+1) by omega)
  .exact (behP_no s).imp fun _ k z=>(show k+0 <= min 1 (s+1) by omega)
theorem ZCc {os:List Nat} {r x:Nat}:(insN os r x).length=os.length+1:=by
 unfold insN
 rw [yAF,yAJ,yAK,yBE]
 omega
theorem ZCG {os:List Nat} {r x:Nat}:(insN os r x).Perm (os++[x]):=by
 unfold insN
 refine List.perm_middle.trans ?_
 rw [yBS]
 exact (List.perm_append_singleton x os).symm
noncomputable def sumF (c:Nat->Nat):Nat->Nat->Nat
 | 0,_=>0
 | n+1,i=>c i+sumF c n (i+1)
theorem ZCq {sp:List Nat->Nat->Pg Nat} {c:Nat->Nat} {co:Bool->Nat} (hs:∀ os pl,(sp os pl).Al co fun _ k=>k <= c os.length):∀ (n pl:Nat) (os:List Nat),(putP sp n pl os).Al co fun _ k=>k <= sumF c n os.length
 | 0,_,_=>yAA _
 | n+1,pl,os=>by
  unfold putP
  refine Pg.Al.bind ((hs os pl).imp fun r k z=>?_)
  refine (ZCq hs n (pl+1) (insN os r pl)).imp fun _ m y=>?_
  rw [ZCc] at y
  show k+m <= c os.length+sumF c n (os.length+1)
  omega
theorem putP_all {sp:List Nat->Nat->Pg Nat} {co:Bool->Nat} (hs:∀ os pl,(sp os pl).Al co fun _ _=>True):∀ (n pl:Nat) (os:List Nat),(putP sp n pl os).Al co fun r _=>r.Perm (os++List.range' pl n)
 | 0,_,os=>by
  show os.Perm (os++[])
  rw [yBI]
 | n+1,pl,os=>by
  unfold putP
  refine Pg.Al.bind ((hs os pl).imp fun r k _=>?_)
  refine (putP_all hs n (pl+1) (insN os r pl)).imp fun r' m y=>?_
  rw [List.range'_succ]
  refine y.trans ?_
  rw [show os++pl::List.range' (pl+1) n=os++[pl]++List.range' (pl+1) n by simp]
  exact (ZCG).append_right _
theorem runP_n {stop:Nat} {fal:Bool}:∀ (n b:Nat),stop <= b+n->b <= stop->(runP stop fal n b).Al c1 fun r k=>b <= r.1 /\ r.1 <= stop /\ k=(if r.1 < stop then r.1+1 else stop)-b
 | 0,b,h1,h2=>by
  have:b=stop:=by omega
  exact (show b <= b /\ b <= stop /\ 0=_ from ⟨yAA _,h2,by rw [if_neg (by omega)];omega⟩)
 | n+1,b,h1,h2=>by
  unfold runP
  split
  .rename_i h
   intro d
   show Pg.Al _ (if d=fal then _ else _) _
   split
   .refine (runP_n n (b+1) (by omega) (by omega)).imp fun r k z=>?_
    obtain ⟨z1,z2,z3⟩:=z
    refine ⟨by omega,z2,?_⟩
    show k+1=_
    rw [z3]
    split <;> omega
   .exact (show b <= b /\ b <= stop /\ 0+1=_ from ⟨yAA _,h2,by rw [if_pos h];omega⟩)
  .exact (show b <= b /\ b <= stop /\ 0=_ from ⟨yAA _,h2,by rw [if_neg (by omega)];omega⟩)
theorem strP_n {stop first:Nat} (h:first < stop):(strP stop first).Al c1 fun r k=>first < r.1 /\ r.1 <= stop /\ k=(if r.1 < stop then r.1 else stop-1)-first:=by
 unfold strP
 split
 .intro d
  refine (runP_n stop (first+2) (by omega) (by omega)).imp fun r k z=>?_
  obtain ⟨z1,z2,z3⟩:=z
  refine ⟨by omega,z2,?_⟩
  show k+1=_
  rw [z3]
  split <;> omega
 .exact (show first < first+1 /\ first+1 <= stop /\ 0=_ from ⟨by omega,by omega,by rw [if_neg (by omega)];omega⟩)
theorem ZDo {stop:Nat}:∀ (n first:Nat) (acc:List A3),stop <= first+n->first <= stop->(ZC3 stop n first acc).Al c1 fun _ k=>k=stop-1-first
 | 0,first,acc,h1,h2=>(show 0=_ by omega)
 | n+1,first,acc,h1,h2=>by
  unfold ZC3
  split
  .rename_i h
   refine Pg.Al.bind ((strP_n h).imp fun r k z=>?_)
   obtain ⟨z1,z2,z3⟩:=z
   refine (ZDo n r.1 _ (by omega) z2).imp fun _ m y=>?_
   rw [y,z3]
   split <;> omega
  .exact (show 0=_ by omega)
theorem ZDn {c:Nat->Nat} (h:∀ i,c i <= i):∀ (n i:Nat),sumF c n i <= n * (i+n)
 | 0,i=>yAC _
 | n+1,i=>by
  have h1:=ZDn h n (i+1)
  have h2:=h i
  show c i+sumF c n (i+1) <= _
  have e:(n+1) * (i+(n+1))=n * (i+1+n)+(i+n+1):=by
   rw [Nat.add_mul,Nat.one_mul,show i+(n+1)=i+1+n by omega]
   omega
  omega
theorem sumF_one:∀ (n i:Nat),sumF (fun s=>min 1 s) n i <= n
 | 0,_=>yAA _
 | n+1,i=>by
  have:=sumF_one n (i+1)
  show min 1 i+_ <= _
  omega
theorem sumF_one0 (n:Nat):sumF (fun s=>min 1 s) n 0 <= n-1:=by
 cases n with
 | zero=>exact yAA _
 | succ n=>
  have:=sumF_one n 1
  show min 1 0+sumF _ n (0+1) <= _
  simpa using this
noncomputable def Bnd (w n:Nat) (L:List A3):Prop:=if w=1 then (L.filter fun e=>!e.2.2).length <= n-1 else if w=3 then L.length=n-1 else L.length <= sumF bl n 0
theorem way_bnd {An:Nat->Nat->Nat->Bool} (w n k:Nat):Bnd w n ((wayP w n).run An k).2:=by
 unfold Bnd wayP
 by_cases h1:w=1
 .rw [if_pos h1,if_pos h1,<- csum_no]
  have:((putP ZCi n 0 []).bind fun os=>Pg.ret (Rs.ord os)).Al c0 fun _ k=>k <= sumF (fun s=>min 1 s) n 0 :=
   Pg.Al.bind ((ZCq (c:=fun s=>min 1 s) (fun os pl=>behP_no os.length) n 0 []).imp fun _ m y=>y)
  exact yAD (this.run k) (sumF_one0 n)
 .rw [if_neg h1,if_neg h1]
  by_cases h3:w=3
  .rw [if_pos h3,if_pos h3,<- ZCe]
   have:((ZC3 n n 0 []).bind fun ts=>Pg.ret (Rs.str ts)).Al c1 fun _ k=>k=n-1 :=
    Pg.Al.bind ((ZDo n 0 [] (by omega) (by omega)).imp fun _ m y=>y)
   exact this.run k
  .rw [if_neg h3,if_neg h3,<- ZCe]
   have:((putP ZB8 n 0 []).bind fun os=>Pg.ret (Rs.ord os)).Al c1 fun _ k=>k <= sumF bl n 0 :=
    Pg.Al.bind ((ZCq (c:=bl) (fun os pl=>ZED os.length 0 os.length) n 0 []).imp fun _ m y=>y)
   exact this.run k
theorem way_len {An:Nat->Nat->Nat->Bool} (w n k:Nat):((wayP w n).run An k).2.length <= n * n:=by
 rw [<- ZCe]
 unfold wayP
 by_cases h1:w=1
 .rw [if_pos h1]
  have:((putP ZCi n 0 []).bind fun os=>Pg.ret (Rs.ord os)).Al c1 fun _ k=>k <= sumF id n 0 :=
   Pg.Al.bind ((ZCq (c:=id) (fun os pl=>behP_le os.length) n 0 []).imp fun _ m y=>y)
  refine yAD (this.run k) ?_
  have:=ZDn (c:=id) (fun i=>yAA i) n 0
  rw [yBG] at this
  exact this
 .rw [if_neg h1]
  by_cases h3:w=3
  .rw [if_pos h3]
   have:((ZC3 n n 0 []).bind fun ts=>Pg.ret (Rs.str ts)).Al c1 fun _ k=>k=n-1 :=
    Pg.Al.bind ((ZDo n 0 [] (by omega) (by omega)).imp fun _ m y=>y)
   have:=this.run (An:=An) k
   refine yAD (Nat.le_of_eq this) ?_
   cases n with
   | zero=>exact yAA _
   | succ n=>exact yAD (show n+1-1 <= n+1 by omega) (Nat.le_mul_of_pos_right _ (by omega))
  .rw [if_neg h3]
   have:((putP ZB8 n 0 []).bind fun os=>Pg.ret (Rs.ord os)).Al c1 fun _ k=>k <= sumF bl n 0 :=
    Pg.Al.bind ((ZCq (c:=bl) (fun os pl=>ZED os.length 0 os.length) n 0 []).imp fun _ m y=>y)
   refine yAD (this.run k) ?_
   have:=ZDn (c:=bl) bl_le n 0
   rw [yBG] at this
   exact this
theorem Pg.Al.all {α:Type}:∀ (x:Pg α),x.Al c1 fun _ _=>True
 | .ret _=>trivial
 | .ask _ _ k=>fun b=>Pg.Al.all (k b)
theorem way_ord {An:Nat->Nat->Nat->Bool} {w n k:Nat} (h:w≠3):∃ os,((wayP w n).run An k).1=.ord os /\ os.Perm (List.range n):=by
 have hp:∀ sp,(((putP sp n 0 []).bind fun os=>Pg.ret (Rs.ord os))).Al c1 fun r _=>∃ os,r=.ord os /\ os.Perm (List.range n):=fun sp=>
  Pg.Al.bind ((putP_all (fun os pl=>Pg.Al.all _) n 0 []).imp fun r m y=>⟨r,rfl,by rw [List.range_eq_range'];exact y⟩)
 unfold wayP
 by_cases h1:w=1
 .rw [if_pos h1]
  exact (hp _).run k
 .rw [if_neg h1,if_neg h]
  exact (hp _).run k
theorem Pg.run_ind {α:Type} {An:Nat->Nat->Nat->Bool} (h:∀ k k' p q,An k p q=An k' p q):∀ (x:Pg α) (k k':Nat),x.run An k=x.run An k'
 | .ret _,_,_=>rfl
 | .ask p q f,k,k'=>by rw [Pg.run,Pg.run,h k k' p q,Pg.run_ind h (f (An k' p q)) (k+1) (k' + 1)]
theorem Wp.also {α:Type} {An:Nat->Nat->Nat->Bool} {lim:Option Nat} {c:Bool->Nat} {P:α->Prop} {post:α->List A3->Prop} {exc:List A3->Prop}:∀ {x:Pg α} {pr:List A3},Wp An lim x pr post exc->(x.Al c fun a _=>P a)->Wp An lim x pr (fun a pr'=>P a /\ post a pr') exc
 | .ret _,_,h,al=>⟨al,h⟩
 | .ask p q k,pr,h,al=>⟨h.1,h.2.imp id fun z=>⟨z.1,Wp.also z.2 (al _)⟩⟩
theorem ZEd {os:List Nat} {pl:Nat}:∀ (n lo hi:Nat),lo <= hi->(hvP os pl n lo hi).Al c1 fun r _=>r <= hi
 | 0,_,_,h=>h
 | n+1,lo,hi,h=>by
  unfold hvP
  split
  .intro b
   cases b
   .exact ZEd n _ _ (by omega)
   .exact (ZEd n _ _ (by omega)).imp fun r _ z=>(show r <= hi by omega)
  .exact h
theorem behP_hi {os:List Nat} {pl:Nat}:∀ s,(behP os pl s).Al c1 fun r _=>r <= s
 | 0=>yAA _
 | s+1=>fun b=>by
  cases b
  .exact yAA _
  .exact (behP_hi s).imp fun r _ z=>(show r <= s+1 by omega)
noncomputable def anB (k k':Int) (bs:List Int) (n:Nat):Bool:=if bs=[] then decide (k < k') else decide (bs.getD (n % bs.length) 0 % 2=1)
noncomputable def rTO (iname iq:Str) (ip:Arguments) (ib:List Stmt) (isc:Scope) (fr:List Str):V->List V->Hp->VK->Prop:=fun f vs H Q=>∃ (g x y lg bl:Addr) (k k':Int) (i j:Nat) (bs:List Int) (ws:List V),f=.ref g /\ vs=[.ref x,.ref y] /\ Clo H g iname iq ip ib isc fr [.ref bl,.ref lg] /\ H bl=some (.lst (bs.map V.int)) /\ bs.length <= 1000 /\ H x=some (.tup [.int k,.int i]) /\ H y=some (.tup [.int k',.int j]) /\ i <= 1000 /\ j <= 1000 /\ H lg=some (.lst ws) /\ ws.length <= 90000 /\
 ∀ H1 t,Same H H1->H1 t=none->Q (.bl (anB k k' bs ws.length)) (upd (upd H1 t (.tup [.int i,.int j,.bl (anB k k' bs ws.length)])) lg (.lst (ws++[.ref t])))
theorem rTO_mono {iname iq:Str} {ip:Arguments} {ib:List Stmt} {isc:Scope} {fr:List Str} {f:V} {vs:List V} {H:Hp} {Q Q':VK} (m:∀ v H,Q v H->Q' v H) (h:rTO iname iq ip ib isc fr f vs H Q):rTO iname iq ip ib isc fr f vs H Q':=by
 obtain ⟨g,x,y,lg,bl,k,k',i,j,bs,ws,e1,e2,h1,h2,h4,h5,h6,h7,h8,h9,h10,q⟩:=h
 exact ⟨g,x,y,lg,bl,k,k',i,j,bs,ws,e1,e2,h1,h2,h4,h5,h6,h7,h8,h9,h10,fun H1 t s ht=>m _ _ (q H1 t s ht)⟩
noncomputable abbrev ZAs:V->List V->Hp->VK->Prop:=rTO "_law_teller_here" "_law_teller.<locals>._law_teller_here" (ZAN ZAJ) (ZAL ZAJ) (ZAB ZAJ) ["_law_bits_here","_law_log"]
theorem rT_mono {f:V} {vs:List V} {H:Hp} {Q Q':VK} (m:∀ v H,Q v H->Q' v H) (h:ZAs f vs H Q):ZAs f vs H Q':=rTO_mono m h
noncomputable def TlO (H:Hp) (g lg bl:Addr):Prop:=Clo H g "_law_teller_here" "_law_teller.<locals>._law_teller_here" (ZAN ZAJ) (ZAL ZAJ) (ZAB ZAJ) ["_law_bits_here","_law_log"] [.ref bl,.ref lg]
theorem TlO.mono {H H':Hp} {g lg bl:Addr} (e:ZC2 H H') (h:TlO H g lg bl):TlO H' g lg bl:=Clo.mono e h
theorem TlO.fn {H:Hp} {g lg bl:Addr} (h:TlO H g lg bl):∃ o,H g=some (FZ o) /\ ∃ fd,o.data=.func fd:=by
 obtain ⟨cl,C⟩:=h
 obtain ⟨d1,d2,d3,d4,ho,_⟩:=C.obj
 exact ⟨_,ho,_,rfl⟩
theorem TlO.tells {H:Hp} {g lg bl:Addr} (h:TlO H g lg bl) {Q:VK} {x y:Addr} {k k':Int} {i j:Nat} {bs:List Int} {ws:List V} (h2:H bl=some (.lst (bs.map V.int))) (h4:bs.length <= 1000) (h5:H x=some (.tup [.int k,.int i])) (h6:H y=some (.tup [.int k',.int j])) (h7:i <= 1000) (h8:j <= 1000) (h9:H lg=some (.lst ws)) (h10:ws.length <= 90000)
  (q:∀ H1 t,Same H H1->H1 t=none->Q (.bl (anB k k' bs ws.length)) (upd (upd H1 t (.tup [.int i,.int j,.bl (anB k k' bs ws.length)])) lg (.lst (ws++[.ref t])))):ZAs (.ref g) [.ref x,.ref y] H Q :=
 ⟨g,x,y,lg,bl,k,k',i,j,bs,ws,rfl,rfl,h,h2,h4,h5,h6,h7,h8,h9,h10,q⟩
theorem back_same {cl:List (Str×Addr)} {H H0:Hp} (s:Same (hid cl H) H0):Same H (back cl H H0):=fun b o h=>by
 by_cases q:∃ x,cl.lookup x=some b
 .obtain ⟨x,q⟩:=q;rw [ZDI q];exact h
 .rw [ZBa q];exact s b o (by rw [ZC8 q];exact h)
structure ToldO (H:Hp) (pr:List (Nat×Nat×Bool)) (ts:List V):Prop where
 len:ts.length=pr.length
 get:∀ (j p q:Nat) (b:Bool),pr[j]?=some (p,q,b)->∃ t,ts[j]?=some (V.ref t) /\ H t=some (.tup [.int p,.int q,.bl b])
theorem ToldO.keep {H H':Hp} {pr:List (Nat×Nat×Bool)} {ts:List V} (e:∀ t x,H t=some (.tup x)->H' t=some (.tup x)) (h:ToldO H pr ts):ToldO H' pr ts :=
 ⟨h.len,fun j p q b hj=>by
  obtain ⟨t,a,b⟩:=h.get j p q b hj
  exact ⟨t,a,e _ _ b⟩⟩
theorem ToldO.snoc {H:Hp} {pr:List (Nat×Nat×Bool)} {ts:List V} {p q:Nat} {b:Bool} {t:Addr} (h:ToldO H pr ts) (ht:H t=some (.tup [.int p,.int q,.bl b])):ToldO H (pr++[(p,q,b)]) (ts++[.ref t]):=by
 refine ⟨by rw [yAF,yAF,h.len];rfl,fun j p' q' b' hj=>?_⟩
 by_cases hl:j < pr.length
 .rw [yAZ hl] at hj
  obtain ⟨t',a,b⟩:=h.get j p' q' b' hj
  exact ⟨t',by rw [yAZ (by rw [h.len];exact hl)];exact a,b⟩
 .have e:=(yAX.mp hj).1
  rw [yAF] at e
  have hj':j=pr.length:=by have:([(p,q,b)]:List (Nat×Nat×Bool)).length=1:=rfl;omega
  subst hj'
  rw [yAY (yAA _),yBK] at hj
  cases hj
  exact ⟨t,by rw [<- h.len,yAY (yAA _),yBK];rfl,ht⟩
theorem small_log {n:Nat} (h:n <= 90000):((n:Nat):Int).natAbs.log2 < 1920:=by
 rw [Int.natAbs_natCast]
 by_cases z:n=0
 .rw [z];decide
 .exact (Nat.log2_lt z).mpr (Nat.lt_of_le_of_lt h (by decide))
structure Ad where
 ks:List Int
 bs:List Int
 xs:List V
 a:Addr
 rl:Addr
 ru:Addr
 tl:Addr
 g:Addr
 lg:Addr
 bl:Addr
noncomputable abbrev Ad.S (c:Ad):List Addr:=[c.a,c.lg,c.tl]
noncomputable def Ad.an (c:Ad) (k p q:Nat):Bool:=anB (c.ks.getD p 0) (c.ks.getD q 0) c.bs k
noncomputable def limV:Option Nat->V
 | none=>.non
 | some m=>.int m
structure SitR (CA CR:Addr) (H:Hp) (lim:Option Nat) (c:Ad) (pr:List A3):Prop where
 ha:Ins H c.a CA (fA c.rl c.ru (limV lim) pr.length c.tl)
 hrl:H c.rl=some (.lst c.xs)
 hru:Ins H c.ru CR (fR c.g)
 clo:TlO H c.g c.lg c.bl
 hbl:H c.bl=some (.lst (c.bs.map V.int))
 blz:c.bs.length <= 1000
 len:c.xs.length=c.ks.length
 row:∀ (i:Nat) k,c.ks[i]?=some k->∃ r,c.xs[i]?=some (V.ref r) /\ H r=some (.tup [.int k,.int i])
 hlg:∃ ws,H c.lg=some (.lst ws) /\ ToldO H pr ws
 htl:∃ ts,H c.tl=some (.lst ts) /\ ToldO H pr ts
 ne:c.lg≠c.tl /\ c.rl∉c.S /\ c.ru≠c.a /\ c.bl∉c.S
section
variable {CA CR CS:Addr} {H H':Hp} {lim:Option Nat} {c:Ad} {pr:List A3}
theorem SitR.tupS (h:SitR CA CR H lim c pr) {b:Addr} {o:HO} (hb:H b=some o) (n1:∀ x,o≠.lst x) (n2:∀ C d f,o≠.ins C d f):b∉c.S:=by
 obtain ⟨ws,hlg,_⟩:=h.hlg
 obtain ⟨ts,htl,_⟩:=h.htl
 intro z
 rcases yAG.mp z with z | z
 .exact h.ha.ne hb n2 z
 rcases yAG.mp z with z | z
 .rw [z,hlg] at hb;exact n1 _ (Option.some.inj hb).symm
 .rw [yAW.mp z,htl] at hb;exact n1 _ (Option.some.inj hb).symm
theorem SitR.ruS (h:SitR CA CR H lim c pr):c.ru∉c.S:=by
 obtain ⟨ws,hlg,_⟩:=h.hlg
 obtain ⟨ts,htl,_⟩:=h.htl
 obtain ⟨d1,f1,e1,_⟩:=h.hru.ex
 intro z
 rcases yAG.mp z with z | z
 .exact h.ne.2.2.1 z
 rcases yAG.mp z with z | z
 .rw [z,hlg] at e1;cases e1
 .rw [yAW.mp z,htl] at e1;cases e1
theorem SitR.keep (h:SitR CA CR H lim c pr) (e:Fr c.S H H') {pr':List A3} {lim':Option Nat} {ts' ws':List V} (h1:Ins H' c.a CA (fA c.rl c.ru (limV lim') pr'.length c.tl)) (h2:H' c.tl=some (.lst ts')) (h3:ToldO H' pr' ts') (h4:H' c.lg=some (.lst ws')) (h5:ToldO H' pr' ws'):SitR CA CR H' lim' c pr' where
 ha:=h1
 hrl:=e _ _ h.ne.2.1 h.hrl
 hru:=ins_fr e h.ruS h.hru
 clo:=h.clo.mono fun b o hb=>e _ _ (h.tupS hb (fun _ z=>by cases z) (fun _ _ _ z=>by cases z)) hb
 hbl:=e _ _ h.ne.2.2.2 h.hbl
 blz:=h.blz
 len:=h.len
 row:=fun i k hk=>by
  obtain ⟨r,a1,a2⟩:=h.row i k hk
  exact ⟨r,a1,e _ _ (h.tupS a2 (fun _ z=>by cases z) (fun _ _ _ z=>by cases z)) a2⟩
 hlg:=⟨_,h4,h5⟩
 htl:=⟨_,h2,h3⟩
 ne:=h.ne
theorem SitR.mono (h:SitR CA CR H lim c pr) (e:Same H H'):SitR CA CR H' lim c pr:=by
 obtain ⟨_,h2,h3⟩:=h.htl
 obtain ⟨_,h4,h5⟩:=h.hlg
 exact h.keep e.fr (h.ha.mono e) (e _ _ h2) (h3.keep fun _ _ z=>e _ _ z) (e _ _ h4) (h5.keep fun _ _ z=>e _ _ z)
noncomputable def XR (CA CR CS:Addr) (lim:Option Nat) (c:Ad) (H:Hp) (exc:List A3->Prop) (E:XK):Prop:=∀ d H' pr',Fr c.S H H'->SitR CA CR H' lim c pr'->H d=none->H' d=some (xdM d (fS pr'.length))->exc pr'->E (.ref CS) (some d) H'
theorem SitR.ahead (h:SitR CA CR H lim c pr) {p q:Nat} (hpq:p≠q) (hp:p < c.ks.length) (hq:q < c.ks.length) (hk:c.ks.length <= 1000) {α:Type} {k:Bool->Pg α} {post:α->List A3->Prop} {exc:List A3->Prop} (w:Wp c.an lim (.ask (max p q) (min p q) k) pr post exc) {Q:VK} {E:XK}
  (ex:∀ d H',Same H H'->H d=none->SitR CA CR H' lim c pr->H' d=some (xdM d (fS pr.length))->exc pr->E (.ref CS) (some d) H')
  (fin:∀ b H',Fr c.S H H'->SitR CA CR H' lim c (pr++[(max p q,min p q,b)])->Wp c.an lim (k b) (pr++[(max p q,min p q,b)]) post exc->Q (.bl (if q < p then b else !b)) H'):ZBz CA CR CS ZAs [.ref c.a,.int p,.int q] H Q E:=by
 obtain ⟨hpr,w⟩:=w
 refine ⟨c.a,c.rl,c.ru,c.tl,limV lim,pr.length,p,q,rfl,h.ha,small_log (by omega),?_⟩
 rcases w with ⟨m,e,hm,hx⟩ | ⟨hm,w⟩
 .exact .inl ⟨m,by rw [e];rfl,by omega,fun d H' s hd h'=>ex d H' s hd (h.mono s) h' hx⟩
 refine .inr ⟨?_,?_⟩
 .cases lim with
  | none=>exact .inl rfl
  | some m=>exact .inr ⟨m,rfl,by have:=hm m rfl;omega⟩
 obtain ⟨ws,hlg,hws⟩:=h.hlg
 obtain ⟨ts,htl,hts⟩:=h.htl
 have hmx:max p q < c.ks.length:=by omega
 have hmn:min p q < c.ks.length:=by omega
 obtain ⟨x,hx,tx⟩:=h.row (max p q) _ (yAM hmx)
 obtain ⟨y,hy,ty⟩:=h.row (min p q) _ (yAM hmn)
 have emx:(max (p:Int) q).toNat=max p q:=by omega
 have emn:(min (p:Int) q).toNat=min p q:=by omega
 refine ⟨c.xs,ts,.ref x,.ref y,h.hrl,by omega,by omega,by omega,by rw [emx];exact hx,by rw [emn];exact hy,?_⟩
 refine ⟨c.ru,c.g,.ref x,.ref y,rfl,h.hru,h.clo.fn,?_⟩
 have eb:anB c.ks[max p q] c.ks[min p q] c.bs ws.length=c.an pr.length (max p q) (min p q):=by
  unfold Ad.an
  rw [hws.len,yBM,yBM,yAM hmx,yAM hmn];rfl
 refine h.clo.tells h.hbl h.blz tx ty (by omega) (by omega) hlg (by rw [hws.len];omega) fun H1 t s1 ht=>?_
 rw [eb];clear eb
 generalize c.an pr.length (max p q) (min p q)=b at w ⊢
 clear tx ty
 replace hlg:=s1 _ _ hlg
 replace htl:=s1 _ _ htl
 replace hws:=hws.keep (H':=H1) fun _ _ z=>s1 _ _ z
 replace hts:=hts.keep (H':=H1) fun _ _ z=>s1 _ _ z
 replace fin:=fun H' f s=>fin b H' (s1.fr.trans f) s w
 replace h:=h.mono s1
 have nta:t≠c.a:=h.ha.neN ht
 have ntg:c.lg≠t:=ZAG hlg ht
 have ntl:c.tl≠t:=ZAG htl ht
 have nlg:c.lg≠c.tl:=h.ne.1
 have nga:c.lg≠c.a:=h.ha.ne hlg fun _ _ _ z=>by cases z
 refine ⟨_,rfl,h.ha.keep (by rw [ZAF (Ne.symm nga),ZAF (Ne.symm nta)]),by rw [ZAF (Ne.symm nlg),ZAF ntl];exact htl,by rw [hts.len];omega,fun t2 H2 hn2 ha2 htl2 ht2 k2=>?_⟩
 have n2l:t2≠c.lg:=fun z=>by rw [z,ZAE] at hn2;cases hn2
 have n2t:t2≠t:=fun z=>by rw [z,ZAF (Ne.symm ntg),ZAE] at hn2;cases hn2
 have fr:Fr c.S H1 H2:=fun d o n hb=>by
  have m1:d≠c.a:=fun z=>n (by rw [z];exact yAN)
  have m2:d≠c.lg:=fun z=>n (by rw [z];exact yAO _ yAN)
  have m3:d≠c.tl:=fun z=>n (by rw [z];exact yAO _ (yAO _ yAN))
  have e1:(upd (upd H1 t (.tup [.int ((max p q:Nat):Int),.int ((min p q:Nat):Int),.bl b])) c.lg (.lst (ws++[.ref t]))) d=some o:=by rw [ZAF m2,ZAF (ZAG hb ht)];exact hb
  rw [k2 d m1 m3 (ZAG e1 hn2)]
  exact e1
 have tk:∀ b x,H1 b=some (.tup x)->H2 b=some (.tup x):=fun b x hb=>fr _ _ (h.tupS hb (fun _ z=>by cases z) (fun _ _ _ z=>by cases z)) hb
 have hlg2:H2 c.lg=some (.lst (ws++[.ref t])):=by rw [k2 c.lg nga nlg (Ne.symm n2l),ZAE]
 have ht':H2 t=some (.tup [.int ((max p q:Nat):Int),.int ((min p q:Nat):Int),.bl b]):=by rw [k2 t nta (Ne.symm ntl) (Ne.symm n2t),ZAF (Ne.symm ntg),ZAE]
 have ht2':H2 t2=some (.tup [.int ((max p q:Nat):Int),.int ((min p q:Nat):Int),.bl b]):=by
  rw [show (((max p q:Nat):Int))=max (p:Int) q by omega,show (((min p q:Nat):Int))=min (p:Int) q by omega]
  exact ht2
 have st:=h.keep fr (lim':=lim) (pr':=pr++[(max p q,min p q,b)]) (by rw [yAF];exact ha2) htl2 ((hts.keep tk).snoc ht2') hlg2 ((hws.keep tk).snoc ht')
 have g':=fin H2 fr st
 by_cases hlt:q < p
 .rw [if_pos hlt] at g'
  rw [if_pos (by omega)]
  exact g'
 .rw [if_neg hlt] at g'
  rw [if_neg (by omega)]
  exact g'
end
theorem m3_of {a lg tl b:Addr} (n1:b≠a) (n2:b≠lg) (n3:b≠tl):b∉[a,lg,tl]:=fun z=>by
 rcases yAG.mp z with z | z
 .exact n1 z
 rcases yAG.mp z with z | z
 .exact n2 z
 .exact n3 (yAW.mp z)
noncomputable def ZCP (CA:Addr):Sp:=fun vs H Q _=>∃ (a rl ru tl:Addr) (m:V) (n:Int) (xs:List V),vs=[.ref a] /\ Ins H a CA (fA rl ru m n tl) /\ H rl=some (.lst xs) /\ Q (.int xs.length) H
theorem SitR.free {CA CR:Addr} {H H':Hp} {lim:Option Nat} {c:Ad} {pr:List A3} (s:SitR CA CR H' lim c pr) (fr:Fr c.S H H') {d:Addr} (hd:H' d=none):H d=none:=by
 cases e:H d with
 | none=>rfl
 | some o=>
  exfalso
  by_cases z:d∈c.S
  .obtain ⟨ws,hlg,_⟩:=s.hlg
   obtain ⟨ts,htl,_⟩:=s.htl
   obtain ⟨dx,fs,h1,_⟩:=s.ha.ex
   rcases yAG.mp z with z | z
   .rw [z,h1] at hd;cases hd
   rcases yAG.mp z with z | z
   .rw [z,hlg] at hd;cases hd
   .rw [yAW.mp z,htl] at hd;cases hd
  .rw [fr _ _ z e] at hd;cases hd
theorem XR.at {CA CR CS:Addr} {lim:Option Nat} {c:Ad} {H H1:Hp} {exc:List A3->Prop} {E:XK} {pr:List A3} (ex:XR CA CR CS lim c H exc E) (fr:Fr c.S H H1) (s:SitR CA CR H1 lim c pr):∀ d H',Same H1 H'->H1 d=none->SitR CA CR H' lim c pr->H' d=some (xdM d (fS pr.length))->exc pr->E (.ref CS) (some d) H' :=
 fun d H' s1 hd st h2 hx=>ex d H' pr (fr.trans s1.fr) st (s.free fr hd) h2 hx
theorem XR.sub {CA CR CS:Addr} {lim:Option Nat} {c:Ad} {H H1:Hp} {exc:List A3->Prop} {E:XK} {pr:List A3} (ex:XR CA CR CS lim c H exc E) (fr:Fr c.S H H1) (s:SitR CA CR H1 lim c pr):XR CA CR CS lim c H1 exc E :=
 fun d H' pr' f st hd h2 hx=>ex d H' pr' (fr.trans f) st (s.free fr hd) h2 hx
theorem SitR.upd {CA CR:Addr} {H:Hp} {lim:Option Nat} {c:Ad} {pr:List A3} {l:Addr} {us us':List V} (h:SitR CA CR H lim c pr) (hl:H l=some (.lst us)) (n:l∉c.rl::c.bl::c.S):SitR CA CR (upd H l (.lst us')) lim c pr:=by
 obtain ⟨ws,h1,h2⟩:=h.hlg
 obtain ⟨ts,h3,h4⟩:=h.htl
 have nl:∀ b,b∈c.rl::c.bl::c.S->b≠l:=fun b hb z=>n (by rw [<- z];exact hb)
 have tk:∀ t x,H t=some (.tup x)->L2.upd H l (.lst us') t=some (.tup x):=fun t x z=>by rw [ZAF (fun e=>by rw [e,hl] at z;cases z)];exact z
 have hru:Ins (L2.upd H l (.lst us')) c.ru CR (fR c.g):=h.hru.keep (by
  obtain ⟨d1,f1,e1,_⟩:=h.hru.ex
  rw [ZAF (fun z=>by rw [z,hl] at e1;cases e1)])
 have row:∀ (i:Nat) k,c.ks[i]?=some k->∃ r,c.xs[i]?=some (V.ref r) /\ L2.upd H l (.lst us') r=some (.tup [.int k,.int i]):=fun i k hk=>by
  obtain ⟨r,a1,a2⟩:=h.row i k hk
  exact ⟨r,a1,tk _ _ a2⟩
 have clo:TlO (L2.upd H l (.lst us')) c.g c.lg c.bl:=h.clo.mono fun b o hb=>by rw [ZAF (fun z=>by rw [z,hl] at hb;cases hb)];exact hb
 exact ⟨h.ha.keep (by rw [ZAF (nl c.a (by simp))]),by rw [ZAF (nl c.rl (by simp))];exact h.hrl,hru,clo,by rw [ZAF (nl c.bl (by simp))];exact h.hbl,h.blz,h.len,row,⟨ws,by rw [ZAF (nl c.lg (by simp))];exact h1,h2.keep tk⟩,⟨ts,by rw [ZAF (nl c.tl (by simp))];exact h3,h4.keep tk⟩,h.ne⟩
theorem SitR.off {CA CR:Addr} {H:Hp} {lim:Option Nat} {c:Ad} {pr:List A3} (h:SitR CA CR H lim c pr) {l:Addr} (hl:H l=none):l∉c.rl::c.bl::c.S:=fun z=>by
 obtain ⟨ws,hlg,_⟩:=h.hlg
 obtain ⟨ts,htl,_⟩:=h.htl
 obtain ⟨dx,fs,h1,_⟩:=h.ha.ex
 rcases yAG.mp z with z | z
 .rw [z,h.hrl] at hl;cases hl
 rcases yAG.mp z with z | z
 .rw [z,h.hbl] at hl;cases hl
 rcases yAG.mp z with z | z
 .rw [z,h1] at hl;cases hl
 rcases yAG.mp z with z | z
 .rw [z,hlg] at hl;cases hl
 .rw [yAW.mp z,htl] at hl;cases hl
theorem offS {c:Ad} {l:Addr} (h:l∉c.rl::c.bl::c.S):l∉c.S:=fun z=>h (yAO _ (yAO _ z))
theorem ZAu {n:Nat} (h:n <= 1000):n < sizeLine:=Nat.lt_of_le_of_lt h (by decide)
theorem ZDx {os:List Nat} {r pl:Nat} (h:r <= os.length):insV (nL os) (r:Int) (.int pl)=nL (insN os r pl):=by
 unfold insV insN nL
 dsimp only
 rw [if_neg (by omega),Int.toNat_natCast,yAB,yBP h,yBV,yAQ,List.map_take,List.map_drop]
theorem spotP_hi (os:List Nat) (pl:Nat):(ZB8 os pl).Al c1 fun r _=>r <= os.length:=ZEd _ _ _ (yAC _)
theorem walkP_hi (os:List Nat) (pl:Nat):(ZCi os pl).Al c1 fun r _=>r <= os.length:=behP_hi _
theorem ZC0 (ws:List V) (n:Nat) (h:n <= ws.length):cutV ws (some (n:Int)) none=ws.drop n:=by
 unfold cutV
 rw [HT.sIx_none,HT.sIx_nat,yBP h]
 exact yBY (by rw [yBE];exact yAA _)
theorem atI_nL {os:List Nat} {m o:Nat} (h:os[m]?=some o):atI (nL os) (m:Int)=some (.int o):=ZA2 (by omega) (by rw [Int.toNat_natCast,yAP,h];rfl)
theorem getD_of {os:List Nat} {m o:Nat} (h:os[m]?=some o):os.getD m 0=o:=by rw [yBM,h];rfl
noncomputable def ZBx (sp:List Nat->Nat->Pg Nat) (CA CR CS:Addr):Sp:=fun vs H Q E=>∃ (c:Ad) (lim:Option Nat) (pr:List A3) (os:List Nat) (pl:Nat) (ol:Addr) (post:Nat->List A3->Prop) (exc:List A3->Prop),vs=[.ref c.a,.ref ol,.int pl] /\ SitR CA CR H lim c pr /\ H ol=some (.lst (nL os)) /\ ol∉c.S /\ (∀ x∈os,x < pl) /\ pl < c.ks.length /\ c.ks.length <= 1000 /\ Wp c.an lim (sp os pl) pr post exc /\ XR CA CR CS lim c H exc E /\
 ∀ (r:Nat) H' pr',Fr c.S H H'->SitR CA CR H' lim c pr'->post r pr'->Q (.int r) H'
noncomputable def ZC9 (sp:List Nat->Nat->Pg Nat) (CA CR CS:Addr):Sp:=fun vs H Q E=>∃ (c:Ad) (lim:Option Nat) (pr:List A3) (post:List Nat->List A3->Prop) (exc:List A3->Prop),vs=[.ref c.a] /\ SitR CA CR H lim c pr /\ c.ks.length <= 119 /\ Wp c.an lim (putP sp c.ks.length 0 []) pr post exc /\ XR CA CR CS lim c H exc E /\
 ∀ l H' os pr',Fr c.S H H'->SitR CA CR H' lim c pr'->H l=none->H' l=some (.lst (nL os))->post os pr'->Q (.ref l) H'
noncomputable def ZDL (CA CR CS:Addr):Sp:=fun vs H Q E=>∃ (c:Ad) (lim:Option Nat) (pr:List A3) (post:List Nat->List A3->Prop) (exc:List A3->Prop),vs=[.ref c.a,.int (c.ks.length:Nat)] /\ SitR CA CR H lim c pr /\ c.ks.length <= 119 /\ Wp c.an lim (putP ZB8 c.ks.length 0 []) pr post exc /\ XR CA CR CS lim c H exc E /\
 ∀ l H' os pr',Fr c.S H H'->SitR CA CR H' lim c pr'->H l=none->H' l=some (.lst (nL os))->post os pr'->Q (.ref l) H'
noncomputable def ZES (CA CR CS:Addr):Sp:=fun vs H Q E=>∃ (c:Ad) (lim:Option Nat) (pr:List A3) (first:Nat) (post:Nat×Bool->List A3->Prop) (exc:List A3->Prop),vs=[.ref c.a,.int first,.non] /\ SitR CA CR H lim c pr /\ first < c.ks.length /\ c.ks.length <= 119 /\ Wp c.an lim (strP c.ks.length first) pr post exc /\ XR CA CR CS lim c H exc E /\
 ∀ t H' (r:Nat×Bool) pr',Fr c.S H H'->SitR CA CR H' lim c pr'->H' t=some (.tup [.int (r.1:Nat),.bl r.2])->post r pr'->Q (.ref t) H'
noncomputable def ZDr (CA CR CS:Addr):Sp:=fun vs H Q E=>∃ (c:Ad) (lim:Option Nat) (pr:List A3) (post:List A3->List A3->Prop) (exc:List A3->Prop),vs=[.ref c.a] /\ SitR CA CR H lim c pr /\ c.ks.length <= 119 /\ Wp c.an lim (ZC3 c.ks.length c.ks.length 0 []) pr post exc /\ XR CA CR CS lim c H exc E /\
 ∀ l H' ts us pr',Fr c.S H H'->SitR CA CR H' lim c pr'->H l=none->H' l=some (.lst us)->ToldO H' ts us->post ts pr'->Q (.ref l) H'
noncomputable def RsAt (H:Hp) (v:V):Rs->Prop
 | .ord os=>∃ l,v=.ref l /\ H l=some (.lst (nL os))
 | .str ts=>∃ l us,v=.ref l /\ H l=some (.lst us) /\ ToldO H ts us
noncomputable def ZER (CA CR CS:Addr):Sp:=fun vs H Q E=>∃ (c:Ad) (lim:Option Nat) (pr:List A3) (w:Nat) (post:Rs->List A3->Prop) (exc:List A3->Prop),vs=[.int w,.ref c.a] /\ w < 4 /\ SitR CA CR H lim c pr /\ c.ks.length <= 119 /\ Wp c.an lim (wayP w c.ks.length) pr post exc /\ XR CA CR CS lim c H exc E /\
 ∀ v H' r pr',Fr c.S H H'->SitR CA CR H' lim c pr'->(∀ l,v=.ref l->H l=none)->RsAt H' v r->post r pr'->Q v H'
noncomputable def ToldR (H H':Hp) (post:Rs->List A3->Prop) (exc:List A3->Prop) (wd:Str) (v:V) (pr:List A3):Prop:=(wd="told" /\ (∀ l,v=.ref l->H l=none) /\ ∃ r,RsAt H' v r /\ post r pr)∨(wd="spent" /\ v=.int (pr.length:Nat) /\ exc pr)
noncomputable def ZDq (CA CR:Addr):Sp:=fun vs H Q _=>∃ (c:Ad) (lim:Option Nat) (pr:List A3) (w:Nat) (post:Rs->List A3->Prop) (exc:List A3->Prop),vs=[.int w,.ref c.a] /\ w < 4 /\ SitR CA CR H lim c pr /\ c.ks.length <= 119 /\ Wp c.an lim (wayP w c.ks.length) pr post exc /\
 ∀ t wd v H' pr',Fr c.S H H'->SitR CA CR H' lim c pr'->ToldR H H' post exc wd v pr'->H' t=some (.tup [.str wd,v])->H t=none->Q (.ref t) H'
theorem RsAt.mono {H H':Hp} (s:Same H H') {v:V}:∀ {r:Rs},RsAt H v r->RsAt H' v r
 | .ord _,h=>by
  obtain ⟨l,e,h⟩:=h
  exact ⟨l,e,s _ _ h⟩
 | .str _,h=>by
  obtain ⟨l,us,e,h,h2⟩:=h
  exact ⟨l,us,e,s _ _ h,h2.keep fun _ _ z=>s _ _ z⟩
noncomputable def ZB9:Sp:=fun vs H Q _=>∃ i:Int,vs=[.int i] /\ Q (.bl true) H
noncomputable def ZDN (K:W.Frag):Sp:=fun vs H Q _=>∃ (a:Addr) (ns:List Int) (m:Int),vs=[.ref a,.int m] /\ SqL K H a (ns.map V.int) /\ ns.length <= 63 /\ ∀ l H' (zs:List Int),Same H H'->H l=none->H' l=some (.lst (zs.map V.int))->zs.length <= 200->Q (.ref l) H'
theorem srt_eq {ms:List Int} {n:Nat} (h:ms.Perm ((List.range n).map fun (x:Nat)=>(x:Int))) (s:ms.Pairwise (· <= ·)):ms=(List.range n).map fun (x:Nat)=>(x:Int) :=
 List.Perm.eq_of_pairwise (le:=fun a b=>a <= b) (fun a b _ _ h1 h2=>Int.le_antisymm h1 h2) s (List.pairwise_map.mpr (List.pairwise_lt_range.imp fun h=>by omega)) h
theorem compL_B {K:W.Frag} {a:Addr} {xs:List V} {g:TG} {tt:TT} {te:TE} {Q:VK} {σ0:St} {H:Hp} (h:SqL K H a xs) (hz:xs.length <= 90000) (P:Nat->List V->St->Hp->Prop) (h0:P 0 [] σ0 H) (hl:∀ i ys σ H,i <= xs.length->P i ys σ H->SqL K H a xs /\ ys.length <= i)
  (hs:∀ i ys x σ H,i < xs.length->xs[i]?=some x->P i ys σ H->g x σ H fun σ2 H2=>tt σ2 H2 fun b H3=>if b=true then te σ2 H3 fun y H4=>Nxt P xs.length i (ys++[y]) σ2 H4 else Nxt P xs.length i ys σ2 H3)
  (hd:∀ ys σ H,P xs.length ys σ H->∀ p,H p=none->Q (.ref p) (upd H p (.lst ys))):ZEh K g tt te σ0 Q (.ref a) H:=⟨a,rfl,⟨xs,h⟩,comp_list P h0 hl (yAD hz (by decide)) hs hd⟩
noncomputable def sumI:Nat->Int
 | 0=>0
 | n+1=>sumI n+(bl n:Nat)
theorem sumF_snoc (c:Nat->Nat):∀ (n i:Nat),sumF c (n+1) i=sumF c n i+c (i+n)
 | 0,i=>by show c i+0=0+c i;omega
 | n+1,i=>by
  show c i+sumF c (n+1) (i+1)=c i+sumF c n (i+1)+c (i+(n+1))
  rw [sumF_snoc c n (i+1),show i+1+n=i+(n+1) by omega]
  omega
theorem sumI_eq:∀ n,sumI n=(sumF bl n 0:Nat)
 | 0=>rfl
 | n+1=>by
  show sumI n+_=_
  rw [sumI_eq n,sumF_snoc,yBG]
  omega
theorem bl_bits (n:Nat):Builtin.Int.intBits (n:Int)=bl n:=by
 unfold bl
 split
 .rename_i h;rw [h];rfl
 .rename_i h;exact bits_nat n h
noncomputable def ZDM:Sp:=fun vs H Q _=>∃ (l:Addr) (os:List Nat) (n:Nat),vs=[.ref l,.int n] /\ H l=some (.lst (nL os)) /\ os.Perm (List.range n) /\ n <= 119 /\ ∀ H',Same H H'->Q (.bl true) H'
noncomputable def ZCk:Sp:=fun vs H Q _=>∃ (w n:Nat) (l:Addr) (us:List V) (L:List A3),vs=[.int w,.ref l,.int n] /\ H l=some (.lst us) /\ ToldO H L us /\ Bnd w n L /\ n <= 119 /\ L.length <= 20000 /\ ∀ H',Same H H'->Q (.bl true) H'
theorem once3 {α β γ:Type} {M:α->β->γ->Prop} (P:α->β->γ->Prop) {G:Prop} (h:(∀ x y z,P x y z->M x y z)->G) (t:∀ x y z,P x y z->M x y z):G:=h t
noncomputable def Kp (H H':Hp):Prop:=∀ b o,(∀ t,o≠.tbl t)->(∀ C d f,o≠.ins C d f)->H b=some o->H' b=some o
theorem Kp.trans {H H1 H2:Hp} (a:Kp H H1) (b:Kp H1 H2):Kp H H2:=fun c o n m h=>b c o n m (a c o n m h)
theorem Same.kp {H H':Hp} (s:Same H H'):Kp H H':=fun b o _ _ h=>s b o h
theorem Kp.lst {H H':Hp} (k:Kp H H') {b:Addr} {xs:List V} (h:H b=some (.lst xs)):H' b=some (.lst xs):=k _ _ (fun _ z=>by cases z) (fun _ _ _ z=>by cases z) h
theorem Kp.tup {H H':Hp} (k:Kp H H') {b:Addr} {xs:List V} (h:H b=some (.tup xs)):H' b=some (.tup xs):=k _ _ (fun _ z=>by cases z) (fun _ _ _ z=>by cases z) h
theorem Kp.seq {K:W.Frag} {H H':Hp} (k:Kp H H') {a:Addr} {xs:List V} (h:SqL K H a xs):SqL K H' a xs:=by
 rcases h with (h | ⟨o,h⟩) | h
 .exact .inl (.inl (k.lst h))
 .exact .inl (.inr ⟨o,k _ _ (fun _ z=>by cases z) (fun _ _ _ z=>by cases z) h⟩)
 .exact .inr h
theorem Kp.rs {H H':Hp} (k:Kp H H') {v:V}:∀ {r:Rs},RsAt H v r->RsAt H' v r
 | .ord _,h=>by
  obtain ⟨l,e,h⟩:=h
  exact ⟨l,e,k.lst h⟩
 | .str _,h=>by
  obtain ⟨l,us,e,h,h2⟩:=h
  exact ⟨l,us,e,k.lst h,h2.keep fun _ _ z=>k.tup z⟩
theorem Kp.fr {H HA X:Hp} {c:Ad} (k:Kp H HA) (f:Fr c.S HA X) (h1:H c.a=none) (h2:H c.lg=none) (h3:H c.tl=none):Kp H X:=fun b o n m h=>f b o (fun z=>by
 rcases yAG.mp z with z | z
 .rw [z,h1] at h;cases h
 rcases yAG.mp z with z | z
 .rw [z,h2] at h;cases h
 .rw [yAW.mp z,h3] at h;cases h) (k b o n m h)
noncomputable abbrev TabT (H:Hp) (Pt:Addr):Prop:=TabSt H Pt (ZDH ZAJ) "_law_teller.<locals>._law_teller_here"
theorem open39 {CA CR Pt:Addr} {H4 H5 H7 HA:Hp} {ks bs:List Int} {xs:List V} {g lg bl ru dr ak da rl tl:Addr} {lim:Option Nat}
  (md:MadeDef H4 H5 Pt (ZDH ZAJ) g "_law_teller_here" "_law_teller.<locals>._law_teller_here" (ZAN ZAJ) (ZAL ZAJ) (ZAB ZAJ) ["_law_bits_here","_law_log"] [.ref bl,.ref lg])
  (hru:H5 ru=none) (hdr:H5 dr=none) (nrd:dr≠ru) (k7:∀ b o,b≠ru->upd (upd H5 dr (.own ru)) ru (.ins CR dr []) b=some o->H7 b=some o) (ir:Ins H7 ru CR (fR g))
  (hak:H7 ak=none) (hda:H7 da=none) (nad:da≠ak) (k9:∀ b o,b≠ak->upd (upd H7 da (.own ak)) ak (.ins CA da []) b=some o->HA b=some o)
  (nrl:upd (upd H7 da (.own ak)) ak (.ins CA da []) rl=none) (ntl:upd (upd H7 da (.own ak)) ak (.ins CA da []) tl=none) (nrt:rl≠tl) (ia:Ins HA ak CA (fA rl ru (limV lim) 0 tl)) (hrl:HA rl=some (.lst xs)) (htl:HA tl=some (.lst []))
  (hlg:H4 lg=some (.lst [])) (hbl:H4 bl=some (.lst (bs.map V.int))) (nbl:bl≠lg) (hbz:bs.length <= 1000) (len:xs.length=ks.length) (row:∀ (i:Nat) k,ks[i]?=some k->∃ r,xs[i]?=some (V.ref r) /\ H4 r=some (.tup [.int k,.int i])) (hPt:∃ t,H4 Pt=some (.tbl t)) :
  SitR CA CR HA lim ⟨ks,bs,xs,ak,rl,ru,tl,g,lg,bl⟩ [] /\ Kp H4 HA /\ TabT HA Pt /\ H4 ak=none /\ H4 tl=none:=by
 have hru':upd H5 dr (.own ru) ru=none:=by rw [ZAF (Ne.symm nrd)];exact hru
 have s6:Same H5 (upd (upd H5 dr (.own ru)) ru (.ins CR dr [])):=(ZAP hdr _).trans (ZAP hru' _)
 have k7':Same H5 H7:=fun b o h=>k7 b o (ZAG h hru) (s6 _ _ h)
 have hak':upd H7 da (.own ak) ak=none:=by rw [ZAF (Ne.symm nad)];exact hak
 have s8:Same H7 (upd (upd H7 da (.own ak)) ak (.ins CA da [])):=(ZAP hda _).trans (ZAP hak' _)
 have k9':Same H7 HA:=fun b o h=>k9 b o (ZAG h hak) (s8 _ _ h)
 obtain ⟨t0,hPt⟩:=hPt
 have kA:Kp H4 HA:=fun b o n _ h=>k9' _ _ (k7' _ _ (md.same b o (fun z=>by rw [z,hPt] at h;exact n _ (Option.some.inj h).symm) h))
 have k47:Kp H4 H7:=fun b o n _ h=>k7' _ _ (md.same b o (fun z=>by rw [z,hPt] at h;exact n _ (Option.some.inj h).symm) h)
 have hPt5:∃ t,H5 Pt=some (.tbl t):=by
  rcases md.tab with h | ⟨c',h,_⟩
  .exact ⟨_,h⟩
  .exact ⟨_,h⟩
 obtain ⟨t5,hPt5⟩:=hPt5
 have none4:∀ b,H7 b=none->H4 b=none:=fun b h=>by
  cases e:H4 b with
  | none=>rfl
  | some o=>
   by_cases z:b=Pt
   .rw [z,k7' _ _ hPt5] at h;cases h
   .rw [k7' _ _ (md.same b o z e)] at h;cases h
 have h8ak:upd (upd H7 da (.own ak)) ak (.ins CA da []) ak=some (.ins CA da []):=ZAE
 obtain ⟨dr',fs'',er,_,_⟩:=ir.ex
 have nak_ru:ru≠ak:=ZAG er hak
 have h7lg:=k47.lst hlg
 have h7bl:=k47.lst hbl
 have n7:∀ b,upd (upd H7 da (.own ak)) ak (.ins CA da []) b=none->H7 b=none:=fun b h=>s8.free h
 refine ⟨?_,kA,?_,none4 _ hak,none4 _ (n7 _ ntl)⟩
 .exact ⟨ia,hrl,ins_fr (S:=[ak]) (fun b o n h=>k9 b o (fun z=>n (by rw [z];exact yAN)) (s8 _ _ h)) (fun z=>nak_ru (yAW.mp z)) ir,md.clo.mono fun b o h=>k9' _ _ (k7' _ _ h),kA.lst hbl,hbz,len,fun i k hk=>by obtain ⟨r,a1,a2⟩:=row i k hk;exact ⟨r,a1,kA.tup a2⟩,⟨[],kA.lst hlg,rfl,fun j p q b h=>by simp at h⟩,⟨[],htl,rfl,fun j p q b h=>by simp at h⟩,ZAG (s8 _ _ h7lg) ntl,m3_of (Ne.symm (ZAG h8ak nrl)) (Ne.symm (ZAG (s8 _ _ h7lg) nrl)) nrt,nak_ru,m3_of (ZAG h7bl hak) nbl (ZAG (s8 _ _ h7bl) ntl)⟩
 .exact md.tab.mono ((k9' _ _ (k7' _ _ hPt5)).trans hPt5.symm) fun b o h=>k9' _ _ (k7' _ _ h)
noncomputable def anK (ks bs:List Int) (k p q:Nat):Bool:=anB (ks.getD p 0) (ks.getD q 0) bs k
theorem anK_ind {ks:List Int} (k k' p q:Nat):anK ks [] k p q=anK ks [] k' p q:=rfl
theorem Wp.of0 {α:Type} {An:Nat->Nat->Nat->Bool} {lim:Option Nat} {post:α->List A3->Prop} {exc:List A3->Prop} {x:Pg α} {pr L:List A3} {R:α} (hr:x.run An pr.length=(R,L)) (h1:pr.length+L.length <= 80000) (h2:(∀ m,lim=some m->pr.length+L.length <= m)->post R (pr++L)) (h3:∀ m,lim=some m->m < pr.length+L.length->exc ((pr++L).take m)) (h4:∀ m,lim=some m->pr.length <= m):Wp An lim x pr post exc :=
 Wp.of (by rw [hr];exact h1) (by rw [hr];exact h2) (by rw [hr];exact h3) h4
theorem pre39 {CA CR Pt:Addr} {H4 H5 H7:Hp} {xs:List V} {g lg bl xl ru dr ak da:Addr}
  (md:MadeDef H4 H5 Pt (ZDH ZAJ) g "_law_teller_here" "_law_teller.<locals>._law_teller_here" (ZAN ZAJ) (ZAL ZAJ) (ZAB ZAJ) ["_law_bits_here","_law_log"] [.ref bl,.ref lg])
  (hru:H5 ru=none) (hdr:H5 dr=none) (nrd:dr≠ru) (k7:∀ b o,b≠ru->upd (upd H5 dr (.own ru)) ru (.ins CR dr []) b=some o->H7 b=some o)
  (hak:H7 ak=none) (hda:H7 da=none) (nad:da≠ak) (hPt:∃ t,H4 Pt=some (.tbl t)) (hxl:H4 xl=some (.lst xs)):upd (upd H7 da (.own ak)) ak (.ins CA da []) xl=some (.lst xs):=by
 have hru':upd H5 dr (.own ru) ru=none:=by rw [ZAF (Ne.symm nrd)];exact hru
 have s6:Same H5 (upd (upd H5 dr (.own ru)) ru (.ins CR dr [])):=(ZAP hdr _).trans (ZAP hru' _)
 have k7':Same H5 H7:=fun b o h=>k7 b o (ZAG h hru) (s6 _ _ h)
 have hak':upd H7 da (.own ak) ak=none:=by rw [ZAF (Ne.symm nad)];exact hak
 have s8:Same H7 (upd (upd H7 da (.own ak)) ak (.ins CA da [])):=(ZAP hda _).trans (ZAP hak' _)
 obtain ⟨t0,hPt⟩:=hPt
 exact s8 _ _ (k7' _ _ (md.same _ _ (fun z=>by rw [z,hPt] at hxl;cases hxl) hxl))
theorem tab_fr {CA CR Pt:Addr} {H H':Hp} {lim:Option Nat} {c:Ad} {pr:List A3} (tab:TabT H Pt) (st:SitR CA CR H lim c pr) (fr:Fr c.S H H'):TabT H' Pt:=by
 have fz:ZC2 H H':=fun b o h=>fr _ _ (st.tupS h (fun _ z=>by cases z) (fun _ _ _ z=>by cases z)) h
 obtain ⟨t,ht⟩:∃ t,H Pt=some (.tbl t):=by
  rcases tab with h | ⟨c',h,_⟩
  .exact ⟨_,h⟩
  .exact ⟨_,h⟩
 exact tab.mono ((fr _ _ (st.tupS ht (fun _ z=>by cases z) (fun _ _ _ z=>by cases z)) ht).trans ht.symm) fz
theorem ZDJ {Pt:Addr} {H H':Hp} (tab:TabT H Pt) (s:Same H H'):TabT H' Pt:=by
 obtain ⟨t,ht⟩:∃ t,H Pt=some (.tbl t):=by
  rcases tab with h | ⟨c',h,_⟩
  .exact ⟨_,h⟩
  .exact ⟨_,h⟩
 exact tab.mono ((s _ _ ht).trans ht.symm) s.fz
theorem tab_some {Pt:Addr} {H:Hp} (tab:TabT H Pt):∃ t,H Pt=some (.tbl t):=by
 rcases tab with h | ⟨c',h,_⟩
 .exact ⟨_,h⟩
 .exact ⟨_,h⟩
theorem cutV_to {xs:List V} {n:Nat} (h:n <= xs.length):cutV xs none (some (n:Int))=xs.take n:=by
 unfold cutV
 rw [HT.sIx_none,HT.sIx_nat,yBP h,Nat.sub_zero]
 rfl
theorem once1 {α:Type} {M:α->Prop} (P:α->Prop) {G:Prop} (h:(∀ x,P x->M x)->G) (t:∀ x,P x->M x):G:=h t
structure St39 (K:W.Frag) (X:Hp) (a:Addr) (ns ks bs:List Int) (xs:List V) (xl bl fg:Addr) (v:V) (R:Rs) (L:List A3):Prop where
 hx:X xl=some (.lst xs)
 hb:X bl=some (.lst (bs.map V.int))
 row:∀ (i:Nat) k,ks[i]?=some k->∃ r,xs[i]?=some (V.ref r) /\ X r=some (.tup [.int k,.int i])
 scr:SqL K X a (ns.map V.int)
 log:∃ ws,X fg=some (.lst ws) /\ ToldO X L ws
 rs:RsAt X v R
theorem St39.kp {K:W.Frag} {X X':Hp} {a:Addr} {ns ks bs:List Int} {xs:List V} {xl bl fg:Addr} {v:V} {R:Rs} {L:List A3} (h:St39 K X a ns ks bs xs xl bl fg v R L) (k:Kp X X'):St39 K X' a ns ks bs xs xl bl fg v R L where
 hx:=k.lst h.hx
 hb:=k.lst h.hb
 row:=fun i x hx=>by
  obtain ⟨r,a1,a2⟩:=h.row i x hx
  exact ⟨r,a1,k.tup a2⟩
 scr:=k.seq h.scr
 log:=by
  obtain ⟨ws,a1,a2⟩:=h.log
  exact ⟨ws,k.lst a1,a2.keep fun _ _ z=>k.tup z⟩
 rs:=k.rs h.rs
theorem SitR.widened {CA CR:Addr} {H H':Hp} {lim lim':Option Nat} {c:Ad} {pr:List A3} (h:SitR CA CR H lim c pr) (k:∀ b,b≠c.a->H' b=H b) (ha:Ins H' c.a CA (fA c.rl c.ru (limV lim') pr.length c.tl)):SitR CA CR H' lim' c pr:=by
 obtain ⟨ws,h1,h2⟩:=h.hlg
 obtain ⟨ts,h3,h4⟩:=h.htl
 have nga:c.lg≠c.a:=h.ha.ne h1 fun _ _ _ z=>by cases z
 have nta:c.tl≠c.a:=h.ha.ne h3 fun _ _ _ z=>by cases z
 have fr:Fr c.S H H':=fun b o n hb=>by rw [k b (fun z=>n (by rw [z];exact yAN))];exact hb
 have tk:∀ t x,H t=some (.tup x)->H' t=some (.tup x):=fun t x z=>fr _ _ (h.tupS z (fun _ z=>by cases z) (fun _ _ _ z=>by cases z)) z
 exact h.keep fr ha (by rw [k _ nta];exact h3) (h4.keep tk) (by rw [k _ nga];exact h1) (h2.keep tk)
noncomputable def a3D (e:A3):PyData:=.tuple [.int e.1,.int e.2.1,.bool e.2.2]
noncomputable def rsD:Rs->PyData
 | .ord os=>.list (os.map fun (x:Nat)=>PyData.int (x:Int))
 | .str ts=>.list (ts.map a3D)
theorem ZDi:∀ ts:List A3,PyData.canLayAll0 (ts.map a3D)=true
 | []=>rfl
 | t::r=>by
  rw [yAQ]
  show (PyData.canLay0 (a3D t) && PyData.canLayAll0 (r.map a3D))=true
  rw [ZDi r];rfl
theorem ZEi:∀ ts:List A3,PyData.depthAll (ts.map a3D) <= 1
 | []=>yAC _
 | t::r=>by
  rw [yAQ]
  show max (PyData.depth (a3D t)) (PyData.depthAll (r.map a3D)) <= 1
  have:=ZEi r
  have:PyData.depth (a3D t)=1:=rfl
  omega
theorem ZD4 (ts:List A3):(PyData.list (ts.map a3D)).depth <= 64:=by
 show PyData.depthAll _+1 <= 64
 have:=ZEi ts
 omega
theorem no_lay:∀ os:List Nat,PyData.canLayAll0 (os.map fun (x:Nat)=>PyData.int (x:Int))=true
 | []=>rfl
 | t::r=>by
  rw [yAQ]
  show (true && PyData.canLayAll0 _)=true
  rw [no_lay r];rfl
theorem no_dep:∀ os:List Nat,PyData.depthAll (os.map fun (x:Nat)=>PyData.int (x:Int))=0
 | []=>rfl
 | t::r=>by
  rw [yAQ]
  show max 0 (PyData.depthAll _)=0
  rw [no_dep r];rfl
theorem ZD8:∀ r:Rs,(rsD r).canLay0=true /\ (rsD r).depth <= 64
 | .ord os=>⟨no_lay os,by show PyData.depthAll _+1 <= 64;rw [no_dep];decide⟩
 | .str ts=>⟨ZDi ts,by show PyData.depthAll _+1 <= 64;have:=ZEi ts;omega⟩
theorem ToldO.dp {K:W.Frag} {H:Hp}:∀ {pr:List A3} {ts:List V},ToldO H pr ts->DpAll K H (pr.map a3D) ts
 | [],ts,h=>by
  have:ts=[]:=List.length_eq_zero_iff.mp h.len
  subst this
  exact .nil
 | c::r,[],h=>by have:=h.len;cases this
 | (p,q,b)::r,v::ts,h=>by
  obtain ⟨t,a,ht⟩:=h.get 0 p q b rfl
  have ev:v=.ref t:=Option.some.inj a
  subst ev
  refine .cons (dp_tup (SqT.of ht) (.cons (ZEg _) (.cons (ZEg _) (.cons (dp_bl _) .nil)))) (ToldO.dp ⟨Nat.succ.inj h.len,fun j p' q' b' hj=>?_⟩)
  obtain ⟨t',a',ht'⟩:=h.get (j+1) p' q' b' hj
  exact ⟨t',a',ht'⟩
theorem nL_dp {K:W.Frag} {H:Hp}:∀ os:List Nat,DpAll K H (os.map fun (x:Nat)=>PyData.int (x:Int)) (nL os)
 | []=>.nil
 | _::r=>.cons (ZEg _) (nL_dp r)
theorem RsAt.dp {K:W.Frag} {H:Hp} {v:V}:∀ {r:Rs},RsAt H v r->Dp K H (rsD r) v
 | .ord os,h=>by
  obtain ⟨l,rfl,h⟩:=h
  exact ZCJ (SqL.of h) (nL_dp os)
 | .str ts,h=>by
  obtain ⟨l,us,rfl,h,h2⟩:=h
  exact ZCJ (SqL.of h) h2.dp
theorem ToldO.take {H:Hp} {pr:List A3} {ts:List V} (h:ToldO H pr ts) (n:Nat):ToldO H (pr.take n) (ts.take n):=by
 refine ⟨by rw [yAK,yAK,h.len],fun j p q b hj=>?_⟩
 by_cases z:j < n
 .rw [yBQ z] at hj
  obtain ⟨t,a1,a2⟩:=h.get j p q b hj
  exact ⟨t,by rw [yBQ z];exact a1,a2⟩
 .rw [yBF (by rw [yAK];omega)] at hj;cases hj
theorem ToldO.drop {H:Hp} {pr:List A3} {ts:List V} (h:ToldO H pr ts) (n:Nat):ToldO H (pr.drop n) (ts.drop n):=by
 refine ⟨by rw [yBE,yBE,h.len],fun j p q b hj=>?_⟩
 rw [yBZ] at hj
 obtain ⟨t,a1,a2⟩:=h.get _ p q b hj
 exact ⟨t,by rw [yBZ];exact a1,a2⟩
section
variable {P:Program} {w:World} {K:W.Frag} {mg:Str->Option Value} {base:Heap} {C_Asker C_AskedRule C_HallError C_TooFar C_Spent:Addr} {cc_teller Pt_teller:Addr}
theorem ok_teller {f:Addr} {fd:FuncData} (F:Fun K "_law_teller" "_law_teller" ZBR f fd) (hcd:fd.code=.ref cc_teller) (C:PySem.W.CodeHd base cc_teller Pt_teller) (B:ZDj mg base):FnOk P w K mg base CX0 1 f fd ["_law_log","_law_bits_here"] (ZD7 Pt_teller (ZDH ZAJ) "_law_teller_here" "_law_teller.<locals>._law_teller_here" (ZAN ZAJ) (ZAL ZAJ) (ZAB ZAJ) ["_law_bits_here","_law_log"] [1,0] 2) :=
 teller_ok F sc_teller hcd C B rfl (fun _ _=>rfl) rfl rfl (fun _ _=>rfl) rfl (by decide) (by decide) (by decide +kernel) (by decide +kernel) (by decide +kernel) (hix_of rfl) rfl
theorem clo_teller (T:Bt K mg C_Asker C_AskedRule C_HallError C_TooFar C_Spent):CloOk P w K mg base 1 (ZAs):=by
 refine clo_of (k:=0) (iname:="_law_teller_here") (iq:="_law_teller.<locals>._law_teller_here") (ip:=ZAN ZAJ) (ib:=ZAL ZAJ) (isc:=ZAB ZAJ) csc_teller (fun f vs H Q h=>?_) (fun f vs H Q h=>?_) (fun cl doc pm ctv c' us hl=>match us,hl with | [_,_],_=>rfl) (fun g cs cl cd A outer s H vs Q hr C h=>?_)
 .obtain ⟨g,x,y,lg,bl,k,k2,i,j,bs,ws,rfl,rfl,hclo,hbl,hbz,hx,hy,hi,hj,hlg,hws,q⟩:=h
  exact ⟨_,_,rfl,hclo⟩
 .obtain ⟨g,x,y,lg,bl,k,k2,i,j,bs,ws,rfl,rfl,hclo,hbl,hbz,hx,hy,hi,hj,hlg,hws,q⟩:=h
  rfl
 obtain ⟨g,x,y,lg,bl,k,k2,i,j,bs,ws,eg,rfl,hclo,hbl,hbz,hx,hy,hi,hj,hlg,hws,q⟩:=h
 cases eg
 obtain ⟨cl2,C2⟩:=hclo
 obtain rfl:=C.inj' C2
 refine ⟨_,(ZAC (ZAQ (i:=2) csc_teller.nd rfl (by walk_at "o") (ZBf ZEI (ZBe ZCS (pv 0) ZAI (fun _ _=>rfl)) (ZBe ZCS (pv 1) ZAI (fun _ _=>rfl)) (ZAR _)))
  (ZAC (ZAt (ZAO (ZDg hr.units) (pv 3) (ZA9 ZAD) (ZAR _))
  (ZAH (ZAQ (i:=2) csc_teller.nd rfl (by walk_at "o") (ZBf ZBU (ZAT ZAr (ZBe ZBW (pv 3) (ZAT ZAr (ZAM ZAK rfl T.b_len PySem.boot_len (ZAA (pv 4) ZAD)) (ZAM ZAK rfl T.b_len PySem.boot_len (ZAA (pv 3) ZAD))) (fun _ _=>rfl)) ZAI) ZAI (ZAR _)))) ZAU)
  (ZAC (ZA8 (ZC5 PySem.F.plainAttrs_list PySem.F.slot_list_append PySem.F.type_list_append ZBg (pv 4) (ZAA (ZCQ (ZAA (ZBe ZCS (pv 0) ZAI (fun _ _=>rfl)) (ZAA (ZBe ZCS (pv 1) ZAI (fun _ _=>rfl)) (ZAA (pv 2) ZAD)))) ZAD)))
  (ZAH (ZAS (pv 2)))))),?_⟩
 walk_at "rd"
 have cells:=C.cells
 have hx':hid cl H x=some (.tup [.int k,.int i]):=ZBI cells hx (by intro ob z;cases z)
 have hy':hid cl H y=some (.tup [.int k2,.int j]):=ZBI cells hy (by intro ob z;cases z)
 have hlg':hid cl H lg=some (.lst ws):=ZBI cells hlg (by intro ob z;cases z)
 have hbl':hid cl H bl=some (.lst (bs.map V.int)):=ZBI cells hbl (by intro ob z;cases z)
 refine ZBv (SqT.of hx') (ZA2 (by decide) rfl) (ZBv (SqT.of hy') (ZA2 (by decide) rfl) ?_)
 walk_at "rd"
 refine ⟨yAC _,fun e0 he0=>?_⟩
 obtain ⟨H0,e1,s1,h1⟩:=newH he0 (.lst [])
 rw [e1];clear e1
 refine neD_of Enc.int.list (by decide) (a:=bs) (b:=[]) (ZBi (SqL.of (s1 _ _ hbl'))) (ZBi (xs:=[]) (SqL.of h1)) ⟨_,rfl,?_⟩
 by_cases hb:bs=[]
 .rw [if_neg (by rw [hb];simp)]
  rw [show decide (k < k2)=anB k k2 bs ws.length by unfold anB;rw [if_pos hb]]
  refine ⟨.inl ⟨rfl,_,SqL.of (s1 _ _ hlg')⟩,ZBv (SqT.of (s1 _ _ hx')) (ZA2 (by decide) rfl) (ZBv (SqT.of (s1 _ _ hy')) (ZA2 (by decide) rfl) ⟨ZAj (by decide),fun t ht=>?_⟩)⟩
  have ntl:t≠lg:=fun z=>by rw [z,s1 _ _ hlg'] at ht;cases ht
  refine ⟨lg,ws,_,rfl,rfl,ZAP ht _ _ _ (s1 _ _ hlg'),ZEV (by omega),fun hn=>?_⟩
  have nt:=hn.ne (b:=t) (by rw [ZAF ntl,ZAE])
  have nl:=hn.ne (b:=lg) ZAE
  rw [ZCh nl,ZCh nt]
  exact q _ t (back_same s1) (by rw [ZBa nt];exact ht)
 .rw [if_pos (by simpa using hb)]
  have hb0:0 < bs.length:=List.length_pos_iff.mpr hb
  refine ⟨lg,ws,rfl,.inl (SqL.of (s1 _ _ hlg')),bl,_,rfl,.inl (SqL.of (s1 _ _ hbl')),?_⟩
  rw [yAB]
  have m0:=Int.emod_nonneg (ws.length:Int) (show (bs.length:Int)≠0 by omega)
  have m1:=Int.emod_lt_of_pos (ws.length:Int) (show (0:Int) < bs.length by omega)
  have hlt:((ws.length:Int) % (bs.length:Int)).toNat < bs.length:=by omega
  refine ⟨by omega,ZCT (SqL.of (s1 _ _ hbl')) (ZA2 (v:=.int bs[((ws.length:Int) % (bs.length:Int)).toNat]) (by omega) (by rw [yAP,yAM hlt];rfl)) ?_⟩
  walk_at "rd"
  refine ⟨by decide,?_⟩
  rw [show decide (bs[((ws.length:Int) % (bs.length:Int)).toNat] % 2=1)=anB k k2 bs ws.length by
   unfold anB;rw [if_neg hb,yBM,yAM (Nat.mod_lt _ hb0)]
   congr 3]
  refine ⟨.inl ⟨rfl,_,SqL.of (s1 _ _ hlg')⟩,ZBv (SqT.of (s1 _ _ hx')) (ZA2 (by decide) rfl) (ZBv (SqT.of (s1 _ _ hy')) (ZA2 (by decide) rfl) ⟨ZAj (by decide),fun t ht=>?_⟩)⟩
  have ntl:t≠lg:=fun z=>by rw [z,s1 _ _ hlg'] at ht;cases ht
  refine ⟨lg,ws,_,rfl,rfl,ZAP ht _ _ _ (s1 _ _ hlg'),ZEV (by omega),fun hn=>?_⟩
  have nt:=hn.ne (b:=t) (by rw [ZAF ntl,ZAE])
  have nl:=hn.ne (b:=lg) ZAE
  rw [ZCh nl,ZCh nt]
  exact q _ t (back_same s1) (by rw [ZBa nt];exact ht)
theorem ok_Spent_init {f:Addr} {fd:FuncData} (F:Fun K "__init__" "Spent.__init__" ZAy f fd) (T:Bt K mg C_Asker C_AskedRule C_HallError C_TooFar C_Spent)
 :FnOk P w K mg base CX0 1 f fd ["self","asked"] (ZBy C_Spent):=by
 refine F.ok sc_Spent_init (fun vs H Q E h=>?_) (fun cdv A outer s H vs Q E hr h=>?_)
 .obtain ⟨e,n,rfl,he,hn,q⟩:=h
  rfl
 obtain ⟨e,n,rfl,he,hn,q⟩:=h
 refine ⟨_,(ZAC (ZA8 (pe_clsV T.xb_HallError T.m_HallError rfl (ZAA (pv 0) (ZAA (pe_fs1 ZCs (pv 1)) ZAD))))
  (ZAH (ps_xfld (pv 0) (pv 1) rfl))),?_⟩
 walk_at "rd"
 exact ⟨hn,fun y=>⟨e,_,none,_,rfl,he,T.xi_Spent,e,_,none,rfl,he,T.xk_Spent,T.n_Spent_asked,.inl ⟨rfl,fun d hd hde=>q d hd hde⟩⟩⟩
theorem ok_Asker_init {f:Addr} {fd:FuncData} {dv:List Value} (F:FunD K "__init__" "Asker.__init__" ZA0 f fd dv) (T:Bt K mg C_Asker C_AskedRule C_HallError C_TooFar C_Spent)
 :FnOk P w K mg base CX0 1 f fd ["self","row","rule","most"] (ZBC C_Asker):=by
 refine F.ok sc_Asker_init (fun vs H Q E h=>?_) (fun cdv A outer s H vs Q E hr h=>?_)
 .obtain ⟨x,dx,r,ru,m,xs,rfl,hx,hr',q⟩:=h
  rfl
 obtain ⟨x,dx,r,ru,m,xs,rfl,hx,hr',q⟩:=h
 refine ⟨_,(ZAC (ZDE (pv 0) (ZCE call_list_of rfl T.b_list PyProof.Rows.boot_list (ZAA (pv 1) ZAD)) rfl)
  (ZAC (ZDE (pv 0) (pv 2) rfl)
  (ZAC (ZDE (pv 0) (pv 3) rfl)
  (ZAC (ZDE (pv 0) ZAI rfl)
  (ZAH (ZDE (pv 0) (ZA9 ZAD) rfl)))))),?_⟩
 walk_at "rd"
 refine ⟨r,xs,rfl,.inl (SqL.of hr'),fun rl hrl=>?_⟩
 have hxr:x≠rl:=ZAG hx hrl
 obtain ⟨H1,e1,s1,h1⟩:=newH hrl (.lst xs)
 rw [e1];clear e1
 refine setX (s1 _ _ hx) T.cl_Asker T.n_Asker_row (by decide) fun H2 x2 k2=>?_
 walk_at "rd"
 refine setX x2 T.cl_Asker T.n_Asker_rule putL1 fun H3 x3 k3=>?_
 walk_at "rd"
 refine setX x3 T.cl_Asker T.n_Asker_most putL2 fun H4 x4 k4=>?_
 walk_at "rd"
 refine setX x4 T.cl_Asker T.n_Asker_asked putL3 fun H5 x5 k5=>?_
 walk_at "rd"
 refine ⟨ZAj (by decide),fun tl htl=>?_⟩
 obtain ⟨H6,e6,s6,h6⟩:=newH htl (.lst [])
 rw [e6];clear e6
 have hxt:x≠tl:=ZAG x5 htl
 refine setX (s6 _ _ x5) T.cl_Asker T.n_Asker_told putL4 fun H7 x7 k7=>?_
 have up:∀ b o,b≠x->H b=some o->H5 b=some o:=fun b o n e=>by rw [k5 b n,k4 b n,k3 b n,k2 b n];exact s1 b o e
 have h5:H5 rl=some (.lst xs):=by rw [k5 rl (Ne.symm hxr),k4 rl (Ne.symm hxr),k3 rl (Ne.symm hxr),k2 rl (Ne.symm hxr)];exact h1
 refine q rl tl H7 (fun b o n e=>by rw [k7 b n];exact s6 _ _ (up b o n e)) hrl ?_ (ZAG h5 htl) ((Ins.of x7 (yAD putL5 (by decide))).congr fA_canon) (by rw [k7 rl (Ne.symm hxr)];exact s6 _ _ h5) (by rw [k7 tl (Ne.symm hxt)];exact h6)
 cases e:H tl with
 | none=>rfl
 | some o=>rw [up tl o (Ne.symm hxt) e] at htl;cases htl
theorem ok_Asker_many {f:Addr} {fd:FuncData} (F:Fun K "many" "Asker.many" ZAz f fd) (T:Bt K mg C_Asker C_AskedRule C_HallError C_TooFar C_Spent)
 :FnOk P w K mg base CX0 1 f fd ["self"] (ZCP C_Asker):=by
 refine F.ok sc_Asker_many (fun vs H Q E h=>?_) (fun cdv A outer s H vs Q E hr h=>?_)
 .obtain ⟨a,rl,ru,tl,m,n,xs,rfl,ha,hrl,q⟩:=h
  rfl
 obtain ⟨a,rl,ru,tl,m,n,xs,rfl,ha,hrl,q⟩:=h
 refine ⟨_,(ZAH (ZAS (ZAM ZAK rfl T.b_len PySem.boot_len (ZAA (ZBG (pv 0) rfl) ZAD)))),?_⟩
 walk_at "rd"
 refine ha.get T.cl_Asker T.n_Asker_row (by walk_at "lk") ⟨rl,xs,rfl,.inl (SqL.of hrl),q⟩
theorem ok_Asker_answers {f:Addr} {fd:FuncData} (F:Fun K "answers" "Asker.answers" ZAg f fd) (T:Bt K mg C_Asker C_AskedRule C_HallError C_TooFar C_Spent)
 :FnOk P w K mg base CX0 1 f fd ["self"] (ZCl C_Asker):=by
 refine F.ok sc_Asker_answers (fun vs H Q E h=>?_) (fun cdv A outer s H vs Q E hr h=>?_)
 .obtain ⟨a,rl,ru,tl,m,n,ts,rfl,ha,htl,q⟩:=h
  rfl
 obtain ⟨a,rl,ru,tl,m,n,ts,rfl,ha,htl,q⟩:=h
 refine ⟨_,(ZAH (ZAS (ZCE call_list_of rfl T.b_list PyProof.Rows.boot_list (ZAA (ZBG (pv 0) rfl) ZAD)))),?_⟩
 walk_at "rd"
 refine ha.get T.cl_Asker T.n_Asker_told (by walk_at "lk") ⟨tl,ts,rfl,.inl (SqL.of htl),fun l hl=>?_⟩
 exact q l _ (ZAP hl _) hl ZAE
theorem ok_Asker_widen {f:Addr} {fd:FuncData} (F:Fun K "widen" "Asker.widen" ZAn f fd) (T:Bt K mg C_Asker C_AskedRule C_HallError C_TooFar C_Spent)
 :FnOk P w K mg base CX0 1 f fd ["self","more"] (ZDp C_Asker):=by
 refine F.ok sc_Asker_widen (fun vs H Q E h=>?_) (fun cdv A outer s H vs Q E hr h=>?_)
 .obtain ⟨a,rl,ru,tl,m,n,i,rfl,ha,hm,q⟩:=h
  rfl
 obtain ⟨a,rl,ru,tl,m,n,i,rfl,ha,hm,q⟩:=h
 refine ⟨_,(ZAH (ZAt (ZAO op_notN (ZBG (pv 0) rfl) ZEB (ZAR _))
  (ZAH (ps_fldaug (pv 0) (pv 1) in_add)) ZAU)),?_⟩
 walk_at "rd"
 refine ha.get T.cl_Asker T.n_Asker_most (by walk_at "lk") ?_
 rcases hm with rfl | ⟨k,rfl⟩
 .rw [if_neg (by simp)]
  exact q H (fun _ _=>rfl) ha
 .rw [if_pos (by simp)]
  refine insAugV ha (j:=i) T.cl_Asker T.n_Asker_most (by walk_at "lk") (fun Q h=>by walk_at "rd";exact h) fun H2 ha2 k2=>?_
  walk_at "rd"
  exact q H2 k2 (ha2.congr fA_most)
theorem ok_AskedRule_init {f:Addr} {fd:FuncData} (F:Fun K "__init__" "AskedRule.__init__" ZAd f fd) (T:Bt K mg C_Asker C_AskedRule C_HallError C_TooFar C_Spent)
 :FnOk P w K mg base CX0 1 f fd ["self","teller"] (ZCL C_AskedRule):=by
 refine F.ok sc_AskedRule_init (fun vs H Q E h=>?_) (fun cdv A outer s H vs Q E hr h=>?_)
 .obtain ⟨x,dx,g,rfl,hx,q⟩:=h
  rfl
 obtain ⟨x,dx,g,rfl,hx,q⟩:=h
 refine ⟨_,(ZAH (ZDE (pv 0) (pv 1) rfl)),?_⟩
 walk_at "rd"
 refine setX hx T.cl_AskedRule T.n_AskedRule_teller (by decide) fun H2 x2 k2=>?_
 exact q H2 (fun b o n e=>by rw [k2 b n];exact e) ((Ins.of x2 (yAD putL1 (by decide))).congr fun f=>by simp only [ZAZ,lkc])
theorem ok_AskedRule_before {f:Addr} {fd:FuncData} (F:Fun K "before" "AskedRule.before" ZAW f fd) (T:Bt K mg C_Asker C_AskedRule C_HallError C_TooFar C_Spent)
  (clo_teller:CloOk P w K mg base 1 (ZAs))
 :FnOk P w K mg base CX0 2 f fd ["self","x","y"] (ZCY C_AskedRule ZAs):=by
 refine F.ok sc_AskedRule_before (fun vs H Q E h=>?_) (fun cdv A outer s H vs Q E hr h=>?_)
 .obtain ⟨ru,g,x,y,rfl,hru,⟨o,ho,hfd⟩,q⟩:=h
  rfl
 obtain ⟨ru,g,x,y,rfl,hru,⟨o,ho,hfd⟩,q⟩:=h
 refine ⟨_,(ZAC (ZAQ (i:=3) sc_AskedRule_before.nd rfl (by walk_at "o") (ZBG (pv 0) rfl))
  (ZAH (ZAS (pe_callV (clo_teller.at (hr.mono (by decide))) (pv 3) (ZAA (pv 1) (ZAA (pv 2) ZAD)))))),?_⟩
 walk_at "rd"
 refine hru.get T.cl_AskedRule T.n_AskedRule_teller (by walk_at "lk") ⟨⟨g,o,rfl,ho,hfd⟩,?_⟩
 exact q
theorem ok_Asker_ahead {f:Addr} {fd:FuncData} (F:Fun K "ahead" "Asker.ahead" ZAo f fd) (T:Bt K mg C_Asker C_AskedRule C_HallError C_TooFar C_Spent)
  (t_AskedRule_before:Mt P w K mg base CX0 C_AskedRule "before" 2 ["self","x","y"] (ZCY C_AskedRule ZAs))
  (kx_Spent:XKl P w K mg base CX0 "Spent" C_Spent 1 ["self","asked"] (ZBy C_Spent))
 :FnOk P w K mg base (CXE P w) 3 f fd ["self","p","q"] (ZBz C_Asker C_AskedRule C_Spent ZAs):=by
 refine F.okX sc_Asker_ahead (fun vs H Q E h=>?_) (fun cdv A outer s H vs Q E hr h=>?_)
 .obtain ⟨a,rl,ru,tl,m,n,p,q,rfl,ha,hn,hc⟩:=h
  rfl
 obtain ⟨a,rl,ru,tl,m,n,p,q,rfl,ha,hn,hc⟩:=h
 refine ⟨_,(ZAC (ZAt (PW.pt (ZDd (ZAO op_notN (ZBG (pv 0) rfl) ZEB (ZAR _)) (ZCp (ZAO op_ge (ZBG (pv 0) rfl) (ZBG (pv 0) rfl) (ZAR _)))))
  (ZAH (ps_raiseK kx_Spent (hr.mono (by decide)) rfl ZAc (ZAA (ZBG (pv 0) rfl) ZAD))) ZAU)
  (ZAe
  (ZAC (PS.nox (ZAQ (i:=3) sc_Asker_ahead.nd rfl (by walk_at "o") (ZAM (ZBk rfl) rfl T.b_max PyProof.Rows.boot_max (ZAA (pv 1) (ZAA (pv 2) ZAD)))))
  (ZAC (PS.nox (ZAQ (i:=4) sc_Asker_ahead.nd rfl (by walk_at "o") (ZAM (call_min2 rfl) rfl T.b_min PyProof.Rows.boot_min (ZAA (pv 1) (ZAA (pv 2) ZAD)))))
  (ZAC (PS.nox (ZAQ (i:=5) sc_Asker_ahead.nd rfl (by walk_at "o") (ZDs t_AskedRule_before (hr.mono (by decide)) ZAc (ZBG (pv 0) rfl) (ZAA (ZBe ZBW (ZBG (pv 0) rfl) (pv 3) (fun _ _=>rfl)) (ZAA (ZBe ZBW (ZBG (pv 0) rfl) (pv 4) (fun _ _=>rfl)) ZAD)))))
  (ZAe
  (ZAC (PS.nox (ps_fldaug (pv 0) ZAI in_add))
  (ZAC (PS.nox (ZA8 (ZC5 PySem.F.plainAttrs_list PySem.F.slot_list_append PySem.F.type_list_append ZBg (ZBG (pv 0) rfl) (ZAA (ZCQ (ZAA (pv 3) (ZAA (pv 4) (ZAA (pv 5) ZAD)))) ZAD))))
  (ZAH (PS.nox (ZAS (pe_ifExp (ZAO ZBU (pv 1) (pv 3) (ZAR _)) (pv 5) (pe_not (pv 5)))))))))))))),?_⟩
 walk_at "rd"
 rcases hc with ⟨k,hk0,hk,hE⟩ | ⟨hm,hc⟩
 .refine ha.get T.cl_Asker T.n_Asker_most (by walk_at "lk") ?_
  rw [if_pos (by rw [hk0];simp)]
  refine ha.get T.cl_Asker T.n_Asker_asked (by walk_at "lk") (ha.get T.cl_Asker T.n_Asker_most (by walk_at "lk") ⟨_,_,rfl,hk0,_,rfl,?_⟩)
  rw [if_pos (by simpa using hk)]
  refine ha.get T.cl_Asker T.n_Asker_asked (by walk_at "lk") ⟨by decide,fun e he=>⟨e,n,rfl,ZAE,hn,fun d hd hde=>⟨rfl,some d,ZAE,?_⟩⟩⟩
  have hdH:H d=none:=by rw [ZAF hde] at hd;exact hd
  refine hE d _ (fun b o hb=>?_) hdH ?_
  .rw [ZA1 (ZAG hb he),ZAF (ZAG hb he),ZAF (ZAG hb hdH),ZAF (ZAG hb he)];exact hb
  .rw [ZA1 hde,ZAF hde,ZAE]
 apply once0
 .intro tailp
  refine ha.get T.cl_Asker T.n_Asker_most (by walk_at "lk") ?_
  rcases hm with hm | ⟨k,hm,hk⟩
  .rw [if_neg (by rw [hm];simp)]
   exact tailp
  .rw [if_pos (by rw [hm];simp)]
   refine ha.get T.cl_Asker T.n_Asker_asked (by walk_at "lk") (ha.get T.cl_Asker T.n_Asker_most (by walk_at "lk") ⟨_,_,rfl,hm,_,rfl,?_⟩)
   rw [if_neg (by simp;omega)]
   exact tailp
 obtain ⟨xs,ts,x,y,hrl,hpq,hp0,hq0,hx,hy,hb⟩:=hc
 obtain ⟨ru',g,x',y',e,hru,ho,hrT⟩:=hb
 cases e
 refine ZAv ?_
 walk_at "rd"
 refine ⟨p,q,rfl,p,q,rfl,ha.get T.cl_Asker T.n_Asker_rule (by walk_at "lk") (hru.meth (by walk_at "lk") ?_)⟩
 rw [mx_eq,mn_eq]
 refine ha.get T.cl_Asker T.n_Asker_row (by walk_at "lk") (ZCT (SqL.of hrl) (ZA2 (by omega) hx) ?_)
 refine ha.get T.cl_Asker T.n_Asker_row (by walk_at "lk") (ZCT (SqL.of hrl) (ZA2 (by omega) hy) ?_)
 refine ⟨ru,g,x,y,rfl,hru,ho,rT_mono (fun v H1 h=>?_) hrT⟩
 obtain ⟨b,rfl,ha1,htl1,hts,hq⟩:=h
 have nta:tl≠a:=ha1.ne htl1 fun _ _ _ z=>by cases z
 refine ZAv ?_
 walk_at "rd"
 refine ha1.aug T.cl_Asker T.n_Asker_asked (by walk_at "lk") fun H2 ha2 k2=>?_
 have ha2':=ha2.congr fA_asked
 have htl2:H2 tl=some (.lst ts):=by rw [k2 tl nta];exact htl1
 walk_at "rd"
 refine ha2'.get T.cl_Asker T.n_Asker_told (by walk_at "lk") ?_
 walk_at "rd"
 refine ⟨.inl ⟨rfl,_,SqL.of htl2⟩,ZAj (by decide),fun t ht=>?_⟩
 have ntt:t≠tl:=fun z=>by rw [z,htl2] at ht;cases ht
 have nat':t≠a:=ha2'.neN ht
 refine ⟨tl,ts,_,rfl,rfl,ZAP ht _ _ _ htl2,ZEV (by omega),?_⟩
 have fin:=hq t (upd (upd H2 t (.tup [.int (max p q),.int (min p q),.bl b])) tl (.lst (ts++[.ref t]))) (by rw [<- k2 t nat'];exact ht) (ha2'.keep (by rw [ZAF (Ne.symm nta),ZAF (Ne.symm nat')])) ZAE (by rw [ZAF ntt,ZAE]) (fun c h1 h2 h3=>by rw [ZAF h2,ZAF h3,k2 c h1])
 by_cases hlt:q < p
 .rw [if_pos hlt] at fin
  show (if _ then _ else _)
  rw [if_pos (by omega)]
  exact fin
 .rw [if_neg hlt] at fin
  show (if _ then _ else _)
  rw [if_neg (by omega)]
  exact fin
theorem ok_spot_of {f:Addr} {fd:FuncData} (F:Fun K "spot_of" "spot_of" ZBM f fd) (T:Bt K mg C_Asker C_AskedRule C_HallError C_TooFar C_Spent)
  (t_Asker_ahead:Mt P w K mg base (CXE P w) C_Asker "ahead" 3 ["self","p","q"] (ZBz C_Asker C_AskedRule C_Spent ZAs))
 :FnOk P w K mg base (CXE P w) 4 f fd ["asker","order","place"] (ZBx ZB8 C_Asker C_AskedRule C_Spent):=by
 refine F.okX sc_spot_of (fun vs H Q E h=>?_) (fun cdv A outer s H vs Q E hr h=>?_)
 .obtain ⟨c,lim,pr,os,pl,ol,post,exc,rfl,st,hol,nol,hlt',hpl,hk,w,ex,q⟩:=h
  rfl
 obtain ⟨c,lim,pr,os,pl,ol,post,exc,rfl,st,hol,nol,hlt',hpl,hk,w,ex,q⟩:=h
 refine ⟨_,(ZAC (PS.nox (ZAQ (i:=3) sc_spot_of.nd rfl (by walk_at "o") ZAI))
  (ZAC (PS.nox (ZAQ (i:=4) sc_spot_of.nd rfl (by walk_at "o") (ZAM ZAK rfl T.b_len PySem.boot_len (ZAA (pv 1) ZAD))))
  (ZAC (PS.inX (ZCZ (ZDt ⟨rfl,rfl⟩) (ZAO ZEI (pv 3) (pv 4) (ZAR _))
  (ZAC (ZAQ (i:=5) sc_spot_of.nd rfl (by walk_at "o") (ZAT ZA6 (ZAT ZBH (pv 3) (pv 4)) ZAI))
  (ZAH (ZAt (ZBt (ZDs t_Asker_ahead (hr.mono (by decide)) ZDf (pv 0) (ZAA (ZBe ZBW (pv 1) (pv 5) (fun _ _=>rfl)) (ZAA (pv 2) ZAD))))
  (ZAH (ZAQ (i:=3) sc_spot_of.nd rfl (by walk_at "o") (ZAT ZBH (pv 5) ZAI)))
  (ZAH (ZAQ (i:=4) sc_spot_of.nd rfl (by walk_at "o") (pv 5))))))))
  (ZAH (PS.nox (ZAS (pv 3))))))),?_⟩
 walk_at "rd"
 refine ⟨ol,_,rfl,.inl (SqL.of hol),?_⟩
 rw [yAB]
 refine ZCV (fun m σ H'=>∃ (low high n:Nat) (v5:Option V) (pr':List A3),m=high-low /\ σ=[some (.ref c.a),some (.ref ol),some (.int pl),some (.int low),some (.int high),v5] /\ low <= high /\ high <= os.length /\ high-low <= n /\ Fr c.S H H' /\ SitR C_Asker C_AskedRule H' lim c pr' /\ Wp c.an lim (hvP os pl n low high) pr' post exc) ⟨_,0,os.length,os.length,_,pr,rfl,rfl,yAC _,yAA _,yAA _,.refl,st,w⟩ ?_
 rintro m σ H' ⟨low,high,n,v5,pr',rfl,rfl,hlh,hho,hn,fr,s,w⟩
 walk_at "rd"
 by_cases hlt:low < high
 .rw [if_pos (by omega)]
  refine ZCW ?_
  walk_at "rd"
  have hm:(low+high) / 2 < os.length:=by omega
  obtain ⟨o,ho⟩:∃ o,os[(low+high) / 2]?=some o:=⟨_,yAM hm⟩
  have hop:=hlt' o (yBD ho)
  have hem:((low:Int)+high) / 2=((low+high) / 2:Nat):=by omega
  obtain ⟨n,rfl⟩:∃ n',n=n' + 1:=⟨n-1,by omega⟩
  rw [hvP,if_pos hlt,getD_of ho] at w
  refine ⟨⟨by decide,by decide⟩,?_⟩
  rw [hem]
  refine s.ha.meth (by walk_at "lk") ?_
  refine ZCT (SqL.of (fr _ _ nol hol)) (atI_nL ho) ?_
  refine s.ahead (p:=o) (q:=pl) (by omega) (by omega) hpl hk (by rw [show max o pl=pl by omega,show min o pl=o by omega];exact w) (ex.at fr s) fun b H2 f2 s2 w2=>?_
  rw [if_neg (by omega)]
  refine ⟨_,rfl,?_⟩
  cases b
  .rw [if_pos (by decide)]
   exact ⟨high-((low+high) / 2+1),by omega,(low+high) / 2+1,high,n,_,_,rfl,rfl,by omega,by omega,by omega,fr.trans f2,s2,w2⟩
  .rw [if_neg (by decide)]
   exact ⟨(low+high) / 2-low,by omega,low,(low+high) / 2,n,_,_,rfl,rfl,by omega,by omega,by omega,fr.trans f2,s2,w2⟩
 .rw [if_neg (by omega)]
  walk_at "rd"
  refine q low H' pr' fr s ?_
  cases n with
  | zero=>exact w
  | succ n=>rw [hvP,if_neg hlt] at w;exact w
theorem ok_spot_from_behind {f:Addr} {fd:FuncData} (F:Fun K "spot_from_behind" "spot_from_behind" ZAV f fd) (T:Bt K mg C_Asker C_AskedRule C_HallError C_TooFar C_Spent)
  (t_Asker_ahead:Mt P w K mg base (CXE P w) C_Asker "ahead" 3 ["self","p","q"] (ZBz C_Asker C_AskedRule C_Spent ZAs))
 :FnOk P w K mg base (CXE P w) 4 f fd ["asker","order","place"] (ZBx ZCi C_Asker C_AskedRule C_Spent):=by
 refine F.okX sc_spot_from_behind (fun vs H Q E h=>?_) (fun cdv A outer s H vs Q E hr h=>?_)
 .obtain ⟨c,lim,pr,os,pl,ol,post,exc,rfl,st,hol,nol,hlt',hpl,hk,w,ex,q⟩:=h
  rfl
 obtain ⟨c,lim,pr,os,pl,ol,post,exc,rfl,st,hol,nol,hlt',hpl,hk,w,ex,q⟩:=h
 refine ⟨_,(ZAC (PS.nox (ZAQ (i:=3) sc_spot_from_behind.nd rfl (by walk_at "o") (ZAM ZAK rfl T.b_len PySem.boot_len (ZAA (pv 1) ZAD))))
  (ZAC (PS.inX (ZCZ (ZDt ⟨rfl,rfl⟩) (PW.pt (ZDd (ZAO ZEv (pv 3) ZAI (ZAR _)) (ZCp (ZCA (ZBt (ZDs t_Asker_ahead (hr.mono (by decide)) ZDf (pv 0) (ZAA (ZBe ZBW (pv 1) (ZAT ZBu (pv 3) ZAI) (fun _ _=>rfl)) (ZAA (pv 2) ZAD))))))))
  (ZAH (ZEX (i:=3) sc_spot_from_behind.nd rfl (by walk_at "o") ZAI ip_sub))))
  (ZAH (PS.nox (ZAS (pv 3)))))),?_⟩
 walk_at "rd"
 refine ⟨ol,_,rfl,.inl (SqL.of hol),?_⟩
 rw [yAB]
 refine ZCV (fun m σ H'=>∃ (s:Nat) (pr':List A3),m=s /\ σ=[some (.ref c.a),some (.ref ol),some (.int pl),some (.int s)] /\ s <= os.length /\ Fr c.S H H' /\ SitR C_Asker C_AskedRule H' lim c pr' /\ Wp c.an lim (behP os pl s) pr' post exc) ⟨_,os.length,pr,rfl,rfl,yAA _,.refl,st,w⟩ ?_
 rintro m σ H' ⟨sp,pr',em,rfl,hs,fr,s,w⟩
 walk_at "rd"
 cases sp with
 | zero=>
  rw [if_neg (by omega)]
  walk_at "rd"
  exact q 0 H' pr' fr s w
 | succ sp=>
  rw [if_pos (by omega)]
  obtain ⟨o,ho⟩:∃ o,os[sp]?=some o:=⟨_,yAM (by omega)⟩
  have hop:=hlt' o (yBD ho)
  rw [behP,getD_of ho] at w
  walk_at "rd"
  rw [show (((sp+1:Nat):Int)-1)=(sp:Int) by omega]
  refine s.ha.meth (by walk_at "lk") ?_
  refine ZCT (SqL.of (fr _ _ nol hol)) (atI_nL ho) ?_
  refine s.ahead (p:=o) (q:=pl) (by omega) (by omega) hpl hk (by rw [show max o pl=pl by omega,show min o pl=o by omega];exact w) (ex.at fr s) fun b H2 f2 s2 w2=>?_
  rw [if_neg (by omega)]
  refine ⟨_,rfl,?_⟩
  cases b
  .rw [if_neg (by decide)]
   exact q (sp+1) H2 _ (fr.trans f2) s2 w2
  .rw [if_pos (by decide)]
   refine ZCW ?_
   walk_at "rd"
   refine ⟨sp,by omega,sp,_,rfl,?_,by omega,fr.trans f2,s2,w2⟩
   rw [show (((sp+1:Nat):Int)-1)=(sp:Int) by omega]
theorem ok_by_putting {f:Addr} {fd:FuncData} (F:Fun K "by_putting" "by_putting" ZAx f fd) (T:Bt K mg C_Asker C_AskedRule C_HallError C_TooFar C_Spent)
  (f_spot_of:Fn P w K mg base (CXE P w) "spot_of" 4 ["asker","order","place"] (ZBx ZB8 C_Asker C_AskedRule C_Spent))
  (t_Asker_many:Mt P w K mg base CX0 C_Asker "many" 1 ["self"] (ZCP C_Asker))
 :FnOk P w K mg base (CXE P w) 5 f fd ["asker"] (ZC9 ZB8 C_Asker C_AskedRule C_Spent):=by
 refine F.okX sc_by_putting (fun vs H Q E h=>?_) (fun cdv A outer s H vs Q E hr h=>?_)
 .obtain ⟨c,lim,pr,post,exc,rfl,st,hk,w,ex,q⟩:=h
  rfl
 obtain ⟨c,lim,pr,post,exc,rfl,st,hk,w,ex,q⟩:=h
 refine ⟨_,(ZAC (PS.nox (ZAQ (i:=1) sc_by_putting.nd rfl (by walk_at "o") (ZA9 ZAD)))
  (ZAC (PS.inX (ZCB (ZDt ⟨rfl,rfl⟩) rfl (ZBc rfl T.b_range (ZAA (ZCt t_Asker_many (hr.mono (by decide)) ZAc (pv 0)) ZAD)) (ZAb (i:=2) sc_by_putting.nd rfl (by walk_at "o"))
  (ZAH (ZA8 (ZC5 PySem.F.plainAttrs_list PySem.F.slot_list_insert PySem.F.type_list_insert ZCF (pv 1) (ZAA (ZAl f_spot_of (hr.mono (by decide)) rfl ZDf (ZAA (pv 0) (ZAA (pv 1) (ZAA (pv 2) ZAD)))) (ZAA (pv 2) ZAD)))))))
  (ZAH (PS.nox (ZAS (pv 1)))))),?_⟩
 walk_at "rd"
 refine ⟨yAC _,fun ol hnol=>?_⟩
 obtain ⟨H2,e2,s2,hol⟩:=newH hnol (.lst (nL []))
 rw [show (HO.lst ([]:List V))=.lst (nL []) from rfl,e2];clear e2
 have st2:=st.mono s2
 have nol:=st.off hnol
 refine st2.ha.meth (by walk_at "lk") ⟨c.a,c.rl,c.ru,c.tl,_,_,c.xs,rfl,st2.ha,st2.hrl,?_⟩
 rw [st2.len]
 refine ZCH (by omega) (ZCy (fun i σ H'=>∃ (v2:Option V) (os:List Nat) (pr':List A3),σ=[some (.ref c.a),some (.ref ol),v2] /\ H' ol=some (.lst (nL os)) /\ os.length=i /\ (∀ x∈os,x < i) /\ Fr c.S H H' /\ SitR C_Asker C_AskedRule H' lim c pr' /\ Wp c.an lim (putP ZB8 (c.ks.length-i) i os) pr' post exc) ⟨_,[],pr,rfl,hol,rfl,fun x z=>(by cases z),s2.fr,st2,w⟩ ?_ ?_)
 .rintro i σ H' hi ⟨v2,os,pr',rfl,hol',hoi,hox,fr,st',w⟩
  have hi':i < c.ks.length:=by omega
  rw [Int.zero_add]
  rw [show c.ks.length-i=(c.ks.length-(i+1))+1 by omega,putP] at w
  walk_at "rd"
  refine ⟨.inl ⟨rfl,_,SqL.of hol'⟩,c,lim,pr',os,i,ol,_,exc,rfl,st',hol',offS nol,hox,hi',by omega,(w.bind).also (spotP_hi os i),ex.sub fr st',fun r H3 pr3 fr3 st3 hp=>?_⟩
  obtain ⟨hr1,w3⟩:=hp
  have hol3:=fr3 _ _ (offS nol) hol'
  refine ⟨ol,_,_,_,rfl,rfl,hol3,ZAu (by rw [yAB];omega),by omega,?_⟩
  rw [ZDx hr1]
  refine ⟨_,insN os r i,pr3,rfl,ZAE,by rw [ZCc,hoi],fun x hx=>?_,fun b o n h=>?_,st3.upd hol3 nol,w3⟩
  .have:=(ZCG (os:=os) (r:=r) (x:=i)).mem_iff.mp hx
   rcases yBC.mp this with z | z
   .have:=hox x z;omega
   .rw [yAW.mp z];omega
  .rw [ZAF (ZAG h hnol)]
   exact fr3 _ _ n (fr _ _ n h)
 rintro σ H' ⟨v2,os,pr',rfl,hol',hoi,hox,fr,st',w⟩
 rw [Int.toNat_natCast,yBK] at w
 walk_at "rd"
 exact q ol H' os pr' fr st' hnol hol' w
theorem ok_by_walking {f:Addr} {fd:FuncData} (F:Fun K "by_walking" "by_walking" ZAw f fd) (T:Bt K mg C_Asker C_AskedRule C_HallError C_TooFar C_Spent)
  (f_spot_from_behind:Fn P w K mg base (CXE P w) "spot_from_behind" 4 ["asker","order","place"] (ZBx ZCi C_Asker C_AskedRule C_Spent))
  (t_Asker_many:Mt P w K mg base CX0 C_Asker "many" 1 ["self"] (ZCP C_Asker))
 :FnOk P w K mg base (CXE P w) 5 f fd ["asker"] (ZC9 ZCi C_Asker C_AskedRule C_Spent):=by
 refine F.okX sc_by_walking (fun vs H Q E h=>?_) (fun cdv A outer s H vs Q E hr h=>?_)
 .obtain ⟨c,lim,pr,post,exc,rfl,st,hk,w,ex,q⟩:=h
  rfl
 obtain ⟨c,lim,pr,post,exc,rfl,st,hk,w,ex,q⟩:=h
 refine ⟨_,(ZAC (PS.nox (ZAQ (i:=1) sc_by_walking.nd rfl (by walk_at "o") (ZA9 ZAD)))
  (ZAC (PS.inX (ZCB (ZDt ⟨rfl,rfl⟩) rfl (ZBc rfl T.b_range (ZAA (ZCt t_Asker_many (hr.mono (by decide)) ZAc (pv 0)) ZAD)) (ZAb (i:=2) sc_by_walking.nd rfl (by walk_at "o"))
  (ZAH (ZA8 (ZC5 PySem.F.plainAttrs_list PySem.F.slot_list_insert PySem.F.type_list_insert ZCF (pv 1) (ZAA (ZAl f_spot_from_behind (hr.mono (by decide)) rfl ZDf (ZAA (pv 0) (ZAA (pv 1) (ZAA (pv 2) ZAD)))) (ZAA (pv 2) ZAD)))))))
  (ZAH (PS.nox (ZAS (pv 1)))))),?_⟩
 walk_at "rd"
 refine ⟨yAC _,fun ol hnol=>?_⟩
 obtain ⟨H2,e2,s2,hol⟩:=newH hnol (.lst (nL []))
 rw [show (HO.lst ([]:List V))=.lst (nL []) from rfl,e2];clear e2
 have st2:=st.mono s2
 have nol:=st.off hnol
 refine st2.ha.meth (by walk_at "lk") ⟨c.a,c.rl,c.ru,c.tl,_,_,c.xs,rfl,st2.ha,st2.hrl,?_⟩
 rw [st2.len]
 refine ZCH (by omega) (ZCy (fun i σ H'=>∃ (v2:Option V) (os:List Nat) (pr':List A3),σ=[some (.ref c.a),some (.ref ol),v2] /\ H' ol=some (.lst (nL os)) /\ os.length=i /\ (∀ x∈os,x < i) /\ Fr c.S H H' /\ SitR C_Asker C_AskedRule H' lim c pr' /\ Wp c.an lim (putP ZCi (c.ks.length-i) i os) pr' post exc) ⟨_,[],pr,rfl,hol,rfl,fun x z=>(by cases z),s2.fr,st2,w⟩ ?_ ?_)
 .rintro i σ H' hi ⟨v2,os,pr',rfl,hol',hoi,hox,fr,st',w⟩
  have hi':i < c.ks.length:=by omega
  rw [Int.zero_add]
  rw [show c.ks.length-i=(c.ks.length-(i+1))+1 by omega,putP] at w
  walk_at "rd"
  refine ⟨.inl ⟨rfl,_,SqL.of hol'⟩,c,lim,pr',os,i,ol,_,exc,rfl,st',hol',offS nol,hox,hi',by omega,(w.bind).also (walkP_hi os i),ex.sub fr st',fun r H3 pr3 fr3 st3 hp=>?_⟩
  obtain ⟨hr1,w3⟩:=hp
  have hol3:=fr3 _ _ (offS nol) hol'
  refine ⟨ol,_,_,_,rfl,rfl,hol3,ZAu (by rw [yAB];omega),by omega,?_⟩
  rw [ZDx hr1]
  refine ⟨_,insN os r i,pr3,rfl,ZAE,by rw [ZCc,hoi],fun x hx=>?_,fun b o n h=>?_,st3.upd hol3 nol,w3⟩
  .have:=(ZCG (os:=os) (r:=r) (x:=i)).mem_iff.mp hx
   rcases yBC.mp this with z | z
   .have:=hox x z;omega
   .rw [yAW.mp z];omega
  .rw [ZAF (ZAG h hnol)]
   exact fr3 _ _ n (fr _ _ n h)
 rintro σ H' ⟨v2,os,pr',rfl,hol',hoi,hox,fr,st',w⟩
 rw [Int.toNat_natCast,yBK] at w
 walk_at "rd"
 exact q ol H' os pr' fr st' hnol hol' w
theorem ok_by_reach {f:Addr} {fd:FuncData} (F:Fun K "by_reach" "by_reach" ZBB f fd) (T:Bt K mg C_Asker C_AskedRule C_HallError C_TooFar C_Spent)
  (f_spot_of:Fn P w K mg base (CXE P w) "spot_of" 4 ["asker","order","place"] (ZBx ZB8 C_Asker C_AskedRule C_Spent))
  (t_Asker_many:Mt P w K mg base CX0 C_Asker "many" 1 ["self"] (ZCP C_Asker))
  (t_Asker_ahead:Mt P w K mg base (CXE P w) C_Asker "ahead" 3 ["self","p","q"] (ZBz C_Asker C_AskedRule C_Spent ZAs))
 :FnOk P w K mg base (CXE P w) 5 f fd ["asker","reach"] (ZDL C_Asker C_AskedRule C_Spent):=by
 refine F.okX sc_by_reach (fun vs H Q E h=>?_) (fun cdv A outer s H vs Q E hr h=>?_)
 .obtain ⟨c,lim,pr,post,exc,rfl,st,hk,w,ex,q⟩:=h
  rfl
 obtain ⟨c,lim,pr,post,exc,rfl,st,hk,w,ex,q⟩:=h
 refine ⟨_,(ZAC (PS.nox (ZAQ (i:=2) sc_by_reach.nd rfl (by walk_at "o") (ZA9 ZAD)))
  (ZAC (PS.inX (ZCB (ZDt ⟨rfl,rfl⟩) rfl (ZBc rfl T.b_range (ZAA (ZCt t_Asker_many (hr.mono (by decide)) ZAc (pv 0)) ZAD)) (ZAb (i:=3) sc_by_reach.nd rfl (by walk_at "o"))
  (ZAC (ZAQ (i:=4) sc_by_reach.nd rfl (by walk_at "o") (ZAM (ZBk rfl) rfl T.b_max PyProof.Rows.boot_max (ZAA ZAI (ZAA (ZAT ZBu (ZAM ZAK rfl T.b_len PySem.boot_len (ZAA (pv 2) ZAD)) (pv 1)) ZAD))))
  (ZAC (ZAt (PW.pt (ZDd (ZAO ZEv (pv 4) ZAI (ZAR _)) (ZCp (ZCA (ZBt (ZDs t_Asker_ahead (hr.mono (by decide)) ZDf (pv 0) (ZAA (ZBe ZBW (pv 2) (ZAT ZBu (pv 4) ZAI) (fun _ _=>rfl)) (ZAA (pv 3) ZAD))))))))
  (ZAH (ps_never)) ZAU)
  (ZAH (ZA8 (ZC5 PySem.F.plainAttrs_list PySem.F.slot_list_insert PySem.F.type_list_insert ZCF (pv 2) (ZAA (ZAT ZBH (pv 4) (ZAl f_spot_of (hr.mono (by decide)) rfl ZDf (ZAA (pv 0) (ZAA (ZBT ZB0 (pv 2) (ZBS (pv 4)) ZCr) (ZAA (pv 3) ZAD))))) (ZAA (pv 3) ZAD)))))))))
  (ZAH (PS.nox (ZAS (pv 2)))))),?_⟩
 walk_at "rd"
 refine ⟨yAC _,fun ol hnol=>?_⟩
 obtain ⟨H2,e2,s2,hol⟩:=newH hnol (.lst (nL []))
 rw [show (HO.lst ([]:List V))=.lst (nL []) from rfl,e2];clear e2
 have st2:=st.mono s2
 have nol:=st.off hnol
 refine st2.ha.meth (by walk_at "lk") ⟨c.a,c.rl,c.ru,c.tl,_,_,c.xs,rfl,st2.ha,st2.hrl,?_⟩
 rw [st2.len]
 refine ZCH (by omega) (ZCy (fun i σ H'=>∃ (v3 v4:Option V) (os:List Nat) (pr':List A3),σ=[some (.ref c.a),some (.int (c.ks.length:Nat)),some (.ref ol),v3,v4] /\ H' ol=some (.lst (nL os)) /\ os.length=i /\ (∀ x∈os,x < i) /\ Fr c.S H H' /\ SitR C_Asker C_AskedRule H' lim c pr' /\ Wp c.an lim (putP ZB8 (c.ks.length-i) i os) pr' post exc) ⟨_,_,[],pr,rfl,hol,rfl,fun x z=>(by cases z),s2.fr,st2,w⟩ ?_ ?_)
 .rintro i σ H' hi ⟨v3,v4,os,pr',rfl,hol',hoi,hox,fr,st',w⟩
  have hi':i < c.ks.length:=by omega
  rw [Int.zero_add]
  rw [show c.ks.length-i=(c.ks.length-(i+1))+1 by omega,putP] at w
  walk_at "rd"
  refine ⟨ol,_,rfl,.inl (SqL.of hol'),_,_,rfl,?_⟩
  rw [yAB,if_neg (by omega)]
  walk_at "rd"
  rw [if_neg (by omega)]
  refine ⟨.inl ⟨rfl,_,SqL.of hol'⟩,ZCm (SqL.of hol') fun p1 hp1=>?_⟩
  rw [show cutV (nL os) (some 0) none=nL os from ZC0 (nL os) 0 (yAC _)]
  obtain ⟨H3,e3,s3,h3⟩:=newH hp1 (.lst (nL os))
  rw [e3];clear e3
  have st3:=st'.mono s3
  refine ⟨c,lim,pr',os,i,p1,_,exc,rfl,st3,h3,offS (st'.off hp1),hox,hi',by omega,(w.bind).also (spotP_hi os i),ex.sub (fr.trans s3.fr) st3,fun r H4 pr4 fr4 st4 hp=>?_⟩
  obtain ⟨hr1,w4⟩:=hp
  have hol4:=fr4 _ _ (offS nol) (s3 _ _ hol')
  walk_at "rd"
  refine ⟨ol,_,_,_,rfl,rfl,hol4,ZAu (by rw [yAB];omega),by omega,?_⟩
  rw [Int.zero_add,ZDx hr1]
  refine ⟨_,_,insN os r i,pr4,rfl,ZAE,by rw [ZCc,hoi],fun x hx=>?_,fun b o n h=>?_,st4.upd hol4 nol,w4⟩
  .have:=(ZCG (os:=os) (r:=r) (x:=i)).mem_iff.mp hx
   rcases yBC.mp this with z | z
   .have:=hox x z;omega
   .rw [yAW.mp z];omega
  .rw [ZAF (ZAG h hnol)]
   exact fr4 _ _ n (s3 _ _ (fr _ _ n h))
 rintro σ H' ⟨v3,v4,os,pr',rfl,hol',hoi,hox,fr,st',w⟩
 rw [Int.toNat_natCast,yBK] at w
 walk_at "rd"
 exact q ol H' os pr' fr st' hnol hol' w
theorem ok_stretch_from {f:Addr} {fd:FuncData} {dv:List Value} (F:FunD K "stretch_from" "stretch_from" ZAm f fd dv) (T:Bt K mg C_Asker C_AskedRule C_HallError C_TooFar C_Spent)
  (t_Asker_ahead:Mt P w K mg base (CXE P w) C_Asker "ahead" 3 ["self","p","q"] (ZBz C_Asker C_AskedRule C_Spent ZAs))
  (t_Asker_many:Mt P w K mg base CX0 C_Asker "many" 1 ["self"] (ZCP C_Asker))
 :FnOk P w K mg base (CXE P w) 4 f fd ["asker","first","end"] (ZES C_Asker C_AskedRule C_Spent):=by
 refine F.okX sc_stretch_from (fun vs H Q E h=>?_) (fun cdv A outer s H vs Q E hr h=>?_)
 .obtain ⟨c,lim,pr,first,post,exc,rfl,st,hf,hk,w,ex,q⟩:=h
  rfl
 obtain ⟨c,lim,pr,first,post,exc,rfl,st,hf,hk,w,ex,q⟩:=h
 refine ⟨_,(ZAC (PS.nox (ZAQ (i:=3) sc_stretch_from.nd rfl (by walk_at "o") (pe_ifExp (ZAO op_isN (pv 2) ZEB (ZAR _)) (ZCt t_Asker_many (hr.mono (by decide)) ZAc (pv 0)) (pv 2))))
  (ZAe
  (ZAC (PS.nox (ZAQ (i:=4) sc_stretch_from.nd rfl (by walk_at "o") (ZAT ZBH (pv 1) ZAI)))
  (ZAC (PS.nox (ZAt (ZAO op_ge (pv 4) (pv 3) (ZAR _))
  (ZAH (ZAS (ZCQ (ZAA (pv 4) (ZAA ZDR ZAD))))) ZAU))
  (ZAC (ZAQ (i:=5) sc_stretch_from.nd rfl (by walk_at "o") (ZDs t_Asker_ahead (hr.mono (by decide)) ZEa (pv 0) (ZAA (pv 4) (ZAA (pv 1) ZAD))))
  (ZAC (PS.nox (ZEX (i:=4) sc_stretch_from.nd rfl (by walk_at "o") ZAI ip_add))
  (ZAC (PS.inX (ZCZ (ZDt ⟨rfl,rfl⟩) (PW.pt (ZDd (ZAO ZEI (pv 4) (pv 3) (ZAR _)) (ZCp (ZAO ZBU (ZDs t_Asker_ahead (hr.mono (by decide)) ZDf (pv 0) (ZAA (pv 4) (ZAA (ZAT ZBu (pv 4) ZAI) ZAD))) (pv 5) (ZAR _)))))
  (ZAH (ZEX (i:=4) sc_stretch_from.nd rfl (by walk_at "o") ZAI ip_add))))
  (ZAH (PS.nox (ZAS (ZCQ (ZAA (pv 4) (ZAA (pv 5) ZAD))))))))))))),?_⟩
 walk_at "rd"
 refine st.ha.meth (by walk_at "lk") ⟨c.a,c.rl,c.ru,c.tl,_,_,c.xs,rfl,st.ha,st.hrl,?_⟩
 walk_at "rd"
 rw [st.len]
 refine ZAv ?_
 walk_at "rd"
 unfold strP at w
 by_cases h1:first+1 < c.ks.length
 .rw [if_pos h1] at w
  rw [if_neg (by omega)]
  refine st.ha.meth (by walk_at "lk") ?_
  rw [show ((first:Int)+1)=((first+1:Nat):Int) by omega]
  refine st.ahead (p:=first+1) (q:=first) (by omega) (by omega) (by omega) (by omega) (by rw [show max (first+1) first=first+1 by omega,show min (first+1) first=first by omega];exact w) (ex.at .refl st) fun b H1 f1 s1 w1=>?_
  rw [if_pos (by omega)]
  refine ZCV (fun m σ H'=>∃ (k n:Nat) (v2:Option V) (pr':List A3),m=c.ks.length-k /\ σ=[some (.ref c.a),some (.int first),v2,some (.int (c.ks.length:Nat)),some (.int k),some (.bl b)] /\ first+1 < k /\ k <= c.ks.length /\ c.ks.length <= k+n /\ Fr c.S H H' /\ SitR C_Asker C_AskedRule H' lim c pr' /\ Wp c.an lim (runP c.ks.length b n k) pr' post exc) ⟨_,first+2,_,_,_,rfl,rfl,by omega,by omega,by omega,f1,s1,w1⟩ ?_
  rintro m σ H' ⟨k,n,v2,pr',rfl,rfl,hk1,hk2,hn,fr,s,w⟩
  walk_at "rd"
  by_cases hks:k < c.ks.length
  .rw [if_pos (by omega)]
   obtain ⟨n,rfl⟩:∃ n',n=n' + 1:=⟨n-1,by omega⟩
   rw [runP,if_pos hks] at w
   refine s.ha.meth (by walk_at "lk") ?_
   rw [show ((k:Int)-1)=((k-1:Nat):Int) by omega]
   refine s.ahead (p:=k) (q:=k-1) (by omega) (by omega) (by omega) (by omega) (by rw [show max k (k-1)=k by omega,show min k (k-1)=k-1 by omega];exact w) (ex.at fr s) fun d H2 f2 s2 w2=>?_
   rw [if_pos (by omega)]
   walk_at "rd"
   by_cases hd:d=b
   .rw [if_pos hd]
    rw [if_pos hd] at w2
    refine ZCW ?_
    walk_at "rd"
    exact ⟨c.ks.length-(k+1),by omega,k+1,n,_,_,rfl,by rw [show ((k:Int)+1)=((k+1:Nat):Int) by omega],by omega,by omega,by omega,fr.trans f2,s2,w2⟩
   .rw [if_neg hd]
    rw [if_neg hd] at w2
    exact ⟨ZAj (by decide),fun t ht=>q t _ (k,b) _ (fr.trans (f2.trans (ZAP ht _).fr)) (s2.mono (ZAP ht _)) ZAE w2⟩
  .rw [if_neg (by omega)]
   walk_at "rd"
   refine ⟨ZAj (by decide),fun t ht=>q t _ (k,b) _ (fr.trans (ZAP ht _).fr) (s.mono (ZAP ht _)) ZAE ?_⟩
   cases n with
   | zero=>exact w
   | succ n=>rw [runP,if_neg hks] at w;exact w
 .rw [if_neg h1] at w
  rw [if_pos (by omega)]
  exact ⟨ZAj (by decide),fun t ht=>q t _ (first+1,false) _ (ZAP ht _).fr (st.mono (ZAP ht _)) ZAE w⟩
theorem ok_stretches {f:Addr} {fd:FuncData} (F:Fun K "stretches" "stretches" ZA4 f fd) (T:Bt K mg C_Asker C_AskedRule C_HallError C_TooFar C_Spent)
  (f_stretch_from_2:FnD P w K mg base (CXE P w) "stretch_from" 4 ["asker","first","end"] (ZES C_Asker C_AskedRule C_Spent) [.non])
  (t_Asker_many:Mt P w K mg base CX0 C_Asker "many" 1 ["self"] (ZCP C_Asker))
 :FnOk P w K mg base (CXE P w) 5 f fd ["asker"] (ZDr C_Asker C_AskedRule C_Spent):=by
 refine F.okX sc_stretches (fun vs H Q E h=>?_) (fun cdv A outer s H vs Q E hr h=>?_)
 .obtain ⟨c,lim,pr,post,exc,rfl,st,hk,w,ex,q⟩:=h
  rfl
 obtain ⟨c,lim,pr,post,exc,rfl,st,hk,w,ex,q⟩:=h
 refine ⟨_,(ZAC (PS.nox (ZAQ (i:=1) sc_stretches.nd rfl (by walk_at "o") (ZA9 ZAD)))
  (ZAC (PS.nox (ZAQ (i:=2) sc_stretches.nd rfl (by walk_at "o") ZAI))
  (ZAC (PS.inX (ZCZ (ZDt ⟨rfl,rfl⟩) (ZAO ZEI (pv 2) (ZCt t_Asker_many (hr.mono (by decide)) ZAc (pv 0)) (ZAR _))
  (ZAC (ZAQ (i:=3) sc_stretches.nd rfl (by walk_at "o") (pe_fnD f_stretch_from_2 (hr.mono (by decide)) rfl ZDf (ZAA (pv 0) (ZAA (pv 2) ZAD))))
  (ZAC (ZA8 (ZC5 PySem.F.plainAttrs_list PySem.F.slot_list_append PySem.F.type_list_append ZBg (pv 1) (ZAA (ZCQ (ZAA (pv 2) (ZAA (ZBe ZCS (pv 3) ZAI (fun _ _=>rfl)) (ZAA (ZBe ZCS (pv 3) ZAI (fun _ _=>rfl)) ZAD)))) ZAD)))
  (ZAH (ZAQ (i:=2) sc_stretches.nd rfl (by walk_at "o") (ZBe ZCS (pv 3) ZAI (fun _ _=>rfl))))))))
  (ZAH (PS.nox (ZAS (pv 1))))))),?_⟩
 walk_at "rd"
 refine ⟨yAC _,fun l hl=>?_⟩
 obtain ⟨H2,e2,s2,h2⟩:=newH hl (.lst [])
 rw [e2];clear e2
 have nl:=st.off hl
 refine ZCV (fun m σ H'=>∃ (first n:Nat) (v3:Option V) (us:List V) (ts pr':List A3),m=c.ks.length-first /\ σ=[some (.ref c.a),some (.ref l),some (.int first),v3] /\ H' l=some (.lst us) /\ ToldO H' ts us /\ ts.length <= first /\ first <= c.ks.length /\ c.ks.length <= first+n /\ Fr c.S H H' /\ SitR C_Asker C_AskedRule H' lim c pr' /\ Wp c.an lim (ZC3 c.ks.length n first ts) pr' post exc) ⟨_,0,_,_,[],[],pr,rfl,rfl,h2,⟨rfl,fun j p q b z=>by cases z⟩,yAC _,yAC _,by omega,s2.fr,st.mono s2,w⟩ ?_
 rintro m σ H' ⟨first,n,v3,us,ts,pr',rfl,rfl,hl',htd,htf,hf,hn,fr,st',w⟩
 walk_at "rd"
 refine st'.ha.meth (by walk_at "lk") ⟨c.a,c.rl,c.ru,c.tl,_,_,c.xs,rfl,st'.ha,st'.hrl,?_⟩
 walk_at "rd"
 rw [st'.len]
 by_cases hlt:first < c.ks.length
 .rw [if_pos (by omega)]
  obtain ⟨n,rfl⟩:∃ n',n=n' + 1:=⟨n-1,by omega⟩
  rw [ZC3,if_pos hlt] at w
  refine ZCW ?_
  walk_at "rd"
  refine ⟨c,lim,pr',first,_,exc,rfl,st',hlt,hk,(w.bind).also (P:=fun r=>first < r.1 /\ r.1 <= c.ks.length) ((strP_n hlt).imp fun r k z=>⟨z.1,z.2.1⟩),ex.sub fr st',fun t H3 r pr3 fr3 st3 ht hp=>?_⟩
  obtain ⟨j,f⟩:=r
  obtain ⟨⟨hj1,hj2⟩,w3⟩:=hp
  dsimp only at ht hj1 hj2 w3
  have hl3:=fr3 _ _ (offS nl) hl'
  refine ⟨.inl ⟨rfl,_,SqL.of hl3⟩,ZBv (SqT.of ht) (ZA2 (by decide) rfl) (ZBv (SqT.of ht) (ZA2 (by decide) rfl) ⟨ZAj (by decide),fun p4 hp4=>?_⟩)⟩
  obtain ⟨H4,e4,s4,h4⟩:=newH hp4 (.tup [.int first,.int j,.bl f])
  rw [e4];clear e4
  have hl4:=s4 _ _ hl3
  refine ⟨l,us,_,rfl,rfl,hl4,ZAu (by have:=htd.len;omega),?_⟩
  have ntl:t≠l:=fun z=>by rw [z,hl3] at ht;cases ht
  refine ZBv (SqT.of (by rw [ZAF ntl];exact s4 _ _ ht)) (ZA2 (by decide) rfl) ?_
  have tk4:∀ t' x,H' t'=some (.tup x)->upd H4 l (.lst (us++[.ref p4])) t'=some (.tup x):=fun t' x z=>by
   rw [ZAF (fun e=>by rw [e,hl'] at z;cases z)]
   exact s4 _ _ (fr3 _ _ (st'.tupS z (fun _ z=>by cases z) (fun _ _ _ z=>by cases z)) z)
  have np4:p4≠l:=fun z=>by rw [z,hl4] at h4;cases h4
  exact ⟨c.ks.length-j,by omega,j,n,_,us++[.ref p4],ts++[(first,j,f)],pr3,rfl,rfl,ZAE,(htd.keep tk4).snoc (by rw [ZAF np4];exact h4),by rw [yAF,List.length_singleton];omega,hj2,by omega,fun b o nb h=>by rw [ZAF (ZAG h hl)];exact s4 _ _ (fr3 _ _ nb (fr _ _ nb h)),(st3.mono s4).upd hl4 nl,w3⟩
 .rw [if_neg (by omega)]
  walk_at "rd"
  refine q l H' ts us pr' fr st' hl hl' htd ?_
  cases n with
  | zero=>exact w
  | succ n=>rw [ZC3,if_neg hlt] at w;exact w
theorem ok_cell_at {f:Addr} {fd:FuncData} (F:Fun K "_law_cell_at" "_law_cell_at" ZBN f fd) (T:Bt K mg C_Asker C_AskedRule C_HallError C_TooFar C_Spent)
 :FnOk P w K mg base CX0 1 f fd ["_law_script","_law_k"] (ZDA K):=by
 refine F.ok sc_cell_at (fun vs H Q E h=>?_) (fun cdv A outer s H vs Q E hr h=>?_)
 .obtain ⟨a,ns,k,rfl,hS,h0,q⟩:=h
  rfl
 obtain ⟨a,ns,k,rfl,hS,h0,q⟩:=h
 refine ⟨_,(ZAC (ZAt (ZAO ZEI (pv 1) (ZAM ZAK rfl T.b_len PySem.boot_len (ZAA (pv 0) ZAD)) (ZAR _))
  (ZAH (ZAS (ZBe ZBW (pv 0) (pv 1) (fun _ _=>rfl)))) ZAU)
  (ZAH (ZAS ZAI))),?_⟩
 walk_at "rd"
 refine ⟨a,_,rfl,.inl hS,?_⟩
 walk_at "rd"
 rw [yAB]
 unfold cellOf at q
 split
 .rename_i hk
  rw [if_pos hk] at q
  have hk':k.toNat < ns.length:=by omega
  refine ZCT hS (atI_ints h0 (yAM hk')) ?_
  rw [yAM hk'] at q
  exact q
 .rename_i hk
  rw [if_neg hk] at q
  exact q
theorem ok_stream {f:Addr} {fd:FuncData} (F:Fun K "_law_stream" "_law_stream" ZBl f fd) (T:Bt K mg C_Asker C_AskedRule C_HallError C_TooFar C_Spent)
 :FnOk P w K mg base CX0 1 f fd ["_law_cell","_law_many"] (ZBP):=by
 refine F.ok sc_stream (fun vs H Q E h=>?_) (fun cdv A outer s H vs Q E hr h=>?_)
 .obtain ⟨c,m,rfl,hm0,hm1,q⟩:=h
  rfl
 obtain ⟨c,m,rfl,hm0,hm1,q⟩:=h
 refine ⟨_,(ZAC (ZAQ (i:=2) sc_stream.nd rfl (by walk_at "o") (ZA9 ZAD))
  (ZAC (ZAQ (i:=3) sc_stream.nd rfl (by walk_at "o") (ZAT ZAr (pv 0) ZAI))
  (ZAC (ZCB PassesOwn.never rfl (ZBc rfl T.b_range (ZAA (pv 1) ZAD)) (ZAb (i:=4) sc_stream.nd rfl (by walk_at "o"))
  (ZAC (ZAQ (i:=3) sc_stream.nd rfl (by walk_at "o") (ZAT ZAr (ZAT ZBH (ZAT ZBH (ZAT ZBH (ZAT ZDF (pv 3) (pv 3)) (ZAT ZDF ZAI (pv 3))) (ZAT ZDF ZAI (pv 4))) ZAI) ZAI))
  (ZAH (ZA8 (ZC5 PySem.F.plainAttrs_list PySem.F.slot_list_append PySem.F.type_list_append ZBg (pv 2) (ZAA (pv 3) ZAD))))))
  (ZAH (ZAS (pv 2)))))),?_⟩
 walk_at "rd"
 refine ⟨yAC _,fun l hl=>⟨by decide,?_⟩⟩
 have c0:=Int.emod_nonneg c (show (2147483629:Int)≠0 by decide)
 have c1:=Int.emod_lt_of_pos c (show (0:Int) < 2147483629 by decide)
 generalize c % 2147483629=z0 at c0 c1 ⊢
 refine ZCH (by omega) (ZCy (fun i σ H'=>∃ (z:Int) (zs:List Int) (v4:Option V),σ=[some (.int c),some (.int m),some (.ref l),some (.int z),v4] /\ 0 <= z /\ z < 2147483629 /\ H'=upd H l (.lst (zs.map V.int)) /\ zs.length=i /\ ∀ x∈zs,0 <= x /\ x < 2 ^ 31) ⟨z0,[],_,rfl,c0,c1,rfl,rfl,fun _ h=>nomatch h⟩ ?_ ?_)
 .rintro i σ H' hi ⟨z,zs,v4,rfl,z0,z1,rfl,hz,hall⟩
  walk_at "rd"
  have y0:=Int.emod_nonneg (z * z+69621 * z+31 * (0+(i:Int))+5) (show (2147483629:Int)≠0 by decide)
  have y1:=Int.emod_lt_of_pos (z * z+69621 * z+31 * (0+(i:Int))+5) (show (0:Int) < 2147483629 by decide)
  refine ⟨.inl ⟨by omega,by omega⟩,.inl ⟨by decide,by decide⟩,.inl ⟨by decide,by decide⟩,by decide,.inl ⟨rfl,_,SqL.of ZAE⟩,l,zs.map V.int,_,rfl,rfl,ZAE,by rw [yAB];exact ZAu (by omega),?_⟩
  generalize (z * z+69621 * z+31 * (0+(i:Int))+5) % 2147483629=y at y0 y1 ⊢
  refine ⟨y,zs++[y],_,rfl,y0,y1,by rw [ZDk,yBV];rfl,by rw [yAF,hz];rfl,fun x hx=>?_⟩
  rcases yBC.mp hx with h | h
  .exact hall x h
  .rw [yAW.mp h];omega
 .rintro σ H' ⟨z,zs,v4,rfl,z0,z1,rfl,hz,hall⟩
  walk_at "rd"
  exact q l _ zs (ZAP hl _) hl ZAE (by omega) hall
theorem ok_digits {f:Addr} {fd:FuncData} (F:Fun K "_law_digits" "_law_digits" ZBn f fd) (T:Bt K mg C_Asker C_AskedRule C_HallError C_TooFar C_Spent)
  (f_stream:Fn P w K mg base CX0 "_law_stream" 1 ["_law_cell","_law_many"] (ZBP))
  (f_cell_at:Fn P w K mg base CX0 "_law_cell_at" 1 ["_law_script","_law_k"] (ZDA K))
 :FnOk P w K mg base CX0 2 f fd ["_law_script","_law_k","_law_base"] (ZCX K):=by
 refine F.ok sc_digits (fun vs H Q E h=>?_) (fun cdv A outer s H vs Q E hr h=>?_)
 .obtain ⟨a,ns,k,b,rfl,hS,h63,hk,hb0,hb1,q⟩:=h
  rfl
 obtain ⟨a,ns,k,b,rfl,hS,h63,hk,hb0,hb1,q⟩:=h
 refine ⟨_,(ZAC (ZAQ (i:=3) sc_digits.nd rfl (by walk_at "o") (ZAl f_stream (hr.mono (by decide)) rfl ZAc (ZAA (ZAT ZBH (ZAM ((call_sumB rfl)) rfl T.b_sum PyProof.Rows.boot_sum (ZAA (pv 0) ZAD)) (pv 1)) (ZAA ZAI ZAD))))
  (ZAC (ZAQ (i:=4) sc_digits.nd rfl (by walk_at "o") (ZA9 ZAD))
  (ZAC (ZCB PassesOwn.never rfl (ZBd (ZA9 (ZAA (ZAl f_cell_at (hr.mono (by decide)) rfl ZAc (ZAA (pv 0) (ZAA (pv 1) ZAD))) (ZAA (ZAl f_cell_at (hr.mono (by decide)) rfl ZAc (ZAA (pv 0) (ZAA (ZAT ZBH (pv 1) ZAI) ZAD))) ZAD)))) (ZAb (i:=5) sc_digits.nd rfl (by walk_at "o"))
  (ZAH (ZCB PassesOwn.never rfl (ZBc rfl T.b_range (ZAA ZAI ZAD)) (ZAb (i:=6) sc_digits.nd rfl (by walk_at "o"))
  (ZAC (ZAt (ZAO ZEI (pv 5) ZAI (ZAR _))
  (ZAH (ZAQ (i:=5) sc_digits.nd rfl (by walk_at "o") (ZBe ZBW (pv 3) (ZAM ZAK rfl T.b_len PySem.boot_len (ZAA (pv 4) ZAD)) (fun _ _=>rfl)))) ZAU)
  (ZAC (ZA8 (ZC5 PySem.F.plainAttrs_list PySem.F.slot_list_append PySem.F.type_list_append ZBg (pv 4) (ZAA (ZAT ZAr (pv 5) (pv 2)) ZAD)))
  (ZAH (ZAQ (i:=5) sc_digits.nd rfl (by walk_at "o") (ZAT ZA6 (pv 5) (pv 2)))))))))
  (ZAH (ZAS (pv 4)))))),?_⟩
 walk_at "rd"
 refine ⟨a,ns,rfl,hS,_,120,rfl,by decide,by decide,fun sp H1 zs s1 hsp h1 hz hall=>⟨yAC _,fun l hl=>?_⟩⟩
 obtain ⟨H2,e2,s2,h2⟩:=newH hl (.lst [])
 rw [e2];clear e2
 have S2:Same H H2:=s1.trans s2
 refine ⟨a,ns,k,rfl,S2.seq hS,hk,?_⟩
 generalize cellOf ns k=c1
 refine ⟨a,ns,k+1,rfl,S2.seq hS,by omega,?_⟩
 generalize cellOf ns (k+1)=c2
 refine ⟨ZAj (by decide),fun tw htw=>?_⟩
 obtain ⟨H3,e3,s3,h3⟩:=newH htw (.lst [.int c1,.int c2])
 rw [e3];clear e3
 have ntl:tw≠l:=Ne.symm (ZAG h2 htw)
 have nsl:sp≠l:=ZAG h1 hl
 have hsp3:=s3 _ _ (s2 _ _ h1)
 refine ZDY (SqL.of h3) (fun i σ H'=>∃ (v5 v6:Option V) (us:List Int),σ=[some (.ref a),some (.int k),some (.int b),some (.ref sp),some (.ref l),v5,v6] /\ H' l=some (.lst (us.map V.int)) /\ (∀ c,c≠l->H' c=H3 c) /\ us.length=60 * i /\ ∀ z∈us,0 <= z /\ z < b) ⟨_,_,[],rfl,s3 _ _ h2,fun _ _=>rfl,rfl,fun _ h=>nomatch h⟩ (fun i σ H' _ ⟨v5,v6,us,_,_,h,_⟩=>SqL.of (by rw [h _ ntl];exact h3)) ?_ ?_
 .rintro i x σ H' hx ⟨v5,v6,us,rfl,hl',hk',hlen,hall'⟩
  obtain ⟨c,rfl,hi⟩:∃ c:Int,x=.int c /\ i < 2:=by
   match i,hx with
   | 0,hx=>exact ⟨c1,(Option.some.inj hx).symm,by decide⟩
   | 1,hx=>exact ⟨c2,(Option.some.inj hx).symm,by decide⟩
  walk_at "rd"
  refine ZCH (by decide) (ZCy (fun t σ H''=>∃ (c:Int) (v6:Option V) (us:List Int),σ=[some (.ref a),some (.int k),some (.int b),some (.ref sp),some (.ref l),some (.int c),v6] /\ H'' l=some (.lst (us.map V.int)) /\ (∀ c,c≠l->H'' c=H3 c) /\ us.length=60 * i+t /\ ∀ z∈us,0 <= z /\ z < b) ⟨c,_,us,rfl,hl',hk',by omega,hall'⟩ ?_ ?_)
  .rintro t σ H4 ht ⟨c,v6,us,rfl,hl4,hk4,hlen4,hall4⟩
   have ht':t < 60:=ht
   walk_at "rd"
   have fin:∀ c:Int,∃ (c':Int) (v6:Option V) (us':List Int),[some (V.ref a),some (V.int k),some (V.int b),some (V.ref sp),some (V.ref l),some (V.int (c / b)),some (V.int (0+(t:Int)))]=[some (V.ref a),some (V.int k),some (V.int b),some (V.ref sp),some (V.ref l),some (V.int c'),v6] /\ (upd H4 l (.lst (us.map V.int++[.int (c % b)]))) l=some (.lst (us'.map V.int)) /\ (∀ d,d≠l->upd H4 l (.lst (us.map V.int++[.int (c % b)])) d=H3 d) /\ us'.length=60 * i+(t+1) /\ ∀ z∈us',0 <= z /\ z < b:=fun c=>by
    refine ⟨c / b,_,us++[c % b],rfl,by rw [ZAE,yBV];rfl,fun d hd=>by rw [ZAF hd];exact hk4 d hd,by rw [yAF,hlen4];rfl,fun z hz'=>?_⟩
    rcases yBC.mp hz' with h | h
    .exact hall4 z h
    .rw [yAW.mp h]
     exact ⟨Int.emod_nonneg _ (by omega),Int.emod_lt_of_pos _ hb0⟩
   by_cases hc:c < 1
   .rw [if_pos hc]
    refine ⟨l,_,rfl,.inl (SqL.of hl4),?_⟩
    rw [yAB,hlen4]
    have hidx:60 * i+t < zs.length:=by omega
    refine ZCT (SqL.of (by rw [hk4 _ nsl];exact hsp3)) (atI_ints (v:=zs[60 * i+t]) (by omega) (by rw [Int.toNat_natCast];exact yAM hidx)) ?_
    walk_at "rd"
    exact ⟨.inl ⟨rfl,_,SqL.of hl4⟩,hb0,l,_,_,rfl,rfl,hl4,by rw [yAB];exact ZAu (by omega),⟨hb0,by omega⟩,fin _⟩
   .rw [if_neg hc]
    exact ⟨.inl ⟨rfl,_,SqL.of hl4⟩,hb0,l,_,_,rfl,rfl,hl4,by rw [yAB];exact ZAu (by omega),⟨hb0,by omega⟩,fin _⟩
  .rintro σ H4 ⟨c,v6,us,rfl,hl4,hk4,hlen4,hall4⟩
   exact ⟨_,_,us,rfl,hl4,hk4,by rw [hlen4];show 60 * i+60=_;omega,hall4⟩
 .rintro σ H' ⟨v5,v6,us,rfl,hl',hk',hlen,hall'⟩
  walk_at "rd"
  have S3:Same H H':=fun c o h=>by
   rw [hk' c (ZAG (s1 _ _ h) hl)]
   exact s3 _ _ (S2 _ _ h)
  exact q l _ us S3 (s1.free hl) hl' (by rw [hlen];rfl) hall'
theorem ok_blocks {f:Addr} {fd:FuncData} (F:Fun K "_law_blocks" "_law_blocks" ZBo f fd) (T:Bt K mg C_Asker C_AskedRule C_HallError C_TooFar C_Spent)
  (f_stream:Fn P w K mg base CX0 "_law_stream" 1 ["_law_cell","_law_many"] (ZBP))
 :FnOk P w K mg base CX0 2 f fd ["_law_keys_here","_law_cell"] (ZBQ):=by
 refine F.ok sc_blocks (fun vs H Q E h=>?_) (fun cdv A outer s H vs Q E hr h=>?_)
 .obtain ⟨a,ks,c,rfl,ha,hk,q⟩:=h
  rfl
 obtain ⟨a,ks,c,rfl,ha,hk,q⟩:=h
 refine ⟨_,(ZAC (ZAQ (i:=2) sc_blocks.nd rfl (by walk_at "o") (ZA9 ZAD))
  (ZAC (ZCB PassesOwn.never rfl (ZBd (ZAl f_stream (hr.mono (by decide)) rfl ZAc (ZAA (pv 1) (ZAA (ZAM ZAK rfl T.b_len PySem.boot_len (ZAA (pv 0) ZAD)) ZAD)))) (ZAb (i:=3) sc_blocks.nd rfl (by walk_at "o"))
  (ZAC (ZAQ (i:=4) sc_blocks.nd rfl (by walk_at "o") (ZAM ZBZ rfl T.b_sorted PyProof.Rows.boot_sorted (ZAA (ZBT ZB0 (pv 0) (ZBS (ZAM ZAK rfl T.b_len PySem.boot_len (ZAA (pv 2) ZAD))) (ZBS (ZAT ZBH (ZAT ZBH (ZAM ZAK rfl T.b_len PySem.boot_len (ZAA (pv 2) ZAD)) ZAI) (ZAT ZAr (pv 3) ZAI)))) ZAD)))
  (ZAC (ZAt (ZAO ZBU (ZAT ZAr (ZAT ZA6 (pv 3) ZAI) ZAI) ZAI (ZAR _))
  (ZAH (ZA8 (pe_bm0 PySem.F.plainAttrs_list PySem.F.slot_list_reverse PySem.F.type_list_reverse mt_reverse (pv 4)))) ZAU)
  (ZAH (ZAQ (i:=2) sc_blocks.nd rfl (by walk_at "o") (ZAT op_cat (pv 2) (pv 4)))))))
  (ZAH (ZAS (pv 2))))),?_⟩
 walk_at "rd"
 refine ⟨yAC _,fun p hp=>⟨a,_,rfl,.inl (SqL.of (ZAP hp _ _ _ ha)),?_⟩⟩
 rw [yAB]
 refine ⟨c,ks.length,rfl,by omega,by omega,fun l H1 zs s1 hl h1 hz hall=>?_⟩
 refine ZDY (SqL.of h1) (fun i σ H'=>∃ (v3 v4:Option V) (r:Addr) (row:List Int),σ=[some (.ref a),some (.int c),some (.ref r),v3,v4] /\ H' l=some (.lst (zs.map V.int)) /\ H' r=some (.lst (row.map V.int)) /\ row.length <= ks.length /\ Same H H' /\ H r=none) ⟨_,_,p,[],rfl,h1,s1 _ _ ZAE,yAC _,(ZAP hp _).trans s1,hp⟩ (fun i σ H' _ ⟨v3,v4,r,row,_,h,_⟩=>SqL.of h) ?_ ?_
 .rintro i x σ H' hx ⟨v3,v4,r,row,rfl,hl',hr',hrow,hs,hn⟩
  obtain ⟨n,hn',rfl⟩:=ZCd hx
  walk_at "rd"
  obtain ⟨z0,z1⟩:=hall n (yBD hn')
  refine ⟨r,_,rfl,.inl (SqL.of hr'),r,_,rfl,.inl (SqL.of hr'),by decide,ZCm (SqL.of (hs _ _ ha)) fun p1 hp1=>?_⟩
  rw [ZCz,yAB]
  have hcut:((ks.drop (HT.sIx ks.length 0 (some (row.length:Int)))).take (HT.sIx ks.length ks.length (some ((row.length:Int)+1+n % 9))-HT.sIx ks.length 0 (some (row.length:Int)))).length+row.length <= ks.length:=by
   rw [yAK,yBE,HT.sIx_nat]
   omega
  generalize (ks.drop (HT.sIx ks.length 0 (some (row.length:Int)))).take (HT.sIx ks.length ks.length (some ((row.length:Int)+1+n % 9))-HT.sIx ks.length 0 (some (row.length:Int)))=ws at hcut ⊢
  obtain ⟨H2,e2,s2,h2⟩:=newH hp1 (.lst (ws.map V.int))
  rw [e2];clear e2
  refine ⟨p1,ws,rfl,SqL.of h2,by omega,fun l2 ms hl2 hperm _=>⟨⟨by decide,by decide⟩,by decide,?_⟩⟩
  have hml:=hperm.length_eq
  have nr:r≠l2:=ZAG (s2 _ _ hr') hl2
  have nl:l≠l2:=ZAG (s2 _ _ hl') hl2
  have fin:∀ us:List Int,us.length=ms.length->∀ p4,upd H2 l2 (.lst (us.map V.int)) p4=none->∃ (v3 v4:Option V) (r':Addr) (row':List Int),[some (V.ref a),some (.int c),some (.ref p4),some (.int n),some (.ref l2)]=[some (V.ref a),some (.int c),some (.ref r'),v3,v4] /\ (upd (upd H2 l2 (.lst (us.map V.int))) p4 (.lst (row.map V.int++us.map V.int))) l=some (.lst (zs.map V.int)) /\ (upd (upd H2 l2 (.lst (us.map V.int))) p4 (.lst (row.map V.int++us.map V.int))) r'=some (.lst (row'.map V.int)) /\ row'.length <= ks.length /\ Same H (upd (upd H2 l2 (.lst (us.map V.int))) p4 (.lst (row.map V.int++us.map V.int))) /\ H r'=none:=fun us hu p4 hp4=>by
   have S2:Same H (upd H2 l2 (.lst (us.map V.int))):=(hs.trans s2).new hl2
   have el:upd H2 l2 (.lst (us.map V.int)) l=some (.lst (zs.map V.int)):=by rw [ZAF nl];exact s2 _ _ hl'
   exact ⟨_,_,p4,row++us,rfl,by rw [ZAF (ZAG el hp4)];exact el,by rw [ZAE,yBV],by rw [yAF];omega,S2.new hp4,S2.free hp4⟩
  split
  .refine ⟨.inl ⟨rfl,_,SqL.of ZAE⟩,l2,_,rfl,rfl,ZAE,?_⟩
   rw [ZDk,<- List.map_reverse]
   exact ⟨r,l2,_,_,rfl,rfl,by rw [ZAF nr];exact s2 _ _ hr',ZAE,ZAj (by rw [yAB,yAB,yBX];omega),fin _ (yBX ..)⟩
  .exact ⟨r,l2,_,_,rfl,rfl,by rw [ZAF nr];exact s2 _ _ hr',ZAE,ZAj (by rw [yAB,yAB];omega),fin _ rfl⟩
 .rintro σ H' ⟨v3,v4,r,row,rfl,hl',hr',hrow,hs,hn⟩
  walk_at "rd"
  exact q r _ row hs hn hr' (by omega)
theorem ok_nearly {f:Addr} {fd:FuncData} (F:Fun K "_law_nearly" "_law_nearly" ZBm f fd) (T:Bt K mg C_Asker C_AskedRule C_HallError C_TooFar C_Spent)
  (f_stream:Fn P w K mg base CX0 "_law_stream" 1 ["_law_cell","_law_many"] (ZBP))
 :FnOk P w K mg base CX0 2 f fd ["_law_keys_here","_law_cell"] (ZBQ):=by
 refine F.ok sc_nearly (fun vs H Q E h=>?_) (fun cdv A outer s H vs Q E hr h=>?_)
 .obtain ⟨a,ks,c,rfl,ha,hk,q⟩:=h
  rfl
 obtain ⟨a,ks,c,rfl,ha,hk,q⟩:=h
 refine ⟨_,(ZAC (ZAQ (i:=2) sc_nearly.nd rfl (by walk_at "o") (ZAM ZBZ rfl T.b_sorted PyProof.Rows.boot_sorted (ZAA (pv 0) ZAD)))
  (ZAC (ZCB PassesOwn.never rfl (ZBd (ZAl f_stream (hr.mono (by decide)) rfl ZAc (ZAA (pv 1) (ZAA (ZAT ZAr (pv 1) ZAI) ZAD)))) (ZAb (i:=3) sc_nearly.nd rfl (by walk_at "o"))
  (ZAH (ZAt (ZAO (ZDg hr.units) (pv 2) (ZA9 ZAD) (ZAR _))
  (ZAC (ZAQ (i:=4) sc_nearly.nd rfl (by walk_at "o") (ZAT ZAr (pv 3) (ZAM ZAK rfl T.b_len PySem.boot_len (ZAA (pv 2) ZAD))))
  (ZAC (ZAQ (i:=5) sc_nearly.nd rfl (by walk_at "o") (ZC5 PySem.F.plainAttrs_list PySem.F.slot_list_pop PySem.F.type_list_pop mt_popAt (pv 2) (ZAA (pv 4) ZAD)))
  (ZAH (ZA8 (ZC5 PySem.F.plainAttrs_list PySem.F.slot_list_insert PySem.F.type_list_insert ZCF (pv 2) (ZAA (ZAM (ZBk rfl) rfl T.b_max PyProof.Rows.boot_max (ZAA ZAI (ZAA (ZAT ZBu (ZAT ZBu (pv 4) ZAI) (ZAT ZAr (ZAT ZA6 (pv 3) ZAI) ZAI)) ZAD))) (ZAA (pv 5) ZAD))))))) ZAU)))
  (ZAH (ZAS (pv 2))))),?_⟩
 walk_at "rd"
 refine ⟨a,ks,rfl,SqL.of ha,by omega,fun r ms hr' hperm _=>⟨by decide,?_⟩⟩
 have hml:=hperm.length_eq
 refine ⟨c,c % 6,rfl,Int.emod_nonneg _ (by decide),by have:=Int.emod_lt_of_pos c (show (0:Int) < 6 by decide);omega,fun l H1 zs s1 hl h1 hz hall=>?_⟩
 refine ZDY (SqL.of h1) (fun i σ H'=>∃ (v3 v4 v5:Option V) (row:List Int),σ=[some (.ref a),some (.int c),some (.ref r),v3,v4,v5] /\ H' l=some (.lst (zs.map V.int)) /\ H' r=some (.lst (row.map V.int)) /\ row.length=ms.length /\ Same H H') ⟨_,_,_,ms,rfl,h1,s1 _ _ ZAE,rfl,(ZAP hr' _).trans s1⟩ (fun i σ H' _ ⟨v3,v4,v5,row,_,h,_⟩=>SqL.of h) ?_ ?_
 .rintro i x σ H' hx ⟨v3,v4,v5,row,rfl,hl',hr2,hrow,hs⟩
  obtain ⟨n,hn',rfl⟩:=ZCd hx
  walk_at "rd"
  obtain ⟨z0,z1⟩:=hall n (yBD hn')
  refine ⟨yAC _,fun p1 hp1=>?_⟩
  obtain ⟨H2,e2,s2,h2⟩:=newH hp1 (.lst [])
  rw [e2];clear e2
  refine neD_of Enc.int.list (by decide) (a:=row) (b:=[]) (ZBi (SqL.of (s2 _ _ hr2))) (ZBi (xs:=[]) (SqL.of h2)) ⟨_,rfl,?_⟩
  by_cases hrn:row=[]
  .rw [if_neg (by simp [hrn])]
   exact ⟨_,_,_,row,rfl,s2 _ _ hl',s2 _ _ hr2,hrow,hs.trans s2⟩
  rw [if_pos (by simp [hrn])]
  have hlen:0 < row.length:=List.length_pos_iff.mpr hrn
  refine ⟨r,_,rfl,.inl (SqL.of (s2 _ _ hr2)),?_⟩
  rw [yAB]
  have a0:=Int.emod_nonneg n (show (row.length:Int)≠0 by omega)
  have a1:=Int.emod_lt_of_pos n (show (0:Int) < row.length by omega)
  obtain ⟨k,ek⟩:∃ k:Nat,n % (row.length:Int)=k:=⟨(n % (row.length:Int)).toNat,by omega⟩
  rw [ek] at a0 a1 ⊢
  have hk':k < row.length:=by omega
  refine ⟨by omega,.inl ⟨rfl,_,SqL.of (s2 _ _ hr2)⟩,r,_,k,k,.int row[k],rfl,rfl,s2 _ _ hr2,by omega,by omega,?_,by rw [yAP,yAM hk'];rfl,.inl ⟨rfl,_,SqL.of ZAE⟩,⟨by decide,by decide⟩,by decide,0,_,rfl,?_⟩
  .rw [yAB]
   exact PySem.StrLaws.seqIndex_nonneg (by omega) (by omega)
  rw [mx_eq]
  have m0:=Int.emod_nonneg (n / 997) (show (4:Int)≠0 by decide)
  have m1:=Int.emod_lt_of_pos (n / 997) (show (0:Int) < 4 by decide)
  generalize (n / 997) % 4=w4 at m0 m1 ⊢
  refine ⟨r,_,_,_,rfl,rfl,ZAE,by rw [List.length_eraseIdx,yAB];exact ZAu (by split <;> omega),by omega,?_⟩
  rw [ZDk]
  obtain ⟨row',er,hl2⟩:∃ row':List Int,insV ((row.map V.int).eraseIdx k) (max 0 ((k:Int)-1-w4)) (.int row[k])=row'.map V.int /\ row'.length=row.length:=by
   have e1:(row.map V.int).eraseIdx k=(row.eraseIdx k).map V.int:=by rw [List.eraseIdx_eq_take_drop_succ,List.eraseIdx_eq_take_drop_succ,yBV,List.map_take,List.map_drop]
   rw [e1]
   unfold insV
   dsimp only
   generalize (if (max 0 ((k:Int)-1-w4)) < 0 then ((max 0 ((k:Int)-1-w4))+(((row.eraseIdx k).map V.int).length:Int)).toNat else min (max 0 ((k:Int)-1-w4)).toNat ((row.eraseIdx k).map V.int).length)=kk
   refine ⟨(row.eraseIdx k).take kk++row[k]::(row.eraseIdx k).drop kk,by rw [yBV,yAQ,List.map_take,List.map_drop],?_⟩
   rw [yAF,yAJ,yAK,yBE,List.length_eraseIdx,if_pos hk']
   omega
  rw [er]
  have nl:l≠r:=fun z=>by
   rw [z] at hl
   rw [ZAE] at hl
   cases hl
  exact ⟨_,_,_,row',rfl,by rw [ZAF nl];exact s2 _ _ hl',ZAE,by omega,(hs.trans s2).upd hr'⟩
 .rintro σ H' ⟨v3,v4,v5,row,rfl,hl',hr2,hrow,hs⟩
  walk_at "rd"
  exact q r _ row hs hr' hr2 (by omega)
theorem ok_keys {f:Addr} {fd:FuncData} (F:Fun K "_law_keys" "_law_keys" ZDC f fd) (T:Bt K mg C_Asker C_AskedRule C_HallError C_TooFar C_Spent)
  (f_cell_at:Fn P w K mg base CX0 "_law_cell_at" 1 ["_law_script","_law_k"] (ZDA K))
  (f_blocks:Fn P w K mg base CX0 "_law_blocks" 2 ["_law_keys_here","_law_cell"] (ZBQ))
  (f_nearly:Fn P w K mg base CX0 "_law_nearly" 2 ["_law_keys_here","_law_cell"] (ZBQ))
  (f_digits:Fn P w K mg base CX0 "_law_digits" 2 ["_law_script","_law_k","_law_base"] (ZCX K))
  (f_stream:Fn P w K mg base CX0 "_law_stream" 1 ["_law_cell","_law_many"] (ZBP))
 :FnOk P w K mg base CX0 3 f fd ["_law_script","_law_most"] (ZEU K):=by
 refine F.ok sc_keys (fun vs H Q E h=>?_) (fun cdv A outer s H vs Q E hr h=>?_)
 .obtain ⟨a,ns,rfl,hS,h63,q⟩:=h
  rfl
 obtain ⟨a,ns,rfl,hS,h63,q⟩:=h
 refine ⟨_,(ZAC (ZAQ (i:=2) sc_keys.nd rfl (by walk_at "o") (ZAl f_cell_at (hr.mono (by decide)) rfl ZAc (ZAA (pv 0) (ZAA ZAI ZAD))))
  (ZAC (ZAQ (i:=3) sc_keys.nd rfl (by walk_at "o") (ZAl f_cell_at (hr.mono (by decide)) rfl ZAc (ZAA (pv 0) (ZAA ZAI ZAD))))
  (ZAC (ZAt (ZAO ZBU (ZAT ZAr (ZAT ZA6 (pv 2) ZAI) ZAI) ZAI (ZAR _))
  (ZAH (ZAS (ZBT ZB0 (ZAl f_digits (hr.mono (by decide)) rfl ZAc (ZAA (pv 0) (ZAA ZAI (ZAA ZAI ZAD)))) ZCr (ZBS (ZAT ZAr (ZAT ZA6 (pv 2) ZAI) (ZAT ZDF ZAI (pv 1))))))) ZAU)
  (ZAC (ZAQ (i:=4) sc_keys.nd rfl (by walk_at "o") (ZBe ZBW (ZA9 (ZAA ZAI (ZAA ZAI (ZAA ZAI (ZAA (ZAT op_pow ZAI ZAI) ZAD))))) (ZAT ZAr (pv 2) ZAI) (fun _ _=>rfl)))
  (ZAC (ps_setComp (i:=5) sc_keys.nd rfl (Or.inl rfl) rfl (k:=1) (js:=[4]) (N':=["_law_cell","_law_width"]) (by rfl) (ZBd (ZBT ZB0 (pv 0) (ZBS ZAI) (ZBS (ZAT ZBH ZAI (pv 1))))) (fun _ _ _ _=>ZAb (i:=0) (show (["_law_cell","_law_width"]:List Str).Nodup by decide +kernel) rfl (by walk_at "o")) (fun _ _ _ _=>ZCD) (fun _ _ _ _=>(ZAT ZBu (ZAT ZAr (pv 0) (pv 1)) (ZAT ZA6 (pv 1) ZAI))))
  (ZAC (ZAQ (i:=6) sc_keys.nd rfl (by walk_at "o") (ZAT ZAr (ZAT ZA6 (pv 2) ZAI) ZAI))
  (ZAC (ZAt (PW.pt (ZC4 (ZAO ZBU (pv 6) ZAI (ZAR _)) (ZCo (ZAO ZBU (pv 6) ZAI (ZAR _)))))
  (ZAH (ZAS (ZAl f_blocks (hr.mono (by decide)) rfl ZAc (ZAA (pv 5) (ZAA (pv 3) ZAD))))) ZAU)
  (ZAC (ZAt (ZAO ZBU (pv 6) ZAI (ZAR _))
  (ZAH (ZAS (ZAM ZBZ rfl T.b_sorted PyProof.Rows.boot_sorted (ZAA (pv 5) ZAD)))) ZAU)
  (ZAC (ZAt (ZAO ZBU (pv 6) ZAI (ZAR _))
  (ZAH (ZAS (pe_list_rev rfl rfl T.b_list rfl T.b_reversed (ZAA (ZAM ZBZ rfl T.b_sorted PyProof.Rows.boot_sorted (ZAA (pv 5) ZAD)) ZAD)))) ZAU)
  (ZAC (ZAt (ZAO ZBU (pv 6) ZAI (ZAR _))
  (ZAH (ZAS (ZDQ rfl (k:=1) (js:=[4]) (N':=["_law_number","_law_width"]) (by rfl) (ZBd (ZAl f_stream (hr.mono (by decide)) rfl ZAc (ZAA (pv 3) (ZAA (ZAT ZAr (pv 3) (ZAT ZDF ZAI (pv 1))) ZAD)))) (fun _ _ _ _=>ZAb (i:=0) (show (["_law_number","_law_width"]:List Str).Nodup by decide +kernel) rfl (by walk_at "o")) (fun _ _ _ _=>ZCD) (fun _ _ _ _=>(ZAT ZBu (ZAT ZAr (pv 0) (pv 1)) (ZAT ZA6 (pv 1) ZAI)))))) ZAU)
  (ZAC (ZAt (ZAO ZBU (pv 6) ZAI (ZAR _))
  (ZAH (ZAS (ZAl f_nearly (hr.mono (by decide)) rfl ZAc (ZAA (pv 5) (ZAA (pv 3) ZAD))))) ZAU)
  (ZAH (ZAS (pv 5)))))))))))))),?_⟩
 walk_at "rd"
 refine ⟨a,ns,0,rfl,hS,by decide,?_⟩
 generalize cellOf ns 0=md
 refine ⟨a,ns,1,rfl,hS,by decide,?_⟩
 generalize cellOf ns 1=mx
 walk_at "rd"
 refine ⟨⟨by decide,by decide⟩,by decide,?_⟩
 split
 .refine ⟨a,ns,4,120,rfl,hS,h63,by decide,by decide,by decide,fun l H1 zs s1 hl h1 hz _=>?_⟩
  walk_at "rd"
  have m0:=Int.emod_nonneg (md / 64) (show (2 * 40:Int)≠0 by decide)
  have m1:=Int.emod_lt_of_pos (md / 64) (show (0:Int) < 2 * 40 by decide)
  refine ⟨⟨by decide,by decide⟩,.inl ⟨by decide,by decide⟩,by decide,ZCm (SqL.of h1) fun p1 hp1=>?_⟩
  rw [ZCz]
  refine q p1 _ _ (s1.new hp1) (s1.free hp1) ZAE ?_
  rw [yAK,HT.sIx_none]
  obtain ⟨mm,em⟩:∃ mm:Nat,md / 64 % (2 * 40)=mm:=⟨(md / 64 % (2 * 40)).toNat,by omega⟩
  rw [em,HT.sIx_nat]
  omega
 refine ⟨⟨by decide,by decide,by decide⟩,ZAj (by decide),fun wl hwl=>⟨by decide,?_⟩⟩
 obtain ⟨H1,e1,s1,h1⟩:=newH hwl (.lst [.int 2,.int 5,.int 100,.int (10 ^ Int.toNat 60)])
 rw [e1];clear e1
 have hm:∃ m:Int,0 < m /\ atI [V.int 2,.int 5,.int 100,.int (10 ^ Int.toNat 60)] (md % 4)=some (.int m):=by
  have:md % 4=0∨md % 4=1∨md % 4=2∨md % 4=3:=by omega
  rcases this with e | e | e | e <;> rw [e]
  .exact ⟨2,by decide,ZA2 (by decide) rfl⟩
  .exact ⟨5,by decide,ZA2 (by decide) rfl⟩
  .exact ⟨100,by decide,ZA2 (by decide) rfl⟩
  .exact ⟨10 ^ Int.toNat 60,by decide,ZA2 (by decide) rfl⟩
 obtain ⟨m,hm0,hmx⟩:=hm
 refine ZCT (SqL.of h1) hmx ?_
 refine ZCm (s1.seq hS) fun sl hsl=>?_
 rw [ZCz]
 have hml:((ns.drop (HT.sIx ns.length 0 (some 4))).take (HT.sIx ns.length ns.length (some (4+40))-HT.sIx ns.length 0 (some 4))).length <= 63:=by
  rw [yAK,yBE]
  omega
 generalize (ns.drop (HT.sIx ns.length 0 (some 4))).take (HT.sIx ns.length ns.length (some (4+40))-HT.sIx ns.length 0 (some 4))=ms at hml ⊢
 obtain ⟨H2,e2,s2,h2⟩:=newH hsl (.lst (ms.map V.int))
 rw [e2];clear e2
 refine ZC1 (rest:=[some (.int m)]) (SqL.of h2) (by omega) rfl (fun _ _=>True) (fun c H' hc e Q' k=>?_) fun ks H3 kl hkl _ s3 hnl=>?_
 .walk_at "rd"
  exact ⟨hm0,⟨by decide,by decide⟩,k _ _ (Same.refl _) trivial⟩
 obtain ⟨H4,e4,s4,h4⟩:=newH hnl (.lst (ks.map V.int))
 rw [e4];clear e4
 have S3:Same H H3:=fun b o h=>s3 _ _ (s2 _ _ (s1 _ _ h))
 have S4:Same H H4:=S3.trans s4
 walk_at "rd"
 refine ⟨⟨by decide,by decide⟩,by decide,?_⟩
 generalize md / 4 % 8=wy
 have blk:ZBQ [.ref kl,.int mx] H4 Q E0:=⟨kl,ks,mx,rfl,h4,by omega,fun l H' zs s hl h hz=>q l H' zs (S4.trans s) (S4.free hl) h (by omega)⟩
 split
 .exact blk
 split
 .exact blk
 split
 .exact ⟨kl,ks,rfl,SqL.of h4,by omega,fun l us hl hp _=>q l _ us (S4.new hl) (S4.free hl) ZAE (by have:=hp.length_eq;omega)⟩
 split
 .refine ⟨kl,ks,rfl,SqL.of h4,by omega,fun l us hl hp _=>⟨l,_,rfl,SqL.of ZAE,fun r hr2=>?_⟩⟩
  rw [<- List.map_reverse]
  exact q r _ us.reverse ((S4.new hl).new hr2) ((S4.new hl).free hr2) ZAE (by have:=hp.length_eq;rw [yBX];omega)
 split
 .have hlt:=Int.emod_lt_of_pos mx (show (0:Int) < 2 * 40 by decide)
  refine ⟨.inl ⟨by decide,by decide⟩,by decide,mx,mx % (2 * 40),rfl,Int.emod_nonneg _ (by decide),by omega,fun l H5 zs s5 hl h5 hz hall=>?_⟩
  refine ZC1 (rest:=[some (.int m)]) (SqL.of h5) (by omega) rfl (fun _ _=>True) (fun c H' hc e Q' k=>?_) fun us H6 l6 hul _ s6 hn6=>?_
  .walk_at "rd"
   exact ⟨hm0,⟨by decide,by decide⟩,k _ _ (Same.refl _) trivial⟩
  have S6:Same H H6:=fun b o h=>s6 _ _ (s5 _ _ (S4 _ _ h))
  exact q l6 _ us (S6.new hn6) (S6.free hn6) ZAE (by omega)
 split
 .exact blk
 exact q kl H4 ks S4 (S3.free hnl) h4 (by omega)
theorem ok_way {f:Addr} {fd:FuncData} (F:Fun K "_law_way" "_law_way" ZEH f fd) (T:Bt K mg C_Asker C_AskedRule C_HallError C_TooFar C_Spent)
  (f_stretches:Fn P w K mg base (CXE P w) "stretches" 5 ["asker"] (ZDr C_Asker C_AskedRule C_Spent))
  (f_by_putting:Fn P w K mg base (CXE P w) "by_putting" 5 ["asker"] (ZC9 ZB8 C_Asker C_AskedRule C_Spent))
  (f_by_walking:Fn P w K mg base (CXE P w) "by_walking" 5 ["asker"] (ZC9 ZCi C_Asker C_AskedRule C_Spent))
  (f_by_reach:Fn P w K mg base (CXE P w) "by_reach" 5 ["asker","reach"] (ZDL C_Asker C_AskedRule C_Spent))
  (t_Asker_many:Mt P w K mg base CX0 C_Asker "many" 1 ["self"] (ZCP C_Asker))
 :FnOk P w K mg base (CXE P w) 6 f fd ["_law_way_here","_law_asker"] (ZER C_Asker C_AskedRule C_Spent):=by
 refine F.okX sc_way (fun vs H Q E h=>?_) (fun cdv A outer s H vs Q E hr h=>?_)
 .obtain ⟨c,lim,pr,wy,post,exc,rfl,hw,st,hk,w,ex,q⟩:=h
  rfl
 obtain ⟨c,lim,pr,wy,post,exc,rfl,hw,st,hk,w,ex,q⟩:=h
 refine ⟨_,(ZAC (ZAt (ZAO ZBU (pv 0) ZAI (ZAR _))
  (ZAH (ZAS (ZAl f_by_putting (hr.mono (by decide)) rfl ZEa (ZAA (pv 1) ZAD)))) ZAU)
  (ZAC (ZAt (ZAO ZBU (pv 0) ZAI (ZAR _))
  (ZAH (ZAS (ZAl f_by_walking (hr.mono (by decide)) rfl ZEa (ZAA (pv 1) ZAD)))) ZAU)
  (ZAC (ZAt (ZAO ZBU (pv 0) ZAI (ZAR _))
  (ZAH (ZAS (ZAl f_by_reach (hr.mono (by decide)) rfl ZEa (ZAA (pv 1) (ZAA (ZCt t_Asker_many (hr.mono (by decide)) ZAc (pv 1)) ZAD))))) ZAU)
  (ZAH (ZAS (ZAl f_stretches (hr.mono (by decide)) rfl ZEa (ZAA (pv 1) ZAD))))))),?_⟩
 walk_at "rd"
 unfold wayP at w
 by_cases h0:wy=0
 .rw [if_pos (by omega)]
  rw [if_neg (by omega),if_neg (by omega)] at w
  exact ⟨c,lim,pr,_,exc,rfl,st,hk,w.bind,ex,fun l H' os pr' fr s hl h1 hp=>q _ H' (.ord os) pr' fr s (fun l' e=>by cases e;exact hl) ⟨l,rfl,h1⟩ hp⟩
 rw [if_neg (by omega)]
 by_cases h1:wy=1
 .rw [if_pos (by omega)]
  rw [if_pos h1] at w
  exact ⟨c,lim,pr,_,exc,rfl,st,hk,w.bind,ex,fun l H' os pr' fr s hl h1 hp=>q _ H' (.ord os) pr' fr s (fun l' e=>by cases e;exact hl) ⟨l,rfl,h1⟩ hp⟩
 rw [if_neg (by omega)]
 rw [if_neg h1] at w
 by_cases h2:wy=2
 .rw [if_pos (by omega)]
  rw [if_neg (by omega)] at w
  refine st.ha.meth (by walk_at "lk") ⟨c.a,c.rl,c.ru,c.tl,_,_,c.xs,rfl,st.ha,st.hrl,?_⟩
  walk_at "rd"
  rw [st.len]
  exact ⟨c,lim,pr,_,exc,rfl,st,hk,w.bind,ex,fun l H' os pr' fr s hl h1 hp=>q _ H' (.ord os) pr' fr s (fun l' e=>by cases e;exact hl) ⟨l,rfl,h1⟩ hp⟩
 rw [if_neg (by omega)]
 rw [if_pos (by omega)] at w
 exact ⟨c,lim,pr,_,exc,rfl,st,hk,w.bind,ex,fun l H' ts us pr' fr s hl h1 h2 hp=>q _ H' (.str ts) pr' fr s (fun l' e=>by cases e;exact hl) ⟨l,us,rfl,h1,h2⟩ hp⟩
theorem ok_told {f:Addr} {fd:FuncData} (F:Fun K "_law_told" "_law_told" ZDB f fd) (T:Bt K mg C_Asker C_AskedRule C_HallError C_TooFar C_Spent)
  (f_way:Fn P w K mg base (CXE P w) "_law_way" 6 ["_law_way_here","_law_asker"] (ZER C_Asker C_AskedRule C_Spent))
 :FnOk P w K mg base CX0 7 f fd ["_law_way_here","_law_asker"] (ZDq C_Asker C_AskedRule):=by
 refine F.ok sc_told (fun vs H Q E h=>?_) (fun cdv A outer s H vs Q E hr h=>?_)
 .obtain ⟨c,lim,pr,wy,post,exc,rfl,hw,st,hk,w,q⟩:=h
  rfl
 obtain ⟨c,lim,pr,wy,post,exc,rfl,hw,st,hk,w,q⟩:=h
 refine ⟨_,(ZAC (ZAQ (i:=2) sc_told.nd rfl (by walk_at "o") ZEB)
  (ZAC (ps_try (i:=3) ⟨rfl,rfl⟩ rfl rfl T.m_Spent sc_told.nd rfl rfl (fun pn xe E hp=>
  (ZAH (ZAQ (i:=2) sc_told.nd rfl (by walk_at "o") (ZCQ (ZAA ZCs (ZAA (pe_fnS f_way (hr.mono (by decide)) rfl hp (ZAA (pv 0) (ZAA (pv 1) ZAD))) ZAD)))))) (fun e=>
  (ZAH (ZAQ (i:=2) sc_told.nd rfl (by walk_at "o") (ZCQ (ZAA ZCs (ZAA (pe_xfldMK K (pv 3) rfl) ZAD)))))))
  (ZAH (ZAS (pv 2))))),?_⟩
 walk_at "rd"
 refine ⟨c,lim,pr,wy,post,exc,rfl,hw,st,hk,w,fun d H' pr' fr s hd h1 hx=>⟨T.xm_Spent_Spent,fun ea hea=>?_⟩,fun v H' r pr' fr s hv hr hp=>⟨ZAj (by decide),fun t ht=>q t _ v _ pr' (fr.trans (ZAP ht _).fr) (s.mono (ZAP ht _)) (.inl ⟨rfl,hv,r,hr.mono (ZAP ht _),hp⟩) ZAE (s.free fr ht)⟩⟩
 obtain ⟨H2,e,s2,h2⟩:=newH hea (excO ea (.ref C_Spent) (some d))
 rw [e];clear e
 walk_at "rd"
 refine ⟨ea,_,d,_,_,rfl,.inl h2,s2 _ _ h1,T.xc_Spent,T.xk_Spent.hd,T.n_Spent_asked,by walk_at "lk",ZAj (by decide),fun t ht=>?_⟩
 have s3:=s2.trans (ZAP ht (.tup [.str "spent",.int (pr'.length:Nat)]))
 exact q t _ _ _ pr' (fr.trans s3.fr) (s.mono s3) (.inr ⟨rfl,rfl,hx⟩) ZAE ((s.mono s2).free (fr.trans s2.fr) ht)
theorem ok_whole {f:Addr} {fd:FuncData} (F:Fun K "_law_whole" "_law_whole" ZCM f fd) (T:Bt K mg C_Asker C_AskedRule C_HallError C_TooFar C_Spent)
 :FnOk P w K mg base CX0 1 f fd ["_law_found"] (ZB9):=by
 refine F.ok sc_whole (fun vs H Q E h=>?_) (fun cdv A outer s H vs Q E hr h=>?_)
 .obtain ⟨i,rfl,q⟩:=h
  rfl
 obtain ⟨i,rfl,q⟩:=h
 refine ⟨_,(ZAH (ZAS (pe_and (ZAM ZB3 rfl T.b_isinstance PyProof.Rows.boot_isinstance (ZAA (pv 0) (ZAA (ZEZ rfl T.b_int PyProof.Rows.boot_int) ZAD))) (pe_one (pe_not (ZAM ZB3 rfl T.b_isinstance PyProof.Rows.boot_isinstance (ZAA (pv 0) (ZAA (ZEZ rfl T.b_bool PyProof.Rows.boot_bool) ZAD)))))))),?_⟩
 walk_at "rd"
 refine inst_int ?_
 walk_at "rd"
 refine inst_int_bl T.kit_int_bool ?_
 walk_at "rd"
 exact q
theorem ok_bits {f:Addr} {fd:FuncData} (F:Fun K "_law_bits" "_law_bits" ZDD f fd) (T:Bt K mg C_Asker C_AskedRule C_HallError C_TooFar C_Spent)
  (f_digits:Fn P w K mg base CX0 "_law_digits" 2 ["_law_script","_law_k","_law_base"] (ZCX K))
  (f_stream:Fn P w K mg base CX0 "_law_stream" 1 ["_law_cell","_law_many"] (ZBP))
  (f_cell_at:Fn P w K mg base CX0 "_law_cell_at" 1 ["_law_script","_law_k"] (ZDA K))
 :FnOk P w K mg base CX0 3 f fd ["_law_script","_law_mix"] (ZDN K):=by
 refine F.ok sc_bits (fun vs H Q E h=>?_) (fun cdv A outer s H vs Q E hr h=>?_)
 .obtain ⟨a,ns,m,rfl,hS,h63,q⟩:=h
  rfl
 obtain ⟨a,ns,m,rfl,hS,h63,q⟩:=h
 refine ⟨_,(ZAC (ZAt (ZAO ZBU (ZAT ZAr (ZAT ZA6 (ZAl f_cell_at (hr.mono (by decide)) rfl ZAc (ZAA (pv 0) (ZAA ZAI ZAD))) ZAI) ZAI) ZAI (ZAR _))
  (ZAH (ZAS (ZAl f_digits (hr.mono (by decide)) rfl ZAc (ZAA (pv 0) (ZAA ZAI (ZAA ZAI ZAD)))))) ZAU)
  (ZAH (ZAS (ZDQ rfl (k:=1) (js:=[]) (N':=["_law_number"]) (by rfl) (ZBd (ZAl f_stream (hr.mono (by decide)) rfl ZAc (ZAA (pv 1) (ZAA ZAI ZAD)))) (fun _ _ _ _=>ZAb (i:=0) (show (["_law_number"]:List Str).Nodup by decide +kernel) rfl (by walk_at "o")) (fun _ _ _ _=>ZCD) (fun _ _ _ _=>(ZAT ZA6 (pv 0) ZAI)))))),?_⟩
 walk_at "rd"
 refine ⟨a,ns,0,rfl,hS,by decide,?_⟩
 walk_at "rd"
 refine ⟨⟨by decide,by decide⟩,by decide,?_⟩
 by_cases h:cellOf ns 0 / 32 % 2=1
 .rw [if_pos h]
  exact ⟨a,ns,8,2,rfl,hS,h63,by decide,by decide,by decide,fun l1 H1 zs s1 hl10 hl1 hz _=>q l1 H1 zs s1 hl10 hl1 (by omega)⟩
 .rw [if_neg h]
  refine ⟨_,64,rfl,by omega,by omega,fun l1 H1 zs s1 hl10 hl1 hz hzb=>?_⟩
  refine ZC1 (rest:=[]) (SqL.of hl1) (by omega) rfl (fun _ _=>True) (fun c H' hc e Q' k=>?_) fun ks H2 l2 hkl _ s2 hnl=>?_
  .walk_at "rd"
   exact ⟨⟨by decide,by decide⟩,k _ _ (Same.refl _) trivial⟩
  exact q l2 _ ks (s1.trans (s2.new hnl)) (s1.free (s2.free hnl)) ZAE (by omega)
theorem ok_each_once {f:Addr} {fd:FuncData} (F:Fun K "_law_each_once" "_law_each_once" ZA5 f fd) (T:Bt K mg C_Asker C_AskedRule C_HallError C_TooFar C_Spent)
  (f_whole:Fn P w K mg base CX0 "_law_whole" 1 ["_law_found"] (ZB9))
 :FnOk P w K mg base CX0 2 f fd ["_law_told_here","_law_many"] (ZDM):=by
 refine F.ok sc_each_once (fun vs H Q E h=>?_) (fun cdv A outer s H vs Q E hr h=>?_)
 .obtain ⟨l,os,n,rfl,hl,hp,hn,q⟩:=h
  rfl
 obtain ⟨l,os,n,rfl,hl,hp,hn,q⟩:=h
 refine ⟨_,(ZAC (ZAt (PW.pt (ZC4 (ZCA (ZBt (ZAM ZB3 rfl T.b_isinstance PyProof.Rows.boot_isinstance (ZAA (pv 0) (ZAA (ZEZ rfl T.b_list PyProof.Rows.boot_list) ZAD))))) (ZCo (ZAO ZDT (ZAM ZAK rfl T.b_len PySem.boot_len (ZAA (pv 0) ZAD)) (pv 1) (ZAR _)))))
  (ZAH (ZAS ZDR)) ZAU)
  (ZAC (ZCB PassesOwn.never rfl (ZBd (pv 0)) (ZAb (i:=2) sc_each_once.nd rfl (by walk_at "o"))
  (ZAH (ZAt (ZCA (ZBt (ZAl f_whole (hr.mono (by decide)) rfl ZAc (ZAA (pv 2) ZAD))))
  (ZAH (ZAS ZDR)) ZAU)))
  (ZAH (ZAS (ZBf (ZEC hr.units) (ZAM call_sortedB rfl T.b_sorted PyProof.Rows.boot_sorted (ZAA (pv 0) ZAD)) (ZCE (call_list_rng rfl) rfl T.b_list PyProof.Rows.boot_list (ZAA (ZCE call_rng1 rfl T.b_range PyProof.Rows.boot_range (ZAA (pv 1) ZAD)) ZAD)) (ZAR _)))))),?_⟩
 walk_at "rd"
 refine inst_lst hl ?_
 rw [if_neg (by decide)]
 refine ⟨l,_,rfl,.inl (SqL.of hl),?_⟩
 have hlen:os.length=n:=by rw [hp.length_eq,List.length_range]
 rw [yAB,hlen,if_neg (by simp)]
 refine ZDY (SqL.of hl) (fun i σ X=>∃ v2,σ=[some (.ref l),some (.int (n:Int)),v2] /\ X=H) ⟨_,rfl,rfl⟩ (fun i σ X _ ⟨_,_,e⟩=>by rw [e];exact SqL.of hl) ?_ ?_
 .rintro i x σ X hx ⟨v2,rfl,rfl⟩
  rw [yAP] at hx
  obtain ⟨y,_,rfl⟩:=Option.map_eq_some_iff.mp hx
  walk_at "rd"
  exact ⟨_,rfl,true,rfl,by rw [if_neg (by decide)];exact ⟨_,rfl,rfl⟩⟩
 rintro σ X ⟨v2,rfl,rfl⟩
 walk_at "rd"
 refine ⟨l,os.map fun (x:Nat)=>(x:Int),rfl,SqL.of (by rw [hl,nL_ints]),by rw [yAB];omega,fun sl ms hsl hperm hsort=>?_⟩
 have eM:=srt_eq (hperm.trans (hp.map _)) hsort
 subst eM
 obtain ⟨Z1,e1,sZ1,hZ1⟩:=newH hsl (.lst (((List.range n).map fun (x:Nat)=>(x:Int)).map V.int))
 rw [e1];clear e1
 refine ⟨_,rfl,fun rg hrg=>?_⟩
 obtain ⟨Z2,e2,sZ2,hZ2⟩:=newH hrg (.rng 0 (n:Int))
 rw [e2];clear e2
 refine ⟨rg,0,(n:Int),rfl,hZ2,by omega,fun r2 hr2=>?_⟩
 obtain ⟨Z3,e3,sZ3,hZ3⟩:=newH hr2 (.lst ((ZCn 0 (n:Int)).map V.int))
 rw [e3];clear e3
 have eR:(ZCn 0 (n:Int)).map V.int=nL (List.range n):=by
  have:=rints_nat (lo:=0) (hi:=n)
  rw [Nat.sub_zero,<- List.range_eq_range'] at this
  exact this
 rw [eR,nL_ints] at hZ3
 refine eqD_of Enc.int.list (by decide) (a:=(List.range n).map fun (x:Nat)=>(x:Int)) (b:=(List.range n).map fun (x:Nat)=>(x:Int)) (ZBi (SqL.of ((sZ2.trans sZ3) _ _ hZ1))) (ZBi (SqL.of hZ3)) ?_
 rw [decide_eq_true rfl]
 exact q _ (sZ1.trans (sZ2.trans sZ3))
theorem ok_bound {f:Addr} {fd:FuncData} (F:Fun K "_law_bound" "_law_bound" ZCN f fd) (T:Bt K mg C_Asker C_AskedRule C_HallError C_TooFar C_Spent)
 :FnOk P w K mg base CX0 1 f fd ["_law_way_here","_law_log","_law_many"] (ZCk):=by
 refine F.ok sc_bound (fun vs H Q E h=>?_) (fun cdv A outer s H vs Q E hr h=>?_)
 .obtain ⟨w,n,l,us,L,rfl,hl,htd,hb,hn,hL,q⟩:=h
  rfl
 obtain ⟨w,n,l,us,L,rfl,hl,htd,hb,hn,hL,q⟩:=h
 refine ⟨_,(ZAC (ZAt (ZAO ZBU (pv 0) ZAI (ZAR _))
  (ZAH (ZAS (ZBf op_le (ZAM ZAK rfl T.b_len PySem.boot_len (ZAA (ZDQ rfl (k:=1) (js:=[]) (N':=["_law_one"]) (by rfl) (ZBd (pv 1)) (fun _ _ _ _=>ZAb (i:=0) (show (["_law_one"]:List Str).Nodup by decide +kernel) rfl (by walk_at "o")) (fun _ _ _ _=>(pifs_one (ZCA (ZBt (ZBe (ix_tupK K) (pv 0) ZAI (fun _ _=>rfl)))))) (fun _ _ _ _=>(pv 0))) ZAD)) (ZAM (ZBk rfl) rfl T.b_max PyProof.Rows.boot_max (ZAA ZAI (ZAA (ZAT ZBu (pv 2) ZAI) ZAD))) (ZAR _)))) ZAU)
  (ZAC (ZAt (ZAO ZBU (pv 0) ZAI (ZAR _))
  (ZAH (ZAS (ZBf ZBU (ZAM ZAK rfl T.b_len PySem.boot_len (ZAA (pv 1) ZAD)) (ZAM (ZBk rfl) rfl T.b_max PyProof.Rows.boot_max (ZAA ZAI (ZAA (ZAT ZBu (pv 2) ZAI) ZAD))) (ZAR _)))) ZAU)
  (ZAH (ZAS (ZBf op_le (ZAM ZAK rfl T.b_len PySem.boot_len (ZAA (pv 1) ZAD)) (ZAM (call_sum rfl) rfl T.b_sum PyProof.Rows.boot_sum (ZAA (ZDQ rfl (k:=1) (js:=[]) (N':=["_law_k"]) (by rfl) (pi_range2 rfl T.b_range (ZAA ZAI (ZAA (pv 2) ZAD))) (fun _ _ _ _=>ZAb (i:=0) (show (["_law_k"]:List Str).Nodup by decide +kernel) rfl (by walk_at "o")) (fun _ _ _ _=>ZCD) (fun _ _ _ _=>(pe_bm0K K PySem.F.plainAttrs_int PySem.F.slot_int_bit_length PySem.F.type_int_bit_length mt_bitlen (pv 0)))) ZAD)) (ZAR _)))))),?_⟩
 walk_at "rd"
 unfold Bnd at hb
 have hlen:=htd.len
 by_cases h1:w=1
 .rw [if_pos h1] at hb
  rw [if_pos (by omega)]
  refine compL_B (SqL.of hl) (by omega) (fun i ys σ X=>∃ v,σ=[v] /\ X=H /\ ys.length=((L.take i).filter fun e=>!e.2.2).length) ⟨_,rfl,rfl,rfl⟩ (fun i ys σ X hi z=>?_) ?_ ?_
  .obtain ⟨v,_,e,e2⟩:=z
   rw [e]
   refine ⟨SqL.of hl,?_⟩
   rw [e2]
   exact yAD (List.length_filter_le _ _) (by rw [yAK];omega)
  .rintro i ys x σ X hi hx ⟨v,rfl,rfl,e2⟩
   have hiL:i < L.length:=by omega
   obtain ⟨t,a1,a2⟩:=htd.get i L[i].1 L[i].2.1 L[i].2.2 (yAM hiL)
   rw [hx] at a1
   cases a1
   walk_at "rd"
   refine ZBv (SqT.of a2) (ZA2 (by decide) rfl) ⟨_,rfl,?_⟩
   have et:L.take (i+1)=L.take i++[L[i]]:=by rw [List.take_add_one,yAM hiL];rfl
   cases hbv:L[i].2.2
   .rw [if_pos (by decide)]
    refine .of hi ⟨_,rfl,rfl,?_⟩
    rw [et,List.filter_append,yAF,yAF,e2,List.filter_cons_of_pos (by rw [hbv];rfl)]
    rfl
   .rw [if_neg (by decide)]
    refine .of hi ⟨_,rfl,rfl,?_⟩
    rw [et,List.filter_append,yAF,e2,List.filter_cons_of_neg (by rw [hbv];decide)]
    rfl
  .rintro ys σ X ⟨v,rfl,rfl,e2⟩ p hp
   rw [hlen,yBY (yAA _)] at e2
   refine ⟨p,ys,rfl,.inl (SqL.of ZAE),_,_,rfl,?_⟩
   rw [decide_eq_true (by split <;> omega)]
   exact q _ (ZAP hp _)
 rw [if_neg h1] at hb
 rw [if_neg (by omega)]
 by_cases h3:w=3
 .rw [if_pos h3] at hb
  rw [if_pos (by omega)]
  refine ⟨l,us,rfl,.inl (SqL.of hl),_,_,rfl,?_⟩
  rw [decide_eq_true (by split <;> omega)]
  exact q _ (.refl _)
 rw [if_neg h3] at hb
 rw [if_neg (by omega)]
 refine ⟨l,us,rfl,.inl (SqL.of hl),?_⟩
 refine compR2_of (by omega) (fun i ys σ X=>∃ v,σ=[v] /\ X=H /\ ∃ zs:List Int,ys=zs.map V.int /\ zs.length=i /\ zs.sum=sumI (i+1) /\ ∀ z∈zs,0 <= z /\ z <= 1000) ⟨_,rfl,rfl,[],rfl,rfl,rfl,fun z h=>by cases h⟩ (fun i ys σ X z=>?_) ?_ ?_
 .obtain ⟨v,_,_,zs,e,e2,_⟩:=z
  rw [e,yAB,e2]
  exact yAA _
 .rintro i ys σ X hi ⟨v,rfl,rfl,zs,rfl,hzl,hzs,hzb⟩
  walk_at "rd"
  refine ⟨rfl,_,rfl,rfl,.of hi ⟨_,rfl,rfl,zs++[((bl (i+1):Nat):Int)],?_,by rw [yAF,hzl];rfl,?_,fun z hz=>?_⟩⟩
  .rw [show (1+(i:Int))=((i+1:Nat):Int) by omega,bl_bits,yBV];rfl
  .rw [List.sum_append,hzs]
   show _+(_+0)=sumI (i+1)+_
   omega
  .rcases yBC.mp hz with z | z
   .exact hzb _ z
   .rw [yAW.mp z]
    have:=bl_le (i+1)
    omega
 .rintro ys σ X ⟨v,rfl,rfl,zs,rfl,hzl,hzs,hzb⟩ p hp
  refine ⟨p,zs,rfl,SqL.of ZAE,⟨by omega,fun x hx=>by have:=hzb x hx;omega⟩,?_⟩
  rw [decide_eq_true ?_]
  .exact q _ (ZAP hp _)
  .rw [hzs,sumI_eq]
   have:sumF bl n 0 <= sumF bl (((n:Int)-1).toNat+1) 0:=by
    by_cases h0:n=0
    .rw [h0];exact yAC _
    .rw [show ((n:Int)-1).toNat+1=n by omega];exact yAA _
   omega
theorem ok_law {f:Addr} {fd:FuncData} (F:Fun K "law" "law" ZDO f fd) (T:Bt K mg C_Asker C_AskedRule C_HallError C_TooFar C_Spent)
  (f_keys:Fn P w K mg base CX0 "_law_keys" 3 ["_law_script","_law_most"] (ZEU K))
  (f_told:Fn P w K mg base CX0 "_law_told" 7 ["_law_way_here","_law_asker"] (ZDq C_Asker C_AskedRule))
  (f_each_once:Fn P w K mg base CX0 "_law_each_once" 2 ["_law_told_here","_law_many"] (ZDM))
  (f_cell_at:Fn P w K mg base CX0 "_law_cell_at" 1 ["_law_script","_law_k"] (ZDA K))
  (f_bits:Fn P w K mg base CX0 "_law_bits" 3 ["_law_script","_law_mix"] (ZDN K))
  (f_bound:Fn P w K mg base CX0 "_law_bound" 1 ["_law_way_here","_law_log","_law_many"] (ZCk))
  (f_teller:Fn P w K mg base CX0 "_law_teller" 1 ["_law_log","_law_bits_here"] (ZD7 Pt_teller (ZDH ZAJ) "_law_teller_here" "_law_teller.<locals>._law_teller_here" (ZAN ZAJ) (ZAL ZAJ) (ZAB ZAJ) ["_law_bits_here","_law_log"] [1,0] 2))
  (f_whole:Fn P w K mg base CX0 "_law_whole" 1 ["_law_found"] (ZB9))
  (t_Asker_widen:Mt P w K mg base CX0 C_Asker "widen" 1 ["self","more"] (ZDp C_Asker))
  (t_Asker_answers:Mt P w K mg base CX0 C_Asker "answers" 1 ["self"] (ZCl C_Asker))
  (k_Asker:Kl P w K mg base CX0 "Asker" C_Asker 1 ["self","row","rule","most"] (ZBC C_Asker))
  (k_Asker_3:KlD P w K mg base CX0 "Asker" C_Asker 1 ["self","row","rule","most"] (ZBC C_Asker) [.non])
  (k_AskedRule:Kl P w K mg base CX0 "AskedRule" C_AskedRule 1 ["self","teller"] (ZCL C_AskedRule))
 :FnOk P w K mg base CX0 8 f fd ["_law_script"] (ZET K [(cc_teller,Pt_teller)]):=by
 refine F.ok sc_law (fun vs H Q E h=>?_) (fun cdv A outer s H vs Q E hr h=>?_)
 .obtain ⟨a,ns,rfl,hS,h63,hT,q⟩:=h
  rfl
 obtain ⟨a,ns,rfl,hS,h63,hT,q⟩:=h
 refine ⟨_,(ZAC (ZAQ (i:=1) sc_law.nd rfl (by walk_at "o") (ZAl f_keys (hr.mono (by decide)) rfl ZAc (ZAA (pv 0) (ZAA ZAI ZAD))))
  (ZAe
  (ZAC (ps_setComp (i:=2) sc_law.nd rfl (Or.inl rfl) rfl (k:=2) (js:=[]) (N':=["_law_k","_law_key"]) (by rfl) (pi_enum rfl T.b_enumerate (ZAA (pv 1) ZAD)) (fun _ _ _ _=>pg_tupK (n:=2) K rfl (ZBF (ZAb (i:=0) (show (["_law_k","_law_key"]:List Str).Nodup by decide +kernel) rfl (by walk_at "o")) (ZBF (ZAb (i:=1) (show (["_law_k","_law_key"]:List Str).Nodup by decide +kernel) rfl (by walk_at "o")) ZDP))) (fun _ _ _ _=>ZCD) (fun _ _ _ _=>(ZCQ (ZAA (pv 1) (ZAA (pv 0) ZAD)))))
  (ZAe
  (ZAC (ZAQ (i:=3) sc_law.nd rfl (by walk_at "o") (ZAT ZAr (ZAl f_cell_at (hr.mono (by decide)) rfl ZAc (ZAA (pv 0) (ZAA ZAI ZAD))) ZAI))
  (ZAe
  (ZAC (ZAQ (i:=4) sc_law.nd rfl (by walk_at "o") (ZA9 ZAD))
  (ZAe
  (ZAC (ZAt (ZAO ZBU (ZAT ZAr (ZAT ZA6 (ZAl f_cell_at (hr.mono (by decide)) rfl ZAc (ZAA (pv 0) (ZAA ZAI ZAD))) ZAI) ZAI) ZAI (ZAR _))
  (ZAC (ZAQ (i:=3) sc_law.nd rfl (by walk_at "o") (ZAT ZAr (pv 3) ZAI))
  (ZAH (ZAQ (i:=4) sc_law.nd rfl (by walk_at "o") (ZAl f_bits (hr.mono (by decide)) rfl ZAc (ZAA (pv 0) (ZAA (ZAT ZA6 (ZAl f_cell_at (hr.mono (by decide)) rfl ZAc (ZAA (pv 0) (ZAA ZAI ZAD))) ZAI) ZAD)))))) ZAU)
  (ZAe
  (ZAC (ZAQ (i:=5) sc_law.nd rfl (by walk_at "o") (ZA9 ZAD))
  (ZAe
  (ZAC (ZEY (ZAl f_told (hr.mono (by decide)) rfl ZAc (ZAA (pv 3) (ZAA (pe_mkD k_Asker_3 (hr.mono (by decide)) rfl ZAc (ZAA (pv 2) (ZAA (ZEu k_AskedRule (hr.mono (by decide)) rfl ZAc (ZAA (ZAl f_teller (hr.mono (by decide)) rfl ZAc (ZAA (pv 5) (ZAA (pv 4) ZAD))) ZAD)) ZAD))) ZAD))) (ZEA (n:=2) rfl (ZBF (ZAb (i:=6) sc_law.nd rfl (by walk_at "o")) (ZBF (ZAb (i:=7) sc_law.nd rfl (by walk_at "o")) ZDP))))
  (ZAe
  (ZAC (ZAt (PW.pt (ZC4 (ZAO ZDT (pv 6) ZCs (ZAR _)) (ZCo (ZCA (ZBt (ZAl f_bound (hr.mono (by decide)) rfl ZAc (ZAA (pv 3) (ZAA (pv 5) (ZAA (ZAM ZAK rfl T.b_len PySem.boot_len (ZAA (pv 2) ZAD)) ZAD)))))))))
  (ZAH (ZAS ZDR)) ZAU)
  (ZAe
  (ZAC (ZAt (PW.pt (ZDd (ZAO ZDT (pv 3) ZAI (ZAR _)) (ZCp (ZCA (ZBt (ZAl f_each_once (hr.mono (by decide)) rfl ZAc (ZAA (pv 7) (ZAA (ZAM ZAK rfl T.b_len PySem.boot_len (ZAA (pv 2) ZAD)) ZAD))))))))
  (ZAH (ZAS ZDR)) ZAU)
  (ZAe
  (ZAC (ZAQ (i:=8) sc_law.nd rfl (by walk_at "o") (ZAM ZAK rfl T.b_len PySem.boot_len (ZAA (pv 5) ZAD)))
  (ZAe
  (ZAC (ZAQ (i:=9) sc_law.nd rfl (by walk_at "o") (ZAT ZAr (ZAl f_cell_at (hr.mono (by decide)) rfl ZAc (ZAA (pv 0) (ZAA ZAI ZAD))) (ZAT ZBH (pv 8) ZAI)))
  (ZAe
  (ZAC (ZAQ (i:=10) sc_law.nd rfl (by walk_at "o") (ZA9 ZAD))
  (ZAe
  (ZAC (ZAQ (i:=11) sc_law.nd rfl (by walk_at "o") (ZEu k_Asker (hr.mono (by decide)) rfl ZAc (ZAA (pv 2) (ZAA (ZEu k_AskedRule (hr.mono (by decide)) rfl ZAc (ZAA (ZAl f_teller (hr.mono (by decide)) rfl ZAc (ZAA (pv 10) (ZAA (pv 4) ZAD))) ZAD)) (ZAA (pv 9) ZAD)))))
  (ZAe
  (ZAC (ZEY (ZAl f_told (hr.mono (by decide)) rfl ZAc (ZAA (pv 3) (ZAA (pv 11) ZAD))) (ZEA (n:=2) rfl (ZBF (ZAb (i:=6) sc_law.nd rfl (by walk_at "o")) (ZBF (ZAb (i:=12) sc_law.nd rfl (by walk_at "o")) ZDP))))
  (ZAe
  (ZAC (ZAt (ZAO ZEv (pv 8) (pv 9) (ZAR _))
  (ZAH (ZAt (PW.pt (ZC4 (ZAO ZDT (pv 6) ZCs (ZAR _)) (ZC4 (ZCA (ZBt (ZAl f_whole (hr.mono (by decide)) rfl ZAc (ZAA (pv 12) ZAD)))) (ZCo (ZAO ZDT (pv 12) (pv 9) (ZAR _))))))
  (ZAH (ZAS ZDR)) ZAU))
  (ZAH (ZAt (PW.pt (ZC4 (ZAO ZDT (pv 6) ZCs (ZAR _)) (ZCo (ZAO (ZDg hr.units) (pv 12) (pv 7) (ZAR _)))))
  (ZAH (ZAS ZDR)) ZAU)))
  (ZAe
  (ZAC (ZAQ (i:=13) sc_law.nd rfl (by walk_at "o") (ZAM (call_min2 rfl) rfl T.b_min PyProof.Rows.boot_min (ZAA (pv 8) (ZAA (pv 9) ZAD))))
  (ZAe
  (ZAC (ZAt (PW.pt (ZC4 (ZAO (ZDg hr.units) (pv 10) (ZBT ZB0 (pv 5) ZCr (ZBS (pv 13))) (ZAR _)) (ZC4 (ZAO ZDT (ZBG (pv 11) rfl) (pv 13) (ZAR _)) (ZCo (ZAO (ZDg hr.units) (ZCt t_Asker_answers (hr.mono (by decide)) ZAc (pv 11)) (pv 10) (ZAR _))))))
  (ZAH (ZAS ZDR)) ZAU)
  (ZAe
  (ZAC (ZA8 (ZDs t_Asker_widen (hr.mono (by decide)) ZAc (pv 11) (ZAA (ZAT ZBH (pv 8) (ZAT ZDF (ZAM ZAK rfl T.b_len PySem.boot_len (ZAA (pv 2) ZAD)) (ZAM ZAK rfl T.b_len PySem.boot_len (ZAA (pv 2) ZAD)))) ZAD)))
  (ZAe
  (ZAC (ZEY (ZAl f_told (hr.mono (by decide)) rfl ZAc (ZAA (pv 3) (ZAA (pv 11) ZAD))) (ZEA (n:=2) rfl (ZBF (ZAb (i:=6) sc_law.nd rfl (by walk_at "o")) (ZBF (ZAb (i:=12) sc_law.nd rfl (by walk_at "o")) ZDP))))
  (ZAC (ZAt (PW.pt (ZC4 (ZAO ZDT (pv 6) ZCs (ZAR _)) (ZC4 (ZCA (ZBt (ZAl f_bound (hr.mono (by decide)) rfl ZAc (ZAA (pv 3) (ZAA (ZBT ZB0 (pv 10) (ZBS (pv 13)) ZCr) (ZAA (ZAM ZAK rfl T.b_len PySem.boot_len (ZAA (pv 2) ZAD)) ZAD)))))) (ZCo (ZAO ZDT (ZBG (pv 11) rfl) (ZAM ZAK rfl T.b_len PySem.boot_len (ZAA (pv 10) ZAD)) (ZAR _))))))
  (ZAH (ZAS ZDR)) ZAU)
  (ZAC (ZAt (ZAO (ZEC hr.units) (pv 4) (ZA9 ZAD) (ZAR _))
  (ZAH (ZAS (pe_and (ZBf (ZEC hr.units) (pv 12) (pv 7) (ZAR _)) (pe_one (ZBf (ZEC hr.units) (ZBT ZB0 (pv 10) (ZBS (pv 13)) ZCr) (pv 5) (ZAR _)))))) ZAU)
  (ZAH (ZAS (ZAl f_each_once (hr.mono (by decide)) rfl ZAc (ZAA (pv 12) (ZAA (ZAM ZAK rfl T.b_len PySem.boot_len (ZAA (pv 2) ZAD)) ZAD)))))))))))))))))))))))))))))))))))))))))))),?_⟩
 walk_at "rd"
 refine ⟨a,ns,rfl,hS,h63,fun ky H1 ks S1 hnky hky hkl=>?_⟩
 have hPt:H Pt_teller=some (.tbl #[]):=hT _ yAN
 refine ZAv ?_
 walk_at "rd"
 refine compE_of (SqL.of (hky)) (by rw [yAB];omega) (fun i ys σ H'=>∃ v w,σ=[v,w] /\ Same H1 H' /\ ys.length=i /\ ∀ (j:Nat) k,j < i->ks[j]?=some k->∃ r,ys[j]?=some (V.ref r) /\ H' r=some (.tup [.int k,.int j])) ⟨_,_,rfl,.refl _,rfl,fun _ _ h=>by omega⟩ (fun i ys σ H' _ ⟨_,_,_,s,l,_⟩=>⟨SqL.of (s _ _ (hky)),Nat.le_of_eq l⟩) ?_ ?_
 .rintro i ys x σ H' p hi hx ⟨v,w,rfl,s3,hl,hth⟩ hp
  obtain ⟨k,hk,rfl⟩:=ZCd hx
  walk_at "rd"
  refine ZDX (SqT.of ZAE) rfl ?_
  walk_at "rd"
  refine ⟨ZAj (by decide),fun t ht=>?_⟩
  refine Nxt.of hi ⟨_,_,rfl,(s3.new hp).new ht,by rw [yAF,hl];rfl,fun j k' hj hk'=>?_⟩
  by_cases z:j < i
  .obtain ⟨r,a1,a2⟩:=hth j k' z hk'
   exact ⟨r,by rw [yAZ (by omega)];exact a1,ZAP ht _ _ _ (ZAP hp _ _ _ a2)⟩
  .have:j=i:=by omega
   subst this
   rw [hk] at hk';cases hk'
   exact ⟨t,by rw [<- hl,yAY (yAA _),yBK];rfl,ZAE⟩
 rintro xs σ H3 ⟨v,w,rfl,s3,hxl,hth⟩ xl hxl0
 rw [yAB] at hxl hth
 obtain ⟨H4,e4,s4,h4⟩:=newH hxl0 (.lst xs)
 rw [e4];clear e4
 have S4:Same H H4:=S1.trans (s3.trans s4)
 have row4:∀ (i:Nat) k,ks[i]?=some k->∃ r,xs[i]?=some (V.ref r) /\ H4 r=some (.tup [.int k,.int i]):=fun i k hk=>by
  have hi:=(yAX.mp hk).1
  obtain ⟨r,a1,a2⟩:=hth i k (by omega) hk
  exact ⟨r,a1,s4 _ _ a2⟩
 have hS4:=S4.seq hS
 have hPt4:=S4 _ _ hPt
 clear hth s3 s4 S1 hky hnky hxl0 S4 hPt hS
 refine ZAv ?_
 walk_at "rd"
 refine ⟨a,ns,2,rfl,hS4,by decide,?_⟩
 generalize cellOf ns 2=c2
 walk_at "rd"
 refine ⟨by decide,?_⟩
 obtain ⟨w0,hw0⟩:∃ w0:Nat,c2 % 4=(w0:Int):=⟨(c2 % 4).toNat,by omega⟩
 rw [hw0]
 refine ZAv ?_
 walk_at "rd"
 refine ⟨yAC _,fun b0 hb0=>?_⟩
 obtain ⟨H5,e5,s5,h5⟩:=newH hb0 (.lst [])
 rw [e5];clear e5
 refine ZAv ?_
 walk_at "rd"
 refine ⟨a,ns,2,rfl,s5.seq hS4,by decide,?_⟩
 apply once3 (fun (wy:Nat) (bl:Addr) (X:Hp)=>wy < 4 /\ (∃ bs:List Int,X bl=some (.lst (bs.map V.int)) /\ bs.length <= 200 /\ (bs≠[]->wy < 2)) /\ Same H4 X)
 .intro tailp
  generalize cellOf ns 2=c2
  walk_at "rd"
  refine ⟨⟨by decide,by decide⟩,by decide,?_⟩
  split
  .obtain ⟨w1,hw1⟩:∃ w1:Nat,((w0:Nat):Int) % 2=(w1:Int):=⟨w0 % 2,by omega⟩
   refine ⟨by decide,?_⟩
   rw [hw1]
   refine ⟨a,ns,2,rfl,s5.seq hS4,by decide,?_⟩
   walk_at "rd"
   refine ⟨⟨by decide,by decide⟩,a,ns,_,rfl,s5.seq hS4,h63,fun l H' zs s hl h hz=>?_⟩
   exact tailp w1 l H' ⟨by omega,⟨zs,h,hz,fun _=>by omega⟩,s5.trans s⟩
  .exact tailp w0 b0 H5 ⟨by omega,⟨[],h5,yAC _,fun z=>absurd rfl z⟩,s5⟩
 intro wy bl X ⟨hwy,⟨bs,hbl,hbz,hbw⟩,sX⟩
 clear h5 s5 hb0 hw0 b0 H5
 refine ZAv ?_
 walk_at "rd"
 obtain ⟨R0,L0,hrun⟩:∃ R0 L0,(wayP wy ks.length).run (anK ks bs) 0=(R0,L0):=⟨_,_,rfl⟩
 have hb0:Bnd wy ks.length L0:=by
  have:=way_bnd (An:=anK ks bs) wy ks.length 0
  rw [hrun] at this;exact this
 have hnn:ks.length * ks.length <= 14161:=Nat.mul_le_mul hkl hkl
 have hl0:L0.length <= ks.length * ks.length:=by
  have:=way_len (An:=anK ks bs) wy ks.length 0
  rw [hrun] at this;exact this
 have ho0:wy≠3->∃ os,R0=.ord os /\ os.Perm (List.range ks.length):=fun z=>by
  have:=way_ord (An:=anK ks bs) (n:=ks.length) (k:=0) z
  rw [hrun] at this;exact this
 refine ⟨yAC _,fun fg hfg=>?_⟩
 obtain ⟨H6,e6,s6,h6⟩:=newH hfg (.lst [])
 rw [e6];clear e6
 have hPt6:=s6 _ _ (sX _ _ hPt4)
 have rowX:∀ (i:Nat) k,ks[i]?=some k->∃ r,xs[i]?=some (V.ref r) /\ X r=some (.tup [.int k,.int i]):=fun i k hk=>by
  obtain ⟨r,a1,a2⟩:=row4 i k hk
  exact ⟨r,a1,sX _ _ a2⟩
 have row6:∀ (i:Nat) k,ks[i]?=some k->∃ r,xs[i]?=some (V.ref r) /\ H6 r=some (.tup [.int k,.int i]):=fun i k hk=>by
  obtain ⟨r,a1,a2⟩:=rowX i k hk
  exact ⟨r,a1,s6 _ _ a2⟩
 have hxX:=sX _ _ h4
 have hSX:=sX.seq hS4
 have nbf:bl≠fg:=ZAG hbl hfg
 clear row4 h4 hS4 sX hPt4
 refine ZAv ?_
 walk_at "rd"
 refine ⟨rfl,.inl hPt6,fun g1 G5 md=>?_⟩
 intro ru1 dr1 hru hdr nrd
 refine ⟨ru1,dr1,g1,rfl,ZAE,fun G7 k7 ir=>⟨rfl,?_⟩⟩
 intro ak1 da1 hak hda nad
 refine ⟨ak1,da1,xl,ru1,.non,xs,rfl,ZAE,pre39 md hru hdr nrd k7 hak hda nad ⟨_,hPt6⟩ (s6 _ _ hxX),fun rl1 tl1 HA k9 nrl ntl nrt ia hrl htl=>⟨rfl,?_⟩⟩
 obtain ⟨st1,kA,tabA,na1,nt1⟩:=open39 (lim:=none) md hru hdr nrd k7 ir hak hda nad k9 nrl ntl nrt ia hrl htl h6 (s6 _ _ hbl) nbf (by omega) hxl row6 ⟨_,hPt6⟩
 clear md hru hdr nrd k7 ir hak hda nad k9 nrl ntl nrt ia hrl htl
 refine ⟨⟨ks,bs,xs,ak1,rl1,ru1,tl1,g1,fg,bl⟩,none,[],wy,fun r pr'=>r=R0 /\ pr'=L0,fun _=>False,rfl,hwy,st1,hkl,Wp.of0 hrun (by show 0+_ <= _;omega) (fun _=>⟨rfl,rfl⟩) (fun m z=>by cases z) (fun m z=>by cases z),fun t wd v X1 L0 fr1 st1' tr ht hnt=>?_⟩
 rcases tr with ⟨rfl,hv,R0,hR,rfl,rfl⟩ | ⟨_,_,z⟩
 rotate_left
 .exact z.elim
 have tab1:=tab_fr tabA st1 fr1
 have kX:Kp X X1:=((Same.kp s6).trans kA).fr (c:=⟨ks,bs,xs,ak1,rl1,ru1,tl1,g1,fg,bl⟩) fr1 (s6.free na1) hfg (s6.free nt1)
 have row1:∀ (i:Nat) k,ks[i]?=some k->∃ r,xs[i]?=some (V.ref r) /\ X1 r=some (.tup [.int k,.int i]):=fun i k hk=>by
  obtain ⟨r,a1,a2⟩:=rowX i k hk
  exact ⟨r,a1,kX.tup a2⟩
 have h1xl:=kX.lst hxX
 have h1bl:=kX.lst hbl
 have hS1:=kX.seq hSX
 have hst:St39 K X1 a ns ks bs xs xl bl fg v R0 L0:=⟨h1xl,h1bl,row1,hS1,st1'.hlg,hR⟩
 clear st1 kA tabA fr1 s6 hfg h6 hPt6 rowX row6 hxX hbl hSX kX na1 nt1 st1' hnt hv row1 h1xl h1bl hS1 hR
 refine ZDX (SqT.of ht) rfl ?_
 walk_at "rd"
 clear ht
 refine ZAv ?_
 walk_at "rd"
 rw [if_neg (by simp)]
 obtain ⟨ws0,h1fg,htd0⟩:=hst.log
 refine ⟨xl,_,rfl,.inl (SqL.of hst.hx),?_⟩
 rw [hxl]
 refine ⟨wy,ks.length,fg,ws0,L0,rfl,h1fg,htd0,hb0,hkl,by omega,fun X2 s2=>⟨true,rfl,?_⟩⟩
 rw [if_neg (by decide)]
 replace hst:=hst.kp (Same.kp s2)
 replace tab1:=ZDJ tab1 s2
 clear h1fg htd0 s2 ws0
 refine ZAv ?_
 walk_at "rd"
 apply once1 (fun (Y:Hp)=>Same X2 Y)
 .intro tailp
  by_cases h3:wy≠3
  .rw [if_pos (by omega)]
   obtain ⟨os,eR,hp⟩:=ho0 h3
   obtain ⟨l0,ev,hl0'⟩:RsAt X2 v (.ord os):=by rw [<- eR];exact hst.rs
   refine ⟨xl,_,rfl,.inl (SqL.of hst.hx),?_⟩
   rw [hxl]
   refine ⟨l0,os,ks.length,by rw [ev],hl0',hp,hkl,fun Y sY=>⟨true,rfl,?_⟩⟩
   rw [if_neg (by decide)]
   exact tailp Y sY
  .rw [if_neg (by omega)]
   exact tailp X2 (.refl _)
 intro X3 s3
 replace hst:=hst.kp (Same.kp s3)
 replace tab1:=ZDJ tab1 s3
 clear s3
 refine ZAv ?_
 walk_at "rd"
 obtain ⟨ws0,h3fg,htd0⟩:=hst.log
 refine ⟨fg,_,rfl,.inl (SqL.of h3fg),?_⟩
 rw [htd0.len]
 clear h3fg htd0 ws0
 refine ZAv ?_
 walk_at "rd"
 refine ⟨a,ns,3,rfl,hst.scr,by decide,?_⟩
 generalize cellOf ns 3=c3
 walk_at "rd"
 refine ⟨by omega,?_⟩
 obtain ⟨mo,hmo,hmo2⟩:∃ mo:Nat,c3 % ((L0.length:Int)+3)=(mo:Int) /\ mo <= L0.length+2:=by
  have q1:=Int.emod_nonneg c3 (show ((L0.length:Int)+3)≠0 by omega)
  have q2:=Int.emod_lt_of_pos c3 (show (0:Int) < (L0.length:Int)+3 by omega)
  exact ⟨(c3 % ((L0.length:Int)+3)).toNat,by omega,by omega⟩
 rw [hmo]
 clear hmo
 refine ZAv ?_
 walk_at "rd"
 refine ⟨yAC _,fun lg hlg=>?_⟩
 obtain ⟨H6,e6,s6,h6⟩:=newH hlg (.lst [])
 rw [e6];clear e6
 replace tab1:=ZDJ tab1 s6
 have nbf:bl≠lg:=ZAG hst.hb hlg
 have row6:=(hst.kp (Same.kp s6)).row
 refine ZAv ?_
 walk_at "rd"
 refine ⟨rfl,tab1,fun g1 G5 md=>?_⟩
 intro ru1 dr1 hru hdr nrd
 refine ⟨ru1,dr1,g1,rfl,ZAE,fun G7 k7 ir=>⟨rfl,?_⟩⟩
 intro ak1 da1 hak hda nad
 refine ⟨ak1,da1,xl,ru1,.int mo,xs,rfl,ZAE,pre39 md hru hdr nrd k7 hak hda nad (tab_some tab1) (s6 _ _ hst.hx),fun rl1 tl1 HA k9 nrl ntl nrt ia hrl htl=>⟨rfl,?_⟩⟩
 obtain ⟨st1,kA,tabA,na1,nt1⟩:=open39 (lim:=some mo) md hru hdr nrd k7 ir hak hda nad k9 nrl ntl nrt ia hrl htl h6 (s6 _ _ hst.hb) nbf (by omega) hxl row6 (tab_some tab1)
 clear md hru hdr nrd k7 ir hak hda nad k9 nrl ntl nrt ia hrl htl row6
 have kX:Kp X3 HA:=(Same.kp s6).trans kA
 have nx1:X3 ak1=none:=s6.free na1
 have nx2:X3 tl1=none:=s6.free nt1
 clear kA tabA na1 nt1 tab1 s6 h6 nbf
 obtain ⟨c2,hc2⟩:∃ c2:Ad,c2=⟨ks,bs,xs,ak1,rl1,ru1,tl1,g1,lg,bl⟩:=⟨_,rfl⟩
 rw [<- hc2] at st1
 have eks:c2.ks=ks:=by rw [hc2]
 have elg:c2.lg=lg:=by rw [hc2]
 have eak:c2.a=ak1:=by rw [hc2]
 have ean:c2.an=anK ks bs:=by rw [hc2];rfl
 have etl:c2.tl=tl1:=by rw [hc2]
 clear hc2
 subst eak elg etl
 refine ZAv ?_
 walk_at "rd"
 refine ⟨c2,some mo,[],wy,fun r pr'=>r=R0 /\ pr'=L0 /\ L0.length <= mo,fun pr'=>pr'=L0.take mo /\ mo < L0.length,rfl,hwy,st1,by rw [eks];exact hkl,?_,fun t wd v2 X4 pr4 fr4 st4 tr ht hnt=>?_⟩
 .rw [ean,eks]
  exact Wp.of0 hrun (by show 0+_ <= _;omega) (fun z=>⟨rfl,rfl,by have:=z mo rfl;simpa using this⟩) (fun m e z=>by cases e;exact ⟨rfl,by simpa using z⟩) (fun m e=>yAC _)
 have kX4:Kp X3 X4:=kX.fr fr4 nx1 hlg nx2
 have hst4:=hst.kp kX4
 have hpr4:pr4=L0.take (min L0.length mo):=by
  rcases tr with ⟨_,_,r,_,_,e,hle⟩ | ⟨_,_,e,hlt⟩
  .rw [e,yBP hle,yBY (yAA _)]
  .rw [e,Nat.min_eq_right (yBH hlt)]
 clear kX fr4 st1
 refine ZDX (SqT.of ht) rfl ?_
 walk_at "rd"
 clear ht hnt
 refine ZAv ?_
 walk_at "rd"
 apply once0
 .intro tailp
  rcases tr with ⟨ewd,_,r,hR,er,e,hle⟩ | ⟨ewd,ev2,e,hlt⟩
  .rw [if_neg (Int.not_lt.mpr (Int.ofNat_le.mpr hle)),if_neg (by rw [ewd];simp)]
   rw [er] at hR
   refine ZDV hR.dp hst4.rs.dp (ZD8 R0).1 (ZD8 R0).2 ?_
   refine ⟨_,rfl,?_⟩
   rw [if_neg (by decide)]
   exact tailp
  .rw [if_pos (Int.ofNat_lt.mpr hlt),if_neg (by rw [ewd];simp)]
   refine ⟨_,by rw [ev2],true,rfl,?_⟩
   rw [if_neg (by decide)]
   refine ⟨by rw [ev2];rfl,?_⟩
   refine ⟨_,rfl,?_⟩
   rw [if_neg (by rw [ev2,e,yAK,yBP (yBH hlt)];simp)]
   exact tailp
 clear tr
 refine ZAv ?_
 walk_at "rd"
 refine ⟨_,_,rfl,?_⟩
 rw [show (if (mo:Int) < (L0.length:Int) then (mo:Int) else (L0.length:Int))=((min L0.length mo:Nat):Int) by split <;> omega]
 obtain ⟨mk,hmk⟩:∃ mk,mk=min L0.length mo:=⟨_,rfl⟩
 rw [<- hmk] at hpr4 ⊢
 have hpl:pr4.length=mk:=by rw [hpr4,yAK];omega
 have hmk1:mk <= L0.length:=by omega
 have hmk2:mk <= mo:=by omega
 clear hmk
 refine ZAv ?_
 walk_at "rd"
 obtain ⟨ws0,h4fg,htd0⟩:=hst4.log
 obtain ⟨ws4,h4lg,htd4⟩:=st4.hlg
 refine ZCm (SqL.of h4fg) fun sl hsl=>?_
 rw [cutV_to (by rw [htd0.len];exact hmk1)]
 obtain ⟨X5,e5,s5,h5⟩:=newH hsl (.lst (ws0.take mk))
 rw [e5];clear e5
 have td5:=htd4.keep fun _ _ z=>s5 _ _ z
 refine ZDV (d:=.list (pr4.map a3D)) (ZCJ (SqL.of (s5 _ _ h4lg)) td5.dp) (ZCJ (SqL.of h5) (by rw [hpr4];exact ((htd0.keep fun _ _ z=>s5 _ _ z).take mk).dp)) (ZDi _) (ZD4 _) ?_
 refine ⟨_,rfl,?_⟩
 rw [if_neg (by decide)]
 have st5:=st4.mono s5
 have hst5:=hst4.kp (Same.kp s5)
 clear st4 hst4 h4fg htd0 h5 hsl
 refine st5.ha.get T.cl_Asker T.n_Asker_asked (by walk_at "lk") ?_
 walk_at "rd"
 rw [if_neg (by rw [hpl];simp)]
 obtain ⟨ts5,h5tl,htt5⟩:=st5.htl
 refine st5.ha.meth (by walk_at "lk") ⟨c2.a,c2.rl,c2.ru,c2.tl,_,_,ts5,rfl,st5.ha,h5tl,fun l6 X6 s6 hl6 h6=>?_⟩
 refine ZDV (d:=.list (pr4.map a3D)) (ZCJ (SqL.of h6) (htt5.keep fun _ _ z=>s6 _ _ z).dp) (ZCJ (SqL.of (s6 _ _ (s5 _ _ h4lg))) (td5.keep fun _ _ z=>s6 _ _ z).dp) (ZDi _) (ZD4 _) ?_
 refine ⟨_,rfl,?_⟩
 rw [if_neg (by decide)]
 have st6:=st5.mono s6
 have hst6:=hst5.kp (Same.kp s6)
 have k36:Kp X3 X6:=kX4.trans ((Same.kp s5).trans (Same.kp s6))
 clear kX4 st5 hst5 h5tl htt5 td5 h4lg htd4 s5 s6 h6 hl6
 refine ZAv ?_
 walk_at "rd"
 refine st6.ha.meth (by walk_at "lk") ?_
 refine ⟨xl,_,rfl,.inl (SqL.of hst6.hx),xl,_,rfl,.inl (SqL.of hst6.hx),?_⟩
 rw [hxl]
 refine ⟨.inl ⟨by omega,by omega⟩,?_⟩
 refine ⟨c2.a,c2.rl,c2.ru,c2.tl,_,_,_,rfl,st6.ha,.inr ⟨_,rfl⟩,fun X7 k7 ha7=>?_⟩
 have st7:SitR C_Asker C_AskedRule X7 (some (mo+(L0.length+ks.length * ks.length))) c2 pr4:=st6.widened k7 (by
  show Ins X7 c2.a C_Asker (fA c2.rl c2.ru (.int ((mo+(L0.length+ks.length * ks.length):Nat):Int)) pr4.length c2.tl)
  rw [Int.natCast_add,Int.natCast_add,Int.natCast_mul]
  exact ha7)
 have k37:Kp X3 X7:=fun b o n m h=>by
  have h6:=k36 b o n m h
  rw [k7 b (st6.ha.ne h6 m)]
  exact h6
 clear st6 hst6 k7 ha7 k36 X4 X5 X6
 obtain ⟨R1,L1,hrun1⟩:∃ R1 L1,(wayP wy ks.length).run (anK ks bs) mk=(R1,L1):=⟨_,_,rfl⟩
 have hb1:Bnd wy ks.length L1:=by
  have:=way_bnd (An:=anK ks bs) wy ks.length mk
  rw [hrun1] at this;exact this
 have hl1:L1.length <= ks.length * ks.length:=by
  have:=way_len (An:=anK ks bs) wy ks.length mk
  rw [hrun1] at this;exact this
 have ho1:wy≠3->∃ os,R1=.ord os /\ os.Perm (List.range ks.length):=fun z=>by
  have:=way_ord (An:=anK ks bs) (n:=ks.length) (k:=mk) z
  rw [hrun1] at this;exact this
 have hsame:bs=[]->R1=R0 /\ L1=L0:=fun z=>by
  rw [z] at hrun hrun1
  rw [Pg.run_ind (fun k k' p q=>anK_ind k k' p q) _ mk 0,hrun] at hrun1
  cases hrun1
  exact ⟨rfl,rfl⟩
 refine ZAv ?_
 walk_at "rd"
 refine ⟨c2,_,pr4,wy,fun r pr'=>r=R1 /\ pr'=pr4++L1,fun _=>False,rfl,hwy,st7,by rw [eks];exact hkl,?_,fun t wd v3 X8 pr8 fr8 st8 tr ht hnt=>?_⟩
 .rw [ean,eks]
  exact Wp.of0 (by rw [hpl];exact hrun1) (by omega) (fun _=>⟨rfl,rfl⟩) (fun m e z=>by cases e;omega) (fun m e=>by cases e;omega)
 rcases tr with ⟨ewd,_,R,hR,eR,epr⟩ | ⟨_,_,z⟩
 rotate_left
 .exact z.elim
 subst epr eR
 have hst8:=hst.kp (k37.fr fr8 nx1 hlg nx2)
 clear hst k37 fr8 st7 hnt
 refine ZDX (SqT.of ht) rfl ?_
 walk_at "rd"
 clear ht
 rw [if_neg (by rw [ewd];simp)]
 obtain ⟨ws8,h8lg,htd8⟩:=st8.hlg
 refine ZCm (SqL.of h8lg) fun sl hsl=>?_
 have hdl:mk <= ws8.length:=by rw [htd8.len,yAF];omega
 have edr:(pr4++L1).drop mk=L1:=by rw [<- hpl,List.drop_left]
 rw [ZC0 ws8 mk hdl]
 obtain ⟨X9,e9,s9,h9⟩:=newH hsl (.lst (ws8.drop mk))
 rw [e9];clear e9
 have st9:=st8.mono s9
 have hst9:=hst8.kp (Same.kp s9)
 have td9:=(htd8.keep (H':=X9) fun _ _ z=>s9 _ _ z).drop mk
 rw [edr] at td9
 refine ⟨xl,_,rfl,.inl (SqL.of hst9.hx),?_⟩
 rw [hxl]
 refine ⟨wy,ks.length,sl,_,L1,rfl,h9,td9,hb1,hkl,by omega,fun Y sY=>⟨true,rfl,?_⟩⟩
 rw [if_neg (by decide)]
 have st10:=st9.mono sY
 have hst10:=hst9.kp (Same.kp sY)
 have hR10:=hR.mono (s9.trans sY)
 clear st8 hst8 st9 hst9 hR td9 h9 sY s9 hsl h8lg htd8 hdl
 obtain ⟨ws,hlg10,td10⟩:=st10.hlg
 refine st10.ha.get T.cl_Asker T.n_Asker_asked (by walk_at "lk") ?_
 refine ⟨c2.lg,ws,rfl,.inl (SqL.of hlg10),?_⟩
 rw [td10.len]
 walk_at "rd"
 rw [if_neg (by simp)]
 refine ⟨yAC _,fun e0 he0=>?_⟩
 obtain ⟨Z,eZ,sZ,hZ⟩:=newH he0 (.lst [])
 rw [eZ];clear eZ
 have st11:=st10.mono sZ
 have hst11:=hst10.kp (Same.kp sZ)
 have hR11:=hR10.mono sZ
 have hlg11:=sZ _ _ hlg10
 have td11:=td10.keep (H':=Z) fun _ _ z=>sZ _ _ z
 refine eqD_of Enc.int.list (by decide) (a:=bs) (b:=[]) (ZBi (SqL.of hst11.hb)) (ZBi (xs:=[]) (SqL.of hZ)) ⟨_,rfl,?_⟩
 by_cases hbe:bs=[]
 .rw [if_pos (by rw [hbe];simp)]
  obtain ⟨eR,eL⟩:=hsame hbe
  rw [eR] at hR11
  refine eqD_refl hR11.dp hst11.rs.dp (ZD8 R0).1 (ZD8 R0).2 ?_
  refine ⟨_,rfl,?_⟩
  rw [if_pos rfl]
  refine ZCm (SqL.of hlg11) fun s2 hs2=>?_
  rw [ZC0 ws mk (by rw [td11.len,yAF];omega)]
  obtain ⟨ws0,hfg,htd0⟩:=hst11.log
  refine eqD_refl (d:=.list (L0.map a3D)) (ZCJ (SqL.of ZAE) ?_) (ZCJ (SqL.of (ZAP hs2 _ _ _ hfg)) (htd0.keep fun _ _ z=>ZAP hs2 _ _ _ z).dp) (ZDi _) (ZD4 _) (q _)
  have:=(td11.keep (H':=upd Z s2 (.lst (ws.drop mk))) fun _ _ z=>ZAP hs2 _ _ _ z).drop mk
  rw [edr,eL] at this
  exact this.dp
 .rw [if_neg (by simpa using hbe)]
  obtain ⟨os,eR,hp⟩:=ho1 (by have:=hbw hbe;omega)
  rw [eR] at hR11
  obtain ⟨l0,ev,hl0'⟩:=hR11
  refine ⟨xl,_,rfl,.inl (SqL.of hst11.hx),?_⟩
  rw [hxl]
  exact ⟨l0,os,ks.length,by rw [ev],hl0',hp,hkl,fun Y _=>q Y⟩
end
theorem all_mk {l:PySem.W.OpenLaw} {w:World} {K:W.Frag} {h:Heap} {mg:Str->Option Value} {fa C_zaE f_zah T_zah f_zak f_zad f_zaf f_zag C_zaD f_zac f_zaa C_HallError C_TooFar C_Spent f_zaj f_zap f_zab f_zai f_zal f_zao f_zae T_zae f_zam f_zaq f_zar f_zav f_zau f_zat f_zaA f_zaB f_zay f_zaw f_zaz f_zan f_zax f_zaC f_zas cc_zas Pt_zas:Addr} (X:K.In h) (G:h.Ns mainGlobals mg) (hfa:mg "law"=some (.ref fa))
  {ocT_zah:Value} {odT_zah:Option Addr} {nT_zah:Nat} {slT_zah:Array (Option Value)}
  {od_zah an_zah:Option Addr} {sl_zah:Array (Option Value)} {oc_zah kV_zah dc_zah pm_zah cd_zah ct_zah:Value}
  {od_zak an_zak:Option Addr} {sl_zak:Array (Option Value)} {oc_zak kV_zak dc_zak pm_zak cd_zak ct_zak:Value}
  {od_zad an_zad:Option Addr} {sl_zad:Array (Option Value)} {oc_zad kV_zad dc_zad pm_zad cd_zad ct_zad:Value}
  {od_zaf an_zaf:Option Addr} {sl_zaf:Array (Option Value)} {oc_zaf kV_zaf dc_zaf pm_zaf cd_zaf ct_zaf:Value}
  {od_zag an_zag:Option Addr} {sl_zag:Array (Option Value)} {oc_zag kV_zag dc_zag pm_zag cd_zag ct_zag:Value}
  {od_zac an_zac:Option Addr} {sl_zac:Array (Option Value)} {oc_zac kV_zac dc_zac pm_zac cd_zac ct_zac:Value}
  {od_zaa an_zaa:Option Addr} {sl_zaa:Array (Option Value)} {oc_zaa kV_zaa dc_zaa pm_zaa cd_zaa ct_zaa:Value}
  {od_zaj an_zaj:Option Addr} {sl_zaj:Array (Option Value)} {oc_zaj kV_zaj dc_zaj pm_zaj cd_zaj ct_zaj:Value}
  {od_zap an_zap:Option Addr} {sl_zap:Array (Option Value)} {oc_zap kV_zap dc_zap pm_zap cd_zap ct_zap:Value}
  {od_zab an_zab:Option Addr} {sl_zab:Array (Option Value)} {oc_zab kV_zab dc_zab pm_zab cd_zab ct_zab:Value}
  {od_zai an_zai:Option Addr} {sl_zai:Array (Option Value)} {oc_zai kV_zai dc_zai pm_zai cd_zai ct_zai:Value}
  {od_zal an_zal:Option Addr} {sl_zal:Array (Option Value)} {oc_zal kV_zal dc_zal pm_zal cd_zal ct_zal:Value}
  {od_zao an_zao:Option Addr} {sl_zao:Array (Option Value)} {oc_zao kV_zao dc_zao pm_zao cd_zao ct_zao:Value}
  {ocT_zae:Value} {odT_zae:Option Addr} {nT_zae:Nat} {slT_zae:Array (Option Value)}
  {od_zae an_zae:Option Addr} {sl_zae:Array (Option Value)} {oc_zae kV_zae dc_zae pm_zae cd_zae ct_zae:Value}
  {od_zam an_zam:Option Addr} {sl_zam:Array (Option Value)} {oc_zam kV_zam dc_zam pm_zam cd_zam ct_zam:Value}
  {od_zaq an_zaq:Option Addr} {sl_zaq:Array (Option Value)} {oc_zaq kV_zaq dc_zaq pm_zaq cd_zaq ct_zaq:Value}
  {od_zar an_zar:Option Addr} {sl_zar:Array (Option Value)} {oc_zar kV_zar dc_zar pm_zar cd_zar ct_zar:Value}
  {od_zav an_zav:Option Addr} {sl_zav:Array (Option Value)} {oc_zav kV_zav dc_zav pm_zav cd_zav ct_zav:Value}
  {od_zau an_zau:Option Addr} {sl_zau:Array (Option Value)} {oc_zau kV_zau dc_zau pm_zau cd_zau ct_zau:Value}
  {od_zat an_zat:Option Addr} {sl_zat:Array (Option Value)} {oc_zat kV_zat dc_zat pm_zat cd_zat ct_zat:Value}
  {od_zaA an_zaA:Option Addr} {sl_zaA:Array (Option Value)} {oc_zaA kV_zaA dc_zaA pm_zaA cd_zaA ct_zaA:Value}
  {od_zaB an_zaB:Option Addr} {sl_zaB:Array (Option Value)} {oc_zaB kV_zaB dc_zaB pm_zaB cd_zaB ct_zaB:Value}
  {od_zay an_zay:Option Addr} {sl_zay:Array (Option Value)} {oc_zay kV_zay dc_zay pm_zay cd_zay ct_zay:Value}
  {od_zaw an_zaw:Option Addr} {sl_zaw:Array (Option Value)} {oc_zaw kV_zaw dc_zaw pm_zaw cd_zaw ct_zaw:Value}
  {od_zaz an_zaz:Option Addr} {sl_zaz:Array (Option Value)} {oc_zaz kV_zaz dc_zaz pm_zaz cd_zaz ct_zaz:Value}
  {od_zan an_zan:Option Addr} {sl_zan:Array (Option Value)} {oc_zan kV_zan dc_zan pm_zan cd_zan ct_zan:Value}
  {od_zax an_zax:Option Addr} {sl_zax:Array (Option Value)} {oc_zax kV_zax dc_zax pm_zax cd_zax ct_zax:Value}
  {od_zaC an_zaC:Option Addr} {sl_zaC:Array (Option Value)} {oc_zaC kV_zaC dc_zaC pm_zaC cd_zaC ct_zaC:Value}
  {oc2_zas:Value} {od2_zas:Option Addr} {vs_zas:Array Value} {sl2_zas:Array (Option Value)}
  {od_zas an_zas:Option Addr} {sl_zas:Array (Option Value)} {oc_zas kV_zas dc_zas pm_zas ct_zas:Value}
  (a_zaE:W.nsIn K mainGlobals "Asker"=some (some (.ref C_zaE)))
  (pg_zaE:PySem.W.plainGet K C_zaE Str.empty=true)
  (hd_zaE:PySem.W.hasDictIn K C_zaE=true)
  (po_zaE:PySem.W.plainOver K C_zaE=true)
  (sa_zaE:W.findIn K (.ref C_zaE) "__setattr__"=some (some (.builtin "object.__setattr__")))
  (mk_zaE:PySem.W.makesIn K C_zaE=true)
  (kc_zaE:W.keepIn K (.ref C_zaE)=true)
  (n_zaE_row:W.findIn K (.ref C_zaE) "row"=some none)
  (n_zaE_rule:W.findIn K (.ref C_zaE) "rule"=some none)
  (n_zaE_most:W.findIn K (.ref C_zaE) "most"=some none)
  (n_zaE_asked:W.findIn K (.ref C_zaE) "asked"=some none)
  (n_zaE_told:W.findIn K (.ref C_zaE) "told"=some none)
  (a_zah:W.findIn K (.ref C_zaE) "__init__"=some (some (.ref f_zah)))
  (i_zah:PySem.W.isFn K (.ref f_zah)=true)
  (l_zah:K.lookup f_zah=some ⟨oc_zah,od_zah,.func (W.fnOf "__init__" "Asker.__init__" (ZAN ZA0) (ZAL ZA0) (ZAB ZA0) (.ref T_zah) kV_zah dc_zah pm_zah an_zah cd_zah ct_zah),sl_zah⟩)
  (c_zah:W.codeIn K cd_zah "Asker.__init__"=true)
  (d_zah:K.lookup T_zah=some ⟨ocT_zah,odT_zah,.seq ([.none]:List Value).toArray nT_zah,slT_zah⟩)
  (k_zah:W.keepIn K (.ref f_zah)=true)
  (a_zak:W.findIn K (.ref C_zaE) "many"=some (some (.ref f_zak)))
  (i_zak:PySem.W.isFn K (.ref f_zak)=true)
  (l_zak:K.lookup f_zak=some ⟨oc_zak,od_zak,.func (W.fnOf "many" "Asker.many" (ZAN ZAz) (ZAL ZAz) (ZAB ZAz) .none kV_zak dc_zak pm_zak an_zak cd_zak ct_zak),sl_zak⟩)
  (c_zak:W.codeIn K cd_zak "Asker.many"=true)
  (k_zak:W.keepIn K (.ref f_zak)=true)
  (a_zad:W.findIn K (.ref C_zaE) "answers"=some (some (.ref f_zad)))
  (i_zad:PySem.W.isFn K (.ref f_zad)=true)
  (l_zad:K.lookup f_zad=some ⟨oc_zad,od_zad,.func (W.fnOf "answers" "Asker.answers" (ZAN ZAg) (ZAL ZAg) (ZAB ZAg) .none kV_zad dc_zad pm_zad an_zad cd_zad ct_zad),sl_zad⟩)
  (c_zad:W.codeIn K cd_zad "Asker.answers"=true)
  (k_zad:W.keepIn K (.ref f_zad)=true)
  (a_zaf:W.findIn K (.ref C_zaE) "widen"=some (some (.ref f_zaf)))
  (i_zaf:PySem.W.isFn K (.ref f_zaf)=true)
  (l_zaf:K.lookup f_zaf=some ⟨oc_zaf,od_zaf,.func (W.fnOf "widen" "Asker.widen" (ZAN ZAn) (ZAL ZAn) (ZAB ZAn) .none kV_zaf dc_zaf pm_zaf an_zaf cd_zaf ct_zaf),sl_zaf⟩)
  (c_zaf:W.codeIn K cd_zaf "Asker.widen"=true)
  (k_zaf:W.keepIn K (.ref f_zaf)=true)
  (a_zag:W.findIn K (.ref C_zaE) "ahead"=some (some (.ref f_zag)))
  (i_zag:PySem.W.isFn K (.ref f_zag)=true)
  (l_zag:K.lookup f_zag=some ⟨oc_zag,od_zag,.func (W.fnOf "ahead" "Asker.ahead" (ZAN ZAo) (ZAL ZAo) (ZAB ZAo) .none kV_zag dc_zag pm_zag an_zag cd_zag ct_zag),sl_zag⟩)
  (c_zag:W.codeIn K cd_zag "Asker.ahead"=true)
  (k_zag:W.keepIn K (.ref f_zag)=true)
  (a_zaD:W.nsIn K mainGlobals "AskedRule"=some (some (.ref C_zaD)))
  (pg_zaD:PySem.W.plainGet K C_zaD Str.empty=true)
  (hd_zaD:PySem.W.hasDictIn K C_zaD=true)
  (po_zaD:PySem.W.plainOver K C_zaD=true)
  (sa_zaD:W.findIn K (.ref C_zaD) "__setattr__"=some (some (.builtin "object.__setattr__")))
  (mk_zaD:PySem.W.makesIn K C_zaD=true)
  (kc_zaD:W.keepIn K (.ref C_zaD)=true)
  (n_zaD_teller:W.findIn K (.ref C_zaD) "teller"=some none)
  (a_zac:W.findIn K (.ref C_zaD) "__init__"=some (some (.ref f_zac)))
  (i_zac:PySem.W.isFn K (.ref f_zac)=true)
  (l_zac:K.lookup f_zac=some ⟨oc_zac,od_zac,.func (W.fnOf "__init__" "AskedRule.__init__" (ZAN ZAd) (ZAL ZAd) (ZAB ZAd) .none kV_zac dc_zac pm_zac an_zac cd_zac ct_zac),sl_zac⟩)
  (c_zac:W.codeIn K cd_zac "AskedRule.__init__"=true)
  (k_zac:W.keepIn K (.ref f_zac)=true)
  (a_zaa:W.findIn K (.ref C_zaD) "before"=some (some (.ref f_zaa)))
  (i_zaa:PySem.W.isFn K (.ref f_zaa)=true)
  (l_zaa:K.lookup f_zaa=some ⟨oc_zaa,od_zaa,.func (W.fnOf "before" "AskedRule.before" (ZAN ZAW) (ZAL ZAW) (ZAB ZAW) .none kV_zaa dc_zaa pm_zaa an_zaa cd_zaa ct_zaa),sl_zaa⟩)
  (c_zaa:W.codeIn K cd_zaa "AskedRule.before"=true)
  (k_zaa:W.keepIn K (.ref f_zaa)=true)
  (a_HallError:W.nsIn K mainGlobals "HallError"=some (some (.ref C_HallError)))
  (a_TooFar:W.nsIn K mainGlobals "TooFar"=some (some (.ref C_TooFar)))
  (a_Spent:W.nsIn K mainGlobals "Spent"=some (some (.ref C_Spent)))
  (a_zaj:W.findIn K (.ref C_Spent) "__init__"=some (some (.ref f_zaj)))
  (i_zaj:PySem.W.isFn K (.ref f_zaj)=true)
  (l_zaj:K.lookup f_zaj=some ⟨oc_zaj,od_zaj,.func (W.fnOf "__init__" "Spent.__init__" (ZAN ZAy) (ZAL ZAy) (ZAB ZAy) .none kV_zaj dc_zaj pm_zaj an_zaj cd_zaj ct_zaj),sl_zaj⟩)
  (c_zaj:W.codeIn K cd_zaj "Spent.__init__"=true)
  (k_zaj:W.keepIn K (.ref f_zaj)=true)
  (xg_Spent:W.findIn K (.ref C_Spent) "__getattribute__"=some (some (.builtin "BaseException.__getattribute__")))
  (xh_Spent:W.findIn K (.ref C_Spent) "__getattr__"=some none)
  (xa_Spent:W.findIn K (.ref C_Spent) "__class__"=some (some (.builtin "object.__class__")))
  (xs_Spent:PySem.W.specialIn K (.builtin "object.__class__") "__get__"=some (some (.builtin "getset_descriptor.__get__")))
  (xt_Spent:PySem.W.takesIn K (.builtin "object.__class__")=some true)
  (xo_Spent:PySem.W.mroIn K C_Spent (.type "object")=some true)
  (xb_Spent:PySem.W.mroIn K C_Spent (.type "BaseException")=some true)
  (xd_Spent:PySem.W.hasDictIn K C_Spent=true)
  (xv_Spent:ZD2 K C_Spent=true)
  (xw_Spent:W.findIn K (.ref C_Spent) "__setattr__"=some (some (.builtin "object.__setattr__")))
  (xi_Spent:ZCU K C_Spent f_zaj bmV "ValueError.__new__"=true)
  (xp_Spent:W.keepIn K (.ref C_Spent)=true)
  (xm_Spent_Spent:PySem.W.exmOne K (.ref C_Spent) (.ref C_Spent)=some true)
  (n_Spent_asked:W.findIn K (.ref C_Spent) "asked"=some none)
  (xbg_HallError:PySem.W.specialIn K (.ref C_HallError) "__getattribute__"=some (some (.builtin "type.__getattribute__")))
  (xbr_HallError:PySem.W.readsIn K C_HallError (.type "type")=true)
  (xbf_HallError:PySem.W.findCls K (.ref C_HallError) (.type "type") "__init__"=some (.val (.builtin "ValueError.__init__")))
  (a_zap:W.nsIn K mainGlobals "spot_of"=some (some (.ref f_zap)))
  (l_zap:K.lookup f_zap=some ⟨oc_zap,od_zap,.func (W.fnOf "spot_of" "spot_of" (ZAN ZBM) (ZAL ZBM) (ZAB ZBM) .none kV_zap dc_zap pm_zap an_zap cd_zap ct_zap),sl_zap⟩)
  (c_zap:W.codeIn K cd_zap "spot_of"=true)
  (k_zap:W.keepIn K (.ref f_zap)=true)
  (a_zab:W.nsIn K mainGlobals "spot_from_behind"=some (some (.ref f_zab)))
  (l_zab:K.lookup f_zab=some ⟨oc_zab,od_zab,.func (W.fnOf "spot_from_behind" "spot_from_behind" (ZAN ZAV) (ZAL ZAV) (ZAB ZAV) .none kV_zab dc_zab pm_zab an_zab cd_zab ct_zab),sl_zab⟩)
  (c_zab:W.codeIn K cd_zab "spot_from_behind"=true)
  (k_zab:W.keepIn K (.ref f_zab)=true)
  (a_zai:W.nsIn K mainGlobals "by_putting"=some (some (.ref f_zai)))
  (l_zai:K.lookup f_zai=some ⟨oc_zai,od_zai,.func (W.fnOf "by_putting" "by_putting" (ZAN ZAx) (ZAL ZAx) (ZAB ZAx) .none kV_zai dc_zai pm_zai an_zai cd_zai ct_zai),sl_zai⟩)
  (c_zai:W.codeIn K cd_zai "by_putting"=true)
  (k_zai:W.keepIn K (.ref f_zai)=true)
  (a_zal:W.nsIn K mainGlobals "by_walking"=some (some (.ref f_zal)))
  (l_zal:K.lookup f_zal=some ⟨oc_zal,od_zal,.func (W.fnOf "by_walking" "by_walking" (ZAN ZAw) (ZAL ZAw) (ZAB ZAw) .none kV_zal dc_zal pm_zal an_zal cd_zal ct_zal),sl_zal⟩)
  (c_zal:W.codeIn K cd_zal "by_walking"=true)
  (k_zal:W.keepIn K (.ref f_zal)=true)
  (a_zao:W.nsIn K mainGlobals "by_reach"=some (some (.ref f_zao)))
  (l_zao:K.lookup f_zao=some ⟨oc_zao,od_zao,.func (W.fnOf "by_reach" "by_reach" (ZAN ZBB) (ZAL ZBB) (ZAB ZBB) .none kV_zao dc_zao pm_zao an_zao cd_zao ct_zao),sl_zao⟩)
  (c_zao:W.codeIn K cd_zao "by_reach"=true)
  (k_zao:W.keepIn K (.ref f_zao)=true)
  (a_zae:W.nsIn K mainGlobals "stretch_from"=some (some (.ref f_zae)))
  (l_zae:K.lookup f_zae=some ⟨oc_zae,od_zae,.func (W.fnOf "stretch_from" "stretch_from" (ZAN ZAm) (ZAL ZAm) (ZAB ZAm) (.ref T_zae) kV_zae dc_zae pm_zae an_zae cd_zae ct_zae),sl_zae⟩)
  (c_zae:W.codeIn K cd_zae "stretch_from"=true)
  (d_zae:K.lookup T_zae=some ⟨ocT_zae,odT_zae,.seq ([.none]:List Value).toArray nT_zae,slT_zae⟩)
  (k_zae:W.keepIn K (.ref f_zae)=true)
  (a_zam:W.nsIn K mainGlobals "stretches"=some (some (.ref f_zam)))
  (l_zam:K.lookup f_zam=some ⟨oc_zam,od_zam,.func (W.fnOf "stretches" "stretches" (ZAN ZA4) (ZAL ZA4) (ZAB ZA4) .none kV_zam dc_zam pm_zam an_zam cd_zam ct_zam),sl_zam⟩)
  (c_zam:W.codeIn K cd_zam "stretches"=true)
  (k_zam:W.keepIn K (.ref f_zam)=true)
  (a_zaq:W.nsIn K mainGlobals "_law_cell_at"=some (some (.ref f_zaq)))
  (l_zaq:K.lookup f_zaq=some ⟨oc_zaq,od_zaq,.func (W.fnOf "_law_cell_at" "_law_cell_at" (ZAN ZBN) (ZAL ZBN) (ZAB ZBN) .none kV_zaq dc_zaq pm_zaq an_zaq cd_zaq ct_zaq),sl_zaq⟩)
  (c_zaq:W.codeIn K cd_zaq "_law_cell_at"=true)
  (k_zaq:W.keepIn K (.ref f_zaq)=true)
  (a_zar:W.nsIn K mainGlobals "_law_stream"=some (some (.ref f_zar)))
  (l_zar:K.lookup f_zar=some ⟨oc_zar,od_zar,.func (W.fnOf "_law_stream" "_law_stream" (ZAN ZBl) (ZAL ZBl) (ZAB ZBl) .none kV_zar dc_zar pm_zar an_zar cd_zar ct_zar),sl_zar⟩)
  (c_zar:W.codeIn K cd_zar "_law_stream"=true)
  (k_zar:W.keepIn K (.ref f_zar)=true)
  (a_zav:W.nsIn K mainGlobals "_law_digits"=some (some (.ref f_zav)))
  (l_zav:K.lookup f_zav=some ⟨oc_zav,od_zav,.func (W.fnOf "_law_digits" "_law_digits" (ZAN ZBn) (ZAL ZBn) (ZAB ZBn) .none kV_zav dc_zav pm_zav an_zav cd_zav ct_zav),sl_zav⟩)
  (c_zav:W.codeIn K cd_zav "_law_digits"=true)
  (k_zav:W.keepIn K (.ref f_zav)=true)
  (a_zau:W.nsIn K mainGlobals "_law_blocks"=some (some (.ref f_zau)))
  (l_zau:K.lookup f_zau=some ⟨oc_zau,od_zau,.func (W.fnOf "_law_blocks" "_law_blocks" (ZAN ZBo) (ZAL ZBo) (ZAB ZBo) .none kV_zau dc_zau pm_zau an_zau cd_zau ct_zau),sl_zau⟩)
  (c_zau:W.codeIn K cd_zau "_law_blocks"=true)
  (k_zau:W.keepIn K (.ref f_zau)=true)
  (a_zat:W.nsIn K mainGlobals "_law_nearly"=some (some (.ref f_zat)))
  (l_zat:K.lookup f_zat=some ⟨oc_zat,od_zat,.func (W.fnOf "_law_nearly" "_law_nearly" (ZAN ZBm) (ZAL ZBm) (ZAB ZBm) .none kV_zat dc_zat pm_zat an_zat cd_zat ct_zat),sl_zat⟩)
  (c_zat:W.codeIn K cd_zat "_law_nearly"=true)
  (k_zat:W.keepIn K (.ref f_zat)=true)
  (a_zaA:W.nsIn K mainGlobals "_law_keys"=some (some (.ref f_zaA)))
  (l_zaA:K.lookup f_zaA=some ⟨oc_zaA,od_zaA,.func (W.fnOf "_law_keys" "_law_keys" (ZAN ZDC) (ZAL ZDC) (ZAB ZDC) .none kV_zaA dc_zaA pm_zaA an_zaA cd_zaA ct_zaA),sl_zaA⟩)
  (c_zaA:W.codeIn K cd_zaA "_law_keys"=true)
  (k_zaA:W.keepIn K (.ref f_zaA)=true)
  (a_zaB:W.nsIn K mainGlobals "_law_way"=some (some (.ref f_zaB)))
  (l_zaB:K.lookup f_zaB=some ⟨oc_zaB,od_zaB,.func (W.fnOf "_law_way" "_law_way" (ZAN ZEH) (ZAL ZEH) (ZAB ZEH) .none kV_zaB dc_zaB pm_zaB an_zaB cd_zaB ct_zaB),sl_zaB⟩)
  (c_zaB:W.codeIn K cd_zaB "_law_way"=true)
  (k_zaB:W.keepIn K (.ref f_zaB)=true)
  (a_zay:W.nsIn K mainGlobals "_law_told"=some (some (.ref f_zay)))
  (l_zay:K.lookup f_zay=some ⟨oc_zay,od_zay,.func (W.fnOf "_law_told" "_law_told" (ZAN ZDB) (ZAL ZDB) (ZAB ZDB) .none kV_zay dc_zay pm_zay an_zay cd_zay ct_zay),sl_zay⟩)
  (c_zay:W.codeIn K cd_zay "_law_told"=true)
  (k_zay:W.keepIn K (.ref f_zay)=true)
  (a_zaw:W.nsIn K mainGlobals "_law_whole"=some (some (.ref f_zaw)))
  (l_zaw:K.lookup f_zaw=some ⟨oc_zaw,od_zaw,.func (W.fnOf "_law_whole" "_law_whole" (ZAN ZCM) (ZAL ZCM) (ZAB ZCM) .none kV_zaw dc_zaw pm_zaw an_zaw cd_zaw ct_zaw),sl_zaw⟩)
  (c_zaw:W.codeIn K cd_zaw "_law_whole"=true)
  (k_zaw:W.keepIn K (.ref f_zaw)=true)
  (a_zaz:W.nsIn K mainGlobals "_law_bits"=some (some (.ref f_zaz)))
  (l_zaz:K.lookup f_zaz=some ⟨oc_zaz,od_zaz,.func (W.fnOf "_law_bits" "_law_bits" (ZAN ZDD) (ZAL ZDD) (ZAB ZDD) .none kV_zaz dc_zaz pm_zaz an_zaz cd_zaz ct_zaz),sl_zaz⟩)
  (c_zaz:W.codeIn K cd_zaz "_law_bits"=true)
  (k_zaz:W.keepIn K (.ref f_zaz)=true)
  (a_zan:W.nsIn K mainGlobals "_law_each_once"=some (some (.ref f_zan)))
  (l_zan:K.lookup f_zan=some ⟨oc_zan,od_zan,.func (W.fnOf "_law_each_once" "_law_each_once" (ZAN ZA5) (ZAL ZA5) (ZAB ZA5) .none kV_zan dc_zan pm_zan an_zan cd_zan ct_zan),sl_zan⟩)
  (c_zan:W.codeIn K cd_zan "_law_each_once"=true)
  (k_zan:W.keepIn K (.ref f_zan)=true)
  (a_zax:W.nsIn K mainGlobals "_law_bound"=some (some (.ref f_zax)))
  (l_zax:K.lookup f_zax=some ⟨oc_zax,od_zax,.func (W.fnOf "_law_bound" "_law_bound" (ZAN ZCN) (ZAL ZCN) (ZAB ZCN) .none kV_zax dc_zax pm_zax an_zax cd_zax ct_zax),sl_zax⟩)
  (c_zax:W.codeIn K cd_zax "_law_bound"=true)
  (k_zax:W.keepIn K (.ref f_zax)=true)
  (a_zaC:W.nsIn K mainGlobals "law"=some (some (.ref f_zaC)))
  (l_zaC:K.lookup f_zaC=some ⟨oc_zaC,od_zaC,.func (W.fnOf "law" "law" (ZAN ZDO) (ZAL ZDO) (ZAB ZDO) .none kV_zaC dc_zaC pm_zaC an_zaC cd_zaC ct_zaC),sl_zaC⟩)
  (c_zaC:W.codeIn K cd_zaC "law"=true)
  (k_zaC:W.keepIn K (.ref f_zaC)=true)
  (a_zas:W.nsIn K mainGlobals "_law_teller"=some (some (.ref f_zas)))
  (l_zas:K.lookup f_zas=some ⟨oc_zas,od_zas,.func (W.fnOf "_law_teller" "_law_teller" (ZAN ZBR) (ZAL ZBR) (ZAB ZBR) .none kV_zas dc_zas pm_zas an_zas (.ref cc_zas) ct_zas),sl_zas⟩)
  (c_zas:W.codeIn K (.ref cc_zas) "_law_teller"=true)
  (lc_zas:K.lookup cc_zas=some ⟨oc2_zas,od2_zas,.fields vs_zas,sl2_zas⟩)
  (tp_zas:vs_zas[11]?=some (.ref Pt_zas))
  (k_zas:W.keepIn K (.ref f_zas)=true)
  (z_len:W.nsIn K mainGlobals "len"=some none)
  (z_range:W.nsIn K mainGlobals "range"=some none)
  (z_list:W.nsIn K mainGlobals "list"=some none)
  (z_isinstance:W.nsIn K mainGlobals "isinstance"=some none)
  (z_bool:W.nsIn K mainGlobals "bool"=some none)
  (z_int:W.nsIn K mainGlobals "int"=some none)
  (z_max:W.nsIn K mainGlobals "max"=some none)
  (z_min:W.nsIn K mainGlobals "min"=some none)
  (z_sum:W.nsIn K mainGlobals "sum"=some none)
  (z_sorted:W.nsIn K mainGlobals "sorted"=some none)
  (z_reversed:W.nsIn K mainGlobals "reversed"=some none)
  (z_enumerate:W.nsIn K mainGlobals "enumerate"=some none)
  (z_ValueError:W.nsIn K mainGlobals "ValueError"=some none)
  (kit_int_bool:PySem.W.kitOne K (.type "int") (.type "bool")=some false)
  (kit_Spent_Spent:PySem.W.kitOne K (.ref C_Spent) (.ref C_Spent)=some true)
  (nt:PySem.W.noTabs K=true) :
  ∃ (tabs:List (Addr×Addr)) (fd:FuncData),PySem.W.noTabs K=true /\ (∀ t∈tabs,∃ y∈(["_law_teller"]:List Str),PySem.W.tabIn K y=some t) /\ (∀ (s:Shared) (v:Value),BindsTo s fd ⟨[v],[]⟩ [("_law_script",v)]) /\ ∀ base:Heap,K.In base->base.Ns mainGlobals mg->(∀ t∈tabs,PySem.W.CodeHd base t.1 t.2)->ZDj mg base->FnOk l.prog w K mg base CX0 8 fa fd ["_law_script"] (ZET K tabs):=by
 have e:=hfa.symm.trans (PySem.W.mg_of X G a_zaC)
 cases e
 have cl_zaE:Cls K C_zaE:=⟨pg_zaE,hd_zaE,po_zaE,sa_zaE⟩
 have F_zah:=funD_mk (st:=ZA0) l_zah c_zah k_zah d_zah
 have b_zah_4:=F_zah.binds (ps:=["self","row","rule","most"]) (ds:=[]) fun _ _ _ _ _ _ _ us hl=>by obtain ⟨_,_,_,_,rfl⟩:=us4 (ZD5 (n:=4) hl rfl);exact ⟨_,rfl,rfl⟩
 have b_zah_3:=F_zah.binds (ps:=["self","row","rule","most"]) (ds:=[.none]) fun _ _ _ _ _ _ _ us hl=>by obtain ⟨_,_,_,rfl⟩:=us3 (ZD5 (n:=3) hl rfl);exact ⟨_,rfl,rfl⟩
 have F_zak:=ZAh (st:=ZAz) l_zak c_zak k_zak
 have b_zak:=F_zak.binds (ps:=["self"]) fun _ _ _ _ _ _ us hl=>by obtain ⟨_,rfl⟩:=us1 hl;rfl
 have F_zad:=ZAh (st:=ZAg) l_zad c_zad k_zad
 have b_zad:=F_zad.binds (ps:=["self"]) fun _ _ _ _ _ _ us hl=>by obtain ⟨_,rfl⟩:=us1 hl;rfl
 have F_zaf:=ZAh (st:=ZAn) l_zaf c_zaf k_zaf
 have b_zaf:=F_zaf.binds (ps:=["self","more"]) fun _ _ _ _ _ _ us hl=>by obtain ⟨_,_,rfl⟩:=us2 hl;rfl
 have F_zag:=ZAh (st:=ZAo) l_zag c_zag k_zag
 have b_zag:=F_zag.binds (ps:=["self","p","q"]) fun _ _ _ _ _ _ us hl=>by obtain ⟨_,_,_,rfl⟩:=us3 hl;rfl
 have cl_zaD:Cls K C_zaD:=⟨pg_zaD,hd_zaD,po_zaD,sa_zaD⟩
 have F_zac:=ZAh (st:=ZAd) l_zac c_zac k_zac
 have b_zac:=F_zac.binds (ps:=["self","teller"]) fun _ _ _ _ _ _ us hl=>by obtain ⟨_,_,rfl⟩:=us2 hl;rfl
 have F_zaa:=ZAh (st:=ZAW) l_zaa c_zaa k_zaa
 have b_zaa:=F_zaa.binds (ps:=["self","x","y"]) fun _ _ _ _ _ _ us hl=>by obtain ⟨_,_,_,rfl⟩:=us3 hl;rfl
 have F_zaj:=ZAh (st:=ZAy) l_zaj c_zaj k_zaj
 have b_zaj:=F_zaj.binds (ps:=["self","asked"]) fun _ _ _ _ _ _ us hl=>by obtain ⟨_,_,rfl⟩:=us2 hl;rfl
 have F_zap:=ZAh (st:=ZBM) l_zap c_zap k_zap
 have b_zap:=F_zap.binds (ps:=["asker","order","place"]) fun _ _ _ _ _ _ us hl=>by obtain ⟨_,_,_,rfl⟩:=us3 hl;rfl
 have F_zab:=ZAh (st:=ZAV) l_zab c_zab k_zab
 have b_zab:=F_zab.binds (ps:=["asker","order","place"]) fun _ _ _ _ _ _ us hl=>by obtain ⟨_,_,_,rfl⟩:=us3 hl;rfl
 have F_zai:=ZAh (st:=ZAx) l_zai c_zai k_zai
 have b_zai:=F_zai.binds (ps:=["asker"]) fun _ _ _ _ _ _ us hl=>by obtain ⟨_,rfl⟩:=us1 hl;rfl
 have F_zal:=ZAh (st:=ZAw) l_zal c_zal k_zal
 have b_zal:=F_zal.binds (ps:=["asker"]) fun _ _ _ _ _ _ us hl=>by obtain ⟨_,rfl⟩:=us1 hl;rfl
 have F_zao:=ZAh (st:=ZBB) l_zao c_zao k_zao
 have b_zao:=F_zao.binds (ps:=["asker","reach"]) fun _ _ _ _ _ _ us hl=>by obtain ⟨_,_,rfl⟩:=us2 hl;rfl
 have F_zae:=funD_mk (st:=ZAm) l_zae c_zae k_zae d_zae
 have b_zae_3:=F_zae.binds (ps:=["asker","first","end"]) (ds:=[]) fun _ _ _ _ _ _ _ us hl=>by obtain ⟨_,_,_,rfl⟩:=us3 (ZD5 (n:=3) hl rfl);exact ⟨_,rfl,rfl⟩
 have b_zae_2:=F_zae.binds (ps:=["asker","first","end"]) (ds:=[.none]) fun _ _ _ _ _ _ _ us hl=>by obtain ⟨_,_,rfl⟩:=us2 (ZD5 (n:=2) hl rfl);exact ⟨_,rfl,rfl⟩
 have F_zam:=ZAh (st:=ZA4) l_zam c_zam k_zam
 have b_zam:=F_zam.binds (ps:=["asker"]) fun _ _ _ _ _ _ us hl=>by obtain ⟨_,rfl⟩:=us1 hl;rfl
 have F_zaq:=ZAh (st:=ZBN) l_zaq c_zaq k_zaq
 have b_zaq:=F_zaq.binds (ps:=["_law_script","_law_k"]) fun _ _ _ _ _ _ us hl=>by obtain ⟨_,_,rfl⟩:=us2 hl;rfl
 have F_zar:=ZAh (st:=ZBl) l_zar c_zar k_zar
 have b_zar:=F_zar.binds (ps:=["_law_cell","_law_many"]) fun _ _ _ _ _ _ us hl=>by obtain ⟨_,_,rfl⟩:=us2 hl;rfl
 have F_zav:=ZAh (st:=ZBn) l_zav c_zav k_zav
 have b_zav:=F_zav.binds (ps:=["_law_script","_law_k","_law_base"]) fun _ _ _ _ _ _ us hl=>by obtain ⟨_,_,_,rfl⟩:=us3 hl;rfl
 have F_zau:=ZAh (st:=ZBo) l_zau c_zau k_zau
 have b_zau:=F_zau.binds (ps:=["_law_keys_here","_law_cell"]) fun _ _ _ _ _ _ us hl=>by obtain ⟨_,_,rfl⟩:=us2 hl;rfl
 have F_zat:=ZAh (st:=ZBm) l_zat c_zat k_zat
 have b_zat:=F_zat.binds (ps:=["_law_keys_here","_law_cell"]) fun _ _ _ _ _ _ us hl=>by obtain ⟨_,_,rfl⟩:=us2 hl;rfl
 have F_zaA:=ZAh (st:=ZDC) l_zaA c_zaA k_zaA
 have b_zaA:=F_zaA.binds (ps:=["_law_script","_law_most"]) fun _ _ _ _ _ _ us hl=>by obtain ⟨_,_,rfl⟩:=us2 hl;rfl
 have F_zaB:=ZAh (st:=ZEH) l_zaB c_zaB k_zaB
 have b_zaB:=F_zaB.binds (ps:=["_law_way_here","_law_asker"]) fun _ _ _ _ _ _ us hl=>by obtain ⟨_,_,rfl⟩:=us2 hl;rfl
 have F_zay:=ZAh (st:=ZDB) l_zay c_zay k_zay
 have b_zay:=F_zay.binds (ps:=["_law_way_here","_law_asker"]) fun _ _ _ _ _ _ us hl=>by obtain ⟨_,_,rfl⟩:=us2 hl;rfl
 have F_zaw:=ZAh (st:=ZCM) l_zaw c_zaw k_zaw
 have b_zaw:=F_zaw.binds (ps:=["_law_found"]) fun _ _ _ _ _ _ us hl=>by obtain ⟨_,rfl⟩:=us1 hl;rfl
 have F_zaz:=ZAh (st:=ZDD) l_zaz c_zaz k_zaz
 have b_zaz:=F_zaz.binds (ps:=["_law_script","_law_mix"]) fun _ _ _ _ _ _ us hl=>by obtain ⟨_,_,rfl⟩:=us2 hl;rfl
 have F_zan:=ZAh (st:=ZA5) l_zan c_zan k_zan
 have b_zan:=F_zan.binds (ps:=["_law_told_here","_law_many"]) fun _ _ _ _ _ _ us hl=>by obtain ⟨_,_,rfl⟩:=us2 hl;rfl
 have F_zax:=ZAh (st:=ZCN) l_zax c_zax k_zax
 have b_zax:=F_zax.binds (ps:=["_law_way_here","_law_log","_law_many"]) fun _ _ _ _ _ _ us hl=>by obtain ⟨_,_,_,rfl⟩:=us3 hl;rfl
 have F_zaC:=ZAh (st:=ZDO) l_zaC c_zaC k_zaC
 have b_zaC:=F_zaC.binds (ps:=["_law_script"]) fun _ _ _ _ _ _ us hl=>by obtain ⟨_,rfl⟩:=us1 hl;rfl
 have F_zas:=ZAh (st:=ZBR) l_zas c_zas k_zas
 have b_zas:=F_zas.binds (ps:=["_law_log","_law_bits_here"]) fun _ _ _ _ _ _ us hl=>by obtain ⟨_,_,rfl⟩:=us2 hl;rfl
 have T:Bt K mg C_zaE C_zaD C_HallError C_TooFar C_Spent:=⟨PySem.W.mg_none_of X G z_len,PySem.W.mg_none_of X G z_range,PySem.W.mg_none_of X G z_list,PySem.W.mg_none_of X G z_isinstance,PySem.W.mg_none_of X G z_bool,PySem.W.mg_none_of X G z_int,PySem.W.mg_none_of X G z_max,PySem.W.mg_none_of X G z_min,PySem.W.mg_none_of X G z_sum,PySem.W.mg_none_of X G z_sorted,PySem.W.mg_none_of X G z_reversed,PySem.W.mg_none_of X G z_enumerate,PySem.W.mg_none_of X G z_ValueError,PySem.W.mg_of X G a_zaE,cl_zaE,n_zaE_row,n_zaE_rule,n_zaE_most,n_zaE_asked,n_zaE_told,PySem.W.mg_of X G a_zaD,cl_zaD,n_zaD_teller,PySem.W.mg_of X G a_HallError,PySem.W.mg_of X G a_TooFar,PySem.W.mg_of X G a_Spent,⟨xg_Spent,xh_Spent,xa_Spent,xs_Spent,xt_Spent,xo_Spent,xb_Spent⟩,⟨xd_Spent,xv_Spent,xw_Spent⟩,⟨_,xi_Spent⟩,xm_Spent_Spent,n_Spent_asked,⟨xbg_HallError,xbr_HallError,xbf_HallError⟩,kit_int_bool,kit_Spent_Spent⟩
 refine ⟨[(cc_zas,Pt_zas)],W.fnOf "law" "law" (ZAN ZDO) (ZAL ZDO) (ZAB ZDO) .none kV_zaC dc_zaC pm_zaC an_zaC cd_zaC ct_zaC,nt,List.forall_mem_cons.mpr ⟨⟨"_law_teller",by simp,tabIn_of a_zas l_zas rfl lc_zas tp_zas⟩,fun _ h=>nomatch h⟩,fun s v=>.of_eq rfl,fun base _ _ hC hB=>?_⟩
 have f_zaq':Fn l.prog w K mg base CX0 "_law_cell_at" 1 ["_law_script","_law_k"] (ZDA K):=⟨_,_,ok_cell_at F_zaq T ,b_zaq,k_zaq,PySem.W.mg_of X G a_zaq⟩
 have f_zar':Fn l.prog w K mg base CX0 "_law_stream" 1 ["_law_cell","_law_many"] (ZBP):=⟨_,_,ok_stream F_zar T ,b_zar,k_zar,PySem.W.mg_of X G a_zar⟩
 have f_zau':Fn l.prog w K mg base CX0 "_law_blocks" 2 ["_law_keys_here","_law_cell"] (ZBQ):=⟨_,_,ok_blocks F_zau T f_zar',b_zau,k_zau,PySem.W.mg_of X G a_zau⟩
 have f_zat':Fn l.prog w K mg base CX0 "_law_nearly" 2 ["_law_keys_here","_law_cell"] (ZBQ):=⟨_,_,ok_nearly F_zat T f_zar',b_zat,k_zat,PySem.W.mg_of X G a_zat⟩
 have f_zav':Fn l.prog w K mg base CX0 "_law_digits" 2 ["_law_script","_law_k","_law_base"] (ZCX K):=⟨_,_,ok_digits F_zav T f_zar' f_zaq',b_zav,k_zav,PySem.W.mg_of X G a_zav⟩
 have f_zaA':Fn l.prog w K mg base CX0 "_law_keys" 3 ["_law_script","_law_most"] (ZEU K):=⟨_,_,ok_keys F_zaA T f_zaq' f_zau' f_zat' f_zav' f_zar',b_zaA,k_zaA,PySem.W.mg_of X G a_zaA⟩
 have clo_teller':CloOk l.prog w K mg base 1 (ZAs):=clo_teller T
 have t_AskedRule_before':Mt l.prog w K mg base CX0 C_zaD "before" 2 ["self","x","y"] (ZCY C_zaD ZAs):=⟨cl_zaD,_,_,ok_AskedRule_before F_zaa T clo_teller',b_zaa,a_zaa,i_zaa,k_zaa⟩
 have kx_Spent':XKl l.prog w K mg base CX0 "Spent" C_Spent 1 ["self","asked"] (ZBy C_Spent):=⟨PySem.W.mg_of X G a_Spent,_,_,ok_Spent_init F_zaj T ,b_zaj,xi_Spent,i_zaj,xp_Spent⟩
 have t_Asker_ahead':Mt l.prog w K mg base (CXE l.prog w) C_zaE "ahead" 3 ["self","p","q"] (ZBz C_zaE C_zaD C_Spent ZAs):=⟨cl_zaE,_,_,ok_Asker_ahead F_zag T t_AskedRule_before' kx_Spent',b_zag,a_zag,i_zag,k_zag⟩
 have t_Asker_many':Mt l.prog w K mg base CX0 C_zaE "many" 1 ["self"] (ZCP C_zaE):=⟨cl_zaE,_,_,ok_Asker_many F_zak T ,b_zak,a_zak,i_zak,k_zak⟩
 have f_zae_2':FnD l.prog w K mg base (CXE l.prog w) "stretch_from" 4 ["asker","first","end"] (ZES C_zaE C_zaD C_Spent) [.non]:=⟨_,_,_,ok_stretch_from F_zae T t_Asker_ahead' t_Asker_many',b_zae_2,(.cons rfl .nil),k_zae,PySem.W.mg_of X G a_zae⟩
 have f_zam':Fn l.prog w K mg base (CXE l.prog w) "stretches" 5 ["asker"] (ZDr C_zaE C_zaD C_Spent):=⟨_,_,ok_stretches F_zam T f_zae_2' t_Asker_many',b_zam,k_zam,PySem.W.mg_of X G a_zam⟩
 have f_zap':Fn l.prog w K mg base (CXE l.prog w) "spot_of" 4 ["asker","order","place"] (ZBx ZB8 C_zaE C_zaD C_Spent):=⟨_,_,ok_spot_of F_zap T t_Asker_ahead',b_zap,k_zap,PySem.W.mg_of X G a_zap⟩
 have f_zai':Fn l.prog w K mg base (CXE l.prog w) "by_putting" 5 ["asker"] (ZC9 ZB8 C_zaE C_zaD C_Spent):=⟨_,_,ok_by_putting F_zai T f_zap' t_Asker_many',b_zai,k_zai,PySem.W.mg_of X G a_zai⟩
 have f_zab':Fn l.prog w K mg base (CXE l.prog w) "spot_from_behind" 4 ["asker","order","place"] (ZBx ZCi C_zaE C_zaD C_Spent):=⟨_,_,ok_spot_from_behind F_zab T t_Asker_ahead',b_zab,k_zab,PySem.W.mg_of X G a_zab⟩
 have f_zal':Fn l.prog w K mg base (CXE l.prog w) "by_walking" 5 ["asker"] (ZC9 ZCi C_zaE C_zaD C_Spent):=⟨_,_,ok_by_walking F_zal T f_zab' t_Asker_many',b_zal,k_zal,PySem.W.mg_of X G a_zal⟩
 have f_zao':Fn l.prog w K mg base (CXE l.prog w) "by_reach" 5 ["asker","reach"] (ZDL C_zaE C_zaD C_Spent):=⟨_,_,ok_by_reach F_zao T f_zap' t_Asker_many' t_Asker_ahead',b_zao,k_zao,PySem.W.mg_of X G a_zao⟩
 have f_zaB':Fn l.prog w K mg base (CXE l.prog w) "_law_way" 6 ["_law_way_here","_law_asker"] (ZER C_zaE C_zaD C_Spent):=⟨_,_,ok_way F_zaB T f_zam' f_zai' f_zal' f_zao' t_Asker_many',b_zaB,k_zaB,PySem.W.mg_of X G a_zaB⟩
 have f_zay':Fn l.prog w K mg base CX0 "_law_told" 7 ["_law_way_here","_law_asker"] (ZDq C_zaE C_zaD):=⟨_,_,ok_told F_zay T f_zaB',b_zay,k_zay,PySem.W.mg_of X G a_zay⟩
 have f_zaw':Fn l.prog w K mg base CX0 "_law_whole" 1 ["_law_found"] (ZB9):=⟨_,_,ok_whole F_zaw T ,b_zaw,k_zaw,PySem.W.mg_of X G a_zaw⟩
 have f_zan':Fn l.prog w K mg base CX0 "_law_each_once" 2 ["_law_told_here","_law_many"] (ZDM):=⟨_,_,ok_each_once F_zan T f_zaw',b_zan,k_zan,PySem.W.mg_of X G a_zan⟩
 have f_zaz':Fn l.prog w K mg base CX0 "_law_bits" 3 ["_law_script","_law_mix"] (ZDN K):=⟨_,_,ok_bits F_zaz T f_zav' f_zar' f_zaq',b_zaz,k_zaz,PySem.W.mg_of X G a_zaz⟩
 have f_zax':Fn l.prog w K mg base CX0 "_law_bound" 1 ["_law_way_here","_law_log","_law_many"] (ZCk):=⟨_,_,ok_bound F_zax T ,b_zax,k_zax,PySem.W.mg_of X G a_zax⟩
 have f_zas':Fn l.prog w K mg base CX0 "_law_teller" 1 ["_law_log","_law_bits_here"] (ZD7 Pt_zas (ZDH ZAJ) "_law_teller_here" "_law_teller.<locals>._law_teller_here" (ZAN ZAJ) (ZAL ZAJ) (ZAB ZAJ) ["_law_bits_here","_law_log"] [1,0] 2):=⟨_,_,ok_teller F_zas rfl (hC (cc_zas,Pt_zas) (by simp)) hB,b_zas,k_zas,PySem.W.mg_of X G a_zas⟩
 have t_Asker_widen':Mt l.prog w K mg base CX0 C_zaE "widen" 1 ["self","more"] (ZDp C_zaE):=⟨cl_zaE,_,_,ok_Asker_widen F_zaf T ,b_zaf,a_zaf,i_zaf,k_zaf⟩
 have t_Asker_answers':Mt l.prog w K mg base CX0 C_zaE "answers" 1 ["self"] (ZCl C_zaE):=⟨cl_zaE,_,_,ok_Asker_answers F_zad T ,b_zad,a_zad,i_zad,k_zad⟩
 have k_zaE':Kl l.prog w K mg base CX0 "Asker" C_zaE 1 ["self","row","rule","most"] (ZBC C_zaE):=⟨PySem.W.mg_of X G a_zaE,_,_,ok_Asker_init F_zah T ,b_zah_4,mk_zaE,a_zah,i_zah,kc_zaE⟩
 have k_zaE_3':KlD l.prog w K mg base CX0 "Asker" C_zaE 1 ["self","row","rule","most"] (ZBC C_zaE) [.non]:=⟨PySem.W.mg_of X G a_zaE,_,_,_,ok_Asker_init F_zah T ,b_zah_3,(.cons rfl .nil),mk_zaE,a_zah,i_zah,kc_zaE⟩
 have k_zaD':Kl l.prog w K mg base CX0 "AskedRule" C_zaD 1 ["self","teller"] (ZCL C_zaD):=⟨PySem.W.mg_of X G a_zaD,_,_,ok_AskedRule_init F_zac T ,b_zac,mk_zaD,a_zac,i_zac,kc_zaD⟩
 exact ok_law F_zaC T f_zaA' f_zay' f_zan' f_zaq' f_zaz' f_zax' f_zas' f_zaw' t_Asker_widen' t_Asker_answers' k_zaE' k_zaE_3' k_zaD'
end Law
open PySem PySem.W PyProof.Rows
set_option maxRecDepth 100000 in
set_option maxHeartbeats 0 in
theorem PySem.Challenge.cw_sorthall_k39_whole_stopped_holds : PySem.Challenge.rw_sorthall_k39_whole_stopped.Holds := by
 refine L2.hd0 ?_
 k_fill
 refine L2.walk_ofT2 (l:=PySem.Challenge.rw_sorthall_k39_whole_stopped) (k:=8) (x:="_law_script") (names:=["_law_teller"]) rfl rfl ⟨rfl,by decide,by decide,rfl⟩ (fun w h Y=>PySem.W.km_in_of Y) (List.forall_mem_cons.mpr ⟨⟨_,rfl⟩,fun _ h=>nomatch h⟩) ?F
 case F=>
  intro w mg fa h KX G hmg
  refine' Law.all_mk KX G hmg ?a_zaE ?pg_zaE ?hd_zaE ?po_zaE ?sa_zaE ?mk_zaE ?kc_zaE ?n_zaE_row ?n_zaE_rule ?n_zaE_most ?n_zaE_asked ?n_zaE_told ?a_zah ?i_zah ?l_zah ?c_zah ?d_zah ?k_zah ?a_zak ?i_zak ?l_zak ?c_zak ?k_zak ?a_zad ?i_zad ?l_zad ?c_zad ?k_zad ?a_zaf ?i_zaf ?l_zaf ?c_zaf ?k_zaf ?a_zag ?i_zag ?l_zag ?c_zag ?k_zag ?a_zaD ?pg_zaD ?hd_zaD ?po_zaD ?sa_zaD ?mk_zaD ?kc_zaD ?n_zaD_teller ?a_zac ?i_zac ?l_zac ?c_zac ?k_zac ?a_zaa ?i_zaa ?l_zaa ?c_zaa ?k_zaa ?a_HallError ?a_TooFar ?a_Spent ?a_zaj ?i_zaj ?l_zaj ?c_zaj ?k_zaj ?xg_Spent ?xh_Spent ?xa_Spent ?xs_Spent ?xt_Spent ?xo_Spent ?xb_Spent ?xd_Spent ?xv_Spent ?xw_Spent ?xi_Spent ?xp_Spent ?xm_Spent_Spent ?n_Spent_asked ?xbg_HallError ?xbr_HallError ?xbf_HallError ?a_zap ?l_zap ?c_zap ?k_zap ?a_zab ?l_zab ?c_zab ?k_zab ?a_zai ?l_zai ?c_zai ?k_zai ?a_zal ?l_zal ?c_zal ?k_zal ?a_zao ?l_zao ?c_zao ?k_zao ?a_zae ?l_zae ?c_zae ?d_zae ?k_zae ?a_zam ?l_zam ?c_zam ?k_zam ?a_zaq ?l_zaq ?c_zaq ?k_zaq ?a_zar ?l_zar ?c_zar ?k_zar ?a_zav ?l_zav ?c_zav ?k_zav ?a_zau ?l_zau ?c_zau ?k_zau ?a_zat ?l_zat ?c_zat ?k_zat ?a_zaA ?l_zaA ?c_zaA ?k_zaA ?a_zaB ?l_zaB ?c_zaB ?k_zaB ?a_zay ?l_zay ?c_zay ?k_zay ?a_zaw ?l_zaw ?c_zaw ?k_zaw ?a_zaz ?l_zaz ?c_zaz ?k_zaz ?a_zan ?l_zan ?c_zan ?k_zan ?a_zax ?l_zax ?c_zax ?k_zax ?a_zaC ?l_zaC ?c_zaC ?k_zaC ?a_zas ?l_zas ?c_zas ?lc_zas ?tp_zas ?k_zas ?z_len ?z_range ?z_list ?z_isinstance ?z_bool ?z_int ?z_max ?z_min ?z_sum ?z_sorted ?z_reversed ?z_enumerate ?z_ValueError ?kit_int_bool ?kit_Spent_Spent ?nt
  (case a_zaE=>k_is)
  (case pg_zaE=>k_is)
  (case hd_zaE=>k_is)
  (case po_zaE=>k_is)
  (case sa_zaE=>k_is)
  (case mk_zaE=>k_is)
  (case kc_zaE=>k_is)
  (case n_zaE_row=>k_is)
  (case n_zaE_rule=>k_is)
  (case n_zaE_most=>k_is)
  (case n_zaE_asked=>k_is)
  (case n_zaE_told=>k_is)
  (case a_zah=>k_is)
  (case i_zah=>k_is)
  (case l_zah=>k_is)
  (case c_zah=>k_is)
  (case d_zah=>k_is)
  (case k_zah=>k_is)
  (case a_zak=>k_is)
  (case i_zak=>k_is)
  (case l_zak=>k_is)
  (case c_zak=>k_is)
  (case k_zak=>k_is)
  (case a_zad=>k_is)
  (case i_zad=>k_is)
  (case l_zad=>k_is)
  (case c_zad=>k_is)
  (case k_zad=>k_is)
  (case a_zaf=>k_is)
  (case i_zaf=>k_is)
  (case l_zaf=>k_is)
  (case c_zaf=>k_is)
  (case k_zaf=>k_is)
  (case a_zag=>k_is)
  (case i_zag=>k_is)
  (case l_zag=>k_is)
  (case c_zag=>k_is)
  (case k_zag=>k_is)
  (case a_zaD=>k_is)
  (case pg_zaD=>k_is)
  (case hd_zaD=>k_is)
  (case po_zaD=>k_is)
  (case sa_zaD=>k_is)
  (case mk_zaD=>k_is)
  (case kc_zaD=>k_is)
  (case n_zaD_teller=>k_is)
  (case a_zac=>k_is)
  (case i_zac=>k_is)
  (case l_zac=>k_is)
  (case c_zac=>k_is)
  (case k_zac=>k_is)
  (case a_zaa=>k_is)
  (case i_zaa=>k_is)
  (case l_zaa=>k_is)
  (case c_zaa=>k_is)
  (case k_zaa=>k_is)
  (case a_HallError=>k_is)
  (case a_TooFar=>k_is)
  (case a_Spent=>k_is)
  (case a_zaj=>k_is)
  (case i_zaj=>k_is)
  (case l_zaj=>k_is)
  (case c_zaj=>k_is)
  (case k_zaj=>k_is)
  (case xg_Spent=>k_is)
  (case xh_Spent=>k_is)
  (case xa_Spent=>k_is)
  (case xs_Spent=>k_is)
  (case xt_Spent=>k_is)
  (case xo_Spent=>k_is)
  (case xb_Spent=>k_is)
  (case xd_Spent=>k_is)
  (case xv_Spent=>kernel_rfl)
  (case xw_Spent=>k_is)
  (case xi_Spent=>kernel_rfl)
  (case xp_Spent=>k_is)
  (case xm_Spent_Spent=>kts_exm)
  (case n_Spent_asked=>k_is)
  (case xbg_HallError=>k_is)
  (case xbr_HallError=>k_is)
  (case xbf_HallError=>k_is)
  (case a_zap=>k_is)
  (case l_zap=>k_is)
  (case c_zap=>k_is)
  (case k_zap=>k_is)
  (case a_zab=>k_is)
  (case l_zab=>k_is)
  (case c_zab=>k_is)
  (case k_zab=>k_is)
  (case a_zai=>k_is)
  (case l_zai=>k_is)
  (case c_zai=>k_is)
  (case k_zai=>k_is)
  (case a_zal=>k_is)
  (case l_zal=>k_is)
  (case c_zal=>k_is)
  (case k_zal=>k_is)
  (case a_zao=>k_is)
  (case l_zao=>k_is)
  (case c_zao=>k_is)
  (case k_zao=>k_is)
  (case a_zae=>k_is)
  (case l_zae=>k_is)
  (case c_zae=>k_is)
  (case d_zae=>k_is)
  (case k_zae=>k_is)
  (case a_zam=>k_is)
  (case l_zam=>k_is)
  (case c_zam=>k_is)
  (case k_zam=>k_is)
  (case a_zaq=>k_is)
  (case l_zaq=>k_is)
  (case c_zaq=>k_is)
  (case k_zaq=>k_is)
  (case a_zar=>k_is)
  (case l_zar=>k_is)
  (case c_zar=>k_is)
  (case k_zar=>k_is)
  (case a_zav=>k_is)
  (case l_zav=>k_is)
  (case c_zav=>k_is)
  (case k_zav=>k_is)
  (case a_zau=>k_is)
  (case l_zau=>k_is)
  (case c_zau=>k_is)
  (case k_zau=>k_is)
  (case a_zat=>k_is)
  (case l_zat=>k_is)
  (case c_zat=>k_is)
  (case k_zat=>k_is)
  (case a_zaA=>k_is)
  (case l_zaA=>k_is)
  (case c_zaA=>k_is)
  (case k_zaA=>k_is)
  (case a_zaB=>k_is)
  (case l_zaB=>k_is)
  (case c_zaB=>k_is)
  (case k_zaB=>k_is)
  (case a_zay=>k_is)
  (case l_zay=>k_is)
  (case c_zay=>k_is)
  (case k_zay=>k_is)
  (case a_zaw=>k_is)
  (case l_zaw=>k_is)
  (case c_zaw=>k_is)
  (case k_zaw=>k_is)
  (case a_zaz=>k_is)
  (case l_zaz=>k_is)
  (case c_zaz=>k_is)
  (case k_zaz=>k_is)
  (case a_zan=>k_is)
  (case l_zan=>k_is)
  (case c_zan=>k_is)
  (case k_zan=>k_is)
  (case a_zax=>k_is)
  (case l_zax=>k_is)
  (case c_zax=>k_is)
  (case k_zax=>k_is)
  (case a_zaC=>k_is)
  (case l_zaC=>k_is)
  (case c_zaC=>k_is)
  (case k_zaC=>k_is)
  (case a_zas=>k_is)
  (case l_zas=>k_is)
  (case c_zas=>k_is)
  (case lc_zas=>k_is)
  (case tp_zas=>rfl)
  (case k_zas=>k_is)
  (case z_len=>k_is)
  (case z_range=>k_is)
  (case z_list=>k_is)
  (case z_isinstance=>k_is)
  (case z_bool=>k_is)
  (case z_int=>k_is)
  (case z_max=>k_is)
  (case z_min=>k_is)
  (case z_sum=>k_is)
  (case z_sorted=>k_is)
  (case z_reversed=>k_is)
  (case z_enumerate=>k_is)
  (case z_ValueError=>k_is)
  (case kit_int_bool=>kit_is)
  (case kit_Spent_Spent=>kit_is)
  (case nt=>kernel_rfl)
